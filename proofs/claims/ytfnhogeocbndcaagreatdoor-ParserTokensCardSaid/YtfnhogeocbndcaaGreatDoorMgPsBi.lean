/- The rule expr: contract. -/
import Derived.Test.YtfnhogeocbndcaaGreatDoorMgPsLsExpr
import Derived.Deep.RegionWith
import Derived.IntWalk
namespace Go.Proofs.YtfnhogeocbndcaaGreatDoor
open Go Go.RowKit
set_option linter.unusedVariables false
set_option linter.unusedSimpArgs false

set_option maxHeartbeats 2000000 in
set_option maxRecDepth 100000 in
theorem expr_step {ts : List Tok} {R g c : Nat} (X : Ctx ts R g c) (f : Nat) (H : EC ts R g c f) (s : Sg) (w : World) (hR : Rd w R g c ts s) (hf : 32 * rem ts s + 22 ≤ f + 1) : Calls Tryz.prog 176 #[.pointer (some ⟨R, 0, none⟩)] w (TP w R g c ts (E ts (f + 1) .ex s)) := by
  have hXl := X.lt
  have F0 := Lib.hid ((Fr.start hR).node hXl ncz)
  have HN := Lib.hid fun W (h : Rd W R g c ts s) => node_any X 23 W h
  have HBN := Lib.hid fun W (h : Rd W R g c ts s) => H.bn 0 s W (by omega) h (by omega)
  have HSK := Lib.hid fun q W (h : Rd W R g c ts q) => skip_any' X (s := q) [63] (by simp) W h
  have HCO := Lib.hid fun q W (h : Rd W R g c ts q) => expect_any X (s := q) [58] (by simp) W h
  have hon := rem_on (E_on ts f (.bn 0) s)
  unfold skp at HSK
  have HL : Hid (nc (labK 23 (ln ts s)) = [.int .i64 23, .string ⟨#[]⟩, .int .u64 0, .int .i64 0, .bool false, .int .i64 0, .int .i64 0, .int .i64 0, .int .i64 0, .int .i64 ((ln ts s : Nat) : Int), .slice none 0 0]) := Lib.hid rfl
  rw [HL.out] at HN
  clear HL
  cases h1 : hasT ts (E ts f (.bn 0) s).2 [63] with
  | true =>
    have hin := hasT_in h1
    have hra := rem_adv hin
    have HE : Hid (E ts (f + 1) .ex s = (.node (labK 23 (ln ts s)) [(E ts f (.bn 0) s).1, (E ts f .ex (adv (E ts f (.bn 0) s).2)).1, (E ts f .ex (exc ts (E ts f .ex (adv (E ts f (.bn 0) s).2)).2 [58])).1], (E ts f .ex (exc ts (E ts f .ex (adv (E ts f (.bn 0) s).2)).2 [58])).2)) := Lib.hid (by rw [E, if_pos h1])
    rw [HE.out]
    have HSK2 := Lib.hid (HSK.out (E ts f (.bn 0) s).2)
    rw [h1] at HSK2
    have HEX := Lib.hid fun W (h : Rd W R g c ts (adv (E ts f (.bn 0) s).2)) => H.ex _ W h (by omega)
    have hon2 := rem_on (E_on ts f .ex (adv (E ts f (.bn 0) s).2))
    have hon3 := rem_on (exc_on (ts := ts) (s := (E ts f .ex (adv (E ts f (.bn 0) s).2)).2) (c := 58) (t := []))
    have HEY := Lib.hid fun W (h : Rd W R g c ts (exc ts (E ts f .ex (adv (E ts f (.bn 0) s).2)).2 [58])) => H.ex _ W h (by omega)
    clear HE H hR h1 hin hra hon hon2 hon3 hf HSK
    generalize E ts f (.bn 0) s = P1 at *
    generalize E ts f .ex (adv P1.2) = P2 at *
    generalize E ts f .ex (exc ts P2.2 [58]) = P3 at *
    go_enter Tryz.func176, Tryz.ntmps176
    go_wp2_with fail
    refine (HN.out _ F0.out.rd).mono ?_
    rintro e v1 ⟨rfl, hb⟩
    have G1 := Lib.hid (F0.out.quiet hXl hb)
    clear hb
    obtain ⟨hc0, hf0⟩ := G1.out.b0.all
    have hz0 := G1.out.b0.lt
    unfold ncz at hc0
    have hq10 := G1.out.b0.lt
    have G2 := Lib.hid (G1.out.node hXl [.int .i64 23, .string ⟨#[]⟩, .int .u64 0, .int .i64 0, .bool false, .int .i64 0, .int .i64 0, .int .i64 0, .int .i64 0, .int .i64 ((ln ts s : Nat) : Int), .slice none 0 0])
    go_wp2_with fail
    refine (HBN.out _ G2.out.rd).mono ?_
    rintro e v2 ⟨l1, x1, n1, k1, rfl, hT, hr, hs⟩
    clear hc0 hf0 hz0
    have G3 := Lib.hid (G2.out.tree hT hr hs)
    clear hT hr hs
    obtain ⟨hc0, hf0⟩ := G3.out.b0.all
    have hz0 := G3.out.b0.lt
    obtain ⟨hc1, hf1⟩ := G3.out.b1.all
    have hz1 := G3.out.b1.lt
    unfold ncz at hc1
    have hq20 := G3.out.b0.lt
    have hq21 := G3.out.b1.lt
    have G4 := Lib.hid (G3.out.node hXl [.int .i64 l1.kind, .string (str l1.name), .int .u64 l1.num, .int .i64 l1.wd, .bool l1.sg, .int .i64 l1.op, .int .i64 l1.fac, .int .i64 l1.pip, .int .i64 l1.unr, .int .i64 l1.line, .slice x1 n1 k1])
    go_wp2_with fail
    refine (HSK2.out _ G4.out.rd).mono ?_
    rintro e v3 ⟨rfl, hr, hs⟩
    clear hc0 hf0 hz0 hc1 hf1 hz1
    have G5 := Lib.hid (G4.out.call hr hs)
    clear hr hs
    obtain ⟨hc0, hf0⟩ := G5.out.b0.all
    have hz0 := G5.out.b0.lt
    obtain ⟨hc1, hf1⟩ := G5.out.b1.all
    have hz1 := G5.out.b1.lt
    obtain ⟨hc2, hf2⟩ := G5.out.b2.all
    have hz2 := G5.out.b2.lt
    unfold ncz at hc2
    go_wp2_with fail
    refine (HEX.out _ G5.out.rd).mono ?_
    rintro e v4 ⟨l2, x2, n2, k2, rfl, hT, hr, hs⟩
    clear hc0 hf0 hz0 hc1 hf1 hz1 hc2 hf2 hz2
    have G6 := Lib.hid (G5.out.tree hT hr hs)
    clear hT hr hs
    obtain ⟨hc0, hf0⟩ := G6.out.b0.all
    have hz0 := G6.out.b0.lt
    obtain ⟨hc1, hf1⟩ := G6.out.b1.all
    have hz1 := G6.out.b1.lt
    obtain ⟨hc2, hf2⟩ := G6.out.b2.all
    have hz2 := G6.out.b2.lt
    unfold ncz at hc2
    have hq40 := G6.out.b0.lt
    have hq41 := G6.out.b1.lt
    have hq42 := G6.out.b2.lt
    have G7 := Lib.hid (G6.out.node hXl [.int .i64 l2.kind, .string (str l2.name), .int .u64 l2.num, .int .i64 l2.wd, .bool l2.sg, .int .i64 l2.op, .int .i64 l2.fac, .int .i64 l2.pip, .int .i64 l2.unr, .int .i64 l2.line, .slice x2 n2 k2])
    go_wp2_with fail
    refine (HCO.out _ _ G7.out.rd).mono ?_
    rintro e v5 ⟨rfl, hr, hs⟩
    clear hc0 hf0 hz0 hc1 hf1 hz1 hc2 hf2 hz2
    have G8 := Lib.hid (G7.out.call hr hs)
    clear hr hs
    obtain ⟨hc0, hf0⟩ := G8.out.b0.all
    have hz0 := G8.out.b0.lt
    obtain ⟨hc1, hf1⟩ := G8.out.b1.all
    have hz1 := G8.out.b1.lt
    obtain ⟨hc2, hf2⟩ := G8.out.b2.all
    have hz2 := G8.out.b2.lt
    obtain ⟨hc3, hf3⟩ := G8.out.b3.all
    have hz3 := G8.out.b3.lt
    unfold ncz at hc3
    go_wp2
    have G9 := Lib.hid (G8.out.drew)
    go_region_with (go_at_call 176; refine (HEY.out _ G9.out.rd).mono ?_; rintro e v6 ⟨l3, x3, n3, k3, rfl, hT, hr, hs⟩; have G10 := Lib.hid (G9.out.tree hT hr hs); clear hT hr hs; obtain ⟨hd0, he0⟩ := G10.out.b0.all; have hy0 := G10.out.b0.lt; obtain ⟨hd1, he1⟩ := G10.out.b1.all; have hy1 := G10.out.b1.lt; obtain ⟨hd2, he2⟩ := G10.out.b2.all; have hy2 := G10.out.b2.lt; obtain ⟨hd3, he3⟩ := G10.out.b3.all; have hy3 := G10.out.b3.lt; unfold ncz at hd3)
    all_goals
      have G11 := Lib.hid (G10.out.set2 hXl 10 (.slice (some ⟨v6.heap.size, 0, none⟩) 3 3) [.int .i64 23, .string ⟨#[]⟩, .int .u64 0, .int .i64 0, .bool false, .int .i64 0, .int .i64 0, .int .i64 0, .int .i64 0, .int .i64 ((ln ts s : Nat) : Int), .slice (some ⟨v6.heap.size, 0, none⟩) 3 3] rfl)
      go_wp2
      have G12 := Lib.hid (G11.out.stoR hXl (List.Mem.tail _ (List.Mem.tail _ (List.Mem.tail _ (List.Mem.head _)))) rfl (.int .i64 23) (.string ⟨#[]⟩) (.int .u64 0) (.int .i64 0) (.bool false) (.int .i64 0) (.int .i64 0) (.int .i64 0) (.int .i64 0) (.int .i64 ((ln ts s : Nat) : Int)) (.slice (some ⟨v6.heap.size, 0, none⟩) 3 3))
      have G13 := Lib.hid (G12.out.kidz3 hXl v6.heap.size (by simp only [size_setCell, stor11_size]) (List.Mem.tail _ (List.Mem.tail _ (List.Mem.head _))) (List.Mem.tail _ (List.Mem.head _)) (List.Mem.head _) (labK 23 (ln ts s)) [.int .i64 l1.kind, .string (str l1.name), .int .u64 l1.num, .int .i64 l1.wd, .bool l1.sg, .int .i64 l1.op, .int .i64 l1.fac, .int .i64 l1.pip, .int .i64 l1.unr, .int .i64 l1.line, .slice x1 n1 k1, .int .i64 l2.kind, .string (str l2.name), .int .u64 l2.num, .int .i64 l2.wd, .bool l2.sg, .int .i64 l2.op, .int .i64 l2.fac, .int .i64 l2.pip, .int .i64 l2.unr, .int .i64 l2.line, .slice x2 n2 k2, .int .i64 l3.kind, .string (str l3.name), .int .u64 l3.num, .int .i64 l3.wd, .bool l3.sg, .int .i64 l3.op, .int .i64 l3.fac, .int .i64 l3.pip, .int .i64 l3.unr, .int .i64 l3.line, .slice x3 n3 k3] rfl)
      refine bodyPost_ret (G13.out.b0.res1 Tryz.results176 Tryz.underlying28 rfl infoNd _ rfl) rfl ?_
      exact G13.out.outT (rfl)
  | false =>
    have HE : Hid (E ts (f + 1) .ex s = E ts f (.bn 0) s) := Lib.hid (by rw [E, if_neg (by simp [h1])])
    rw [HE.out]
    have HSK2 := Lib.hid (HSK.out (E ts f (.bn 0) s).2)
    rw [h1] at HSK2
    clear HE H hR h1 hon hf HSK
    generalize E ts f (.bn 0) s = P1 at *
    go_enter Tryz.func176, Tryz.ntmps176
    go_wp2_with fail
    refine (HN.out _ F0.out.rd).mono ?_
    rintro e v1 ⟨rfl, hb⟩
    have G1 := Lib.hid (F0.out.quiet hXl hb)
    clear hb
    obtain ⟨hc0, hf0⟩ := G1.out.b0.all
    have hz0 := G1.out.b0.lt
    unfold ncz at hc0
    have hq10 := G1.out.b0.lt
    have G2 := Lib.hid (G1.out.node hXl [.int .i64 23, .string ⟨#[]⟩, .int .u64 0, .int .i64 0, .bool false, .int .i64 0, .int .i64 0, .int .i64 0, .int .i64 0, .int .i64 ((ln ts s : Nat) : Int), .slice none 0 0])
    go_wp2_with fail
    refine (HBN.out _ G2.out.rd).mono ?_
    rintro e v2 ⟨l1, x1, n1, k1, rfl, hT, hr, hs⟩
    clear hc0 hf0 hz0
    have G3 := Lib.hid (G2.out.tree hT hr hs)
    clear hT hr hs
    obtain ⟨hc0, hf0⟩ := G3.out.b0.all
    have hz0 := G3.out.b0.lt
    obtain ⟨hc1, hf1⟩ := G3.out.b1.all
    have hz1 := G3.out.b1.lt
    unfold ncz at hc1
    have hq20 := G3.out.b0.lt
    have hq21 := G3.out.b1.lt
    have G4 := Lib.hid (G3.out.node hXl [.int .i64 l1.kind, .string (str l1.name), .int .u64 l1.num, .int .i64 l1.wd, .bool l1.sg, .int .i64 l1.op, .int .i64 l1.fac, .int .i64 l1.pip, .int .i64 l1.unr, .int .i64 l1.line, .slice x1 n1 k1])
    go_wp2_with fail
    refine (HSK2.out _ G4.out.rd).mono ?_
    rintro e v3 ⟨rfl, hr, hs⟩
    clear hc0 hf0 hz0 hc1 hf1 hz1
    have G5 := Lib.hid (G4.out.call hr hs)
    clear hr hs
    obtain ⟨hc0, hf0⟩ := G5.out.b0.all
    have hz0 := G5.out.b0.lt
    obtain ⟨hc1, hf1⟩ := G5.out.b1.all
    have hz1 := G5.out.b1.lt
    obtain ⟨hc2, hf2⟩ := G5.out.b2.all
    have hz2 := G5.out.b2.lt
    unfold ncz at hc2
    go_wp2
    have G6 := Lib.hid (G5.out.stoR hXl (List.Mem.tail _ (List.Mem.tail _ (List.Mem.head _))) rfl (.int .i64 l1.kind) (.string (str l1.name)) (.int .u64 l1.num) (.int .i64 l1.wd) (.bool l1.sg) (.int .i64 l1.op) (.int .i64 l1.fac) (.int .i64 l1.pip) (.int .i64 l1.unr) (.int .i64 l1.line) (.slice x1 n1 k1))
    refine bodyPost_ret (G6.out.b0.res1 Tryz.results176 Tryz.underlying28 rfl infoNd _ rfl) rfl ?_
    exact G6.out.outT (rfl)
end Go.Proofs.YtfnhogeocbndcaaGreatDoor
/- The rule cast: contract. -/
namespace Go.Proofs.YtfnhogeocbndcaaGreatDoor
open Go Go.RowKit
set_option linter.unusedVariables false
set_option linter.unusedSimpArgs false

/-- The state of the loop over casts. -/
def ClSt (ts : List Tok) (R g c : Nat) (w : World) (L0 L1 : Nat) (Z : Tree × Sg) (line : Nat) (wr : World) (st : Sg) : Prop :=
  ∃ (t : Tree) (l : Lab) (x : Option Addr) (n k F : Nat), Fr w wr R g c ts st [(L1, [.int .i64 l.kind, .string (str l.name), .int .u64 l.num, .int .i64 l.wd, .bool l.sg, .int .i64 l.op, .int .i64 l.fac, .int .i64 l.pip, .int .i64 l.unr, .int .i64 l.line, .slice x n k]), (L0, ncz)] [([.int .i64 l.kind, .string (str l.name), .int .u64 l.num, .int .i64 l.wd, .bool l.sg, .int .i64 l.op, .int .i64 l.fac, .int .i64 l.pip, .int .i64 l.unr, .int .i64 l.line, .slice x n k], t)] ∧ Z = E ts (F + 1) (.cl line t) st ∧ 32 * rem ts st + 1 ≤ F + 1
set_option maxHeartbeats 2000000 in
set_option maxRecDepth 100000 in
theorem cast_step {ts : List Tok} {R g c : Nat} (X : Ctx ts R g c) (f : Nat) (H : EC ts R g c f) (s : Sg) (w : World) (hR : Rd w R g c ts s) (hf : 32 * rem ts s + 10 ≤ f + 1) : Calls Tryz.prog 190 #[.pointer (some ⟨R, 0, none⟩)] w (TP w R g c ts (E ts (f + 1) .ca s)) := by
  have hXl := X.lt
  have F0 := Lib.hid ((Fr.start hR).node hXl ncz)
  have HNX := Lib.hid fun W (h : Rd W R g c ts s) => next_any X W h
  have hF := fldL (nxt ts s)
  have HUN := Lib.hid fun W (h : Rd W R g c ts s) => H.un s W h (by omega)
  have HSK := Lib.hid fun q W (h : Rd W R g c ts q) => skip_any' X (s := q) [97, 115] (by simp) W h
  have HTY := Lib.hid fun q W (h : Rd W R g c ts q) => typN_any X (s := q) W h
  have hon := rem_on (E_on ts f .un s)
  have HI := Lib.hid fun W q (h : Rd W R g c ts q) => h.hi
  have hlen := X.len
  unfold skp at HSK
  obtain ⟨f1, rfl⟩ : ∃ f1, f = f1 + 1 := ⟨f - 1, by omega⟩
  rw [E]
  have hfu : 32 * rem ts (E ts (f1 + 1) .un s).2 + 1 ≤ f1 + 1 := by omega
  clear H hR hon hf
  generalize E ts (f1 + 1) .un s = P1 at *
  have HL : Hid (((nxt ts s).line : Int) = (ln ts s : Nat)) := Lib.hid rfl
  have hl9 := HL.out
  rw [hl9] at hF
  clear hl9 HL
  generalize ln ts s = L9 at *
  obtain ⟨Z, hZ⟩ : ∃ Z, Z = E ts (f1 + 1) (.cl L9 P1.1) P1.2 := ⟨_, rfl⟩
  rw [← hZ]
  have HZ := Lib.hid hZ
  clear hZ
  go_enter Tryz.func190, Tryz.ntmps190
  go_wp2_with fail
  refine (HNX.out _ F0.out.rd).mono ?_
  rintro e v1 ⟨rfl, hb⟩
  have G1 := Lib.hid (F0.out.quiet hXl hb)
  clear hb
  obtain ⟨hc0, hf0⟩ := G1.out.b0.all
  have hz0 := G1.out.b0.lt
  unfold ncz at hc0
  go_wp2_with fail
  refine (HUN.out _ G1.out.rd).mono ?_
  rintro e v2 ⟨l1, x1, n1, k1, rfl, hT, hr, hs⟩
  clear hc0 hf0 hz0
  have G2 := Lib.hid (G1.out.tree hT hr hs)
  clear hT hr hs
  obtain ⟨hc0, hf0⟩ := G2.out.b0.all
  have hz0 := G2.out.b0.lt
  unfold ncz at hc0
  have hq20 := G2.out.b0.lt
  have G3 := Lib.hid (G2.out.node hXl [.int .i64 l1.kind, .string (str l1.name), .int .u64 l1.num, .int .i64 l1.wd, .bool l1.sg, .int .i64 l1.op, .int .i64 l1.fac, .int .i64 l1.pip, .int .i64 l1.unr, .int .i64 l1.line, .slice x1 n1 k1])
  have h0 : Hid (ClSt ts R g c w w.heap.size v2.heap.size Z L9 _ P1.2) := Lib.hid ⟨P1.1, l1, x1, n1, k1, f1, G3.out, HZ.out, hfu⟩
  have hL01 : w.heap.size < v2.heap.size := hq20
  clear hfu HZ HUN
  go_wp2
  go_loopw [10] (fun _ wr => ∃ st, Hid (ClSt ts R g c w w.heap.size v2.heap.size Z L9 wr st)) (fun _ wr => ts.length - atW wr R)
  case atStart => exact ⟨_, h0⟩
  case round =>
    obtain ⟨st, hT⟩ := hrel
    obtain ⟨t, l2, x2, n2, k2, F, hFr, hZ, hfu2⟩ := hT.out
    have J0 := Lib.hid hFr
    have HZ2 := Lib.hid hZ
    have HS2 := Lib.hid (HSK.out st)
    clear hFr hZ hT h0
    cases hh : hasT ts st [97, 115] with
    | true =>
      have hin := hasT_in hh
      have hra := rem_adv hin
      have hrt := rem_on (tyS_on ts (adv st))
      rw [hh] at HS2
      obtain ⟨F2, rfl⟩ : ∃ F2, F = F2 + 1 := ⟨F - 1, by omega⟩
      have HZ3 : Hid (Z = E ts (F2 + 1) (.cl L9 (.node { labK 24 L9 with wd := (tyV' ts (adv st)).1, sg := (tyV' ts (adv st)).2 } [t])) (tyS ts (adv st))) := Lib.hid (by rw [HZ2.out, E, if_pos hh])
      have hm0 := atW_rd J0.out.rd
      have HHIN := Lib.hid hin
      have hatl := atOf_le (ts := ts) J0.out.rd.hi
      clear hh hin HZ2
      go_wp2_with fail
      refine (HS2.out _ J0.out.rd).mono ?_
      rintro e v5 ⟨rfl, hr, hs⟩
      have G21 := Lib.hid (J0.out.call hr hs)
      clear hr hs
      obtain ⟨hc0, hf0⟩ := G21.out.b0.all
      have hz0 := G21.out.b0.lt
      obtain ⟨hc1, hf1⟩ := G21.out.b1.all
      have hz1 := G21.out.b1.lt
      unfold ncz at hc1
      go_wp2
      have GA := Lib.hid G21.out.drew
      have GB := Lib.hid (G21.out.kidz1 hXl v5.heap.size rfl (List.Mem.head _) { labK 24 L9 with wd := (tyV' ts (adv st)).1, sg := (tyV' ts (adv st)).2 }).drew
      go_region_with (go_at_call 97; first | ((with_reducible refine (HTY.out _ _ GA.out.rd).mono ?_); rintro e v6 ⟨rfl, hr, hs⟩; have GA6 := Lib.hid (GA.out.call hr hs); clear hr hs; obtain ⟨hd0, he0⟩ := GA6.out.b0.all; have hy0 := GA6.out.b0.lt; obtain ⟨hd1, he1⟩ := GA6.out.b1.all; have hy1 := GA6.out.b1.lt; unfold ncz at hd1) | ((with_reducible refine (HTY.out _ _ GB.out.rd).mono ?_); rintro e v6 ⟨rfl, hr, hs⟩; have GB6 := Lib.hid (GB.out.call hr hs); clear hr hs; obtain ⟨hd0, he0⟩ := GB6.out.b0.all; have hy0 := GB6.out.b0.lt; obtain ⟨hd1, he1⟩ := GB6.out.b1.all; have hy1 := GB6.out.b1.lt; unfold ncz at hd1))
      all_goals
        first
        | (have G61 := Lib.hid (GA6.out.stor0 hXl rfl (.int .i64 24) (.string ⟨#[]⟩) (.int .u64 0) (.int .i64 ((tyV' ts (adv st)).1 : Int)) (.bool (tyV' ts (adv st)).2) (.int .i64 0) (.int .i64 0) (.int .i64 0) (.int .i64 0) (.int .i64 (L9 : Int)) (.slice (some ⟨v6.heap.size, 0, none⟩) 1 1))
           have G62 := Lib.hid (G61.out.kidz1 hXl v6.heap.size (by simp only [size_setCell, stor11_size]) (List.Mem.head _) { labK 24 L9 with wd := (tyV' ts (adv st)).1, sg := (tyV' ts (adv st)).2 })
           have JE := Lib.hid (G62.out.keepT (Ts' := [([.int .i64 24, .string ⟨#[]⟩, .int .u64 0, .int .i64 ((tyV' ts (adv st)).1 : Int), .bool (tyV' ts (adv st)).2, .int .i64 0, .int .i64 0, .int .i64 0, .int .i64 0, .int .i64 (L9 : Int), .slice (some ⟨v6.heap.size, 0, none⟩) 1 1], .node { labK 24 L9 with wd := (tyV' ts (adv st)).1, sg := (tyV' ts (adv st)).2 } [t])]) (fun p hp => by simp at hp; subst hp; exact List.Mem.head _))
           have hm1 := atW_rd JE.out.rd
           have hma := atOf_adv HHIN.out (tyS_on ts (adv st)) JE.out.rd.hi
           have HN2 : Hid (ClSt ts R g c w w.heap.size v2.heap.size Z L9 _ (tyS ts (adv st))) := Lib.hid ⟨_, { labK 24 L9 with wd := (tyV' ts (adv st)).1, sg := (tyV' ts (adv st)).2 }, some ⟨v6.heap.size, 0, none⟩, 1, 1, F2, JE.out, HZ3.out, by omega⟩
           have hmm : Hid (atW wr R = atOf ts st) := Lib.hid hm0
           have HM1 := Lib.hid hm1
           have HM : Hid (ts.length - atOf ts (tyS ts (adv st)) < ts.length - atOf ts st) := Lib.hid (by omega)
           clear hm0 hm1
           go_wp2
           go_roundw
           case rel => exact ⟨_, HN2⟩
           case measure => (rw [hmm.out]; refine Nat.lt_of_le_of_lt (Nat.le_of_eq ?_) HM.out; exact congrArg (ts.length - ·) HM1.out))
        | (have G61 := Lib.hid (GB6.out.stor0 hXl rfl (.int .i64 24) (.string ⟨#[]⟩) (.int .u64 0) (.int .i64 ((tyV' ts (adv st)).1 : Int)) (.bool (tyV' ts (adv st)).2) (.int .i64 0) (.int .i64 0) (.int .i64 0) (.int .i64 0) (.int .i64 (L9 : Int)) (.slice (some ⟨v5.heap.size, 0, none⟩) 1 1))
           have JE := Lib.hid (G61.out.keepT (Ts' := [([.int .i64 24, .string ⟨#[]⟩, .int .u64 0, .int .i64 ((tyV' ts (adv st)).1 : Int), .bool (tyV' ts (adv st)).2, .int .i64 0, .int .i64 0, .int .i64 0, .int .i64 0, .int .i64 (L9 : Int), .slice (some ⟨v5.heap.size, 0, none⟩) 1 1], .node { labK 24 L9 with wd := (tyV' ts (adv st)).1, sg := (tyV' ts (adv st)).2 } [t])]) (fun p hp => by simp at hp; subst hp; exact List.Mem.head _))
           have hm1 := atW_rd JE.out.rd
           have hma := atOf_adv HHIN.out (tyS_on ts (adv st)) JE.out.rd.hi
           have HN2 : Hid (ClSt ts R g c w w.heap.size v2.heap.size Z L9 _ (tyS ts (adv st))) := Lib.hid ⟨_, { labK 24 L9 with wd := (tyV' ts (adv st)).1, sg := (tyV' ts (adv st)).2 }, some ⟨v5.heap.size, 0, none⟩, 1, 1, F2, JE.out, HZ3.out, by omega⟩
           have hmm : Hid (atW wr R = atOf ts st) := Lib.hid hm0
           have HM1 := Lib.hid hm1
           have HM : Hid (ts.length - atOf ts (tyS ts (adv st)) < ts.length - atOf ts st) := Lib.hid (by omega)
           clear hm0 hm1
           go_wp2
           go_roundw
           case rel => exact ⟨_, HN2⟩
           case measure => (rw [hmm.out]; refine Nat.lt_of_le_of_lt (Nat.le_of_eq ?_) HM.out; exact congrArg (ts.length - ·) HM1.out))
    | false =>
      rw [hh] at HS2
      have HZ3 : Hid (Z = (t, st)) := Lib.hid (by rw [HZ2.out, E, if_neg (by simp [hh])])
      clear hh HZ2
      go_wp2_with fail
      refine (HS2.out _ J0.out.rd).mono ?_
      rintro e v5 ⟨rfl, hr, hs⟩
      have G41 := Lib.hid (J0.out.call hr hs)
      clear hr hs
      obtain ⟨hc0, hf0⟩ := G41.out.b0.all
      have hz0 := G41.out.b0.lt
      obtain ⟨hc1, hf1⟩ := G41.out.b1.all
      have hz1 := G41.out.b1.lt
      unfold ncz at hc1
      go_wp2
      have G42 := Lib.hid (G41.out.stoR hXl (List.Mem.tail _ (List.Mem.head _)) rfl (.int .i64 l2.kind) (.string (str l2.name)) (.int .u64 l2.num) (.int .i64 l2.wd) (.bool l2.sg) (.int .i64 l2.op) (.int .i64 l2.fac) (.int .i64 l2.pip) (.int .i64 l2.unr) (.int .i64 l2.line) (.slice x2 n2 k2))
      refine bodyPost_ret (G42.out.b0.res1 Tryz.results190 Tryz.underlying28 rfl infoNd _ rfl) rfl ?_
      exact G42.out.outT (HZ3.out)
end Go.Proofs.YtfnhogeocbndcaaGreatDoor
/- The rule binary: contract. -/
namespace Go.Proofs.YtfnhogeocbndcaaGreatDoor
open Go Go.RowKit
set_option linter.unusedVariables false
set_option linter.unusedSimpArgs false

/-- The state of the loop over operators of a level. -/
def BlSt (ts : List Tok) (R g c : Nat) (w : World) (L0 L1 f : Nat) (Z : Tree × Sg) (lv line : Nat) (wr : World) (st : Sg) : Prop :=
  ∃ (t : Tree) (l : Lab) (x : Option Addr) (n k F : Nat), Fr w wr R g c ts st [(L1, [.int .i64 l.kind, .string (str l.name), .int .u64 l.num, .int .i64 l.wd, .bool l.sg, .int .i64 l.op, .int .i64 l.fac, .int .i64 l.pip, .int .i64 l.unr, .int .i64 l.line, .slice x n k]), (L0, ncz)] [([.int .i64 l.kind, .string (str l.name), .int .u64 l.num, .int .i64 l.wd, .bool l.sg, .int .i64 l.op, .int .i64 l.fac, .int .i64 l.pip, .int .i64 l.unr, .int .i64 l.line, .slice x n k], t)] ∧ Z = E ts (F + 1) (.bl lv line t) st ∧ 32 * rem ts st + 1 ≤ F + 1 ∧ F ≤ f
theorem E_bl_more {ts : List Tok} {F lv line : Nat} {t : Tree} {st : Sg} (ho : ¬ opV ts st lv = 0) (h2 : ¬ lv = 2) : E ts (F + 1) (.bl lv line t) st = E ts F (.bl lv line (.node { labK 22 line with op := opV ts st lv } [t, (E ts F (.bn (lv + 1)) (adv st)).1])) (E ts F (.bn (lv + 1)) (adv st)).2 := by
  rw [E, if_neg ho, if_neg h2]

set_option maxHeartbeats 2000000 in
set_option maxRecDepth 100000 in
theorem binary_step {ts : List Tok} {R g c : Nat} (X : Ctx ts R g c) (f : Nat) (H : ∀ f1, f1 ≤ f → EC ts R g c f1) (lv : Nat) (hlv : lv ≤ 9) (s : Sg) (w : World) (hR : Rd w R g c ts s) (hf : 32 * rem ts s + (20 - lv) ≤ f + 1) : Calls Tryz.prog 184 #[.pointer (some ⟨R, 0, none⟩), .int .i64 (lv : Int)] w (TP w R g c ts (E ts (f + 1) (.bn lv) s)) := by
  have hXl := X.lt
  have F0 := Lib.hid ((Fr.start hR).node hXl ncz)
  by_cases h9 : lv = 9
  · subst h9
    have HE : Hid (E ts (f + 1) (.bn 9) s = E ts f .ca s) := Lib.hid (by rw [E, if_pos rfl])
    rw [HE.out]
    have HCA := Lib.hid fun W (h : Rd W R g c ts s) => (H f (Nat.le_refl _)).ca s W h (by omega)
    clear HE H hR hf
    go_enter Tryz.func184, Tryz.ntmps184
    go_wp2_with fail
    refine (HCA.out _ F0.out.rd).mono ?_
    rintro e v1 ⟨l1, x1, n1, k1, rfl, hT, hr, hs⟩
    have G1 := Lib.hid (F0.out.tree hT hr hs)
    clear hT hr hs
    obtain ⟨hc0, hf0⟩ := G1.out.b0.all
    have hz0 := G1.out.b0.lt
    unfold ncz at hc0
    go_wp2
    have G2 := Lib.hid (G1.out.stoR hXl (List.Mem.head _) rfl (.int .i64 l1.kind) (.string (str l1.name)) (.int .u64 l1.num) (.int .i64 l1.wd) (.bool l1.sg) (.int .i64 l1.op) (.int .i64 l1.fac) (.int .i64 l1.pip) (.int .i64 l1.unr) (.int .i64 l1.line) (.slice x1 n1 k1))
    refine bodyPost_ret (G2.out.b0.res1 Tryz.results184 Tryz.underlying28 rfl infoNd _ rfl) rfl ?_
    exact G2.out.outT (rfl)
  · have hl8 : lv ≤ 8 := by omega
    have hcast : ((lv + 1 : Nat) : Int) = (lv : Int) + 1 := by omega
    have HBN : Hid (∀ (q : Sg) (F : Nat) (W : World), F ≤ f → 32 * rem ts q + (20 - (lv + 1)) ≤ F → Rd W R g c ts q → Calls Tryz.prog 184 #[.pointer (some ⟨R, 0, none⟩), .int .i64 ((lv : Int) + 1)] W (TP W R g c ts (E ts F (.bn (lv + 1)) q))) := Lib.hid fun q F W h1 h2 h3 => by
      have := (H F h1).bn (lv + 1) q W (by omega) h3 h2
      rw [hcast] at this
      exact this
    have HNX := Lib.hid fun W (h : Rd W R g c ts s) => next_any X W h
    have hF := fldL (nxt ts s)
    have hwr : IntKind.i64.wrap ((lv : Int) + 1) = (lv : Int) + 1 := IntWalk.i64_in _ (by omega)
    have HWR := Lib.hid hwr
    have q9 : ((lv : Int) == 9) = false := by simp; omega
    have HOP := Lib.hid fun q W (h : Rd W R g c ts q) => oper_any X (s := q) lv (by omega) W h
    have hon := rem_on (E_on ts f (.bn (lv + 1)) s)
    have hlen := X.len
    unfold opS at HOP
    obtain ⟨f1, rfl⟩ : ∃ f1, f = f1 + 1 := ⟨f - 1, by omega⟩
    have HE : Hid (E ts (f1 + 1 + 1) (.bn lv) s = E ts (f1 + 1) (.bl lv (ln ts s) (E ts (f1 + 1) (.bn (lv + 1)) s).1) (E ts (f1 + 1) (.bn (lv + 1)) s).2) := Lib.hid (by rw [E, if_neg h9])
    rw [HE.out]
    have HB1 := Lib.hid fun W (h : Rd W R g c ts s) => HBN.out s (f1 + 1) W (Nat.le_refl _) (by omega) h
    have hfu : 32 * rem ts (E ts (f1 + 1) (.bn (lv + 1)) s).2 + 1 ≤ f1 + 1 := by omega
    clear HE H hR hon hf hcast hwr h9
    generalize E ts (f1 + 1) (.bn (lv + 1)) s = P1 at *
    have HL : Hid (((nxt ts s).line : Int) = (ln ts s : Nat)) := Lib.hid rfl
    have hl9 := HL.out
    rw [hl9] at hF
    clear hl9 HL
    generalize ln ts s = L9 at *
    obtain ⟨Z, hZ⟩ : ∃ Z, Z = E ts (f1 + 1) (.bl lv L9 P1.1) P1.2 := ⟨_, rfl⟩
    rw [← hZ]
    have HZ := Lib.hid hZ
    clear hZ
    go_enter Tryz.func184, Tryz.ntmps184
    go_wp2_with fail
    refine (HNX.out _ F0.out.rd).mono ?_
    rintro e v1 ⟨rfl, hb⟩
    have G1 := Lib.hid (F0.out.quiet hXl hb)
    clear hb
    obtain ⟨hc0, hf0⟩ := G1.out.b0.all
    have hz0 := G1.out.b0.lt
    unfold ncz at hc0
    go_wp2_with fail
    refine (HB1.out _ G1.out.rd).mono ?_
    rintro e v2 ⟨l1, x1, n1, k1, rfl, hT, hr, hs⟩
    clear hc0 hf0 hz0
    have G2 := Lib.hid (G1.out.tree hT hr hs)
    clear hT hr hs
    obtain ⟨hc0, hf0⟩ := G2.out.b0.all
    have hz0 := G2.out.b0.lt
    unfold ncz at hc0
    have hq20 := G2.out.b0.lt
    have G3 := Lib.hid (G2.out.node hXl [.int .i64 l1.kind, .string (str l1.name), .int .u64 l1.num, .int .i64 l1.wd, .bool l1.sg, .int .i64 l1.op, .int .i64 l1.fac, .int .i64 l1.pip, .int .i64 l1.unr, .int .i64 l1.line, .slice x1 n1 k1])
    have h0 : Hid (BlSt ts R g c w w.heap.size v2.heap.size (f1 + 1) Z lv L9 _ P1.2) := Lib.hid ⟨P1.1, l1, x1, n1, k1, f1, G3.out, HZ.out, hfu, by omega⟩
    have hL01 : w.heap.size < v2.heap.size := hq20
    clear hfu HZ HB1
    go_wp2
    go_loopw [19] (fun _ wr => ∃ st, Hid (BlSt ts R g c w w.heap.size v2.heap.size (f1 + 1) Z lv L9 wr st)) (fun _ wr => ts.length - atW wr R)
    case atStart => exact ⟨_, h0⟩
    case round =>
      obtain ⟨st, hT⟩ := hrel
      obtain ⟨t, l2, x2, n2, k2, F, hFr, hZ, hfu2, hFf⟩ := hT.out
      have J0 := Lib.hid hFr
      have HZ2 := Lib.hid hZ
      have HO2 := Lib.hid (HOP.out st)
      clear hFr hZ hT h0
      by_cases ho : opV ts st lv = 0
      · rw [if_pos ho, ho] at HO2
        have HZ3 : Hid (Z = (t, st)) := Lib.hid (by rw [HZ2.out, E, if_pos ho])
        clear ho HZ2
        go_wp2_with fail
        refine (HO2.out _ J0.out.rd).mono ?_
        rintro e v5 ⟨rfl, hr, hs⟩
        have G41 := Lib.hid (J0.out.call hr hs)
        clear hr hs
        obtain ⟨hc0, hf0⟩ := G41.out.b0.all
        have hz0 := G41.out.b0.lt
        obtain ⟨hc1, hf1⟩ := G41.out.b1.all
        have hz1 := G41.out.b1.lt
        unfold ncz at hc1
        go_wp2
        have G42 := Lib.hid (G41.out.stoR hXl (List.Mem.tail _ (List.Mem.head _)) rfl (.int .i64 l2.kind) (.string (str l2.name)) (.int .u64 l2.num) (.int .i64 l2.wd) (.bool l2.sg) (.int .i64 l2.op) (.int .i64 l2.fac) (.int .i64 l2.pip) (.int .i64 l2.unr) (.int .i64 l2.line) (.slice x2 n2 k2))
        refine bodyPost_ret (G42.out.b0.res1 Tryz.results184 Tryz.underlying28 rfl infoNd _ rfl) rfl ?_
        exact G42.out.outT (HZ3.out)
      · have hin := opV_in ho
        have hra := rem_adv hin
        rw [if_neg ho] at HO2
        have q0 : ((opV ts st lv : Int) == 0) = false := by simp; omega
        have HB2 := Lib.hid fun W (h : Rd W R g c ts (adv st)) => HBN.out (adv st) F W hFf (by omega) h
        have hrt := rem_on (E_on ts F (.bn (lv + 1)) (adv st))
        have HON := Lib.hid (E_on ts F (.bn (lv + 1)) (adv st))
        have hm0 := atW_rd J0.out.rd
        have HHIN := Lib.hid hin
        have hatl := atOf_le (ts := ts) J0.out.rd.hi
        by_cases h2 : lv = 2
        · have HZ3 : Hid (Z = (.node { labK 22 L9 with op := opV ts st lv } [t, (E ts F (.bn (lv + 1)) (adv st)).1], (E ts F (.bn (lv + 1)) (adv st)).2)) := Lib.hid (by rw [HZ2.out, E, if_neg ho, if_pos h2])
          have q2 : ((lv : Int) == 2) = true := by simp; omega
          clear ho h2 hin HZ2
          generalize E ts F (.bn (lv + 1)) (adv st) = P2 at *
          go_wp2_with fail
          refine (HO2.out _ J0.out.rd).mono ?_
          rintro e v5 ⟨rfl, hr, hs⟩
          have G61 := Lib.hid (J0.out.call hr hs)
          clear hr hs
          obtain ⟨hc0, hf0⟩ := G61.out.b0.all
          have hz0 := G61.out.b0.lt
          obtain ⟨hc1, hf1⟩ := G61.out.b1.all
          have hz1 := G61.out.b1.lt
          unfold ncz at hc1
          have hwr := HWR.out
          go_wp2
          have G62 := Lib.hid (G61.out.drew)
          go_region_with (go_at_call 184; refine (HB2.out _ G62.out.rd).mono ?_; rintro e v6 ⟨l3, x3, n3, k3, rfl, hT, hr, hs⟩; have G63 := Lib.hid (G62.out.tree hT hr hs); clear hT hr hs; obtain ⟨hd0, he0⟩ := G63.out.b0.all; have hy0 := G63.out.b0.lt; obtain ⟨hd1, he1⟩ := G63.out.b1.all; have hy1 := G63.out.b1.lt; unfold ncz at hd1)
          all_goals
            clear hwr
            have G64 := Lib.hid (G63.out.stor0 hXl rfl (.int .i64 22) (.string ⟨#[]⟩) (.int .u64 0) (.int .i64 0) (.bool false) (.int .i64 (opV ts st lv : Int)) (.int .i64 0) (.int .i64 0) (.int .i64 0) (.int .i64 (L9 : Int)) (.slice (some ⟨v6.heap.size, 0, none⟩) 2 2))
            go_wp2
            have G65 := Lib.hid (G64.out.stoR hXl (List.Mem.tail _ (List.Mem.head _)) rfl (.int .i64 22) (.string ⟨#[]⟩) (.int .u64 0) (.int .i64 0) (.bool false) (.int .i64 (opV ts st lv : Int)) (.int .i64 0) (.int .i64 0) (.int .i64 0) (.int .i64 (L9 : Int)) (.slice (some ⟨v6.heap.size, 0, none⟩) 2 2))
            have G66 := Lib.hid (G65.out.kidz2 hXl v6.heap.size (by simp only [size_setCell, stor11_size]) (List.Mem.tail _ (List.Mem.head _)) (List.Mem.head _) { labK 22 L9 with op := opV ts st lv } [.int .i64 l2.kind, .string (str l2.name), .int .u64 l2.num, .int .i64 l2.wd, .bool l2.sg, .int .i64 l2.op, .int .i64 l2.fac, .int .i64 l2.pip, .int .i64 l2.unr, .int .i64 l2.line, .slice x2 n2 k2, .int .i64 l3.kind, .string (str l3.name), .int .u64 l3.num, .int .i64 l3.wd, .bool l3.sg, .int .i64 l3.op, .int .i64 l3.fac, .int .i64 l3.pip, .int .i64 l3.unr, .int .i64 l3.line, .slice x3 n3 k3] rfl)
            refine bodyPost_ret (G66.out.b0.res1 Tryz.results184 Tryz.underlying28 rfl infoNd _ rfl) rfl ?_
            exact G66.out.outT (HZ3.out)
        · obtain ⟨F2, rfl⟩ : ∃ F2, F = F2 + 1 := ⟨F - 1, by omega⟩
          have HZ3 : Hid (Z = E ts (F2 + 1) (.bl lv L9 (.node { labK 22 L9 with op := opV ts st lv } [t, (E ts (F2 + 1) (.bn (lv + 1)) (adv st)).1])) (E ts (F2 + 1) (.bn (lv + 1)) (adv st)).2) := Lib.hid (HZ2.out.trans (E_bl_more ho h2))
          have q2 : ((lv : Int) == 2) = false := by simp; omega
          clear ho h2 hin HZ2
          generalize E ts (F2 + 1) (.bn (lv + 1)) (adv st) = P2 at *
          go_wp2_with fail
          refine (HO2.out _ J0.out.rd).mono ?_
          rintro e v5 ⟨rfl, hr, hs⟩
          have G61 := Lib.hid (J0.out.call hr hs)
          clear hr hs
          obtain ⟨hc0, hf0⟩ := G61.out.b0.all
          have hz0 := G61.out.b0.lt
          obtain ⟨hc1, hf1⟩ := G61.out.b1.all
          have hz1 := G61.out.b1.lt
          unfold ncz at hc1
          have hwr := HWR.out
          go_wp2
          have G62 := Lib.hid (G61.out.drew)
          go_region_with (go_at_call 184; refine (HB2.out _ G62.out.rd).mono ?_; rintro e v6 ⟨l3, x3, n3, k3, rfl, hT, hr, hs⟩; have G63 := Lib.hid (G62.out.tree hT hr hs); clear hT hr hs; obtain ⟨hd0, he0⟩ := G63.out.b0.all; have hy0 := G63.out.b0.lt; obtain ⟨hd1, he1⟩ := G63.out.b1.all; have hy1 := G63.out.b1.lt; unfold ncz at hd1)
          all_goals
            clear hwr
            have G64 := Lib.hid (G63.out.stor0 hXl rfl (.int .i64 22) (.string ⟨#[]⟩) (.int .u64 0) (.int .i64 0) (.bool false) (.int .i64 (opV ts st lv : Int)) (.int .i64 0) (.int .i64 0) (.int .i64 0) (.int .i64 (L9 : Int)) (.slice (some ⟨v6.heap.size, 0, none⟩) 2 2))
            have G65 := Lib.hid (G64.out.kidz2 hXl v6.heap.size (by simp only [size_setCell, stor11_size]) (List.Mem.tail _ (List.Mem.head _)) (List.Mem.head _) { labK 22 L9 with op := opV ts st lv } [.int .i64 l2.kind, .string (str l2.name), .int .u64 l2.num, .int .i64 l2.wd, .bool l2.sg, .int .i64 l2.op, .int .i64 l2.fac, .int .i64 l2.pip, .int .i64 l2.unr, .int .i64 l2.line, .slice x2 n2 k2, .int .i64 l3.kind, .string (str l3.name), .int .u64 l3.num, .int .i64 l3.wd, .bool l3.sg, .int .i64 l3.op, .int .i64 l3.fac, .int .i64 l3.pip, .int .i64 l3.unr, .int .i64 l3.line, .slice x3 n3 k3] rfl)
            have JE := Lib.hid (G65.out.keepT (Ts' := [([.int .i64 22, .string ⟨#[]⟩, .int .u64 0, .int .i64 0, .bool false, .int .i64 (opV ts st lv : Int), .int .i64 0, .int .i64 0, .int .i64 0, .int .i64 (L9 : Int), .slice (some ⟨v6.heap.size, 0, none⟩) 2 2], .node { labK 22 L9 with op := opV ts st lv } [t, P2.1])]) (fun p hp => by simp at hp; subst hp; exact List.Mem.head _))
            have hm1 := atW_rd JE.out.rd
            have hma := atOf_adv HHIN.out HON.out JE.out.rd.hi
            have HN2 : Hid (BlSt ts R g c w w.heap.size v2.heap.size (f1 + 1) Z lv L9 _ P2.2) := Lib.hid ⟨_, { labK 22 L9 with op := opV ts st lv }, some ⟨v6.heap.size, 0, none⟩, 2, 2, F2, JE.out, HZ3.out, by omega, by omega⟩
            have hmm : Hid (atW wr R = atOf ts st) := Lib.hid hm0
            have HM1 := Lib.hid hm1
            have HM : Hid (ts.length - atOf ts P2.2 < ts.length - atOf ts st) := Lib.hid (by omega)
            clear hm0 hm1
            go_wp2
            go_roundw
            case rel => exact ⟨_, HN2⟩
            case measure => (rw [hmm.out]; refine Nat.lt_of_le_of_lt (Nat.le_of_eq ?_) HM.out; exact congrArg (ts.length - ·) HM1.out)
end Go.Proofs.YtfnhogeocbndcaaGreatDoor
