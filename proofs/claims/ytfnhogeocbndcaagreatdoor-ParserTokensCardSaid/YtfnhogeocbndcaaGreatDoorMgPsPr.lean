/- The rule use: contract. -/
import Derived.Test.YtfnhogeocbndcaaGreatDoorMgPsLsExpr
namespace Go.Proofs.YtfnhogeocbndcaaGreatDoor
open Go Go.RowKit
set_option linter.unusedVariables false
set_option linter.unusedSimpArgs false

set_option maxHeartbeats 2000000 in
set_option maxRecDepth 100000 in
theorem use_step {ts : List Tok} {R g c : Nat} (X : Ctx ts R g c) (f : Nat) (H : EC ts R g c f) (s : Sg) (w : World) (hR : Rd w R g c ts s) (hf : 32 * rem ts s + 7 ≤ f + 1) : Calls Tryz.prog 207 #[.pointer (some ⟨R, 0, none⟩)] w (TP w R g c ts (E ts (f + 1) .us s)) := by
  have hXl := X.lt
  have F0 := Lib.hid ((Fr.start hR).node hXl ncz)
  have HN := Lib.hid fun W (h : Rd W R g c ts s) => node_any X 19 W h
  have HNM := Lib.hid fun W (h : Rd W R g c ts s) => name_any X W h
  have HNX := Lib.hid fun W (h : Rd W R g c ts (nmS ts s)) => next_any X W h
  have hF := fldT (nxt ts (nmS ts s))
  have hq1 : ((str (nxt ts (nmS ts s)).text).toList == [40]) = hasT ts (nmS ts s) [40] := by have := hasT_bytes ts (nmS ts s) [40]; rw [str_toList [40]] at this; exact this
  have HSK := Lib.hid fun W (h : Rd W R g c ts (nmS ts s)) => skip_any' X [91] (by simp) W h
  have HBR := Lib.hid fun q W (h : Rd W R g c ts q) => expect_any X (s := q) [93] (by simp) W h
  have hrn := rem_on (nmS_on ts s)
  unfold skp at HSK
  have HL : Hid (nc (labK 19 (ln ts s)) = [.int .i64 19, .string ⟨#[]⟩, .int .u64 0, .int .i64 0, .bool false, .int .i64 0, .int .i64 0, .int .i64 0, .int .i64 0, .int .i64 ((ln ts s : Nat) : Int), .slice none 0 0]) := Lib.hid rfl
  rw [HL.out] at HN
  cases h1 : hasT ts (nmS ts s) [40] with
  | true =>
    have hin := hasT_in h1
    have hra := rem_adv hin
    have HE : Hid (E ts (f + 1) .us s = (.node { labK 25 (ln ts s) with name := nmV ts s } (listM ts (fun q => E ts f .ex q) f (nmS ts s)).1, (listM ts (fun q => E ts f .ex q) f (nmS ts s)).2)) := Lib.hid (by rw [E, if_pos h1])
    rw [HE.out]
    rw [h1] at hq1
    have hexc : exc ts (nmS ts s) [40] = adv (nmS ts s) := by unfold exc; rw [if_pos h1]
    have HLS := Lib.hid fun W (h : Rd W R g c ts (nmS ts s)) => list_expr X (fun q => E ts f .ex q) (fun q => E_on ts f .ex q) (nmS ts s) f (by rw [hexc]; omega) (fun q W' hq hW' => H.ex q W' hW' (by rw [hexc] at hq; have := rem_on hq; omega)) W h
    clear HE H hR HL h1 hin hra hrn hexc HSK HBR
    go_enter Tryz.func207, Tryz.ntmps207
    go_wp2_with fail
    refine (HN.out _ F0.out.rd).mono ?_
    rintro e v1 ⟨rfl, hb⟩
    have G1 := Lib.hid (F0.out.quiet hXl hb)
    clear hb
    obtain ⟨hc0, hf0⟩ := G1.out.b0.all
    have hz0 := G1.out.b0.lt
    unfold ncz at hc0
    have hq10 := G1.out.b0.lt
    have G2 := Lib.hid (G1.out.node hXl [.int .i64 19, .string ⟨#[]⟩, .int .u64 0, .int .i64 0, .bool false, .int .i64 0, .int .i64 0, .int .i64 0, .int .i64 0, .int .i64 ((ln ts s : Nat) : Int), .slice none 0 0])
    go_wp2_with fail
    refine (HNM.out _ G2.out.rd).mono ?_
    rintro e v2 ⟨rfl, hr, hs⟩
    clear hc0 hf0 hz0
    have G3 := Lib.hid (G2.out.call hr hs)
    clear hr hs
    obtain ⟨hc0, hf0⟩ := G3.out.b0.all
    have hz0 := G3.out.b0.lt
    obtain ⟨hc1, hf1⟩ := G3.out.b1.all
    have hz1 := G3.out.b1.lt
    unfold ncz at hc1
    have G4 := Lib.hid (G3.out.set0 hXl 1 (.string (str (nmV ts s))) [.int .i64 19, .string (str (nmV ts s)), .int .u64 0, .int .i64 0, .bool false, .int .i64 0, .int .i64 0, .int .i64 0, .int .i64 0, .int .i64 ((ln ts s : Nat) : Int), .slice none 0 0] rfl)
    go_wp2_with fail
    refine (HNX.out _ G4.out.rd).mono ?_
    rintro e v3 ⟨rfl, hb⟩
    clear hc0 hf0 hz0 hc1 hf1 hz1
    have G5 := Lib.hid (G4.out.quiet hXl hb)
    clear hb
    obtain ⟨hc0, hf0⟩ := G5.out.b0.all
    have hz0 := G5.out.b0.lt
    obtain ⟨hc1, hf1⟩ := G5.out.b1.all
    have hz1 := G5.out.b1.lt
    unfold ncz at hc1
    have G6 := Lib.hid (G5.out.set0 hXl 0 (.int .i64 25) [.int .i64 25, .string (str (nmV ts s)), .int .u64 0, .int .i64 0, .bool false, .int .i64 0, .int .i64 0, .int .i64 0, .int .i64 0, .int .i64 ((ln ts s : Nat) : Int), .slice none 0 0] rfl)
    go_wp2_with fail
    refine (HLS.out _ G6.out.rd).mono ?_
    rintro e v4 ⟨vv, rfl, hk, hr, hs⟩
    obtain ⟨x1, k1, rfl⟩ := hk.shape
    clear hc0 hf0 hz0 hc1 hf1 hz1
    have G7 := Lib.hid (G6.out.tree (hk.tree { labK 25 (ln ts s) with name := nmV ts s }) hr hs)
    clear hk hr hs
    obtain ⟨hc0, hf0⟩ := G7.out.b0.all
    have hz0 := G7.out.b0.lt
    obtain ⟨hc1, hf1⟩ := G7.out.b1.all
    have hz1 := G7.out.b1.lt
    unfold ncz at hc1
    have G8 := Lib.hid (G7.out.set0 hXl 10 (.slice x1 (listM ts (fun q => E ts f .ex q) f (nmS ts s)).1.length k1) [.int .i64 25, .string (str (nmV ts s)), .int .u64 0, .int .i64 0, .bool false, .int .i64 0, .int .i64 0, .int .i64 0, .int .i64 0, .int .i64 ((ln ts s : Nat) : Int), .slice x1 (listM ts (fun q => E ts f .ex q) f (nmS ts s)).1.length k1] rfl)
    go_wp2
    have G9 := Lib.hid (G8.out.stoR hXl (List.Mem.tail _ (List.Mem.head _)) rfl (.int .i64 25) (.string (str (nmV ts s))) (.int .u64 0) (.int .i64 0) (.bool false) (.int .i64 0) (.int .i64 0) (.int .i64 0) (.int .i64 0) (.int .i64 ((ln ts s : Nat) : Int)) (.slice x1 (listM ts (fun q => E ts f .ex q) f (nmS ts s)).1.length k1))
    refine bodyPost_ret (G9.out.b0.res1 Tryz.results207 Tryz.underlying28 rfl infoNd _ rfl) rfl ?_
    exact G9.out.outT (rfl)
  | false =>
    rw [h1] at hq1
    cases h2 : hasT ts (nmS ts s) [91] with
    | true =>
      have hin := hasT_in h2
      have hra := rem_adv hin
      have HE : Hid (E ts (f + 1) .us s = (.node { labK 20 (ln ts s) with name := nmV ts s } [(E ts f .ex (adv (nmS ts s))).1], exc ts (E ts f .ex (adv (nmS ts s))).2 [93])) := Lib.hid (by rw [E, if_neg (by simp [h1]), if_pos h2])
      rw [HE.out]
      rw [h2] at HSK
      have HEX := Lib.hid fun W (h : Rd W R g c ts (adv (nmS ts s))) => H.ex _ W h (by omega)
      clear HE H hR HL h1 h2 hin hra hrn
      go_enter Tryz.func207, Tryz.ntmps207
      go_wp2_with fail
      refine (HN.out _ F0.out.rd).mono ?_
      rintro e v1 ⟨rfl, hb⟩
      have G1 := Lib.hid (F0.out.quiet hXl hb)
      clear hb
      obtain ⟨hc0, hf0⟩ := G1.out.b0.all
      have hz0 := G1.out.b0.lt
      unfold ncz at hc0
      have hq10 := G1.out.b0.lt
      have G2 := Lib.hid (G1.out.node hXl [.int .i64 19, .string ⟨#[]⟩, .int .u64 0, .int .i64 0, .bool false, .int .i64 0, .int .i64 0, .int .i64 0, .int .i64 0, .int .i64 ((ln ts s : Nat) : Int), .slice none 0 0])
      go_wp2_with fail
      refine (HNM.out _ G2.out.rd).mono ?_
      rintro e v2 ⟨rfl, hr, hs⟩
      clear hc0 hf0 hz0
      have G3 := Lib.hid (G2.out.call hr hs)
      clear hr hs
      obtain ⟨hc0, hf0⟩ := G3.out.b0.all
      have hz0 := G3.out.b0.lt
      obtain ⟨hc1, hf1⟩ := G3.out.b1.all
      have hz1 := G3.out.b1.lt
      unfold ncz at hc1
      have G4 := Lib.hid (G3.out.set0 hXl 1 (.string (str (nmV ts s))) [.int .i64 19, .string (str (nmV ts s)), .int .u64 0, .int .i64 0, .bool false, .int .i64 0, .int .i64 0, .int .i64 0, .int .i64 0, .int .i64 ((ln ts s : Nat) : Int), .slice none 0 0] rfl)
      go_wp2_with fail
      refine (HNX.out _ G4.out.rd).mono ?_
      rintro e v3 ⟨rfl, hb⟩
      clear hc0 hf0 hz0 hc1 hf1 hz1
      have G5 := Lib.hid (G4.out.quiet hXl hb)
      clear hb
      obtain ⟨hc0, hf0⟩ := G5.out.b0.all
      have hz0 := G5.out.b0.lt
      obtain ⟨hc1, hf1⟩ := G5.out.b1.all
      have hz1 := G5.out.b1.lt
      unfold ncz at hc1
      go_wp2_with fail
      refine (HSK.out _ G5.out.rd).mono ?_
      rintro e v4 ⟨rfl, hr, hs⟩
      clear hc0 hf0 hz0 hc1 hf1 hz1
      have G6 := Lib.hid (G5.out.call hr hs)
      clear hr hs
      obtain ⟨hc0, hf0⟩ := G6.out.b0.all
      have hz0 := G6.out.b0.lt
      obtain ⟨hc1, hf1⟩ := G6.out.b1.all
      have hz1 := G6.out.b1.lt
      unfold ncz at hc1
      have G7 := Lib.hid (G6.out.set0 hXl 0 (.int .i64 20) [.int .i64 20, .string (str (nmV ts s)), .int .u64 0, .int .i64 0, .bool false, .int .i64 0, .int .i64 0, .int .i64 0, .int .i64 0, .int .i64 ((ln ts s : Nat) : Int), .slice none 0 0] rfl)
      go_wp2_with fail
      refine (HEX.out _ G7.out.rd).mono ?_
      rintro e v5 ⟨l1, x1, n1, k1, rfl, hT, hr, hs⟩
      clear hc0 hf0 hz0 hc1 hf1 hz1
      have G8 := Lib.hid (G7.out.tree hT hr hs)
      clear hT hr hs
      obtain ⟨hc0, hf0⟩ := G8.out.b0.all
      have hz0 := G8.out.b0.lt
      obtain ⟨hc1, hf1⟩ := G8.out.b1.all
      have hz1 := G8.out.b1.lt
      unfold ncz at hc1
      have G9 := Lib.hid (G8.out.set0 hXl 10 (.slice (some ⟨v5.heap.size, 0, none⟩) 1 1) [.int .i64 20, .string (str (nmV ts s)), .int .u64 0, .int .i64 0, .bool false, .int .i64 0, .int .i64 0, .int .i64 0, .int .i64 0, .int .i64 ((ln ts s : Nat) : Int), .slice (some ⟨v5.heap.size, 0, none⟩) 1 1] rfl)
      have G10 := Lib.hid (G9.out.kidz1 hXl v5.heap.size (by simp only [size_setCell, stor11_size]) (List.Mem.head _) { labK 20 (ln ts s) with name := nmV ts s })
      go_wp2_with fail
      refine (HBR.out _ _ G10.out.rd).mono ?_
      rintro e v6 ⟨rfl, hr, hs⟩
      clear hc0 hf0 hz0 hc1 hf1 hz1
      have G11 := Lib.hid (G10.out.call hr hs)
      clear hr hs
      obtain ⟨hc0, hf0⟩ := G11.out.b0.all
      have hz0 := G11.out.b0.lt
      obtain ⟨hc1, hf1⟩ := G11.out.b1.all
      have hz1 := G11.out.b1.lt
      unfold ncz at hc1
      go_wp2
      have G12 := Lib.hid (G11.out.stoR hXl (List.Mem.tail _ (List.Mem.head _)) rfl (.int .i64 20) (.string (str (nmV ts s))) (.int .u64 0) (.int .i64 0) (.bool false) (.int .i64 0) (.int .i64 0) (.int .i64 0) (.int .i64 0) (.int .i64 ((ln ts s : Nat) : Int)) (.slice (some ⟨v5.heap.size, 0, none⟩) 1 1))
      refine bodyPost_ret (G12.out.b0.res1 Tryz.results207 Tryz.underlying28 rfl infoNd _ rfl) rfl ?_
      exact G12.out.outT (rfl)
    | false =>
      have HE : Hid (E ts (f + 1) .us s = (.node { labK 19 (ln ts s) with name := nmV ts s } [], nmS ts s)) := Lib.hid (by rw [E, if_neg (by simp [h1]), if_neg (by simp [h2])])
      rw [HE.out]
      rw [h2] at HSK
      clear HE H hR HL h1 h2 hrn
      go_enter Tryz.func207, Tryz.ntmps207
      go_wp2_with fail
      refine (HN.out _ F0.out.rd).mono ?_
      rintro e v1 ⟨rfl, hb⟩
      have G1 := Lib.hid (F0.out.quiet hXl hb)
      clear hb
      obtain ⟨hc0, hf0⟩ := G1.out.b0.all
      have hz0 := G1.out.b0.lt
      unfold ncz at hc0
      have hq10 := G1.out.b0.lt
      have G2 := Lib.hid (G1.out.node hXl [.int .i64 19, .string ⟨#[]⟩, .int .u64 0, .int .i64 0, .bool false, .int .i64 0, .int .i64 0, .int .i64 0, .int .i64 0, .int .i64 ((ln ts s : Nat) : Int), .slice none 0 0])
      go_wp2_with fail
      refine (HNM.out _ G2.out.rd).mono ?_
      rintro e v2 ⟨rfl, hr, hs⟩
      clear hc0 hf0 hz0
      have G3 := Lib.hid (G2.out.call hr hs)
      clear hr hs
      obtain ⟨hc0, hf0⟩ := G3.out.b0.all
      have hz0 := G3.out.b0.lt
      obtain ⟨hc1, hf1⟩ := G3.out.b1.all
      have hz1 := G3.out.b1.lt
      unfold ncz at hc1
      have G4 := Lib.hid (G3.out.set0 hXl 1 (.string (str (nmV ts s))) [.int .i64 19, .string (str (nmV ts s)), .int .u64 0, .int .i64 0, .bool false, .int .i64 0, .int .i64 0, .int .i64 0, .int .i64 0, .int .i64 ((ln ts s : Nat) : Int), .slice none 0 0] rfl)
      go_wp2_with fail
      refine (HNX.out _ G4.out.rd).mono ?_
      rintro e v3 ⟨rfl, hb⟩
      clear hc0 hf0 hz0 hc1 hf1 hz1
      have G5 := Lib.hid (G4.out.quiet hXl hb)
      clear hb
      obtain ⟨hc0, hf0⟩ := G5.out.b0.all
      have hz0 := G5.out.b0.lt
      obtain ⟨hc1, hf1⟩ := G5.out.b1.all
      have hz1 := G5.out.b1.lt
      unfold ncz at hc1
      go_wp2_with fail
      refine (HSK.out _ G5.out.rd).mono ?_
      rintro e v4 ⟨rfl, hr, hs⟩
      clear hc0 hf0 hz0 hc1 hf1 hz1
      have G6 := Lib.hid (G5.out.call hr hs)
      clear hr hs
      obtain ⟨hc0, hf0⟩ := G6.out.b0.all
      have hz0 := G6.out.b0.lt
      obtain ⟨hc1, hf1⟩ := G6.out.b1.all
      have hz1 := G6.out.b1.lt
      unfold ncz at hc1
      have G7 := Lib.hid (G6.out.leaf { labK 19 (ln ts s) with name := nmV ts s })
      go_wp2
      have G8 := Lib.hid (G7.out.stoR hXl (List.Mem.tail _ (List.Mem.head _)) rfl (.int .i64 19) (.string (str (nmV ts s))) (.int .u64 0) (.int .i64 0) (.bool false) (.int .i64 0) (.int .i64 0) (.int .i64 0) (.int .i64 0) (.int .i64 ((ln ts s : Nat) : Int)) (.slice none 0 0))
      refine bodyPost_ret (G8.out.b0.res1 Tryz.results207 Tryz.underlying28 rfl infoNd _ rfl) rfl ?_
      exact G8.out.outT (rfl)
end Go.Proofs.YtfnhogeocbndcaaGreatDoor
/- The rule primary: contract. -/
namespace Go.Proofs.YtfnhogeocbndcaaGreatDoor
open Go Go.RowKit
set_option linter.unusedVariables false
set_option linter.unusedSimpArgs false

set_option maxHeartbeats 2000000 in
set_option maxRecDepth 100000 in
theorem primary_step {ts : List Tok} {R g c : Nat} (X : Ctx ts R g c) (f : Nat) (H : EC ts R g c f) (s : Sg) (w : World) (hR : Rd w R g c ts s) (hf : 32 * rem ts s + 8 ≤ f + 1) : Calls Tryz.prog 204 #[.pointer (some ⟨R, 0, none⟩)] w (TP w R g c ts (E ts (f + 1) .pr s)) := by
  have hXl := X.lt
  have F0 := Lib.hid ((Fr.start hR).node hXl ncz)
  have HN := Lib.hid fun W (h : Rd W R g c ts s) => node_any X 18 W h
  have HNX := Lib.hid fun W (h : Rd W R g c ts s) => next_any X W h
  have HV : Hid (tkv (nxt ts s) = .agg #[.int .i64 (kd ts s : Int), .string (str (tx ts s)), .int .u64 ((nxt ts s).num : Int), .int .i64 ((nxt ts s).pos : Int), .int .i64 ((nxt ts s).line : Int)]) := Lib.hid rfl
  rw [HV.out] at HNX
  have HSA := Lib.hid fun W (h : Rd W R g c ts s) => skip_any' X [116, 114, 117, 101] (by simp) W h
  have HSB := Lib.hid fun W (h : Rd W R g c ts s) => skip_any' X [102, 97, 108, 115, 101] (by simp) W h
  have HSC := Lib.hid fun W (h : Rd W R g c ts s) => skip_any' X [114, 101, 99, 118] (by simp) W h
  have HSD := Lib.hid fun W (h : Rd W R g c ts s) => skip_any' X [40] (by simp) W h
  have HEO := Lib.hid fun q W (h : Rd W R g c ts q) => expect_any X (s := q) [40] (by simp) W h
  have HES := Lib.hid fun q W (h : Rd W R g c ts q) => expect_any X (s := q) [41] (by simp) W h
  have HNM := Lib.hid fun q W (h : Rd W R g c ts q) => name_any X (s := q) W h
  have HUS := Lib.hid fun W (h : Rd W R g c ts s) => H.us s W h (by omega)
  have hlen := X.len
  unfold skp at HSA HSB HSC HSD
  have HL : Hid (nc (labK 18 (ln ts s)) = [.int .i64 18, .string ⟨#[]⟩, .int .u64 0, .int .i64 0, .bool false, .int .i64 0, .int .i64 0, .int .i64 0, .int .i64 0, .int .i64 ((ln ts s : Nat) : Int), .slice none 0 0]) := Lib.hid rfl
  rw [HL.out] at HN
  clear HV HL
  by_cases h3 : kd ts s = 3
  · have hin := kd_in h3 (by decide)
    have HE : Hid (E ts (f + 1) .pr s = (.node { labK 18 (ln ts s) with num := (nxt ts s).num } [], adv s)) := Lib.hid (by rw [E, if_pos h3])
    rw [HE.out]
    rw [h3] at HNX
    have hat : atOf ts s = s.i := by unfold atOf; rw [hin.1]; rfl
    have HT := Lib.hid hat
    have HIN := Lib.hid hin
    have hil : s.i < 65536 := by omega
    clear HE H hR h3 hin hat HSA HSB HSC HSD HEO HES HNM HUS hf
    go_enter Tryz.func204, Tryz.ntmps204
    go_wp2_with fail
    refine (HN.out _ F0.out.rd).mono ?_
    rintro e v1 ⟨rfl, hb⟩
    have G1 := Lib.hid (F0.out.quiet hXl hb)
    clear hb
    obtain ⟨hc0, hf0⟩ := G1.out.b0.all
    have hz0 := G1.out.b0.lt
    unfold ncz at hc0
    have hq10 := G1.out.b0.lt
    have G2 := Lib.hid (G1.out.node hXl [.int .i64 18, .string ⟨#[]⟩, .int .u64 0, .int .i64 0, .bool false, .int .i64 0, .int .i64 0, .int .i64 0, .int .i64 0, .int .i64 ((ln ts s : Nat) : Int), .slice none 0 0])
    go_wp2_with fail
    refine (HNX.out _ G2.out.rd).mono ?_
    rintro e v2 ⟨rfl, hb⟩
    clear hc0 hf0 hz0
    have G3 := Lib.hid (G2.out.quiet hXl hb)
    clear hb
    obtain ⟨hc0, hf0⟩ := G3.out.b0.all
    have hz0 := G3.out.b0.lt
    obtain ⟨hc1, hf1⟩ := G3.out.b1.all
    have hz1 := G3.out.b1.lt
    unfold ncz at hc1
    obtain ⟨c0, c1, c2, f1, f2⟩ := G3.out.rd.cells
    rw [HT.out] at c1
    have hzR := G3.out.rd.lt
    clear c0 c2 f2
    have hRn0 := (G3.out.bl _ _ (List.Mem.head _)).2
    have hRn1 := (G3.out.bl _ _ (List.Mem.tail _ (List.Mem.head _))).2
    have hRw := G3.out.hR
    have G4 := Lib.hid (G3.out.advR hXl HIN.out (v := (s.i : Int) + 1) rfl)
    have G5 := Lib.hid (G4.out.set0 hXl 2 (.int .u64 ((nxt ts s).num : Int)) [.int .i64 18, .string ⟨#[]⟩, .int .u64 ((nxt ts s).num : Int), .int .i64 0, .bool false, .int .i64 0, .int .i64 0, .int .i64 0, .int .i64 0, .int .i64 ((ln ts s : Nat) : Int), .slice none 0 0] rfl)
    have G6 := Lib.hid (G5.out.leaf { labK 18 (ln ts s) with num := (nxt ts s).num })
    go_wp2
    have G7 := Lib.hid (G6.out.stoR hXl (List.Mem.tail _ (List.Mem.head _)) rfl (.int .i64 18) (.string ⟨#[]⟩) (.int .u64 ((nxt ts s).num : Int)) (.int .i64 0) (.bool false) (.int .i64 0) (.int .i64 0) (.int .i64 0) (.int .i64 0) (.int .i64 ((ln ts s : Nat) : Int)) (.slice none 0 0))
    have G8 := Lib.hid (G7.out.alloc hXl (.cells #[.int .i64 3, .string (str (tx ts s)), .int .u64 ((nxt ts s).num : Int), .int .i64 ((nxt ts s).pos : Int), .int .i64 ((nxt ts s).line : Int)] 53))
    refine bodyPost_ret (G8.out.b0.res1 Tryz.results204 Tryz.underlying28 rfl infoNd _ rfl) rfl ?_
    exact G8.out.outT (rfl)
  · have qk : ((kd ts s : Int) == 3) = false := by simp; omega
    cases g0 : hasT ts s [116, 114, 117, 101] with
    | true =>
      have hin := hasT_in g0
      have hra := rem_adv hin
      have HE : Hid (E ts (f + 1) .pr s = (.node { labK 18 (ln ts s) with num := 1, wd := 1 } [], adv s)) := Lib.hid (by rw [E, if_neg h3, if_pos g0])
      rw [HE.out]
      rw [g0] at HSA
      clear HE H hR hin hra h3 hf hlen g0
      go_enter Tryz.func204, Tryz.ntmps204
      go_wp2_with fail
      refine (HN.out _ F0.out.rd).mono ?_
      rintro e v1 ⟨rfl, hb⟩
      have G1 := Lib.hid (F0.out.quiet hXl hb)
      clear hb
      obtain ⟨hc0, hf0⟩ := G1.out.b0.all
      have hz0 := G1.out.b0.lt
      unfold ncz at hc0
      have hq10 := G1.out.b0.lt
      have G2 := Lib.hid (G1.out.node hXl [.int .i64 18, .string ⟨#[]⟩, .int .u64 0, .int .i64 0, .bool false, .int .i64 0, .int .i64 0, .int .i64 0, .int .i64 0, .int .i64 ((ln ts s : Nat) : Int), .slice none 0 0])
      go_wp2_with fail
      refine (HNX.out _ G2.out.rd).mono ?_
      rintro e v2 ⟨rfl, hb⟩
      clear hc0 hf0 hz0
      have G3 := Lib.hid (G2.out.quiet hXl hb)
      clear hb
      obtain ⟨hc0, hf0⟩ := G3.out.b0.all
      have hz0 := G3.out.b0.lt
      obtain ⟨hc1, hf1⟩ := G3.out.b1.all
      have hz1 := G3.out.b1.lt
      unfold ncz at hc1
      have G4 := Lib.hid (G3.out.alloc hXl (.cells #[.int .i64 (kd ts s : Int), .string (str (tx ts s)), .int .u64 ((nxt ts s).num : Int), .int .i64 ((nxt ts s).pos : Int), .int .i64 ((nxt ts s).line : Int)] 53))
      go_wp2_with fail
      refine (HSA.out _ G4.out.rd).mono ?_
      rintro e v3 ⟨rfl, hr, hs⟩
      clear hc0 hf0 hz0 hc1 hf1 hz1
      have G5 := Lib.hid (G4.out.call hr hs)
      clear hr hs
      obtain ⟨hc0, hf0⟩ := G5.out.b0.all
      have hz0 := G5.out.b0.lt
      obtain ⟨hc1, hf1⟩ := G5.out.b1.all
      have hz1 := G5.out.b1.lt
      unfold ncz at hc1
      have G6 := Lib.hid (G5.out.set0 hXl 2 (.int .u64 1) [.int .i64 18, .string ⟨#[]⟩, .int .u64 1, .int .i64 0, .bool false, .int .i64 0, .int .i64 0, .int .i64 0, .int .i64 0, .int .i64 ((ln ts s : Nat) : Int), .slice none 0 0] rfl)
      have G7 := Lib.hid (G6.out.set0 hXl 3 (.int .i64 1) [.int .i64 18, .string ⟨#[]⟩, .int .u64 1, .int .i64 1, .bool false, .int .i64 0, .int .i64 0, .int .i64 0, .int .i64 0, .int .i64 ((ln ts s : Nat) : Int), .slice none 0 0] rfl)
      have G8 := Lib.hid (G7.out.set0 hXl 4 (.bool false) [.int .i64 18, .string ⟨#[]⟩, .int .u64 1, .int .i64 1, .bool false, .int .i64 0, .int .i64 0, .int .i64 0, .int .i64 0, .int .i64 ((ln ts s : Nat) : Int), .slice none 0 0] rfl)
      have G9 := Lib.hid (G8.out.leaf { labK 18 (ln ts s) with num := 1, wd := 1 })
      go_wp2
      have G10 := Lib.hid (G9.out.stoR hXl (List.Mem.tail _ (List.Mem.head _)) rfl (.int .i64 18) (.string ⟨#[]⟩) (.int .u64 1) (.int .i64 1) (.bool false) (.int .i64 0) (.int .i64 0) (.int .i64 0) (.int .i64 0) (.int .i64 ((ln ts s : Nat) : Int)) (.slice none 0 0))
      refine bodyPost_ret (G10.out.b0.res1 Tryz.results204 Tryz.underlying28 rfl infoNd _ rfl) rfl ?_
      exact G10.out.outT (rfl)
    | false =>
      rw [g0] at HSA
      cases g1 : hasT ts s [102, 97, 108, 115, 101] with
      | true =>
        have hin := hasT_in g1
        have hra := rem_adv hin
        have HE : Hid (E ts (f + 1) .pr s = (.node { labK 18 (ln ts s) with wd := 1 } [], adv s)) := Lib.hid (by rw [E, if_neg h3, if_neg (by simp [g0]), if_pos g1])
        rw [HE.out]
        rw [g1] at HSB
        clear HE H hR hin hra h3 hf hlen g0 g1
        go_enter Tryz.func204, Tryz.ntmps204
        go_wp2_with fail
        refine (HN.out _ F0.out.rd).mono ?_
        rintro e v1 ⟨rfl, hb⟩
        have G1 := Lib.hid (F0.out.quiet hXl hb)
        clear hb
        obtain ⟨hc0, hf0⟩ := G1.out.b0.all
        have hz0 := G1.out.b0.lt
        unfold ncz at hc0
        have hq10 := G1.out.b0.lt
        have G2 := Lib.hid (G1.out.node hXl [.int .i64 18, .string ⟨#[]⟩, .int .u64 0, .int .i64 0, .bool false, .int .i64 0, .int .i64 0, .int .i64 0, .int .i64 0, .int .i64 ((ln ts s : Nat) : Int), .slice none 0 0])
        go_wp2_with fail
        refine (HNX.out _ G2.out.rd).mono ?_
        rintro e v2 ⟨rfl, hb⟩
        clear hc0 hf0 hz0
        have G3 := Lib.hid (G2.out.quiet hXl hb)
        clear hb
        obtain ⟨hc0, hf0⟩ := G3.out.b0.all
        have hz0 := G3.out.b0.lt
        obtain ⟨hc1, hf1⟩ := G3.out.b1.all
        have hz1 := G3.out.b1.lt
        unfold ncz at hc1
        have G4 := Lib.hid (G3.out.alloc hXl (.cells #[.int .i64 (kd ts s : Int), .string (str (tx ts s)), .int .u64 ((nxt ts s).num : Int), .int .i64 ((nxt ts s).pos : Int), .int .i64 ((nxt ts s).line : Int)] 53))
        go_wp2_with fail
        refine (HSA.out _ G4.out.rd).mono ?_
        rintro e v3 ⟨rfl, hr, hs⟩
        clear hc0 hf0 hz0 hc1 hf1 hz1
        have G5 := Lib.hid (G4.out.call hr hs)
        clear hr hs
        obtain ⟨hc0, hf0⟩ := G5.out.b0.all
        have hz0 := G5.out.b0.lt
        obtain ⟨hc1, hf1⟩ := G5.out.b1.all
        have hz1 := G5.out.b1.lt
        unfold ncz at hc1
        go_wp2_with fail
        refine (HSB.out _ G5.out.rd).mono ?_
        rintro e v4 ⟨rfl, hr, hs⟩
        clear hc0 hf0 hz0 hc1 hf1 hz1
        have G6 := Lib.hid (G5.out.call hr hs)
        clear hr hs
        obtain ⟨hc0, hf0⟩ := G6.out.b0.all
        have hz0 := G6.out.b0.lt
        obtain ⟨hc1, hf1⟩ := G6.out.b1.all
        have hz1 := G6.out.b1.lt
        unfold ncz at hc1
        have G7 := Lib.hid (G6.out.set0 hXl 3 (.int .i64 1) [.int .i64 18, .string ⟨#[]⟩, .int .u64 0, .int .i64 1, .bool false, .int .i64 0, .int .i64 0, .int .i64 0, .int .i64 0, .int .i64 ((ln ts s : Nat) : Int), .slice none 0 0] rfl)
        have G8 := Lib.hid (G7.out.set0 hXl 4 (.bool false) [.int .i64 18, .string ⟨#[]⟩, .int .u64 0, .int .i64 1, .bool false, .int .i64 0, .int .i64 0, .int .i64 0, .int .i64 0, .int .i64 ((ln ts s : Nat) : Int), .slice none 0 0] rfl)
        have G9 := Lib.hid (G8.out.leaf { labK 18 (ln ts s) with wd := 1 })
        go_wp2
        have G10 := Lib.hid (G9.out.stoR hXl (List.Mem.tail _ (List.Mem.head _)) rfl (.int .i64 18) (.string ⟨#[]⟩) (.int .u64 0) (.int .i64 1) (.bool false) (.int .i64 0) (.int .i64 0) (.int .i64 0) (.int .i64 0) (.int .i64 ((ln ts s : Nat) : Int)) (.slice none 0 0))
        refine bodyPost_ret (G10.out.b0.res1 Tryz.results204 Tryz.underlying28 rfl infoNd _ rfl) rfl ?_
        exact G10.out.outT (rfl)
      | false =>
        rw [g1] at HSB
        cases g2 : hasT ts s [114, 101, 99, 118] with
        | true =>
          have hin := hasT_in g2
          have hra := rem_adv hin
          have HE : Hid (E ts (f + 1) .pr s = (.node { labK 26 (ln ts s) with name := nmV ts (exc ts (adv s) [40]) } [], exc ts (nmS ts (exc ts (adv s) [40])) [41])) := Lib.hid (by rw [E, if_neg h3, if_neg (by simp [g0]), if_neg (by simp [g1]), if_pos g2])
          rw [HE.out]
          rw [g2] at HSC
          clear HE H hR hin hra h3 hf hlen g0 g1 g2
          go_enter Tryz.func204, Tryz.ntmps204
          go_wp2_with fail
          refine (HN.out _ F0.out.rd).mono ?_
          rintro e v1 ⟨rfl, hb⟩
          have G1 := Lib.hid (F0.out.quiet hXl hb)
          clear hb
          obtain ⟨hc0, hf0⟩ := G1.out.b0.all
          have hz0 := G1.out.b0.lt
          unfold ncz at hc0
          have hq10 := G1.out.b0.lt
          have G2 := Lib.hid (G1.out.node hXl [.int .i64 18, .string ⟨#[]⟩, .int .u64 0, .int .i64 0, .bool false, .int .i64 0, .int .i64 0, .int .i64 0, .int .i64 0, .int .i64 ((ln ts s : Nat) : Int), .slice none 0 0])
          go_wp2_with fail
          refine (HNX.out _ G2.out.rd).mono ?_
          rintro e v2 ⟨rfl, hb⟩
          clear hc0 hf0 hz0
          have G3 := Lib.hid (G2.out.quiet hXl hb)
          clear hb
          obtain ⟨hc0, hf0⟩ := G3.out.b0.all
          have hz0 := G3.out.b0.lt
          obtain ⟨hc1, hf1⟩ := G3.out.b1.all
          have hz1 := G3.out.b1.lt
          unfold ncz at hc1
          have G4 := Lib.hid (G3.out.alloc hXl (.cells #[.int .i64 (kd ts s : Int), .string (str (tx ts s)), .int .u64 ((nxt ts s).num : Int), .int .i64 ((nxt ts s).pos : Int), .int .i64 ((nxt ts s).line : Int)] 53))
          go_wp2_with fail
          refine (HSA.out _ G4.out.rd).mono ?_
          rintro e v3 ⟨rfl, hr, hs⟩
          clear hc0 hf0 hz0 hc1 hf1 hz1
          have G5 := Lib.hid (G4.out.call hr hs)
          clear hr hs
          obtain ⟨hc0, hf0⟩ := G5.out.b0.all
          have hz0 := G5.out.b0.lt
          obtain ⟨hc1, hf1⟩ := G5.out.b1.all
          have hz1 := G5.out.b1.lt
          unfold ncz at hc1
          go_wp2_with fail
          refine (HSB.out _ G5.out.rd).mono ?_
          rintro e v4 ⟨rfl, hr, hs⟩
          clear hc0 hf0 hz0 hc1 hf1 hz1
          have G6 := Lib.hid (G5.out.call hr hs)
          clear hr hs
          obtain ⟨hc0, hf0⟩ := G6.out.b0.all
          have hz0 := G6.out.b0.lt
          obtain ⟨hc1, hf1⟩ := G6.out.b1.all
          have hz1 := G6.out.b1.lt
          unfold ncz at hc1
          go_wp2_with fail
          refine (HSC.out _ G6.out.rd).mono ?_
          rintro e v5 ⟨rfl, hr, hs⟩
          clear hc0 hf0 hz0 hc1 hf1 hz1
          have G7 := Lib.hid (G6.out.call hr hs)
          clear hr hs
          obtain ⟨hc0, hf0⟩ := G7.out.b0.all
          have hz0 := G7.out.b0.lt
          obtain ⟨hc1, hf1⟩ := G7.out.b1.all
          have hz1 := G7.out.b1.lt
          unfold ncz at hc1
          have G8 := Lib.hid (G7.out.set0 hXl 0 (.int .i64 26) [.int .i64 26, .string ⟨#[]⟩, .int .u64 0, .int .i64 0, .bool false, .int .i64 0, .int .i64 0, .int .i64 0, .int .i64 0, .int .i64 ((ln ts s : Nat) : Int), .slice none 0 0] rfl)
          go_wp2_with fail
          refine (HEO.out _ _ G8.out.rd).mono ?_
          rintro e v6 ⟨rfl, hr, hs⟩
          clear hc0 hf0 hz0 hc1 hf1 hz1
          have G9 := Lib.hid (G8.out.call hr hs)
          clear hr hs
          obtain ⟨hc0, hf0⟩ := G9.out.b0.all
          have hz0 := G9.out.b0.lt
          obtain ⟨hc1, hf1⟩ := G9.out.b1.all
          have hz1 := G9.out.b1.lt
          unfold ncz at hc1
          go_wp2_with fail
          refine (HNM.out _ _ G9.out.rd).mono ?_
          rintro e v7 ⟨rfl, hr, hs⟩
          clear hc0 hf0 hz0 hc1 hf1 hz1
          have G10 := Lib.hid (G9.out.call hr hs)
          clear hr hs
          obtain ⟨hc0, hf0⟩ := G10.out.b0.all
          have hz0 := G10.out.b0.lt
          obtain ⟨hc1, hf1⟩ := G10.out.b1.all
          have hz1 := G10.out.b1.lt
          unfold ncz at hc1
          have G11 := Lib.hid (G10.out.set0 hXl 1 (.string (str (nmV ts (exc ts (adv s) [40])))) [.int .i64 26, .string (str (nmV ts (exc ts (adv s) [40]))), .int .u64 0, .int .i64 0, .bool false, .int .i64 0, .int .i64 0, .int .i64 0, .int .i64 0, .int .i64 ((ln ts s : Nat) : Int), .slice none 0 0] rfl)
          go_wp2_with fail
          refine (HES.out _ _ G11.out.rd).mono ?_
          rintro e v8 ⟨rfl, hr, hs⟩
          clear hc0 hf0 hz0 hc1 hf1 hz1
          have G12 := Lib.hid (G11.out.call hr hs)
          clear hr hs
          obtain ⟨hc0, hf0⟩ := G12.out.b0.all
          have hz0 := G12.out.b0.lt
          obtain ⟨hc1, hf1⟩ := G12.out.b1.all
          have hz1 := G12.out.b1.lt
          unfold ncz at hc1
          have G13 := Lib.hid (G12.out.leaf { labK 26 (ln ts s) with name := nmV ts (exc ts (adv s) [40]) })
          go_wp2
          have G14 := Lib.hid (G13.out.stoR hXl (List.Mem.tail _ (List.Mem.head _)) rfl (.int .i64 26) (.string (str (nmV ts (exc ts (adv s) [40])))) (.int .u64 0) (.int .i64 0) (.bool false) (.int .i64 0) (.int .i64 0) (.int .i64 0) (.int .i64 0) (.int .i64 ((ln ts s : Nat) : Int)) (.slice none 0 0))
          refine bodyPost_ret (G14.out.b0.res1 Tryz.results204 Tryz.underlying28 rfl infoNd _ rfl) rfl ?_
          exact G14.out.outT (rfl)
        | false =>
          rw [g2] at HSC
          cases g3 : hasT ts s [40] with
          | true =>
            have hin := hasT_in g3
            have hra := rem_adv hin
            have HE : Hid (E ts (f + 1) .pr s = ((E ts f .ex (adv s)).1, exc ts (E ts f .ex (adv s)).2 [41])) := Lib.hid (by rw [E, if_neg h3, if_neg (by simp [g0]), if_neg (by simp [g1]), if_neg (by simp [g2]), if_pos g3])
            rw [HE.out]
            rw [g3] at HSD
            have HEX := Lib.hid fun W (h : Rd W R g c ts (adv s)) => H.ex _ W h (by omega)
            clear HE H hR hin hra h3 hf hlen g0 g1 g2 g3
            go_enter Tryz.func204, Tryz.ntmps204
            go_wp2_with fail
            refine (HN.out _ F0.out.rd).mono ?_
            rintro e v1 ⟨rfl, hb⟩
            have G1 := Lib.hid (F0.out.quiet hXl hb)
            clear hb
            obtain ⟨hc0, hf0⟩ := G1.out.b0.all
            have hz0 := G1.out.b0.lt
            unfold ncz at hc0
            have hq10 := G1.out.b0.lt
            have G2 := Lib.hid (G1.out.node hXl [.int .i64 18, .string ⟨#[]⟩, .int .u64 0, .int .i64 0, .bool false, .int .i64 0, .int .i64 0, .int .i64 0, .int .i64 0, .int .i64 ((ln ts s : Nat) : Int), .slice none 0 0])
            go_wp2_with fail
            refine (HNX.out _ G2.out.rd).mono ?_
            rintro e v2 ⟨rfl, hb⟩
            clear hc0 hf0 hz0
            have G3 := Lib.hid (G2.out.quiet hXl hb)
            clear hb
            obtain ⟨hc0, hf0⟩ := G3.out.b0.all
            have hz0 := G3.out.b0.lt
            obtain ⟨hc1, hf1⟩ := G3.out.b1.all
            have hz1 := G3.out.b1.lt
            unfold ncz at hc1
            have G4 := Lib.hid (G3.out.alloc hXl (.cells #[.int .i64 (kd ts s : Int), .string (str (tx ts s)), .int .u64 ((nxt ts s).num : Int), .int .i64 ((nxt ts s).pos : Int), .int .i64 ((nxt ts s).line : Int)] 53))
            go_wp2_with fail
            refine (HSA.out _ G4.out.rd).mono ?_
            rintro e v3 ⟨rfl, hr, hs⟩
            clear hc0 hf0 hz0 hc1 hf1 hz1
            have G5 := Lib.hid (G4.out.call hr hs)
            clear hr hs
            obtain ⟨hc0, hf0⟩ := G5.out.b0.all
            have hz0 := G5.out.b0.lt
            obtain ⟨hc1, hf1⟩ := G5.out.b1.all
            have hz1 := G5.out.b1.lt
            unfold ncz at hc1
            go_wp2_with fail
            refine (HSB.out _ G5.out.rd).mono ?_
            rintro e v4 ⟨rfl, hr, hs⟩
            clear hc0 hf0 hz0 hc1 hf1 hz1
            have G6 := Lib.hid (G5.out.call hr hs)
            clear hr hs
            obtain ⟨hc0, hf0⟩ := G6.out.b0.all
            have hz0 := G6.out.b0.lt
            obtain ⟨hc1, hf1⟩ := G6.out.b1.all
            have hz1 := G6.out.b1.lt
            unfold ncz at hc1
            go_wp2_with fail
            refine (HSC.out _ G6.out.rd).mono ?_
            rintro e v5 ⟨rfl, hr, hs⟩
            clear hc0 hf0 hz0 hc1 hf1 hz1
            have G7 := Lib.hid (G6.out.call hr hs)
            clear hr hs
            obtain ⟨hc0, hf0⟩ := G7.out.b0.all
            have hz0 := G7.out.b0.lt
            obtain ⟨hc1, hf1⟩ := G7.out.b1.all
            have hz1 := G7.out.b1.lt
            unfold ncz at hc1
            go_wp2_with fail
            refine (HSD.out _ G7.out.rd).mono ?_
            rintro e v6 ⟨rfl, hr, hs⟩
            clear hc0 hf0 hz0 hc1 hf1 hz1
            have G8 := Lib.hid (G7.out.call hr hs)
            clear hr hs
            obtain ⟨hc0, hf0⟩ := G8.out.b0.all
            have hz0 := G8.out.b0.lt
            obtain ⟨hc1, hf1⟩ := G8.out.b1.all
            have hz1 := G8.out.b1.lt
            unfold ncz at hc1
            go_wp2_with fail
            refine (HEX.out _ G8.out.rd).mono ?_
            rintro e v7 ⟨l1, x1, n1, k1, rfl, hT, hr, hs⟩
            clear hc0 hf0 hz0 hc1 hf1 hz1
            have G9 := Lib.hid (G8.out.tree hT hr hs)
            clear hT hr hs
            obtain ⟨hc0, hf0⟩ := G9.out.b0.all
            have hz0 := G9.out.b0.lt
            obtain ⟨hc1, hf1⟩ := G9.out.b1.all
            have hz1 := G9.out.b1.lt
            unfold ncz at hc1
            have hq70 := G9.out.b0.lt
            have hq71 := G9.out.b1.lt
            have G10 := Lib.hid (G9.out.node hXl [.int .i64 l1.kind, .string (str l1.name), .int .u64 l1.num, .int .i64 l1.wd, .bool l1.sg, .int .i64 l1.op, .int .i64 l1.fac, .int .i64 l1.pip, .int .i64 l1.unr, .int .i64 l1.line, .slice x1 n1 k1])
            go_wp2_with fail
            refine (HES.out _ _ G10.out.rd).mono ?_
            rintro e v8 ⟨rfl, hr, hs⟩
            clear hc0 hf0 hz0 hc1 hf1 hz1
            have G11 := Lib.hid (G10.out.call hr hs)
            clear hr hs
            obtain ⟨hc0, hf0⟩ := G11.out.b0.all
            have hz0 := G11.out.b0.lt
            obtain ⟨hc1, hf1⟩ := G11.out.b1.all
            have hz1 := G11.out.b1.lt
            obtain ⟨hc2, hf2⟩ := G11.out.b2.all
            have hz2 := G11.out.b2.lt
            unfold ncz at hc2
            go_wp2
            have G12 := Lib.hid (G11.out.stoR hXl (List.Mem.tail _ (List.Mem.tail _ (List.Mem.head _))) rfl (.int .i64 l1.kind) (.string (str l1.name)) (.int .u64 l1.num) (.int .i64 l1.wd) (.bool l1.sg) (.int .i64 l1.op) (.int .i64 l1.fac) (.int .i64 l1.pip) (.int .i64 l1.unr) (.int .i64 l1.line) (.slice x1 n1 k1))
            refine bodyPost_ret (G12.out.b0.res1 Tryz.results204 Tryz.underlying28 rfl infoNd _ rfl) rfl ?_
            exact G12.out.outT (rfl)
          | false =>
            rw [g3] at HSD
            have HE : Hid (E ts (f + 1) .pr s = E ts f .us s) := Lib.hid (by rw [E, if_neg h3, if_neg (by simp [g0]), if_neg (by simp [g1]), if_neg (by simp [g2]), if_neg (by simp [g3])])
            rw [HE.out]
            clear HE H hR h3 hf hlen g0 g1 g2 g3
            go_enter Tryz.func204, Tryz.ntmps204
            go_wp2_with fail
            refine (HN.out _ F0.out.rd).mono ?_
            rintro e v1 ⟨rfl, hb⟩
            have G1 := Lib.hid (F0.out.quiet hXl hb)
            clear hb
            obtain ⟨hc0, hf0⟩ := G1.out.b0.all
            have hz0 := G1.out.b0.lt
            unfold ncz at hc0
            have hq10 := G1.out.b0.lt
            have G2 := Lib.hid (G1.out.node hXl [.int .i64 18, .string ⟨#[]⟩, .int .u64 0, .int .i64 0, .bool false, .int .i64 0, .int .i64 0, .int .i64 0, .int .i64 0, .int .i64 ((ln ts s : Nat) : Int), .slice none 0 0])
            go_wp2_with fail
            refine (HNX.out _ G2.out.rd).mono ?_
            rintro e v2 ⟨rfl, hb⟩
            clear hc0 hf0 hz0
            have G3 := Lib.hid (G2.out.quiet hXl hb)
            clear hb
            obtain ⟨hc0, hf0⟩ := G3.out.b0.all
            have hz0 := G3.out.b0.lt
            obtain ⟨hc1, hf1⟩ := G3.out.b1.all
            have hz1 := G3.out.b1.lt
            unfold ncz at hc1
            have G4 := Lib.hid (G3.out.alloc hXl (.cells #[.int .i64 (kd ts s : Int), .string (str (tx ts s)), .int .u64 ((nxt ts s).num : Int), .int .i64 ((nxt ts s).pos : Int), .int .i64 ((nxt ts s).line : Int)] 53))
            go_wp2_with fail
            refine (HSA.out _ G4.out.rd).mono ?_
            rintro e v3 ⟨rfl, hr, hs⟩
            clear hc0 hf0 hz0 hc1 hf1 hz1
            have G5 := Lib.hid (G4.out.call hr hs)
            clear hr hs
            obtain ⟨hc0, hf0⟩ := G5.out.b0.all
            have hz0 := G5.out.b0.lt
            obtain ⟨hc1, hf1⟩ := G5.out.b1.all
            have hz1 := G5.out.b1.lt
            unfold ncz at hc1
            go_wp2_with fail
            refine (HSB.out _ G5.out.rd).mono ?_
            rintro e v4 ⟨rfl, hr, hs⟩
            clear hc0 hf0 hz0 hc1 hf1 hz1
            have G6 := Lib.hid (G5.out.call hr hs)
            clear hr hs
            obtain ⟨hc0, hf0⟩ := G6.out.b0.all
            have hz0 := G6.out.b0.lt
            obtain ⟨hc1, hf1⟩ := G6.out.b1.all
            have hz1 := G6.out.b1.lt
            unfold ncz at hc1
            go_wp2_with fail
            refine (HSC.out _ G6.out.rd).mono ?_
            rintro e v5 ⟨rfl, hr, hs⟩
            clear hc0 hf0 hz0 hc1 hf1 hz1
            have G7 := Lib.hid (G6.out.call hr hs)
            clear hr hs
            obtain ⟨hc0, hf0⟩ := G7.out.b0.all
            have hz0 := G7.out.b0.lt
            obtain ⟨hc1, hf1⟩ := G7.out.b1.all
            have hz1 := G7.out.b1.lt
            unfold ncz at hc1
            go_wp2_with fail
            refine (HSD.out _ G7.out.rd).mono ?_
            rintro e v6 ⟨rfl, hr, hs⟩
            clear hc0 hf0 hz0 hc1 hf1 hz1
            have G8 := Lib.hid (G7.out.call hr hs)
            clear hr hs
            obtain ⟨hc0, hf0⟩ := G8.out.b0.all
            have hz0 := G8.out.b0.lt
            obtain ⟨hc1, hf1⟩ := G8.out.b1.all
            have hz1 := G8.out.b1.lt
            unfold ncz at hc1
            go_wp2_with fail
            refine (HUS.out _ G8.out.rd).mono ?_
            rintro e v7 ⟨l1, x1, n1, k1, rfl, hT, hr, hs⟩
            clear hc0 hf0 hz0 hc1 hf1 hz1
            have G9 := Lib.hid (G8.out.tree hT hr hs)
            clear hT hr hs
            obtain ⟨hc0, hf0⟩ := G9.out.b0.all
            have hz0 := G9.out.b0.lt
            obtain ⟨hc1, hf1⟩ := G9.out.b1.all
            have hz1 := G9.out.b1.lt
            unfold ncz at hc1
            go_wp2
            have G10 := Lib.hid (G9.out.stoR hXl (List.Mem.tail _ (List.Mem.head _)) rfl (.int .i64 l1.kind) (.string (str l1.name)) (.int .u64 l1.num) (.int .i64 l1.wd) (.bool l1.sg) (.int .i64 l1.op) (.int .i64 l1.fac) (.int .i64 l1.pip) (.int .i64 l1.unr) (.int .i64 l1.line) (.slice x1 n1 k1))
            refine bodyPost_ret (G10.out.b0.res1 Tryz.results204 Tryz.underlying28 rfl infoNd _ rfl) rfl ?_
            exact G10.out.outT (rfl)
end Go.Proofs.YtfnhogeocbndcaaGreatDoor
