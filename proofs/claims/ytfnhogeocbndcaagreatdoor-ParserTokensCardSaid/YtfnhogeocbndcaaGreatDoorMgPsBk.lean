/- The rule block: contract. -/
import Derived.Test.YtfnhogeocbndcaaGreatDoorMgPsSm
import Derived.Deep.RegionWith
import Derived.BigQuiet
namespace Go.Proofs.YtfnhogeocbndcaaGreatDoor
open Go Go.RowKit
set_option linter.unusedVariables false
set_option linter.unusedSimpArgs false

/-- The state of the loop over statements. -/
def BkSt (ts : List Tok) (R g c : Nat) (w : World) (L0 L1 f base : Nat) (Z : List Tree × Sg) (L9 : Nat) (wr : World) (st : Sg) : Prop :=
  ∃ (x : Option Addr) (k F : Nat) (acc : List Tree), FK w wr R g c ts st [(L1, [.int .i64 8, .string ⟨#[]⟩, .int .u64 0, .int .i64 0, .bool false, .int .i64 0, .int .i64 0, .int .i64 0, .int .i64 0, .int .i64 (L9 : Int), .slice x acc.length k]), (L0, ncz)] base (.slice x acc.length k) acc ∧ Z = S ts (F + 1) (.bs acc) st ∧ 8 * rem ts st + 5 ≤ F + 1 ∧ F ≤ f ∧ acc.length + rem ts st ≤ ts.length
set_option maxHeartbeats 2000000 in
set_option maxRecDepth 100000 in
theorem block_step {ts : List Tok} {R g c : Nat} (X : Ctx ts R g c) (f : Nat) (H : ∀ f1, f1 ≤ f → SC ts R g c f1) (s : Sg) (w : World) (hR : Rd w R g c ts s) (hf : 8 * rem ts s + 6 ≤ f + 1) : Calls Tryz.prog 98 #[.pointer (some ⟨R, 0, none⟩)] w (TP w R g c ts (one (S ts (f + 1) .bk s))) := by
  have hXl := X.lt
  have F0 := Lib.hid ((Fr.start hR).node hXl ncz)
  have HN := Lib.hid fun W (h : Rd W R g c ts s) => node_any X 8 W h
  have HEO := Lib.hid fun q W (h : Rd W R g c ts q) => expect_any X (s := q) [123] (by simp) W h
  have HEC := Lib.hid fun q W (h : Rd W R g c ts q) => expect_any X (s := q) [125] (by simp) W h
  have HNX := Lib.hid fun q W (h : Rd W R g c ts q) => next_any X (s := q) W h
  have HFT := Lib.hid fun q W => fldT (nxt ts q) W
  have hrx := rem_on (exc_on (ts := ts) (s := s) (c := 123) (t := []))
  have hlen := X.len
  have HL : Hid (nc (labK 8 (ln ts s)) = [.int .i64 8, .string ⟨#[]⟩, .int .u64 0, .int .i64 0, .bool false, .int .i64 0, .int .i64 0, .int .i64 0, .int .i64 0, .int .i64 ((ln ts s : Nat) : Int), .slice none 0 0]) := Lib.hid rfl
  rw [HL.out] at HN
  obtain ⟨f1, rfl⟩ : ∃ f1, f = f1 + 1 := ⟨f - 1, by omega⟩
  obtain ⟨Z, hZ⟩ : ∃ Z, Z = S ts (f1 + 1) (.bs []) (exc ts s [123]) := ⟨_, rfl⟩
  have HM : Hid (one (S ts (f1 + 1 + 1) .bk s) = (.node (labK 8 (ln ts s)) Z.1, exc ts Z.2 [125])) := Lib.hid (by rw [hZ]; rfl)
  rw [HM.out]
  have HZ := Lib.hid hZ
  have HIH := Lib.hid H
  have hrl : rem ts (exc ts s [123]) ≤ ts.length := rem_le
  have hfu : 8 * rem ts (exc ts s [123]) + 5 ≤ f1 + 1 := by omega
  clear HM hR HL hZ hf H hrx
  generalize ln ts s = L9 at *
  go_enter Tryz.func98, Tryz.ntmps98
  go_wp2_with fail
  refine (HN.out _ F0.out.rd).mono ?_
  rintro e v1 ⟨rfl, hb⟩
  have G1 := Lib.hid (F0.out.quiet hXl hb)
  clear hb
  obtain ⟨hc0, hf0⟩ := G1.out.b0.all
  have hz0 := G1.out.b0.lt
  unfold ncz at hc0
  have hq10 := G1.out.b0.lt
  have G2 := Lib.hid (G1.out.node hXl [.int .i64 8, .string ⟨#[]⟩, .int .u64 0, .int .i64 0, .bool false, .int .i64 0, .int .i64 0, .int .i64 0, .int .i64 0, .int .i64 (L9 : Int), .slice none 0 0])
  go_wp2_with fail
  refine (HEO.out _ _ G2.out.rd).mono ?_
  rintro e v2 ⟨rfl, hr, hs⟩
  clear hc0 hf0 hz0
  have G3 := Lib.hid (G2.out.call hr hs)
  clear hr hs
  obtain ⟨hc0, hf0⟩ := G3.out.b0.all
  have hz0 := G3.out.b0.lt
  obtain ⟨hc1, hf1⟩ := G3.out.b1.all
  have hz1 := G3.out.b1.lt
  unfold ncz at hc1
  have G4 := Lib.hid (G3.out.fk)
  have h0 : Hid (BkSt ts R g c w w.heap.size v1.heap.size (f1 + 1) v2.heap.size Z L9 v2 (exc ts s [123])) := Lib.hid ⟨none, 0, f1, [], G4.out, HZ.out, hfu, by omega, by simp; exact hrl⟩
  have hL01 : w.heap.size < v1.heap.size := hq10
  clear hfu HZ hrl HN
  go_wp2
  go_loopw [8] (fun _ wr => ∃ st, Hid (BkSt ts R g c w w.heap.size v1.heap.size (f1 + 1) v2.heap.size Z L9 wr st)) (fun _ wr => ts.length - atW wr R)
  case atStart => exact ⟨_, h0⟩
  case round =>
    obtain ⟨st, hT⟩ := hrel
    obtain ⟨xk, kk, F, acc, hFr, hZ, hfu2, hFf, hal⟩ := hT.out
    have J0 := Lib.hid hFr
    have HZ2 := Lib.hid hZ
    obtain ⟨c0, c1, c2, f1a, f2a⟩ := J0.out.fr.rd.cells
    have hzR := J0.out.fr.rd.lt
    have hatl := atOf_le (ts := ts) J0.out.fr.rd.hi
    have hm0 := atW_rd J0.out.fr.rd
    clear hFr hZ hT h0 c2 f1a f2a
    by_cases hat : atOf ts st < ts.length
    · have hst : st.bad = false ∧ st.i < ts.length := by
        unfold atOf at hat
        cases hb : st.bad with
        | true => rw [hb] at hat; simp at hat
        | false => rw [hb] at hat; exact ⟨rfl, by simpa using hat⟩
      have qa : (atOf ts st : Int) < (ts.length : Int) := by omega
      have hq1 : ((str (nxt ts st).text).toList == [125]) = hasT ts st [125] := by have := hasT_bytes ts st [125]; rw [str_toList [125]] at this; exact this
      have hF := HFT.out st
      cases hc : hasT ts st [125] with
      | false =>
        rw [hc] at hq1
        have hq2 : ((str (nxt ts st).text).toList != [125]) = true := by simp only [bne, hq1]; rfl
        obtain ⟨F2, rfl⟩ : ∃ F2, F = F2 + 2 := ⟨F - 2, by have := rem_adv hst; omega⟩
        have HZ3 : Hid (Z = S ts (F2 + 2) (.bs (acc ++ [(one (S ts (F2 + 2) .st st)).1])) (one (S ts (F2 + 2) .st st)).2) := Lib.hid (HZ2.out.trans (S_bs_more ⟨hst.1, hst.2, hc⟩))
        have hpr : rem ts (one (S ts (F2 + 2) .st st)).2 + 1 ≤ rem ts st := st_prog hst
        have HON : Hid (On ts st (one (S ts (F2 + 2) .st st)).2) := Lib.hid (S_on ts (F2 + 2) .st st trivial)
        have HST := Lib.hid fun W (h : Rd W R g c ts st) => (HIH.out (F2 + 2) hFf).st st W hst h (by omega)
        have HHIN := Lib.hid hst
        have hfew : acc.length ≤ 99999 := by omega
        have hmm : Hid (atW wr R = atOf ts st) := Lib.hid hm0
        have HAT := Lib.hid hat
        clear HZ2 hst hc hm0 hat
        have hne : 0 < ts.length := by have := HAT.out; omega
        go_wp2
        have G31 := Lib.hid (J0.out.drew)
        go_region_with (go_at_call 56; refine (HNX.out st _ G31.out.fr.rd).mono ?_; rintro e v5 ⟨rfl, hb⟩; have G40 := Lib.hid (G31.out.quiet hXl hb); clear hb)
        all_goals
          clear c0 c1 hzR qa
          obtain ⟨hc0, hf0⟩ := G40.out.fr.b0.all
          have hz0 := G40.out.fr.b0.lt
          obtain ⟨hc1, hf1⟩ := G40.out.fr.b1.all
          have hz1 := G40.out.fr.b1.lt
          unfold ncz at hc1
          go_wp2
          have G41 := Lib.hid (G40.out.drew)
          go_region_law (first | (refine fk_append KT1.out hXl (by rfl) _ _ _ (by rfl) Tryz.underlying26 infoNd2 (by rfl) (by simp [Act.eval]) ?_; intro g1 c1 u1 hk6; have KX1 := Lib.hid hk6; clear hk6; obtain ⟨hd10, he10⟩ := KX1.out.fr.b0.all; have hy10 := KX1.out.fr.b0.lt; obtain ⟨hd11, he11⟩ := KX1.out.fr.b1.all; have hy11 := KX1.out.fr.b1.lt; unfold ncz at hd11) | (go_simp; go_at_call 133; refine (HST.out _ G41.out.fr.rd).mono ?_; rintro e y1 ⟨l3, x3, n3, k3, rfl, hT, hr, hs⟩; have KT1 := Lib.hid (G41.out.callT hfew hT hr hs); clear hT hr hs; obtain ⟨hu10, hv10⟩ := KT1.out.fr.b0.all; have hw10 := KT1.out.fr.b0.lt; obtain ⟨hu11, hv11⟩ := KT1.out.fr.b1.all; have hw11 := KT1.out.fr.b1.lt; unfold ncz at hu11))
          all_goals
            clear hu10 hv10 hw10 hu11 hv11 hw11
            clear hc0 hf0 hz0 hc1 hf1 hz1
            have G42 := Lib.hid (KX1.out.set0 hXl 10 (.slice (some ⟨g1, 0, none⟩) (acc.length + 1) c1) [.int .i64 8, .string ⟨#[]⟩, .int .u64 0, .int .i64 0, .bool false, .int .i64 0, .int .i64 0, .int .i64 0, .int .i64 0, .int .i64 (L9 : Int), .slice (some ⟨g1, 0, none⟩) (acc.length + 1) c1] rfl)
            have JE := Lib.hid G42.out
            have hm1 := atW_rd JE.out.fr.rd
            have hma := atOf_adv2 HHIN.out HON.out hpr JE.out.fr.rd.hi
            have hal2 : (acc ++ [(one (S ts (F2 + 2) .st st)).1]).length = acc.length + 1 := by simp
            have HN2 : Hid (BkSt ts R g c w w.heap.size v1.heap.size (f1 + 1) v2.heap.size Z L9 _ (one (S ts (F2 + 2) .st st)).2) := Lib.hid ⟨some ⟨g1, 0, none⟩, c1, F2 + 1, _, (by rw [hal2]; exact JE.out), HZ3.out, by omega, by omega, by rw [hal2]; omega⟩
            have HM1 := Lib.hid hm1
            have HM : Hid (ts.length - atOf ts (one (S ts (F2 + 2) .st st)).2 < ts.length - atOf ts st) := Lib.hid (by omega)
            clear hm1 hma hal2
            go_wp2
            go_roundw
            case rel => exact ⟨_, HN2⟩
            case measure => (rw [hmm.out]; refine Nat.lt_of_le_of_lt (Nat.le_of_eq ?_) HM.out; exact congrArg (ts.length - ·) HM1.out)
      | true =>
        rw [hc] at hq1
        have hq2 : ((str (nxt ts st).text).toList != [125]) = false := by simp only [bne, hq1]; rfl
        have HZ3 : Hid (Z = (acc, st)) := Lib.hid (HZ2.out.trans (S_bs_end (by rw [hc]; simp)))
        have hmm : Hid (atW wr R = atOf ts st) := Lib.hid hm0
        have HAT := Lib.hid hat
        clear HZ2 hst hc hm0 hat
        have hne : 0 < ts.length := by have := HAT.out; omega
        go_wp2
        have G31 := Lib.hid (J0.out.drew)
        go_region_with (go_at_call 56; refine (HNX.out st _ G31.out.fr.rd).mono ?_; rintro e v5 ⟨rfl, hb⟩; have G40 := Lib.hid (G31.out.quiet hXl hb); clear hb)
        all_goals
          clear c0 c1 hzR qa
          obtain ⟨hc0, hf0⟩ := G40.out.fr.b0.all
          have hz0 := G40.out.fr.b0.lt
          obtain ⟨hc1, hf1⟩ := G40.out.fr.b1.all
          have hz1 := G40.out.fr.b1.lt
          unfold ncz at hc1
          have hzz := HZ3.out
          subst hzz
          go_wp2_with fail
          refine (HEC.out _ _ G40.out.fr.rd).mono ?_
          rintro e v6 ⟨rfl, hr, hs⟩
          clear hc0 hf0 hz0 hc1 hf1 hz1
          have G41 := Lib.hid (G40.out.call hr hs)
          clear hr hs
          obtain ⟨hc0, hf0⟩ := G41.out.fr.b0.all
          have hz0 := G41.out.fr.b0.lt
          obtain ⟨hc1, hf1⟩ := G41.out.fr.b1.all
          have hz1 := G41.out.fr.b1.lt
          unfold ncz at hc1
          have G42 := Lib.hid (G41.out.tree (labK 8 L9))
          go_wp2
          have G43 := Lib.hid (G42.out.stoR hXl (List.Mem.tail _ (List.Mem.head _)) rfl (.int .i64 8) (.string ⟨#[]⟩) (.int .u64 0) (.int .i64 0) (.bool false) (.int .i64 0) (.int .i64 0) (.int .i64 0) (.int .i64 0) (.int .i64 (L9 : Int)) (.slice xk acc.length kk))
          refine bodyPost_ret (G43.out.b0.res1 Tryz.results98 Tryz.underlying28 rfl infoNd _ rfl) rfl ?_
          exact G43.out.outT (rfl)
    · have HZ3 : Hid (Z = (acc, st)) := Lib.hid (HZ2.out.trans (S_bs_end (by
          unfold atOf at hat
          intro hh
          rw [hh.1] at hat
          exact hat (by simpa using hh.2.1))))
      have qa : decide ((atOf ts st : Int) < (ts.length : Int)) = false := by simp; omega
      have qb : decide (atOf ts st < ts.length) = false := by simp; omega
      clear HZ2 hat hm0
      go_wp2
      go_quiet (fail)
      have G51 := Lib.hid (J0.out.drewN nq)
      have hzz := HZ3.out
      subst hzz
      go_wp2_with fail
      refine (HEC.out _ _ G51.out.fr.rd).mono ?_
      rintro e v5 ⟨rfl, hr, hs⟩
      have G52 := Lib.hid (G51.out.call hr hs)
      clear hr hs
      obtain ⟨hc0, hf0⟩ := G52.out.fr.b0.all
      have hz0 := G52.out.fr.b0.lt
      obtain ⟨hc1, hf1⟩ := G52.out.fr.b1.all
      have hz1 := G52.out.fr.b1.lt
      unfold ncz at hc1
      have G53 := Lib.hid (G52.out.tree (labK 8 L9))
      go_wp2
      have G54 := Lib.hid (G53.out.stoR hXl (List.Mem.tail _ (List.Mem.head _)) rfl (.int .i64 8) (.string ⟨#[]⟩) (.int .u64 0) (.int .i64 0) (.bool false) (.int .i64 0) (.int .i64 0) (.int .i64 0) (.int .i64 0) (.int .i64 (L9 : Int)) (.slice xk acc.length kk))
      refine bodyPost_ret (G54.out.b0.res1 Tryz.results98 Tryz.underlying28 rfl infoNd _ rfl) rfl ?_
      exact G54.out.outT (rfl)
end Go.Proofs.YtfnhogeocbndcaaGreatDoor
