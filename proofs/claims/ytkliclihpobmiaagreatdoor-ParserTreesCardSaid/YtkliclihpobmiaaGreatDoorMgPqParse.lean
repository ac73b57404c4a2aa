/- The reference's Parse: contract. -/
import Derived.Test.YtkliclihpobmiaaGreatDoorMgPqDp
import Derived.Test.YtkliclihpobmiaaGreatDoorMgPqKd
import Derived.Test.YtkliclihpobmiaaGreatDoorMgPsWi
import Derived.Test.YtkliclihpobmiaaGreatDoorMgPqErr
import Derived.BigRegion
namespace Go.Proofs.YtkliclihpobmiaaGreatDoor
namespace Q
open Go Go.RowKit
set_option linter.unusedVariables false
set_option linter.unusedSimpArgs false

theorem lex_tk {l : List UInt8} (he : (lexAll l).2.2 = 0) : ∀ t ∈ (lexAll l).1, TkOf t := by
  rcases lexAll_cases l with ⟨_, _, _, h⟩ | ⟨h, _⟩
  · exact chain_tk _ 0 1 h
  · exact absurd he h
theorem parseM_Q (l : List UInt8) (he : (lexAll l).2.2 = 0) : parseM l = (if 0 < crowd 0 (lexAll l).1 then (tree0, crowd 0 (lexAll l).1, 5) else if (progQ (lexAll l).1).2.bad then (tree0, (tat (lexAll l).1 (min (progQ (lexAll l).1).2.i ((lexAll l).1.length - 1))).line, 4)
      else if 20000 < count (progQ (lexAll l).1).1 ∨ 200 < depth (progQ (lexAll l).1).1 then (tree0, 1, 5) else ((progQ (lexAll l).1).1, 0, 0)) := by
  obtain ⟨e1, e2⟩ := progQ_eq (kw_of (lex_tk he)) (fun t ht => ((lexAll_ctx l he).2.2 t ht).1.1)
  unfold parseM
  dsimp only
  rw [if_neg (by simp [he]), e1]
  cases hb : (progT (lexAll l).1).2.bad with
  | true => rfl
  | false => rw [e2 hb]
set_option maxHeartbeats 4000000 in
set_option maxRecDepth 100000 in
theorem parse_main (l : List UInt8) (hs : l.length ≤ 3000) (w : World) (V : Vs w) (LV : Lv w) (he : (lexAll l).2.2 = 0) (hne : (lexAll l).1 ≠ []) : Calls Tryz.prog 12 #[.string (str l)] w (PP w (parseM l)) := by
  obtain ⟨hlen, htl, hctx⟩ := lexAll_ctx l he
  have hM := parseM_Q l he
  have htk := lex_tk he
  obtain ⟨Z, hZ⟩ : ∃ Z, Z = parseM l := ⟨_, rfl⟩
  rw [← hZ]
  rw [hM] at hZ
  have hb0 := (Below.refl w.heap.size w).alloc (Nat.le_refl _) (.cells ncz.toArray 28)
  have hw1 : (w.alloc (.cells ncz.toArray 28)).heap.size = w.heap.size + 1 := by simp
  have HK := Hd (Blk.alloc w 28 ncz)
  have HB := Hd hb0
  have HLX := Hd (rLex_any l (by omega) (w.alloc (.cells ncz.toArray 28)))
  generalize (lexAll l).2.1 = A at *
  rw [he] at HLX
  generalize hT : (lexAll l).1 = ts at *
  have HV := Hd (And.intro V LV)
  have HW1 := Hd hw1
  have HZ := Hd hZ
  have HTKS := Hd htk
  clear hb0 V LV hM hw1 he hZ hT htk
  go_enter Tryz.func12, Tryz.ntmps12
  go_wp2_with fail
  refine HLX.out.mono ?_
  rintro e w1 ⟨v, rfl, hown, hb1⟩
  rcases toks_own hown with ⟨h, _⟩ | ⟨g, c, rfl, hg, hTk⟩
  · exact absurd h hne
  · have hgc : ts.length ≤ c ∧ c ≤ maxLen := by
      rcases hown.2 with ⟨h, _⟩ | ⟨g2, cap, cur, h, _, _, h3, h4, _⟩
      · simp at h
      · injection h with h1 h2 h3'
        subst h3'
        exact ⟨h3, h4⟩
    have HTk := Hd hTk
    have HK1 := Hd (HK.out.below hb1 HK.out.lt)
    have HB1 := Hd (HB.out.trans (hb1.mono (by simp)))
    have HDP := Hd fun W (h : TkIn W g ts) => deep_any ts g c (by omega) (fun t ht => by have := (hctx t ht).1.2; omega) W h
    have hgw : w.heap.size ≤ g := by rw [HW1.out] at hg; omega
    have hgl := hTk.1
    have HCTX : Hid (∀ R, g < R → QC ts R g c) := Hd fun R hR => ⟨⟨hne, hR, by omega, hgc, fun t ht => ⟨(hctx t ht).1.1, by have := (hctx t ht).1.2; omega⟩, fun t ht => (hctx t ht).2.1, fun t ht => ⟨(hctx t ht).2.2.1, by have := (hctx t ht).2.2.2; omega⟩⟩, k2_of HTKS.out, k4_of HTKS.out⟩
    clear hown hb1 HLX HK HB hTk hg hctx HV HW1
    have hcrl : crowd 0 ts ≤ 1000000 ∨ True := .inr trivial
    by_cases hcr : 0 < crowd 0 ts
    · have HZ1 : Hid (Z = (tree0, crowd 0 ts, 5)) := Hd (by rw [HZ.out, if_pos hcr])
      have qc : (0 : Int) < (crowd 0 ts : Int) := by omega
      clear hcr HCTX HZ hcrl
      generalize crowd 0 ts = CR at *
      go_wp2_with fail
      refine (HDP.out _ HTk.out).mono ?_
      rintro e w2 ⟨rfl, hb2⟩
      have HT2 := Hd (HTk.out.below hb2 hgl)
      have HK2 := Hd (HK1.out.below hb2 HK1.out.lt)
      have HB2 := Hd (HB1.out.trans (hb2.mono HB1.out.size))
      clear hb2 HK1 HB1
      go_wp2_with fail
      refine (HDP.out _ HT2.out).mono ?_
      rintro e w3 ⟨rfl, hb3⟩
      have HK3 := Hd (HK2.out.below hb3 HK2.out.lt)
      have HB3 := Hd (HB2.out.trans (hb3.mono HB2.out.size))
      obtain ⟨hc, hf⟩ := HK3.out.all
      have hz3 := HK3.out.lt
      unfold ncz at hc
      clear hb3 HK2 HB2 HDP
      go_wp2
      refine bodyPost_ret ((HK3.out.stor11 rfl _ _ _ _ _ _ _ _ _ _ _).res3 Tryz.results12 Tryz.underlying28 rfl infoNd _ rfl) rfl ?_
      rw [HZ1.out]
      exact pp_zero (below_stor11 HB3.out (Nat.le_refl _) _ _ _ _ _ _ _ _ _ _ _) rfl rfl
    · have HZ1 := Hd (HZ.out.trans (if_neg hcr))
      have hc0 : crowd 0 ts = 0 := by omega
      rw [hc0] at HDP
      clear hcr hc0 HZ hcrl
      go_wp2_with fail
      refine (HDP.out _ HTk.out).mono ?_
      rintro e w2 ⟨rfl, hb2⟩
      have HK2 := Hd (HK1.out.below hb2 HK1.out.lt)
      have HB2 := Hd (HB1.out.trans (hb2.mono HB1.out.size))
      have hsz2 := hb2.size
      have hg2 : g < w2.heap.size := by omega
      have HRD : Hid (Rd (w2.alloc (.cells #[.slice (some ⟨g, 0, none⟩) ts.length c, .int .i64 0, .bool false] 51)) w2.heap.size g c ts ⟨0, false⟩) := Hd ⟨Blk.alloc w2 51 [.slice (some ⟨g, 0, none⟩) ts.length c, .int .i64 0, .bool false],
        (HTk.out.below hb2 hgl).below ((Below.refl w2.heap.size w2).alloc (Nat.le_refl _) _) hg2, Nat.zero_le _⟩
      have HPG := Hd (program_any (HCTX.out _ hg2) (kw_of HTKS.out) _ HRD.out)
      have HBR := Hd (HB2.out.alloc HB2.out.size (.cells #[.slice (some ⟨g, 0, none⟩) ts.length c, .int .i64 0, .bool false] 51))
      have HKR := Hd (HK2.out.alloc_other (.cells #[.slice (some ⟨g, 0, none⟩) ts.length c, .int .i64 0, .bool false] 51))
      have hwk := HK2.out.lt
      have HCTL : Hid (count (progQ ts).1 ≤ 1000000) := Hd (Nat.le_trans (progQ_ct ts) (by omega))
      clear hb2 HK1 HB1 HDP HRD HTk HB2 HK2
      generalize hP : progQ ts = PT at *
      go_wp2_with fail
      refine HPG.out.mono ?_
      rintro e w3 ⟨l1, x1, n1, k1, rfl, hT3, hr3, hs3⟩
      have HB3p := Hd (below_st HBR.out hs3 (by omega))
      have HB3 := Hd ((below_st HBR.out hs3 (by omega)).alloc (Nat.le_trans HBR.out.size (St.size hs3)) (.cells #[.int .i64 l1.kind, .string (str l1.name), .int .u64 l1.num, .int .i64 l1.wd, .bool l1.sg, .int .i64 l1.op, .int .i64 l1.fac, .int .i64 l1.pip, .int .i64 l1.unr, .int .i64 l1.line, .slice x1 n1 k1] 28))
      have HK3 := Hd (St.blk hs3 HKR.out (by omega))
      have HT4 : Hid (TreeAt (w3.alloc (.cells #[.int .i64 l1.kind, .string (str l1.name), .int .u64 l1.num, .int .i64 l1.wd, .bool l1.sg, .int .i64 l1.op, .int .i64 l1.fac, .int .i64 l1.pip, .int .i64 l1.unr, .int .i64 l1.line, .slice x1 n1 k1] 28)) (w2.heap.size + 1 ≤ ·) [.int .i64 l1.kind, .string (str l1.name), .int .u64 l1.num, .int .i64 l1.wd, .bool l1.sg, .int .i64 l1.op, .int .i64 l1.fac, .int .i64 l1.pip, .int .i64 l1.unr, .int .i64 l1.line, .slice x1 n1 k1] PT.1) := Hd (TreeAt.keep (Q := (w2.heap.size + 1 ≤ ·)) hT3 (fun k _ hl => Below.heap_alloc w3 _ k hl) (fun k hk _ => by simp only [size_alloc] at hk; exact hk))
      obtain ⟨c0, c1, c2, f1, f2⟩ := hr3.cells
      have hR3 := hr3.lt
      obtain ⟨hc, hf⟩ := HK3.out.all
      unfold ncz at hc
      have hk3 := HK3.out.lt
      clear hT3 HPG HBR HKR c0 f1 f2
      cases hbad : PT.2.bad with
      | true =>
        have HZ2 : Hid (Z = (tree0, (tat ts (min PT.2.i (ts.length - 1))).line, 4)) := Hd (by rw [HZ1.out, if_pos hbad])
        have hpos : 0 < ts.length := List.length_pos_iff.2 hne
        obtain ⟨m, hm⟩ : ∃ m, m = min PT.2.i (ts.length - 1) := ⟨_, rfl⟩
        have hmi : min ((PT.2.i : Nat) : Int) ((ts.length : Int) - 1) = ((m : Nat) : Int) := by omega
        have hml : m < ts.length := by omega
        have hm2 : (m : Int) < (ts.length : Int) := by omega
        have hpl : (0 : Int) < (ts.length : Int) := by omega
        obtain ⟨d0, d1, d2, d3, d4⟩ := hr3.tk.2 m hml
        have hzg := hr3.tk.1
        have hmx := hgc.2
        unfold maxLen at hmx
        rw [← hm] at HZ2
        rw [hbad] at c2
        clear hbad HZ1 hm hne d0 d1 d2 d3 hr3 hs3 HCTX HTKS hP HCTL
        generalize ((tat ts m).line) = LN at *
        go_wp2
        have HKF := Hd ((HK3.out.stor11 rfl (.int .i64 0) (.string ⟨#[]⟩) (.int .u64 0) (.int .i64 0) (.bool false) (.int .i64 0) (.int .i64 0) (.int .i64 0) (.int .i64 0) (.int .i64 0) (.slice none 0 0)).alloc_other (.cells #[.int .i64 l1.kind, .string (str l1.name), .int .u64 l1.num, .int .i64 l1.wd, .bool l1.sg, .int .i64 l1.op, .int .i64 l1.fac, .int .i64 l1.pip, .int .i64 l1.unr, .int .i64 l1.line, .slice x1 n1 k1] 28))
        have HBF := Hd ((below_stor11 HB3p.out (Nat.le_refl _) (.int .i64 0) (.string ⟨#[]⟩) (.int .u64 0) (.int .i64 0) (.bool false) (.int .i64 0) (.int .i64 0) (.int .i64 0) (.int .i64 0) (.int .i64 0) (.slice none 0 0)).alloc (below_stor11 HB3p.out (Nat.le_refl _) (.int .i64 0) (.string ⟨#[]⟩) (.int .u64 0) (.int .i64 0) (.bool false) (.int .i64 0) (.int .i64 0) (.int .i64 0) (.int .i64 0) (.int .i64 0) (.slice none 0 0)).size (.cells #[.int .i64 l1.kind, .string (str l1.name), .int .u64 l1.num, .int .i64 l1.wd, .bool l1.sg, .int .i64 l1.op, .int .i64 l1.fac, .int .i64 l1.pip, .int .i64 l1.unr, .int .i64 l1.line, .slice x1 n1 k1] 28))
        refine bodyPost_ret (HKF.out.res3 Tryz.results12 Tryz.underlying28 rfl infoNd _ rfl) rfl ?_
        rw [HZ2.out]
        exact pp_zero HBF.out rfl rfl
      | false =>
        rw [hbad] at c2
        have HZ2 := Hd (HZ1.out.trans (if_neg (by rw [hbad]; simp)))
        have HCN := Hd (rcountT_any (depth PT.1) PT.1 (Nat.le_refl _) HCTL.out l1 x1 n1 k1 _ (HT4.out.mono fun _ _ _ => trivial))
        have HDE := Hd fun W (h : TreeAt W (fun _ => True) [.int .i64 l1.kind, .string (str l1.name), .int .u64 l1.num, .int .i64 l1.wd, .bool l1.sg, .int .i64 l1.op, .int .i64 l1.fac, .int .i64 l1.pip, .int .i64 l1.unr, .int .i64 l1.line, .slice x1 n1 k1] PT.1) => rdepthT_any (depth PT.1) PT.1 (Nat.le_refl _) (Nat.le_trans (depth_ct PT.1) HCTL.out) l1 x1 n1 k1 W h
        have HKW := Hd (HK3.out.alloc_other (.cells #[.int .i64 l1.kind, .string (str l1.name), .int .u64 l1.num, .int .i64 l1.wd, .bool l1.sg, .int .i64 l1.op, .int .i64 l1.fac, .int .i64 l1.pip, .int .i64 l1.unr, .int .i64 l1.line, .slice x1 n1 k1] 28))
        have HLW := Hd (Blk.alloc w3 28 [.int .i64 l1.kind, .string (str l1.name), .int .u64 l1.num, .int .i64 l1.wd, .bool l1.sg, .int .i64 l1.op, .int .i64 l1.fac, .int .i64 l1.pip, .int .i64 l1.unr, .int .i64 l1.line, .slice x1 n1 k1])
        clear hbad HZ1 hr3 hs3 HCTX HTKS hP HCTL hc hf c1
        by_cases hct : 20000 < count PT.1
        · have HZ3 : Hid (Z = (tree0, 1, 5)) := Hd (by rw [HZ2.out, if_pos (.inl hct)])
          have qc : (20000 : Int) < (count PT.1 : Int) := by omega
          clear hct HZ2
          generalize count PT.1 = CT at *
          go_wp2_with fail
          refine HCN.out.mono ?_
          rintro e w4 ⟨rfl, hb4⟩
          have HK4 := Hd (HKW.out.below hb4 HKW.out.lt)
          have HB4 := Hd (HB3.out.trans (hb4.mono HB3.out.size))
          obtain ⟨hc, hf⟩ := HK4.out.all
          unfold ncz at hc
          have hz4 := HK4.out.lt
          clear hb4 HT4 HB3 HCN HKW HLW HK3 c2 HDE
          go_wp2
          refine bodyPost_ret ((HK4.out.stor11 rfl _ _ _ _ _ _ _ _ _ _ _).res3 Tryz.results12 Tryz.underlying28 rfl infoNd _ rfl) rfl ?_
          rw [HZ3.out]
          exact pp_zero (below_stor11 HB4.out (Nat.le_refl _) _ _ _ _ _ _ _ _ _ _ _) rfl rfl
        · have qc : (count PT.1 : Int) ≤ 20000 := by omega
          have HCT := Hd hct
          clear hct
          generalize hCT : count PT.1 = CT at *
          go_wp2_with fail
          refine HCN.out.mono ?_
          rintro e w4 ⟨rfl, hb4⟩
          have HK4 := Hd (HKW.out.below hb4 HKW.out.lt)
          have HL4 := Hd (HLW.out.below hb4 HLW.out.lt)
          have HB4 := Hd (HB3.out.trans (hb4.mono HB3.out.size))
          have HT5 := Hd (HT4.out.keep (Q := (w2.heap.size + 1 ≤ ·)) (fun k _ hl => hb4.block k hl) fun _ hk _ => hk)
          obtain ⟨hd, hde⟩ := HL4.out.all
          clear hb4 HT4 HB3 HCN HKW HLW HK3 c2
          go_wp2_with fail
          refine (HDE.out _ (HT5.out.mono fun _ _ _ => trivial)).mono ?_
          rintro e w5 ⟨rfl, hb5⟩
          have HK5 := Hd (HK4.out.below hb5 HK4.out.lt)
          have HL5 := Hd (HL4.out.below hb5 HL4.out.lt)
          have HB5 := Hd (HB4.out.trans (hb5.mono HB4.out.size))
          have HT6 := Hd (HT5.out.keep (Q := (w2.heap.size + 1 ≤ ·)) (fun k _ hl => hb5.block k hl) fun _ hk _ => hk)
          clear hd hde
          obtain ⟨hc, hf⟩ := HK5.out.all
          unfold ncz at hc
          obtain ⟨hd, hde⟩ := HL5.out.all
          have hz5 := HK5.out.lt
          clear hb5 HT5 HB4 HK4 HL4 HDE
          by_cases hdp : 200 < depth PT.1
          · have HZ3 : Hid (Z = (tree0, 1, 5)) := Hd (by rw [HZ2.out, if_pos (.inr hdp)])
            have qd : (200 : Int) < (depth PT.1 : Int) := by omega
            clear hdp HZ2
            generalize depth PT.1 = DP at *
            go_wp2
            refine bodyPost_ret ((HK5.out.stor11 rfl _ _ _ _ _ _ _ _ _ _ _).res3 Tryz.results12 Tryz.underlying28 rfl infoNd _ rfl) rfl ?_
            rw [HZ3.out]
            exact pp_zero (below_stor11 HB5.out (Nat.le_refl _) _ _ _ _ _ _ _ _ _ _ _) rfl rfl
          · have HZ3 : Hid (Z = (PT.1, 0, 0)) := Hd (by rw [HZ2.out, if_neg (fun h => h.elim HCT.out hdp)])
            have qd : (depth PT.1 : Int) ≤ 200 := by omega
            clear hdp HZ2
            generalize depth PT.1 = DP at *
            go_wp2
            refine bodyPost_ret ((HK5.out.stor11 rfl _ _ _ _ _ _ _ _ _ _ _).res3 Tryz.results12 Tryz.underlying28 rfl infoNd _ rfl) rfl ?_
            rw [HZ3.out]
            exact ⟨l1, x1, n1, k1, rfl, HT6.out.keep (fun k hk _ => stor11_other _ (by omega) _ _ _ _ _ _ _ _ _ _ _) (fun k hk _ => by omega), below_stor11 HB5.out (Nat.le_refl _) _ _ _ _ _ _ _ _ _ _ _⟩
theorem parse_any (l : List UInt8) (hs : l.length ≤ 3000) (w : World) (V : Vs w) (LV : Lv w) : Calls Tryz.prog 12 #[.string (str l)] w (PP w (parseM l)) := by
  by_cases he : (lexAll l).2.2 = 0
  · by_cases hne : (lexAll l).1 = []
    · exact parse_nil l w V he hne
    · exact parse_main l hs w V LV he hne
  · exact parse_err l hs w he
end Q
end Go.Proofs.YtkliclihpobmiaaGreatDoor
