/- The reference's function and Valid: contracts. -/
import Derived.Test.YthdbaligapdbeaaGreatDoorMgPsVs4
import Derived.Test.YthdbaligapdbeaaGreatDoorMgPsRCnt
namespace Go.Proofs.YthdbaligapdbeaaGreatDoor
open Go Go.RowKit
set_option linter.unusedVariables false

theorem body_any_step {d : Nat} (HB : BOK d) (HS : SOK d) : SOK (d + 1) := by
  intro t ht hwf l x n k w hT
  obtain ⟨lt, ks⟩ := t
  by_cases h9 : lt.kind = 9
  · exact st_9 (rexpr_any d) HB HS _ (fun _ _ h => by cases h; exact h9) ht hwf l x n k w hT
  by_cases h10 : lt.kind = 10
  · exact st_10 (rexpr_any d) HB HS _ (fun _ _ h => by cases h; exact h10) ht hwf l x n k w hT
  by_cases h11 : lt.kind = 11
  · exact st_11 (rexpr_any d) HB HS _ (fun _ _ h => by cases h; exact h11) ht hwf l x n k w hT
  by_cases h12 : lt.kind = 12
  · exact st_12 (rexpr_any d) HB HS _ (fun _ _ h => by cases h; exact h12) ht hwf l x n k w hT
  by_cases h13 : lt.kind = 13
  · exact st_13 (rexpr_any d) HB HS _ (fun _ _ h => by cases h; exact h13) ht hwf l x n k w hT
  by_cases h14 : lt.kind = 14
  · exact st_14 (rexpr_any d) HB HS _ (fun _ _ h => by cases h; exact h14) ht hwf l x n k w hT
  by_cases h15 : lt.kind = 15
  · exact st_15 (rexpr_any d) HB HS _ (fun _ _ h => by cases h; exact h15) ht hwf l x n k w hT
  by_cases h16 : lt.kind = 16
  · exact st_16 (rexpr_any d) HB HS _ (fun _ _ h => by cases h; exact h16) ht hwf l x n k w hT
  by_cases h17 : lt.kind = 17
  · exact st_17 (rexpr_any d) HB HS _ (fun _ _ h => by cases h; exact h17) ht hwf l x n k w hT
  exact st_no (rexpr_any d) HB HS _ (fun _ _ h => by cases h; exact ⟨h9, h10, h11, h12, h13, h14, h15, h16, h17⟩) ht hwf l x n k w hT
theorem bs_any : ∀ d, BOK d ∧ SOK d
  | 0 => ⟨fun t h => by obtain ⟨lt, ks⟩ := t; rw [depth] at h; omega, fun t h => by obtain ⟨lt, ks⟩ := t; rw [depth] at h; omega⟩
  | d + 1 => ⟨body_step (bs_any d).2, body_any_step (bs_any d).1 (bs_any d).2⟩
def FOK (d : Nat) : Prop := ∀ t, depth t ≤ d + 1 → TreeWf 281474976710656 t → ∀ (l : Lab) (x : Option Addr) (n k : Nat) (w : World), TreeAt w (fun _ => True) [.int .i64 l.kind, .string (str l.name), .int .u64 l.num, .int .i64 l.wd, .bool l.sg, .int .i64 l.op, .int .i64 l.fac, .int .i64 l.pip, .int .i64 l.unr, .int .i64 l.line, .slice x n k] t →
  Calls Tryz.prog 32 #[.agg #[.int .i64 l.kind, .string (str l.name), .int .u64 l.num, .int .i64 l.wd, .bool l.sg, .int .i64 l.op, .int .i64 l.fac, .int .i64 l.pip, .int .i64 l.unr, .int .i64 l.line, .slice x n k]] w fun e w' => e = .returned (.bool (funcB d t)) ∧ Below w.heap.size w w'
theorem prmB_eq (k : Int) (l : Lab) (ks : List Tree) : prmB k (.node l ks) = (nameB l.name && (typB l.wd && (decide (ks.length = 0) && (!(decide (k = 2) && decide (l.kind ≠ 4)) &&
    (if l.kind = 4 ∨ l.kind = 6 ∨ l.kind = 7 then sameL { lab0 with kind := l.kind, name := l.name, wd := l.wd, sg := l.sg } l
     else if l.kind = 5 then sameL { lab0 with kind := l.kind, name := l.name, wd := l.wd, sg := l.sg, num := l.num, op := l.op, fac := l.fac } l &&
      (decide (l.num ≤ 1048576) && (decide (0 ≤ l.op) && (decide (l.op ≤ 3) && (decide (0 ≤ l.fac) && (decide (l.fac ≤ 1048576) && !(decide (0 < l.fac) && (decide (l.op ≠ 1) && decide (l.op ≠ 2))))))))
     else false))))) := by rw [prmB]
theorem take_all_false {f : Tree → Bool} {ks : List Tree} {i j : Nat} (hj : j ≤ ks.length) (hi : i < j) (h : f (kat ks i) = false) : (ks.take j).all f = false :=
  Bool.eq_false_iff.2 fun k => by rw [(all_take ks j hj).1 k i hi] at h; cases h
theorem kid_lab {w : World} {l : Lab} {x : Option Addr} {n k : Nat} {t : Tree} (h : TreeAt w (fun _ => True) [.int .i64 l.kind, .string (str l.name), .int .u64 l.num, .int .i64 l.wd, .bool l.sg, .int .i64 l.op, .int .i64 l.fac, .int .i64 l.pip, .int .i64 l.unr, .int .i64 l.line, .slice x n k] t) : ∃ us, t = .node l us ∧ us.length = n := by
  obtain ⟨lt, us⟩ := t
  obtain ⟨xk, kk, hcs, _⟩ := TreeAt.kids h
  obtain ⟨rfl, hv⟩ := lab_of (l := l) (m := lt) hcs
  simp only [Value.slice.injEq] at hv
  exact ⟨us, rfl, hv.2.1.symm⟩
theorem nzer_eq (wd : Int) (sg : Bool) (W : World) : (binOp .neq 24 (.agg #[.int .i64 wd, .bool sg]) (.agg #[.int .i64 0, .bool false])).run Tryz.prog W = .ok (.bool (!zerB wd sg)) W := by
  by_cases h : wd = 0
  · subst h
    cases sg
    · have hz : zerB 0 false = true := rfl
      rw [hz]
      go_simp
    · have hz : zerB 0 true = false := rfl
      rw [hz]
      go_simp
  · have hz : zerB wd sg = false := by simp [zerB, h]
    rw [hz]
    go_simp
    try exact fun h2 => absurd h2 h
end Go.Proofs.YthdbaligapdbeaaGreatDoor
/- The reference's function: functions. -/
namespace Go.Proofs.YthdbaligapdbeaaGreatDoor
open Go Go.RowKit
set_option linter.unusedVariables false

set_option maxHeartbeats 16000000 in
set_option maxRecDepth 100000 in
theorem func_2 {d : Nat} (t : Tree) (ht : depth t ≤ d + 1) (hwf : TreeWf 281474976710656 t) (hk : ∀ l ks, t = .node l ks → l.kind = 2) (l : Lab) (x : Option Addr) (n k : Nat) (w : World) (hT : TreeAt w (fun _ => True) [.int .i64 l.kind, .string (str l.name), .int .u64 l.num, .int .i64 l.wd, .bool l.sg, .int .i64 l.op, .int .i64 l.fac, .int .i64 l.pip, .int .i64 l.unr, .int .i64 l.line, .slice x n k] t) :
  Calls Tryz.prog 32 #[.agg #[.int .i64 l.kind, .string (str l.name), .int .u64 l.num, .int .i64 l.wd, .bool l.sg, .int .i64 l.op, .int .i64 l.fac, .int .i64 l.pip, .int .i64 l.unr, .int .i64 l.line, .slice x n k]] w fun e w' => e = .returned (.bool (funcB d t)) ∧ Below w.heap.size w w' := by
 obtain ⟨lt, ks⟩ := t
 obtain ⟨xk, kk, hcs, hnk, hkm, hkids⟩ := TreeAt.kids hT
 obtain ⟨rfl, hv⟩ := lab_of (l := l) (m := lt) hcs
 simp only [Value.slice.injEq] at hv
 obtain ⟨rfl, rfl, rfl⟩ := hv
 obtain ⟨hlw, hkw⟩ := wf_node hwf
 have hnm := hlw.name
 have hdk : ∀ i, i < ks.length → depth (kat ks i) ≤ d := fun i hi => by
  have := depth_kat hi
  rw [depth] at ht
  omega
 have hkk := hk _ _ rfl
 clear hcs ht hwf hlw hk
 have HN := Hd fun W => rname_any l.name hnm W
 have HRI := Hd fun W => right_any l.wd l.sg W
 have HK : Hid (∀ W, Below w.heap.size w W → ∀ i, i < ks.length → ∃ a, x = some a ∧ True ∧ KidAt W (fun _ => True) a i (kat ks i)) := Hd fun W hb i hi => by
  obtain ⟨a, h1, h2, h3⟩ := hkids i hi
  exact ⟨a, h1, h2, h3.keep h2 (fun g hg hl => hb.block g hl) fun _ _ _ => trivial⟩
 have HBD := Hd fun i (hi : i < ks.length) => (bs_any d).1 (kat ks i) (hdk i hi) (hkw i hi)
 have HWF := Hd hkw
 have HB0 : Hid (BW w (w.alloc (.cells #[.int .i64 l.kind, .string (str l.name), .int .u64 l.num, .int .i64 l.wd, .bool l.sg, .int .i64 l.op, .int .i64 l.fac, .int .i64 l.pip, .int .i64 l.unr, .int .i64 l.line, .slice x ks.length k] 27)) [.int .i64 l.kind, .string (str l.name), .int .u64 l.num, .int .i64 l.wd, .bool l.sg, .int .i64 l.op, .int .i64 l.fac, .int .i64 l.pip, .int .i64 l.unr, .int .i64 l.line, .slice x ks.length k]) := Hd (BW.start w _)
 have HL3 : Hid (∀ i j, j ≤ ks.length → i < j → prmB l.kind (kat ks i) = false → (ks.take j).all (prmB l.kind) = false) := Hd fun i j h1 h2 h3 => take_all_false h1 h2 h3
 have HL2 : Hid (∀ j, j ≤ ks.length → (∀ i, i < j → prmB l.kind (kat ks i) = true) → (ks.take j).all (prmB l.kind) = true) := Hd fun j h1 h2 => (all_take ks j h1).2 h2
 unfold maxLen at hkm
 obtain ⟨a0, a1, a2, a3, a4, a5, a6, a7, a8, a9⟩ := l
 dsimp only at *
 clear hkids hkw hdk hnm
 subst hkk
 generalize hNN : ks.length = N at *
 have HNN := Hd hNN
 clear hNN
 generalize hb1 : nameB a1 = bN at *
 generalize hb2 : typB a3 = bR at *
 have HNB := Hd (And.intro hb1 hb2)
 clear hb1 hb2
 have c0 := HB0.out.a.cell
 have HF := Hd fun W => fields_nm 2 a1 a2 a3 a4 a5 a6 a7 a8 a9 x N k 2 a1 0 a3 a4 0 0 0 0 0 none 0 0 W
 have HR : Hid (funcB d (.node ⟨2, a1, a2, a3, a4, a5, a6, a7, a8, a9⟩ ks) = (sameL ⟨2, a1, 0, a3, a4, 0, 0, 0, 0, 0⟩ ⟨2, a1, a2, a3, a4, a5, a6, a7, a8, a9⟩ && (bN && (decide (0 < N) && (bodyB d (kat ks (N - 1)) && ((decide ((2 : Int) = 2) || decide ((2 : Int) = 3)) && ((bR || (decide ((2 : Int) ≠ 2) && zerB a3 a4)) && (ks.take (N - 1)).all (prmB 2)))))))) := Hd (by rw [funcB, HNN.out]; simp only [HNB.out.1, HNB.out.2]; try rfl)
 generalize sameL ⟨2, a1, 0, a3, a4, 0, 0, 0, 0, 0⟩ ⟨2, a1, a2, a3, a4, a5, a6, a7, a8, a9⟩ = bF at *
 clear HNB
 obtain ⟨M, hM⟩ : ∃ M : Int, M = (N : Int) - 1 := ⟨_, rfl⟩
 have HM := Hd hM
 have hMs : (N : Int) - 1 = M := hM.symm
 clear hM
 go_enter Tryz.func32, Tryz.ntmps32
 go_wp2_with fail
 refine (HF.out _).mono ?_
 rintro e w1 ⟨rfl, hb⟩
 have HB1 := Hd (HB0.out.call hb)
 have c1 := HB1.out.a.cell
 clear hb
 cases bF with
 | false =>
  go_wp2
  go_ret
  exact ⟨by rw [HR.out]; rfl, HB1.out.bel⟩
 | true =>
  go_wp2_with fail
  refine (HN.out _).mono ?_
  rintro e w2 ⟨rfl, hb⟩
  have HB2 := Hd (HB1.out.call hb)
  have c2 := HB2.out.a.cell
  clear hb
  cases bN with
  | false =>
   go_wp2
   go_ret
   exact ⟨by rw [HR.out]; rfl, HB2.out.bel⟩
  | true =>
   by_cases h0 : 0 < N
   rotate_left
   ·have HR2 := HR.out
    rw [decide_eq_false h0] at HR2
    have HR := Hd HR2
    clear HR2
    have hMn : M < 0 := by have := HM.out; omega
    have qm : decide (M < 0) = true := decide_eq_true hMn
    go_wp2
    go_ret
    exact ⟨by rw [HR.out]; rfl, HB2.out.bel⟩
   have HR2 := HR.out
   rw [decide_eq_true h0] at HR2
   have HR := Hd HR2
   clear HR2
   obtain ⟨m, hm⟩ : ∃ m : Nat, N = m + 1 := ⟨N - 1, by omega⟩
   have hmM : M = (m : Int) := by have := HM.out; omega
   have hm1 : N - 1 = m := by omega
   rw [hm1] at HR
   have HM1 := Hd hm
   clear hm hm1 hMs HM
   subst hmM
   have qm : decide ((m : Int) < 0) = false := decide_eq_false (by omega)
   obtain ⟨ad, hxa, hab, hkid⟩ := HK.out _ HB2.out.bel m (by have := HM1.out; omega)
   subst hxa
   obtain ⟨l2, x2, n2, k2, ⟨e0, e1, e2, e3, e4, e5, e6, e7, e8, e9, e10⟩, hT⟩ := hkid
   have hj0 : (0 : Int) ≤ (m : Int) := by omega
   have hj1 : (m : Int) < (N : Int) := by have := HM1.out; omega
   have HC := Hd (HBD.out m (by have := HM1.out; omega) l2 x2 n2 k2 _ hT)
   generalize bodyB d (kat ks m) = bB at *
   clear hT
   go_wp2_with fail
   refine (HC.out).mono ?_
   rintro e w3 ⟨rfl, hb⟩
   have HB3 := Hd (HB2.out.call hb)
   have c3 := HB3.out.a.cell
   clear hb
   clear e0 e1 e2 e3 e4 e5 e6 e7 e8 e9 e10 hj1
   cases bB with
   | false =>
    go_wp2
    go_ret
    exact ⟨by rw [HR.out]; rfl, HB3.out.bel⟩
   | true =>
    go_wp2_with fail
    refine (HRI.out _).mono ?_
    rintro e w4 ⟨rfl, hb⟩
    have HB4 := Hd (HB3.out.call hb)
    have c4 := HB4.out.a.cell
    clear hb
    have HR2 : funcB d (.node ⟨2, a1, a2, a3, a4, a5, a6, a7, a8, a9⟩ ks) = (bR && (ks.take m).all (prmB 2)) := by rw [HR.out]; cases bR <;> simp
    have HR := Hd HR2
    clear HR2
    cases bR with
    | false =>
     go_wp2
     go_ret
     exact ⟨by rw [HR.out]; rfl, HB4.out.bel⟩
    | true =>
     have h0 : Hid (ExSt (prmB 2) w _ [.int .i64 2, .string (str a1), .int .u64 a2, .int .i64 a3, .bool a4, .int .i64 a5, .int .i64 a6, .int .i64 a7, .int .i64 a8, .int .i64 a9, .slice (some ad) N k] ks 0) := Hd ⟨HB4.out, fun i hi => by omega⟩
     go_wp2
     clear c0 c1 c2 c3 c4 HB0 HB1 HB2 HB3 HB4
     go_loopw [4, 5] (fun i p wr => ∃ j : Nat, j ≤ m ∧ i = .int .i64 (j : Int) ∧ Hid (ExSt (prmB 2) w wr [.int .i64 2, .string (str a1), .int .u64 a2, .int .i64 a3, .bool a4, .int .i64 a5, .int .i64 a6, .int .i64 a7, .int .i64 a8, .int .i64 a9, .slice (some ad) N k] ks j)) (fun i _ _ => m - (intOf i).toNat)
     case atStart => exact ⟨0, by omega, rfl, h0⟩
     case round =>
      clear h0
      obtain ⟨j, hj, rfl, hX⟩ := hrel
      have c0 := hX.out.bw.a.cell
      by_cases hjm : j < m
      rotate_left
      ·obtain rfl : j = m := by omega
       have HA := Hd (HL2.out j (by have := HM1.out; omega) hX.out.all)
       have HB := Hd hX.out.bw.bel
       clear hX
       have qj : decide (j < j) = false := decide_eq_false (by omega)
       go_wp2
       go_ret
       exact ⟨by rw [HR.out, HA.out]; rfl, HB.out⟩
      have qjm : decide (j < m) = true := decide_eq_true hjm
      obtain ⟨ad2, hxa, hab2, hkid⟩ := HK.out _ hX.out.bw.bel j (by have := HM1.out; omega)
      injection hxa with hxa
      subst hxa
      obtain ⟨l2, x2, n2, k2, ⟨e0, e1, e2, e3, e4, e5, e6, e7, e8, e9, e10⟩, hT3⟩ := hkid
      obtain ⟨us, hus, hul⟩ := kid_lab hT3
      have hnm2 := (wf_node (N := 281474976710656) (l := l2) (ks := us) (by rw [← hus]; exact HWF.out j (by have := HM1.out; omega))).1.name
      have hp0 := prmB_eq 2 l2 us
      rw [← hus, hul] at hp0
      have HP := Hd hp0
      clear hp0
      have HN2 := Hd fun W => rname_any l2.name hnm2 W
      have HRI2 := Hd fun W => right_any l2.wd l2.sg W
      have HPF : Hid (prmB 2 (kat ks j) = false → (ks.take m).all (prmB 2) = false) := Hd (HL3.out j m (by have := HM1.out; omega) hjm)
      have HPT : Hid (∀ W, BW w W [.int .i64 2, .string (str a1), .int .u64 a2, .int .i64 a3, .bool a4, .int .i64 a5, .int .i64 a6, .int .i64 a7, .int .i64 a8, .int .i64 a9, .slice (some ad) N k] → prmB 2 (kat ks j) = true → Hid (ExSt (prmB 2) w W [.int .i64 2, .string (str a1), .int .u64 a2, .int .i64 a3, .bool a4, .int .i64 a5, .int .i64 a6, .int .i64 a7, .int .i64 a8, .int .i64 a9, .slice (some ad) N k] ks (j + 1))) := Hd fun W hb hp => Hd (hX.out.step hb hp)
      obtain ⟨b0, b1, b2, b3, b4, b5, b6, b7, b8, b9⟩ := l2
      dsimp only at *
      clear hT3 hus hul hnm2
      generalize nameB b1 = bN2 at *
      generalize typB b3 = bR2 at *
      have HY0 := Hd (BW.start wr [.int .i64 b0, .string (str b1), .int .u64 b2, .int .i64 b3, .bool b4, .int .i64 b5, .int .i64 b6, .int .i64 b7, .int .i64 b8, .int .i64 b9, .slice x2 n2 k2])
      have HZ0 := Hd (hX.out.bw.call ((Below.refl wr.heap.size wr).alloc (Nat.le_refl _) (.cells #[.int .i64 b0, .string (str b1), .int .u64 b2, .int .i64 b3, .bool b4, .int .i64 b5, .int .i64 b6, .int .i64 b7, .int .i64 b8, .int .i64 b9, .slice x2 n2 k2] 27)))
      have y0 := HY0.out.a.cell
      have z0 := HZ0.out.a.cell
      have hj0 : (0 : Int) ≤ (j : Int) := by omega
      have hj1 : (j : Int) < (N : Int) := by have := HM1.out; omega
      clear hX
      go_wp2_with fail
      refine (HN2.out _).mono ?_
      rintro e v1 ⟨rfl, hb⟩
      have HY1 := Hd (HY0.out.call hb)
      have HZ1 := Hd (HZ0.out.call hb)
      have y1 := HY1.out.a.cell
      have z1 := HZ1.out.a.cell
      clear hb
      clear e0 e1 e2 e3 e4 e5 e6 e7 e8 e9 e10
      cases bN2 with
      | false =>
       have HF2 := Hd (HPF.out (by rw [HP.out]; try first | rfl | simp))
       clear HP HPF HPT
       go_wp2
       go_ret
       exact ⟨by rw [HR.out, HF2.out]; rfl, HZ1.out.bel⟩
      | true =>
       go_wp2_with fail
       refine (HRI2.out _).mono ?_
       rintro e v2 ⟨rfl, hb⟩
       have HY2 := Hd (HY1.out.call hb)
       have HZ2 := Hd (HZ1.out.call hb)
       have y2 := HY2.out.a.cell
       have z2 := HZ2.out.a.cell
       clear hb
       cases bR2 with
       | false =>
        have HF2 := Hd (HPF.out (by rw [HP.out]; try first | rfl | simp))
        clear HP HPF HPT
        go_wp2
        go_ret
        exact ⟨by rw [HR.out, HF2.out]; rfl, HZ2.out.bel⟩
       | true =>
        by_cases hl0 : n2 = 0
        rotate_left
        ·have HP2 := HP.out
         rw [decide_eq_false hl0] at HP2
         have HP := Hd HP2
         clear HP2
         have ql : decide (0 < n2) = true := decide_eq_true (by omega)
         have HF2 := Hd (HPF.out (by rw [HP.out]; try first | rfl | simp))
         clear HP HPF HPT
         go_wp2
         go_ret
         exact ⟨by rw [HR.out, HF2.out]; rfl, HZ2.out.bel⟩
        have HP2 := HP.out
        rw [decide_eq_true hl0] at HP2
        have HP := Hd HP2
        clear HP2
        have ql : decide (0 < n2) = false := decide_eq_false (by omega)
        have HL0 := Hd hl0
        clear hl0
        by_cases hb4 : b0 = 4
        ·subst hb4
         have HFX := Hd fun W => fields_nm 4 b1 b2 b3 b4 b5 b6 b7 b8 b9 x2 n2 k2 4 b1 0 b3 b4 0 0 0 0 0 none 0 0 W
         have HP2 : prmB 2 (kat ks j) = sameL ⟨4, b1, 0, b3, b4, 0, 0, 0, 0, 0⟩ ⟨4, b1, b2, b3, b4, b5, b6, b7, b8, b9⟩ := by
          rw [HP.out]
          simp
          try rfl
         have HP := Hd HP2
         clear HP2
         generalize sameL ⟨4, b1, 0, b3, b4, 0, 0, 0, 0, 0⟩ ⟨4, b1, b2, b3, b4, b5, b6, b7, b8, b9⟩ = bF2 at *
         go_wp2_with fail
         refine (HFX.out _).mono ?_
         rintro e v3 ⟨rfl, hb⟩
         have HY3 := Hd (HY2.out.call hb)
         have HZ3 := Hd (HZ2.out.call hb)
         have y3 := HY3.out.a.cell
         have z3 := HZ3.out.a.cell
         clear hb
         cases bF2 with
         | false =>
          have HF2 := Hd (HPF.out (by rw [HP.out]; try first | rfl | simp))
          clear HP HPF HPT
          go_wp2
          go_ret
          exact ⟨by rw [HR.out, HF2.out]; rfl, HZ3.out.bel⟩
         | true =>
          have HX2 := HPT.out _ HZ3.out (by rw [HP.out]; try first | rfl | simp)
          clear HP HPF HPT
          go_wp2
          go_roundw
          case rel => exact ⟨j + 1, by omega, by go_num, HX2⟩
          case measure => simp [intOf]; omega
        have HP2 : prmB 2 (kat ks j) = false := by
         rw [HP.out]
         simp [hb4]
        have HP := Hd HP2
        clear HP2
        have qb4 : (b0 == 4) = false := by rw [beq_eq_false_iff_ne]; exact hb4
        have HF2 := Hd (HPF.out HP.out)
        clear HP HPF HPT
        go_wp2
        go_ret
        exact ⟨by rw [HR.out, HF2.out]; rfl, HZ2.out.bel⟩
end Go.Proofs.YthdbaligapdbeaaGreatDoor
/- The reference's function: kernels with a result. -/
namespace Go.Proofs.YthdbaligapdbeaaGreatDoor
open Go Go.RowKit
set_option linter.unusedVariables false

set_option maxHeartbeats 16000000 in
set_option maxRecDepth 100000 in
theorem func_3t {d : Nat} (t : Tree) (ht : depth t ≤ d + 1) (hwf : TreeWf 281474976710656 t) (hk : ∀ l ks, t = .node l ks → l.kind = 3 ∧ typB l.wd = true) (l : Lab) (x : Option Addr) (n k : Nat) (w : World) (hT : TreeAt w (fun _ => True) [.int .i64 l.kind, .string (str l.name), .int .u64 l.num, .int .i64 l.wd, .bool l.sg, .int .i64 l.op, .int .i64 l.fac, .int .i64 l.pip, .int .i64 l.unr, .int .i64 l.line, .slice x n k] t) :
  Calls Tryz.prog 32 #[.agg #[.int .i64 l.kind, .string (str l.name), .int .u64 l.num, .int .i64 l.wd, .bool l.sg, .int .i64 l.op, .int .i64 l.fac, .int .i64 l.pip, .int .i64 l.unr, .int .i64 l.line, .slice x n k]] w fun e w' => e = .returned (.bool (funcB d t)) ∧ Below w.heap.size w w' := by
 obtain ⟨lt, ks⟩ := t
 obtain ⟨xk, kk, hcs, hnk, hkm, hkids⟩ := TreeAt.kids hT
 obtain ⟨rfl, hv⟩ := lab_of (l := l) (m := lt) hcs
 simp only [Value.slice.injEq] at hv
 obtain ⟨rfl, rfl, rfl⟩ := hv
 obtain ⟨hlw, hkw⟩ := wf_node hwf
 have hnm := hlw.name
 have hdk : ∀ i, i < ks.length → depth (kat ks i) ≤ d := fun i hi => by
  have := depth_kat hi
  rw [depth] at ht
  omega
 have hkk := hk _ _ rfl
 clear hcs ht hwf hlw hk
 have HN := Hd fun W => rname_any l.name hnm W
 have HRI := Hd fun W => right_any l.wd l.sg W
 have HK : Hid (∀ W, Below w.heap.size w W → ∀ i, i < ks.length → ∃ a, x = some a ∧ True ∧ KidAt W (fun _ => True) a i (kat ks i)) := Hd fun W hb i hi => by
  obtain ⟨a, h1, h2, h3⟩ := hkids i hi
  exact ⟨a, h1, h2, h3.keep h2 (fun g hg hl => hb.block g hl) fun _ _ _ => trivial⟩
 have HBD := Hd fun i (hi : i < ks.length) => (bs_any d).1 (kat ks i) (hdk i hi) (hkw i hi)
 have HWF := Hd hkw
 have HB0 : Hid (BW w (w.alloc (.cells #[.int .i64 l.kind, .string (str l.name), .int .u64 l.num, .int .i64 l.wd, .bool l.sg, .int .i64 l.op, .int .i64 l.fac, .int .i64 l.pip, .int .i64 l.unr, .int .i64 l.line, .slice x ks.length k] 27)) [.int .i64 l.kind, .string (str l.name), .int .u64 l.num, .int .i64 l.wd, .bool l.sg, .int .i64 l.op, .int .i64 l.fac, .int .i64 l.pip, .int .i64 l.unr, .int .i64 l.line, .slice x ks.length k]) := Hd (BW.start w _)
 have HL3 : Hid (∀ i j, j ≤ ks.length → i < j → prmB l.kind (kat ks i) = false → (ks.take j).all (prmB l.kind) = false) := Hd fun i j h1 h2 h3 => take_all_false h1 h2 h3
 have HL2 : Hid (∀ j, j ≤ ks.length → (∀ i, i < j → prmB l.kind (kat ks i) = true) → (ks.take j).all (prmB l.kind) = true) := Hd fun j h1 h2 => (all_take ks j h1).2 h2
 unfold maxLen at hkm
 obtain ⟨a0, a1, a2, a3, a4, a5, a6, a7, a8, a9⟩ := l
 dsimp only at *
 clear hkids hkw hdk hnm
 obtain ⟨hkk, htw⟩ := hkk
 subst hkk
 generalize hNN : ks.length = N at *
 have HNN := Hd hNN
 clear hNN
 generalize hb1 : nameB a1 = bN at *
 generalize hb2 : typB a3 = bR at *
 have HNB := Hd (And.intro hb1 hb2)
 clear hb1 hb2
 have c0 := HB0.out.a.cell
 have HF := Hd fun W => fields_nm 3 a1 a2 a3 a4 a5 a6 a7 a8 a9 x N k 3 a1 0 a3 a4 0 0 0 0 0 none 0 0 W
 have HR : Hid (funcB d (.node ⟨3, a1, a2, a3, a4, a5, a6, a7, a8, a9⟩ ks) = (sameL ⟨3, a1, 0, a3, a4, 0, 0, 0, 0, 0⟩ ⟨3, a1, a2, a3, a4, a5, a6, a7, a8, a9⟩ && (bN && (decide (0 < N) && (bodyB d (kat ks (N - 1)) && ((decide ((3 : Int) = 2) || decide ((3 : Int) = 3)) && ((bR || (decide ((3 : Int) ≠ 2) && zerB a3 a4)) && (ks.take (N - 1)).all (prmB 3)))))))) := Hd (by rw [funcB, HNN.out]; simp only [HNB.out.1, HNB.out.2]; try rfl)
 generalize sameL ⟨3, a1, 0, a3, a4, 0, 0, 0, 0, 0⟩ ⟨3, a1, a2, a3, a4, a5, a6, a7, a8, a9⟩ = bF at *
 clear HNB
 obtain ⟨M, hM⟩ : ∃ M : Int, M = (N : Int) - 1 := ⟨_, rfl⟩
 have HM := Hd hM
 have hMs : (N : Int) - 1 = M := hM.symm
 clear hM
 go_enter Tryz.func32, Tryz.ntmps32
 go_wp2_with fail
 refine (HF.out _).mono ?_
 rintro e w1 ⟨rfl, hb⟩
 have HB1 := Hd (HB0.out.call hb)
 have c1 := HB1.out.a.cell
 clear hb
 cases bF with
 | false =>
  go_wp2
  go_ret
  exact ⟨by rw [HR.out]; rfl, HB1.out.bel⟩
 | true =>
  go_wp2_with fail
  refine (HN.out _).mono ?_
  rintro e w2 ⟨rfl, hb⟩
  have HB2 := Hd (HB1.out.call hb)
  have c2 := HB2.out.a.cell
  clear hb
  cases bN with
  | false =>
   go_wp2
   go_ret
   exact ⟨by rw [HR.out]; rfl, HB2.out.bel⟩
  | true =>
   by_cases h0 : 0 < N
   rotate_left
   ·have HR2 := HR.out
    rw [decide_eq_false h0] at HR2
    have HR := Hd HR2
    clear HR2
    have hMn : M < 0 := by have := HM.out; omega
    have qm : decide (M < 0) = true := decide_eq_true hMn
    go_wp2
    go_ret
    exact ⟨by rw [HR.out]; rfl, HB2.out.bel⟩
   have HR2 := HR.out
   rw [decide_eq_true h0] at HR2
   have HR := Hd HR2
   clear HR2
   obtain ⟨m, hm⟩ : ∃ m : Nat, N = m + 1 := ⟨N - 1, by omega⟩
   have hmM : M = (m : Int) := by have := HM.out; omega
   have hm1 : N - 1 = m := by omega
   rw [hm1] at HR
   have HM1 := Hd hm
   clear hm hm1 hMs HM
   subst hmM
   have qm : decide ((m : Int) < 0) = false := decide_eq_false (by omega)
   obtain ⟨ad, hxa, hab, hkid⟩ := HK.out _ HB2.out.bel m (by have := HM1.out; omega)
   subst hxa
   obtain ⟨l2, x2, n2, k2, ⟨e0, e1, e2, e3, e4, e5, e6, e7, e8, e9, e10⟩, hT⟩ := hkid
   have hj0 : (0 : Int) ≤ (m : Int) := by omega
   have hj1 : (m : Int) < (N : Int) := by have := HM1.out; omega
   have HC := Hd (HBD.out m (by have := HM1.out; omega) l2 x2 n2 k2 _ hT)
   generalize bodyB d (kat ks m) = bB at *
   clear hT
   go_wp2_with fail
   refine (HC.out).mono ?_
   rintro e w3 ⟨rfl, hb⟩
   have HB3 := Hd (HB2.out.call hb)
   have c3 := HB3.out.a.cell
   clear hb
   clear e0 e1 e2 e3 e4 e5 e6 e7 e8 e9 e10 hj1
   cases bB with
   | false =>
    go_wp2
    go_ret
    exact ⟨by rw [HR.out]; rfl, HB3.out.bel⟩
   | true =>
    go_wp2_with fail
    refine (HRI.out _).mono ?_
    rintro e w4 ⟨rfl, hb⟩
    have HB4 := Hd (HB3.out.call hb)
    have c4 := HB4.out.a.cell
    clear hb
    have HR2 : funcB d (.node ⟨3, a1, a2, a3, a4, a5, a6, a7, a8, a9⟩ ks) = ((bR || zerB a3 a4) && (ks.take m).all (prmB 3)) := by rw [HR.out]; cases bR <;> simp
    have HR := Hd HR2
    clear HR2
    obtain ⟨bZ, hbZ⟩ : ∃ b, b = zerB a3 a4 := ⟨_, rfl⟩
    have HR2 := HR.out
    rw [← hbZ] at HR2
    have HR := Hd HR2
    have q9 : ∀ W, (binOp .neq 24 (.agg #[.int .i64 a3, .bool a4]) (.agg #[.int .i64 0, .bool false])).run Tryz.prog W = .ok (.bool (!bZ)) W := fun W => by rw [hbZ]; exact nzer_eq a3 a4 W
    clear hbZ HR2
    cases bR with
    | false => exact absurd htw (by simp)
    | true =>
     have h0 : Hid (ExSt (prmB 3) w _ [.int .i64 3, .string (str a1), .int .u64 a2, .int .i64 a3, .bool a4, .int .i64 a5, .int .i64 a6, .int .i64 a7, .int .i64 a8, .int .i64 a9, .slice (some ad) N k] ks 0) := Hd ⟨HB4.out, fun i hi => by omega⟩
     go_wp2
     clear c0 c1 c2 c3 c4 HB0 HB1 HB2 HB3 HB4
     go_loopw [4, 5] (fun i p wr => ∃ j : Nat, j ≤ m ∧ i = .int .i64 (j : Int) ∧ Hid (ExSt (prmB 3) w wr [.int .i64 3, .string (str a1), .int .u64 a2, .int .i64 a3, .bool a4, .int .i64 a5, .int .i64 a6, .int .i64 a7, .int .i64 a8, .int .i64 a9, .slice (some ad) N k] ks j)) (fun i _ _ => m - (intOf i).toNat)
     case atStart => exact ⟨0, by omega, rfl, h0⟩
     case round =>
      clear h0
      obtain ⟨j, hj, rfl, hX⟩ := hrel
      have c0 := hX.out.bw.a.cell
      by_cases hjm : j < m
      rotate_left
      ·obtain rfl : j = m := by omega
       have HA := Hd (HL2.out j (by have := HM1.out; omega) hX.out.all)
       have HB := Hd hX.out.bw.bel
       clear hX
       have qj : decide (j < j) = false := decide_eq_false (by omega)
       go_wp2
       go_ret
       exact ⟨by rw [HR.out, HA.out]; rfl, HB.out⟩
      have qjm : decide (j < m) = true := decide_eq_true hjm
      obtain ⟨ad2, hxa, hab2, hkid⟩ := HK.out _ hX.out.bw.bel j (by have := HM1.out; omega)
      injection hxa with hxa
      subst hxa
      obtain ⟨l2, x2, n2, k2, ⟨e0, e1, e2, e3, e4, e5, e6, e7, e8, e9, e10⟩, hT3⟩ := hkid
      obtain ⟨us, hus, hul⟩ := kid_lab hT3
      have hnm2 := (wf_node (N := 281474976710656) (l := l2) (ks := us) (by rw [← hus]; exact HWF.out j (by have := HM1.out; omega))).1.name
      have hp0 := prmB_eq 3 l2 us
      rw [← hus, hul] at hp0
      have HP := Hd hp0
      clear hp0
      have HN2 := Hd fun W => rname_any l2.name hnm2 W
      have HRI2 := Hd fun W => right_any l2.wd l2.sg W
      have HPF : Hid (prmB 3 (kat ks j) = false → (ks.take m).all (prmB 3) = false) := Hd (HL3.out j m (by have := HM1.out; omega) hjm)
      have HPT : Hid (∀ W, BW w W [.int .i64 3, .string (str a1), .int .u64 a2, .int .i64 a3, .bool a4, .int .i64 a5, .int .i64 a6, .int .i64 a7, .int .i64 a8, .int .i64 a9, .slice (some ad) N k] → prmB 3 (kat ks j) = true → Hid (ExSt (prmB 3) w W [.int .i64 3, .string (str a1), .int .u64 a2, .int .i64 a3, .bool a4, .int .i64 a5, .int .i64 a6, .int .i64 a7, .int .i64 a8, .int .i64 a9, .slice (some ad) N k] ks (j + 1))) := Hd fun W hb hp => Hd (hX.out.step hb hp)
      obtain ⟨b0, b1, b2, b3, b4, b5, b6, b7, b8, b9⟩ := l2
      dsimp only at *
      clear hT3 hus hul hnm2
      generalize nameB b1 = bN2 at *
      generalize typB b3 = bR2 at *
      have HY0 := Hd (BW.start wr [.int .i64 b0, .string (str b1), .int .u64 b2, .int .i64 b3, .bool b4, .int .i64 b5, .int .i64 b6, .int .i64 b7, .int .i64 b8, .int .i64 b9, .slice x2 n2 k2])
      have HZ0 := Hd (hX.out.bw.call ((Below.refl wr.heap.size wr).alloc (Nat.le_refl _) (.cells #[.int .i64 b0, .string (str b1), .int .u64 b2, .int .i64 b3, .bool b4, .int .i64 b5, .int .i64 b6, .int .i64 b7, .int .i64 b8, .int .i64 b9, .slice x2 n2 k2] 27)))
      have y0 := HY0.out.a.cell
      have z0 := HZ0.out.a.cell
      have hj0 : (0 : Int) ≤ (j : Int) := by omega
      have hj1 : (j : Int) < (N : Int) := by have := HM1.out; omega
      clear hX
      go_wp2_with fail
      refine (HN2.out _).mono ?_
      rintro e v1 ⟨rfl, hb⟩
      have HY1 := Hd (HY0.out.call hb)
      have HZ1 := Hd (HZ0.out.call hb)
      have y1 := HY1.out.a.cell
      have z1 := HZ1.out.a.cell
      clear hb
      clear e0 e1 e2 e3 e4 e5 e6 e7 e8 e9 e10
      cases bN2 with
      | false =>
       have HF2 := Hd (HPF.out (by rw [HP.out]; try first | rfl | simp))
       clear HP HPF HPT
       go_wp2
       go_ret
       exact ⟨by rw [HR.out, HF2.out]; rfl, HZ1.out.bel⟩
      | true =>
       go_wp2_with fail
       refine (HRI2.out _).mono ?_
       rintro e v2 ⟨rfl, hb⟩
       have HY2 := Hd (HY1.out.call hb)
       have HZ2 := Hd (HZ1.out.call hb)
       have y2 := HY2.out.a.cell
       have z2 := HZ2.out.a.cell
       clear hb
       cases bR2 with
       | false =>
        have HF2 := Hd (HPF.out (by rw [HP.out]; try first | rfl | simp))
        clear HP HPF HPT
        go_wp2
        go_ret
        exact ⟨by rw [HR.out, HF2.out]; rfl, HZ2.out.bel⟩
       | true =>
        by_cases hl0 : n2 = 0
        rotate_left
        ·have HP2 := HP.out
         rw [decide_eq_false hl0] at HP2
         have HP := Hd HP2
         clear HP2
         have ql : decide (0 < n2) = true := decide_eq_true (by omega)
         have HF2 := Hd (HPF.out (by rw [HP.out]; try first | rfl | simp))
         clear HP HPF HPT
         go_wp2
         go_ret
         exact ⟨by rw [HR.out, HF2.out]; rfl, HZ2.out.bel⟩
        have HP2 := HP.out
        rw [decide_eq_true hl0] at HP2
        have HP := Hd HP2
        clear HP2
        have ql : decide (0 < n2) = false := decide_eq_false (by omega)
        have HL0 := Hd hl0
        clear hl0
        by_cases hb4 : b0 = 4
        ·subst hb4
         have HFX := Hd fun W => fields_nm 4 b1 b2 b3 b4 b5 b6 b7 b8 b9 x2 n2 k2 4 b1 0 b3 b4 0 0 0 0 0 none 0 0 W
         have HP2 : prmB 3 (kat ks j) = sameL ⟨4, b1, 0, b3, b4, 0, 0, 0, 0, 0⟩ ⟨4, b1, b2, b3, b4, b5, b6, b7, b8, b9⟩ := by
          rw [HP.out]
          simp
          try rfl
         have HP := Hd HP2
         clear HP2
         generalize sameL ⟨4, b1, 0, b3, b4, 0, 0, 0, 0, 0⟩ ⟨4, b1, b2, b3, b4, b5, b6, b7, b8, b9⟩ = bF2 at *
         go_wp2_with fail
         refine (HFX.out _).mono ?_
         rintro e v3 ⟨rfl, hb⟩
         have HY3 := Hd (HY2.out.call hb)
         have HZ3 := Hd (HZ2.out.call hb)
         have y3 := HY3.out.a.cell
         have z3 := HZ3.out.a.cell
         clear hb
         cases bF2 with
         | false =>
          have HF2 := Hd (HPF.out (by rw [HP.out]; try first | rfl | simp))
          clear HP HPF HPT
          go_wp2
          go_ret
          exact ⟨by rw [HR.out, HF2.out]; rfl, HZ3.out.bel⟩
         | true =>
          have HX2 := HPT.out _ HZ3.out (by rw [HP.out]; try first | rfl | simp)
          clear HP HPF HPT
          go_wp2
          go_roundw
          case rel => exact ⟨j + 1, by omega, by go_num, HX2⟩
          case measure => simp [intOf]; omega
        by_cases hb6 : b0 = 6
        ·subst hb6
         have HFX := Hd fun W => fields_nm 6 b1 b2 b3 b4 b5 b6 b7 b8 b9 x2 n2 k2 6 b1 0 b3 b4 0 0 0 0 0 none 0 0 W
         have HP2 : prmB 3 (kat ks j) = sameL ⟨6, b1, 0, b3, b4, 0, 0, 0, 0, 0⟩ ⟨6, b1, b2, b3, b4, b5, b6, b7, b8, b9⟩ := by
          rw [HP.out]
          simp
          try rfl
         have HP := Hd HP2
         clear HP2
         generalize sameL ⟨6, b1, 0, b3, b4, 0, 0, 0, 0, 0⟩ ⟨6, b1, b2, b3, b4, b5, b6, b7, b8, b9⟩ = bF2 at *
         go_wp2_with fail
         refine (HFX.out _).mono ?_
         rintro e v3 ⟨rfl, hb⟩
         have HY3 := Hd (HY2.out.call hb)
         have HZ3 := Hd (HZ2.out.call hb)
         have y3 := HY3.out.a.cell
         have z3 := HZ3.out.a.cell
         clear hb
         cases bF2 with
         | false =>
          have HF2 := Hd (HPF.out (by rw [HP.out]; try first | rfl | simp))
          clear HP HPF HPT
          go_wp2
          go_ret
          exact ⟨by rw [HR.out, HF2.out]; rfl, HZ3.out.bel⟩
         | true =>
          have HX2 := HPT.out _ HZ3.out (by rw [HP.out]; try first | rfl | simp)
          clear HP HPF HPT
          go_wp2
          go_roundw
          case rel => exact ⟨j + 1, by omega, by go_num, HX2⟩
          case measure => simp [intOf]; omega
        by_cases hb7 : b0 = 7
        ·subst hb7
         have HFX := Hd fun W => fields_nm 7 b1 b2 b3 b4 b5 b6 b7 b8 b9 x2 n2 k2 7 b1 0 b3 b4 0 0 0 0 0 none 0 0 W
         have HP2 : prmB 3 (kat ks j) = sameL ⟨7, b1, 0, b3, b4, 0, 0, 0, 0, 0⟩ ⟨7, b1, b2, b3, b4, b5, b6, b7, b8, b9⟩ := by
          rw [HP.out]
          simp
          try rfl
         have HP := Hd HP2
         clear HP2
         generalize sameL ⟨7, b1, 0, b3, b4, 0, 0, 0, 0, 0⟩ ⟨7, b1, b2, b3, b4, b5, b6, b7, b8, b9⟩ = bF2 at *
         go_wp2_with fail
         refine (HFX.out _).mono ?_
         rintro e v3 ⟨rfl, hb⟩
         have HY3 := Hd (HY2.out.call hb)
         have HZ3 := Hd (HZ2.out.call hb)
         have y3 := HY3.out.a.cell
         have z3 := HZ3.out.a.cell
         clear hb
         cases bF2 with
         | false =>
          have HF2 := Hd (HPF.out (by rw [HP.out]; try first | rfl | simp))
          clear HP HPF HPT
          go_wp2
          go_ret
          exact ⟨by rw [HR.out, HF2.out]; rfl, HZ3.out.bel⟩
         | true =>
          have HX2 := HPT.out _ HZ3.out (by rw [HP.out]; try first | rfl | simp)
          clear HP HPF HPT
          go_wp2
          go_roundw
          case rel => exact ⟨j + 1, by omega, by go_num, HX2⟩
          case measure => simp [intOf]; omega
        by_cases hb5 : b0 = 5
        ·subst hb5
         have HFX := Hd fun W => fields_nm 5 b1 b2 b3 b4 b5 b6 b7 b8 b9 x2 n2 k2 5 b1 b2 b3 b4 b5 b6 0 0 0 none 0 0 W
         have HP2 : prmB 3 (kat ks j) = (sameL ⟨5, b1, b2, b3, b4, b5, b6, 0, 0, 0⟩ ⟨5, b1, b2, b3, b4, b5, b6, b7, b8, b9⟩ && (decide (b2 ≤ 1048576) && (decide (0 ≤ b5) && (decide (b5 ≤ 3) && (decide (0 ≤ b6) && (decide (b6 ≤ 1048576) && !(decide (0 < b6) && (decide (b5 ≠ 1) && decide (b5 ≠ 2))))))))) := by
          rw [HP.out]
          simp
          try rfl
         have HP := Hd HP2
         clear HP2
         generalize sameL ⟨5, b1, b2, b3, b4, b5, b6, 0, 0, 0⟩ ⟨5, b1, b2, b3, b4, b5, b6, b7, b8, b9⟩ = bF2 at *
         go_wp2_with fail
         refine (HFX.out _).mono ?_
         rintro e v3 ⟨rfl, hb⟩
         have HY3 := Hd (HY2.out.call hb)
         have HZ3 := Hd (HZ2.out.call hb)
         have y3 := HY3.out.a.cell
         have z3 := HZ3.out.a.cell
         clear hb
         cases bF2 with
         | false =>
          have HF2 := Hd (HPF.out (by rw [HP.out]; try first | rfl | simp))
          clear HP HPF HPT
          go_wp2
          go_ret
          exact ⟨by rw [HR.out, HF2.out]; rfl, HZ3.out.bel⟩
         | true =>
          by_cases u1 : b2 ≤ 1048576
          rotate_left
          ·have HP2 := HP.out
           rw [decide_eq_false u1] at HP2
           have HP := Hd HP2
           clear HP2
           have q21 : decide (1048576 < b2) = true := decide_eq_true (by omega)
           have HF2 := Hd (HPF.out (by rw [HP.out]; try first | rfl | simp))
           clear HP HPF HPT
           go_wp2
           go_ret
           exact ⟨by rw [HR.out, HF2.out]; rfl, HZ3.out.bel⟩
          have HP2 := HP.out
          rw [decide_eq_true u1] at HP2
          have HP := Hd HP2
          clear HP2
          have q21 : decide (1048576 < b2) = false := decide_eq_false (by omega)
          by_cases u2 : 0 ≤ b5
          rotate_left
          ·have HP2 := HP.out
           rw [decide_eq_false u2] at HP2
           have HP := Hd HP2
           clear HP2
           have q22 : decide (b5 < 0) = true := decide_eq_true (by omega)
           have HF2 := Hd (HPF.out (by rw [HP.out]; try first | rfl | simp))
           clear HP HPF HPT
           go_wp2
           go_ret
           exact ⟨by rw [HR.out, HF2.out]; rfl, HZ3.out.bel⟩
          have HP2 := HP.out
          rw [decide_eq_true u2] at HP2
          have HP := Hd HP2
          clear HP2
          have q22 : decide (b5 < 0) = false := decide_eq_false (by omega)
          by_cases u3 : b5 ≤ 3
          rotate_left
          ·have HP2 := HP.out
           rw [decide_eq_false u3] at HP2
           have HP := Hd HP2
           clear HP2
           have q23 : decide (3 < b5) = true := decide_eq_true (by omega)
           have HF2 := Hd (HPF.out (by rw [HP.out]; try first | rfl | simp))
           clear HP HPF HPT
           go_wp2
           go_ret
           exact ⟨by rw [HR.out, HF2.out]; rfl, HZ3.out.bel⟩
          have HP2 := HP.out
          rw [decide_eq_true u3] at HP2
          have HP := Hd HP2
          clear HP2
          have q23 : decide (3 < b5) = false := decide_eq_false (by omega)
          by_cases u4 : 0 ≤ b6
          rotate_left
          ·have HP2 := HP.out
           rw [decide_eq_false u4] at HP2
           have HP := Hd HP2
           clear HP2
           have q24 : decide (b6 < 0) = true := decide_eq_true (by omega)
           have HF2 := Hd (HPF.out (by rw [HP.out]; try first | rfl | simp))
           clear HP HPF HPT
           go_wp2
           go_ret
           exact ⟨by rw [HR.out, HF2.out]; rfl, HZ3.out.bel⟩
          have HP2 := HP.out
          rw [decide_eq_true u4] at HP2
          have HP := Hd HP2
          clear HP2
          have q24 : decide (b6 < 0) = false := decide_eq_false (by omega)
          by_cases u5 : b6 ≤ 1048576
          rotate_left
          ·have HP2 := HP.out
           rw [decide_eq_false u5] at HP2
           have HP := Hd HP2
           clear HP2
           have q25 : decide (1048576 < b6) = true := decide_eq_true (by omega)
           have HF2 := Hd (HPF.out (by rw [HP.out]; try first | rfl | simp))
           clear HP HPF HPT
           go_wp2
           go_ret
           exact ⟨by rw [HR.out, HF2.out]; rfl, HZ3.out.bel⟩
          have HP2 := HP.out
          rw [decide_eq_true u5] at HP2
          have HP := Hd HP2
          clear HP2
          have q25 : decide (1048576 < b6) = false := decide_eq_false (by omega)
          by_cases u6 : 0 < b6
          rotate_left
          ·have HP2 := HP.out
           rw [decide_eq_false u6] at HP2
           have HP := Hd HP2
           clear HP2
           have q26 : decide (0 < b6) = false := decide_eq_false u6
           have HX2 := HPT.out _ HZ3.out (by rw [HP.out]; try first | rfl | simp)
           clear HP HPF HPT
           go_wp2
           go_roundw
           case rel => exact ⟨j + 1, by omega, by go_num, HX2⟩
           case measure => simp [intOf]; omega
          have q26 : decide (0 < b6) = true := decide_eq_true u6
          by_cases u7 : b5 = 1
          ·have HP2 := HP.out
           rw [decide_eq_true u6, decide_eq_false (by omega : ¬ b5 ≠ 1)] at HP2
           have HP := Hd HP2
           clear HP2 u2 u3
           subst u7
           have HX2 := HPT.out _ HZ3.out (by rw [HP.out]; try first | rfl | simp)
           clear HP HPF HPT
           go_wp2
           go_roundw
           case rel => exact ⟨j + 1, by omega, by go_num, HX2⟩
           case measure => simp [intOf]; omega
          by_cases u8 : b5 = 2
          ·have HP2 := HP.out
           rw [decide_eq_true u6, decide_eq_false (by omega : ¬ b5 ≠ 2)] at HP2
           have HP := Hd HP2
           clear HP2 u2 u3 u7
           subst u8
           have HX2 := HPT.out _ HZ3.out (by rw [HP.out]; try first | rfl | simp)
           clear HP HPF HPT
           go_wp2
           go_roundw
           case rel => exact ⟨j + 1, by omega, by go_num, HX2⟩
           case measure => simp [intOf]; omega
          have HP2 := HP.out
          rw [decide_eq_true u6, decide_eq_true u7, decide_eq_true u8] at HP2
          have HP := Hd HP2
          clear HP2
          have q27 : (b5 == 1) = false := by rw [beq_eq_false_iff_ne]; exact u7
          have q28 : (b5 == 2) = false := by rw [beq_eq_false_iff_ne]; exact u8
          have q29 : (b5 != 1) = true := by rw [bne_iff_ne]; exact u7
          have q30 : (b5 != 2) = true := by rw [bne_iff_ne]; exact u8
          have HF2 := Hd (HPF.out (by rw [HP.out]; try first | rfl | simp))
          clear HP HPF HPT
          go_wp2
          go_ret
          exact ⟨by rw [HR.out, HF2.out]; rfl, HZ3.out.bel⟩
        have HP2 : prmB 3 (kat ks j) = false := by
         rw [HP.out]
         simp [hb4, hb6, hb7, hb5]
        have HP := Hd HP2
        clear HP2
        have qb4 : (b0 == 4) = false := by rw [beq_eq_false_iff_ne]; exact hb4
        have qb6 : (b0 == 6) = false := by rw [beq_eq_false_iff_ne]; exact hb6
        have qb7 : (b0 == 7) = false := by rw [beq_eq_false_iff_ne]; exact hb7
        have qb5 : (b0 == 5) = false := by rw [beq_eq_false_iff_ne]; exact hb5
        have HF2 := Hd (HPF.out HP.out)
        clear HP HPF HPT
        go_wp2
        go_ret
        exact ⟨by rw [HR.out, HF2.out]; rfl, HZ2.out.bel⟩
end Go.Proofs.YthdbaligapdbeaaGreatDoor
/- The reference's function: kernels without. -/
namespace Go.Proofs.YthdbaligapdbeaaGreatDoor
open Go Go.RowKit
set_option linter.unusedVariables false

set_option maxHeartbeats 16000000 in
set_option maxRecDepth 100000 in
theorem func_3f {d : Nat} (t : Tree) (ht : depth t ≤ d + 1) (hwf : TreeWf 281474976710656 t) (hk : ∀ l ks, t = .node l ks → l.kind = 3 ∧ typB l.wd = false) (l : Lab) (x : Option Addr) (n k : Nat) (w : World) (hT : TreeAt w (fun _ => True) [.int .i64 l.kind, .string (str l.name), .int .u64 l.num, .int .i64 l.wd, .bool l.sg, .int .i64 l.op, .int .i64 l.fac, .int .i64 l.pip, .int .i64 l.unr, .int .i64 l.line, .slice x n k] t) :
  Calls Tryz.prog 32 #[.agg #[.int .i64 l.kind, .string (str l.name), .int .u64 l.num, .int .i64 l.wd, .bool l.sg, .int .i64 l.op, .int .i64 l.fac, .int .i64 l.pip, .int .i64 l.unr, .int .i64 l.line, .slice x n k]] w fun e w' => e = .returned (.bool (funcB d t)) ∧ Below w.heap.size w w' := by
 obtain ⟨lt, ks⟩ := t
 obtain ⟨xk, kk, hcs, hnk, hkm, hkids⟩ := TreeAt.kids hT
 obtain ⟨rfl, hv⟩ := lab_of (l := l) (m := lt) hcs
 simp only [Value.slice.injEq] at hv
 obtain ⟨rfl, rfl, rfl⟩ := hv
 obtain ⟨hlw, hkw⟩ := wf_node hwf
 have hnm := hlw.name
 have hdk : ∀ i, i < ks.length → depth (kat ks i) ≤ d := fun i hi => by
  have := depth_kat hi
  rw [depth] at ht
  omega
 have hkk := hk _ _ rfl
 clear hcs ht hwf hlw hk
 have HN := Hd fun W => rname_any l.name hnm W
 have HRI := Hd fun W => right_any l.wd l.sg W
 have HK : Hid (∀ W, Below w.heap.size w W → ∀ i, i < ks.length → ∃ a, x = some a ∧ True ∧ KidAt W (fun _ => True) a i (kat ks i)) := Hd fun W hb i hi => by
  obtain ⟨a, h1, h2, h3⟩ := hkids i hi
  exact ⟨a, h1, h2, h3.keep h2 (fun g hg hl => hb.block g hl) fun _ _ _ => trivial⟩
 have HBD := Hd fun i (hi : i < ks.length) => (bs_any d).1 (kat ks i) (hdk i hi) (hkw i hi)
 have HWF := Hd hkw
 have HB0 : Hid (BW w (w.alloc (.cells #[.int .i64 l.kind, .string (str l.name), .int .u64 l.num, .int .i64 l.wd, .bool l.sg, .int .i64 l.op, .int .i64 l.fac, .int .i64 l.pip, .int .i64 l.unr, .int .i64 l.line, .slice x ks.length k] 27)) [.int .i64 l.kind, .string (str l.name), .int .u64 l.num, .int .i64 l.wd, .bool l.sg, .int .i64 l.op, .int .i64 l.fac, .int .i64 l.pip, .int .i64 l.unr, .int .i64 l.line, .slice x ks.length k]) := Hd (BW.start w _)
 have HL3 : Hid (∀ i j, j ≤ ks.length → i < j → prmB l.kind (kat ks i) = false → (ks.take j).all (prmB l.kind) = false) := Hd fun i j h1 h2 h3 => take_all_false h1 h2 h3
 have HL2 : Hid (∀ j, j ≤ ks.length → (∀ i, i < j → prmB l.kind (kat ks i) = true) → (ks.take j).all (prmB l.kind) = true) := Hd fun j h1 h2 => (all_take ks j h1).2 h2
 unfold maxLen at hkm
 obtain ⟨a0, a1, a2, a3, a4, a5, a6, a7, a8, a9⟩ := l
 dsimp only at *
 clear hkids hkw hdk hnm
 obtain ⟨hkk, htw⟩ := hkk
 subst hkk
 generalize hNN : ks.length = N at *
 have HNN := Hd hNN
 clear hNN
 generalize hb1 : nameB a1 = bN at *
 generalize hb2 : typB a3 = bR at *
 have HNB := Hd (And.intro hb1 hb2)
 clear hb1 hb2
 have c0 := HB0.out.a.cell
 have HF := Hd fun W => fields_nm 3 a1 a2 a3 a4 a5 a6 a7 a8 a9 x N k 3 a1 0 a3 a4 0 0 0 0 0 none 0 0 W
 have HR : Hid (funcB d (.node ⟨3, a1, a2, a3, a4, a5, a6, a7, a8, a9⟩ ks) = (sameL ⟨3, a1, 0, a3, a4, 0, 0, 0, 0, 0⟩ ⟨3, a1, a2, a3, a4, a5, a6, a7, a8, a9⟩ && (bN && (decide (0 < N) && (bodyB d (kat ks (N - 1)) && ((decide ((3 : Int) = 2) || decide ((3 : Int) = 3)) && ((bR || (decide ((3 : Int) ≠ 2) && zerB a3 a4)) && (ks.take (N - 1)).all (prmB 3)))))))) := Hd (by rw [funcB, HNN.out]; simp only [HNB.out.1, HNB.out.2]; try rfl)
 generalize sameL ⟨3, a1, 0, a3, a4, 0, 0, 0, 0, 0⟩ ⟨3, a1, a2, a3, a4, a5, a6, a7, a8, a9⟩ = bF at *
 clear HNB
 obtain ⟨M, hM⟩ : ∃ M : Int, M = (N : Int) - 1 := ⟨_, rfl⟩
 have HM := Hd hM
 have hMs : (N : Int) - 1 = M := hM.symm
 clear hM
 go_enter Tryz.func32, Tryz.ntmps32
 go_wp2_with fail
 refine (HF.out _).mono ?_
 rintro e w1 ⟨rfl, hb⟩
 have HB1 := Hd (HB0.out.call hb)
 have c1 := HB1.out.a.cell
 clear hb
 cases bF with
 | false =>
  go_wp2
  go_ret
  exact ⟨by rw [HR.out]; rfl, HB1.out.bel⟩
 | true =>
  go_wp2_with fail
  refine (HN.out _).mono ?_
  rintro e w2 ⟨rfl, hb⟩
  have HB2 := Hd (HB1.out.call hb)
  have c2 := HB2.out.a.cell
  clear hb
  cases bN with
  | false =>
   go_wp2
   go_ret
   exact ⟨by rw [HR.out]; rfl, HB2.out.bel⟩
  | true =>
   by_cases h0 : 0 < N
   rotate_left
   ·have HR2 := HR.out
    rw [decide_eq_false h0] at HR2
    have HR := Hd HR2
    clear HR2
    have hMn : M < 0 := by have := HM.out; omega
    have qm : decide (M < 0) = true := decide_eq_true hMn
    go_wp2
    go_ret
    exact ⟨by rw [HR.out]; rfl, HB2.out.bel⟩
   have HR2 := HR.out
   rw [decide_eq_true h0] at HR2
   have HR := Hd HR2
   clear HR2
   obtain ⟨m, hm⟩ : ∃ m : Nat, N = m + 1 := ⟨N - 1, by omega⟩
   have hmM : M = (m : Int) := by have := HM.out; omega
   have hm1 : N - 1 = m := by omega
   rw [hm1] at HR
   have HM1 := Hd hm
   clear hm hm1 hMs HM
   subst hmM
   have qm : decide ((m : Int) < 0) = false := decide_eq_false (by omega)
   obtain ⟨ad, hxa, hab, hkid⟩ := HK.out _ HB2.out.bel m (by have := HM1.out; omega)
   subst hxa
   obtain ⟨l2, x2, n2, k2, ⟨e0, e1, e2, e3, e4, e5, e6, e7, e8, e9, e10⟩, hT⟩ := hkid
   have hj0 : (0 : Int) ≤ (m : Int) := by omega
   have hj1 : (m : Int) < (N : Int) := by have := HM1.out; omega
   have HC := Hd (HBD.out m (by have := HM1.out; omega) l2 x2 n2 k2 _ hT)
   generalize bodyB d (kat ks m) = bB at *
   clear hT
   go_wp2_with fail
   refine (HC.out).mono ?_
   rintro e w3 ⟨rfl, hb⟩
   have HB3 := Hd (HB2.out.call hb)
   have c3 := HB3.out.a.cell
   clear hb
   clear e0 e1 e2 e3 e4 e5 e6 e7 e8 e9 e10 hj1
   cases bB with
   | false =>
    go_wp2
    go_ret
    exact ⟨by rw [HR.out]; rfl, HB3.out.bel⟩
   | true =>
    go_wp2_with fail
    refine (HRI.out _).mono ?_
    rintro e w4 ⟨rfl, hb⟩
    have HB4 := Hd (HB3.out.call hb)
    have c4 := HB4.out.a.cell
    clear hb
    have HR2 : funcB d (.node ⟨3, a1, a2, a3, a4, a5, a6, a7, a8, a9⟩ ks) = ((bR || zerB a3 a4) && (ks.take m).all (prmB 3)) := by rw [HR.out]; cases bR <;> simp
    have HR := Hd HR2
    clear HR2
    obtain ⟨bZ, hbZ⟩ : ∃ b, b = zerB a3 a4 := ⟨_, rfl⟩
    have HR2 := HR.out
    rw [← hbZ] at HR2
    have HR := Hd HR2
    have q9 : ∀ W, (binOp .neq 24 (.agg #[.int .i64 a3, .bool a4]) (.agg #[.int .i64 0, .bool false])).run Tryz.prog W = .ok (.bool (!bZ)) W := fun W => by rw [hbZ]; exact nzer_eq a3 a4 W
    clear hbZ HR2
    cases bR with
    | true => exact absurd htw (by simp)
    | false =>
     cases bZ with
     | false =>
      go_wp2
      go_ret
      exact ⟨by rw [HR.out]; rfl, HB4.out.bel⟩
     | true =>
      have h0 : Hid (ExSt (prmB 3) w _ [.int .i64 3, .string (str a1), .int .u64 a2, .int .i64 a3, .bool a4, .int .i64 a5, .int .i64 a6, .int .i64 a7, .int .i64 a8, .int .i64 a9, .slice (some ad) N k] ks 0) := Hd ⟨HB4.out, fun i hi => by omega⟩
      go_wp2
      clear c0 c1 c2 c3 c4 HB0 HB1 HB2 HB3 HB4
      go_loopw [4, 5] (fun i p wr => ∃ j : Nat, j ≤ m ∧ i = .int .i64 (j : Int) ∧ Hid (ExSt (prmB 3) w wr [.int .i64 3, .string (str a1), .int .u64 a2, .int .i64 a3, .bool a4, .int .i64 a5, .int .i64 a6, .int .i64 a7, .int .i64 a8, .int .i64 a9, .slice (some ad) N k] ks j)) (fun i _ _ => m - (intOf i).toNat)
      case atStart => exact ⟨0, by omega, rfl, h0⟩
      case round =>
       clear h0
       obtain ⟨j, hj, rfl, hX⟩ := hrel
       have c0 := hX.out.bw.a.cell
       by_cases hjm : j < m
       rotate_left
       ·obtain rfl : j = m := by omega
        have HA := Hd (HL2.out j (by have := HM1.out; omega) hX.out.all)
        have HB := Hd hX.out.bw.bel
        clear hX
        have qj : decide (j < j) = false := decide_eq_false (by omega)
        go_wp2
        go_ret
        exact ⟨by rw [HR.out, HA.out]; rfl, HB.out⟩
       have qjm : decide (j < m) = true := decide_eq_true hjm
       obtain ⟨ad2, hxa, hab2, hkid⟩ := HK.out _ hX.out.bw.bel j (by have := HM1.out; omega)
       injection hxa with hxa
       subst hxa
       obtain ⟨l2, x2, n2, k2, ⟨e0, e1, e2, e3, e4, e5, e6, e7, e8, e9, e10⟩, hT3⟩ := hkid
       obtain ⟨us, hus, hul⟩ := kid_lab hT3
       have hnm2 := (wf_node (N := 281474976710656) (l := l2) (ks := us) (by rw [← hus]; exact HWF.out j (by have := HM1.out; omega))).1.name
       have hp0 := prmB_eq 3 l2 us
       rw [← hus, hul] at hp0
       have HP := Hd hp0
       clear hp0
       have HN2 := Hd fun W => rname_any l2.name hnm2 W
       have HRI2 := Hd fun W => right_any l2.wd l2.sg W
       have HPF : Hid (prmB 3 (kat ks j) = false → (ks.take m).all (prmB 3) = false) := Hd (HL3.out j m (by have := HM1.out; omega) hjm)
       have HPT : Hid (∀ W, BW w W [.int .i64 3, .string (str a1), .int .u64 a2, .int .i64 a3, .bool a4, .int .i64 a5, .int .i64 a6, .int .i64 a7, .int .i64 a8, .int .i64 a9, .slice (some ad) N k] → prmB 3 (kat ks j) = true → Hid (ExSt (prmB 3) w W [.int .i64 3, .string (str a1), .int .u64 a2, .int .i64 a3, .bool a4, .int .i64 a5, .int .i64 a6, .int .i64 a7, .int .i64 a8, .int .i64 a9, .slice (some ad) N k] ks (j + 1))) := Hd fun W hb hp => Hd (hX.out.step hb hp)
       obtain ⟨b0, b1, b2, b3, b4, b5, b6, b7, b8, b9⟩ := l2
       dsimp only at *
       clear hT3 hus hul hnm2
       generalize nameB b1 = bN2 at *
       generalize typB b3 = bR2 at *
       have HY0 := Hd (BW.start wr [.int .i64 b0, .string (str b1), .int .u64 b2, .int .i64 b3, .bool b4, .int .i64 b5, .int .i64 b6, .int .i64 b7, .int .i64 b8, .int .i64 b9, .slice x2 n2 k2])
       have HZ0 := Hd (hX.out.bw.call ((Below.refl wr.heap.size wr).alloc (Nat.le_refl _) (.cells #[.int .i64 b0, .string (str b1), .int .u64 b2, .int .i64 b3, .bool b4, .int .i64 b5, .int .i64 b6, .int .i64 b7, .int .i64 b8, .int .i64 b9, .slice x2 n2 k2] 27)))
       have y0 := HY0.out.a.cell
       have z0 := HZ0.out.a.cell
       have hj0 : (0 : Int) ≤ (j : Int) := by omega
       have hj1 : (j : Int) < (N : Int) := by have := HM1.out; omega
       clear hX
       go_wp2_with fail
       refine (HN2.out _).mono ?_
       rintro e v1 ⟨rfl, hb⟩
       have HY1 := Hd (HY0.out.call hb)
       have HZ1 := Hd (HZ0.out.call hb)
       have y1 := HY1.out.a.cell
       have z1 := HZ1.out.a.cell
       clear hb
       clear e0 e1 e2 e3 e4 e5 e6 e7 e8 e9 e10
       cases bN2 with
       | false =>
        have HF2 := Hd (HPF.out (by rw [HP.out]; try first | rfl | simp))
        clear HP HPF HPT
        go_wp2
        go_ret
        exact ⟨by rw [HR.out, HF2.out]; rfl, HZ1.out.bel⟩
       | true =>
        go_wp2_with fail
        refine (HRI2.out _).mono ?_
        rintro e v2 ⟨rfl, hb⟩
        have HY2 := Hd (HY1.out.call hb)
        have HZ2 := Hd (HZ1.out.call hb)
        have y2 := HY2.out.a.cell
        have z2 := HZ2.out.a.cell
        clear hb
        cases bR2 with
        | false =>
         have HF2 := Hd (HPF.out (by rw [HP.out]; try first | rfl | simp))
         clear HP HPF HPT
         go_wp2
         go_ret
         exact ⟨by rw [HR.out, HF2.out]; rfl, HZ2.out.bel⟩
        | true =>
         by_cases hl0 : n2 = 0
         rotate_left
         ·have HP2 := HP.out
          rw [decide_eq_false hl0] at HP2
          have HP := Hd HP2
          clear HP2
          have ql : decide (0 < n2) = true := decide_eq_true (by omega)
          have HF2 := Hd (HPF.out (by rw [HP.out]; try first | rfl | simp))
          clear HP HPF HPT
          go_wp2
          go_ret
          exact ⟨by rw [HR.out, HF2.out]; rfl, HZ2.out.bel⟩
         have HP2 := HP.out
         rw [decide_eq_true hl0] at HP2
         have HP := Hd HP2
         clear HP2
         have ql : decide (0 < n2) = false := decide_eq_false (by omega)
         have HL0 := Hd hl0
         clear hl0
         by_cases hb4 : b0 = 4
         ·subst hb4
          have HFX := Hd fun W => fields_nm 4 b1 b2 b3 b4 b5 b6 b7 b8 b9 x2 n2 k2 4 b1 0 b3 b4 0 0 0 0 0 none 0 0 W
          have HP2 : prmB 3 (kat ks j) = sameL ⟨4, b1, 0, b3, b4, 0, 0, 0, 0, 0⟩ ⟨4, b1, b2, b3, b4, b5, b6, b7, b8, b9⟩ := by
           rw [HP.out]
           simp
           try rfl
          have HP := Hd HP2
          clear HP2
          generalize sameL ⟨4, b1, 0, b3, b4, 0, 0, 0, 0, 0⟩ ⟨4, b1, b2, b3, b4, b5, b6, b7, b8, b9⟩ = bF2 at *
          go_wp2_with fail
          refine (HFX.out _).mono ?_
          rintro e v3 ⟨rfl, hb⟩
          have HY3 := Hd (HY2.out.call hb)
          have HZ3 := Hd (HZ2.out.call hb)
          have y3 := HY3.out.a.cell
          have z3 := HZ3.out.a.cell
          clear hb
          cases bF2 with
          | false =>
           have HF2 := Hd (HPF.out (by rw [HP.out]; try first | rfl | simp))
           clear HP HPF HPT
           go_wp2
           go_ret
           exact ⟨by rw [HR.out, HF2.out]; rfl, HZ3.out.bel⟩
          | true =>
           have HX2 := HPT.out _ HZ3.out (by rw [HP.out]; try first | rfl | simp)
           clear HP HPF HPT
           go_wp2
           go_roundw
           case rel => exact ⟨j + 1, by omega, by go_num, HX2⟩
           case measure => simp [intOf]; omega
         by_cases hb6 : b0 = 6
         ·subst hb6
          have HFX := Hd fun W => fields_nm 6 b1 b2 b3 b4 b5 b6 b7 b8 b9 x2 n2 k2 6 b1 0 b3 b4 0 0 0 0 0 none 0 0 W
          have HP2 : prmB 3 (kat ks j) = sameL ⟨6, b1, 0, b3, b4, 0, 0, 0, 0, 0⟩ ⟨6, b1, b2, b3, b4, b5, b6, b7, b8, b9⟩ := by
           rw [HP.out]
           simp
           try rfl
          have HP := Hd HP2
          clear HP2
          generalize sameL ⟨6, b1, 0, b3, b4, 0, 0, 0, 0, 0⟩ ⟨6, b1, b2, b3, b4, b5, b6, b7, b8, b9⟩ = bF2 at *
          go_wp2_with fail
          refine (HFX.out _).mono ?_
          rintro e v3 ⟨rfl, hb⟩
          have HY3 := Hd (HY2.out.call hb)
          have HZ3 := Hd (HZ2.out.call hb)
          have y3 := HY3.out.a.cell
          have z3 := HZ3.out.a.cell
          clear hb
          cases bF2 with
          | false =>
           have HF2 := Hd (HPF.out (by rw [HP.out]; try first | rfl | simp))
           clear HP HPF HPT
           go_wp2
           go_ret
           exact ⟨by rw [HR.out, HF2.out]; rfl, HZ3.out.bel⟩
          | true =>
           have HX2 := HPT.out _ HZ3.out (by rw [HP.out]; try first | rfl | simp)
           clear HP HPF HPT
           go_wp2
           go_roundw
           case rel => exact ⟨j + 1, by omega, by go_num, HX2⟩
           case measure => simp [intOf]; omega
         by_cases hb7 : b0 = 7
         ·subst hb7
          have HFX := Hd fun W => fields_nm 7 b1 b2 b3 b4 b5 b6 b7 b8 b9 x2 n2 k2 7 b1 0 b3 b4 0 0 0 0 0 none 0 0 W
          have HP2 : prmB 3 (kat ks j) = sameL ⟨7, b1, 0, b3, b4, 0, 0, 0, 0, 0⟩ ⟨7, b1, b2, b3, b4, b5, b6, b7, b8, b9⟩ := by
           rw [HP.out]
           simp
           try rfl
          have HP := Hd HP2
          clear HP2
          generalize sameL ⟨7, b1, 0, b3, b4, 0, 0, 0, 0, 0⟩ ⟨7, b1, b2, b3, b4, b5, b6, b7, b8, b9⟩ = bF2 at *
          go_wp2_with fail
          refine (HFX.out _).mono ?_
          rintro e v3 ⟨rfl, hb⟩
          have HY3 := Hd (HY2.out.call hb)
          have HZ3 := Hd (HZ2.out.call hb)
          have y3 := HY3.out.a.cell
          have z3 := HZ3.out.a.cell
          clear hb
          cases bF2 with
          | false =>
           have HF2 := Hd (HPF.out (by rw [HP.out]; try first | rfl | simp))
           clear HP HPF HPT
           go_wp2
           go_ret
           exact ⟨by rw [HR.out, HF2.out]; rfl, HZ3.out.bel⟩
          | true =>
           have HX2 := HPT.out _ HZ3.out (by rw [HP.out]; try first | rfl | simp)
           clear HP HPF HPT
           go_wp2
           go_roundw
           case rel => exact ⟨j + 1, by omega, by go_num, HX2⟩
           case measure => simp [intOf]; omega
         by_cases hb5 : b0 = 5
         ·subst hb5
          have HFX := Hd fun W => fields_nm 5 b1 b2 b3 b4 b5 b6 b7 b8 b9 x2 n2 k2 5 b1 b2 b3 b4 b5 b6 0 0 0 none 0 0 W
          have HP2 : prmB 3 (kat ks j) = (sameL ⟨5, b1, b2, b3, b4, b5, b6, 0, 0, 0⟩ ⟨5, b1, b2, b3, b4, b5, b6, b7, b8, b9⟩ && (decide (b2 ≤ 1048576) && (decide (0 ≤ b5) && (decide (b5 ≤ 3) && (decide (0 ≤ b6) && (decide (b6 ≤ 1048576) && !(decide (0 < b6) && (decide (b5 ≠ 1) && decide (b5 ≠ 2))))))))) := by
           rw [HP.out]
           simp
           try rfl
          have HP := Hd HP2
          clear HP2
          generalize sameL ⟨5, b1, b2, b3, b4, b5, b6, 0, 0, 0⟩ ⟨5, b1, b2, b3, b4, b5, b6, b7, b8, b9⟩ = bF2 at *
          go_wp2_with fail
          refine (HFX.out _).mono ?_
          rintro e v3 ⟨rfl, hb⟩
          have HY3 := Hd (HY2.out.call hb)
          have HZ3 := Hd (HZ2.out.call hb)
          have y3 := HY3.out.a.cell
          have z3 := HZ3.out.a.cell
          clear hb
          cases bF2 with
          | false =>
           have HF2 := Hd (HPF.out (by rw [HP.out]; try first | rfl | simp))
           clear HP HPF HPT
           go_wp2
           go_ret
           exact ⟨by rw [HR.out, HF2.out]; rfl, HZ3.out.bel⟩
          | true =>
           by_cases u1 : b2 ≤ 1048576
           rotate_left
           ·have HP2 := HP.out
            rw [decide_eq_false u1] at HP2
            have HP := Hd HP2
            clear HP2
            have q21 : decide (1048576 < b2) = true := decide_eq_true (by omega)
            have HF2 := Hd (HPF.out (by rw [HP.out]; try first | rfl | simp))
            clear HP HPF HPT
            go_wp2
            go_ret
            exact ⟨by rw [HR.out, HF2.out]; rfl, HZ3.out.bel⟩
           have HP2 := HP.out
           rw [decide_eq_true u1] at HP2
           have HP := Hd HP2
           clear HP2
           have q21 : decide (1048576 < b2) = false := decide_eq_false (by omega)
           by_cases u2 : 0 ≤ b5
           rotate_left
           ·have HP2 := HP.out
            rw [decide_eq_false u2] at HP2
            have HP := Hd HP2
            clear HP2
            have q22 : decide (b5 < 0) = true := decide_eq_true (by omega)
            have HF2 := Hd (HPF.out (by rw [HP.out]; try first | rfl | simp))
            clear HP HPF HPT
            go_wp2
            go_ret
            exact ⟨by rw [HR.out, HF2.out]; rfl, HZ3.out.bel⟩
           have HP2 := HP.out
           rw [decide_eq_true u2] at HP2
           have HP := Hd HP2
           clear HP2
           have q22 : decide (b5 < 0) = false := decide_eq_false (by omega)
           by_cases u3 : b5 ≤ 3
           rotate_left
           ·have HP2 := HP.out
            rw [decide_eq_false u3] at HP2
            have HP := Hd HP2
            clear HP2
            have q23 : decide (3 < b5) = true := decide_eq_true (by omega)
            have HF2 := Hd (HPF.out (by rw [HP.out]; try first | rfl | simp))
            clear HP HPF HPT
            go_wp2
            go_ret
            exact ⟨by rw [HR.out, HF2.out]; rfl, HZ3.out.bel⟩
           have HP2 := HP.out
           rw [decide_eq_true u3] at HP2
           have HP := Hd HP2
           clear HP2
           have q23 : decide (3 < b5) = false := decide_eq_false (by omega)
           by_cases u4 : 0 ≤ b6
           rotate_left
           ·have HP2 := HP.out
            rw [decide_eq_false u4] at HP2
            have HP := Hd HP2
            clear HP2
            have q24 : decide (b6 < 0) = true := decide_eq_true (by omega)
            have HF2 := Hd (HPF.out (by rw [HP.out]; try first | rfl | simp))
            clear HP HPF HPT
            go_wp2
            go_ret
            exact ⟨by rw [HR.out, HF2.out]; rfl, HZ3.out.bel⟩
           have HP2 := HP.out
           rw [decide_eq_true u4] at HP2
           have HP := Hd HP2
           clear HP2
           have q24 : decide (b6 < 0) = false := decide_eq_false (by omega)
           by_cases u5 : b6 ≤ 1048576
           rotate_left
           ·have HP2 := HP.out
            rw [decide_eq_false u5] at HP2
            have HP := Hd HP2
            clear HP2
            have q25 : decide (1048576 < b6) = true := decide_eq_true (by omega)
            have HF2 := Hd (HPF.out (by rw [HP.out]; try first | rfl | simp))
            clear HP HPF HPT
            go_wp2
            go_ret
            exact ⟨by rw [HR.out, HF2.out]; rfl, HZ3.out.bel⟩
           have HP2 := HP.out
           rw [decide_eq_true u5] at HP2
           have HP := Hd HP2
           clear HP2
           have q25 : decide (1048576 < b6) = false := decide_eq_false (by omega)
           by_cases u6 : 0 < b6
           rotate_left
           ·have HP2 := HP.out
            rw [decide_eq_false u6] at HP2
            have HP := Hd HP2
            clear HP2
            have q26 : decide (0 < b6) = false := decide_eq_false u6
            have HX2 := HPT.out _ HZ3.out (by rw [HP.out]; try first | rfl | simp)
            clear HP HPF HPT
            go_wp2
            go_roundw
            case rel => exact ⟨j + 1, by omega, by go_num, HX2⟩
            case measure => simp [intOf]; omega
           have q26 : decide (0 < b6) = true := decide_eq_true u6
           by_cases u7 : b5 = 1
           ·have HP2 := HP.out
            rw [decide_eq_true u6, decide_eq_false (by omega : ¬ b5 ≠ 1)] at HP2
            have HP := Hd HP2
            clear HP2 u2 u3
            subst u7
            have HX2 := HPT.out _ HZ3.out (by rw [HP.out]; try first | rfl | simp)
            clear HP HPF HPT
            go_wp2
            go_roundw
            case rel => exact ⟨j + 1, by omega, by go_num, HX2⟩
            case measure => simp [intOf]; omega
           by_cases u8 : b5 = 2
           ·have HP2 := HP.out
            rw [decide_eq_true u6, decide_eq_false (by omega : ¬ b5 ≠ 2)] at HP2
            have HP := Hd HP2
            clear HP2 u2 u3 u7
            subst u8
            have HX2 := HPT.out _ HZ3.out (by rw [HP.out]; try first | rfl | simp)
            clear HP HPF HPT
            go_wp2
            go_roundw
            case rel => exact ⟨j + 1, by omega, by go_num, HX2⟩
            case measure => simp [intOf]; omega
           have HP2 := HP.out
           rw [decide_eq_true u6, decide_eq_true u7, decide_eq_true u8] at HP2
           have HP := Hd HP2
           clear HP2
           have q27 : (b5 == 1) = false := by rw [beq_eq_false_iff_ne]; exact u7
           have q28 : (b5 == 2) = false := by rw [beq_eq_false_iff_ne]; exact u8
           have q29 : (b5 != 1) = true := by rw [bne_iff_ne]; exact u7
           have q30 : (b5 != 2) = true := by rw [bne_iff_ne]; exact u8
           have HF2 := Hd (HPF.out (by rw [HP.out]; try first | rfl | simp))
           clear HP HPF HPT
           go_wp2
           go_ret
           exact ⟨by rw [HR.out, HF2.out]; rfl, HZ3.out.bel⟩
         have HP2 : prmB 3 (kat ks j) = false := by
          rw [HP.out]
          simp [hb4, hb6, hb7, hb5]
         have HP := Hd HP2
         clear HP2
         have qb4 : (b0 == 4) = false := by rw [beq_eq_false_iff_ne]; exact hb4
         have qb6 : (b0 == 6) = false := by rw [beq_eq_false_iff_ne]; exact hb6
         have qb7 : (b0 == 7) = false := by rw [beq_eq_false_iff_ne]; exact hb7
         have qb5 : (b0 == 5) = false := by rw [beq_eq_false_iff_ne]; exact hb5
         have HF2 := Hd (HPF.out HP.out)
         clear HP HPF HPT
         go_wp2
         go_ret
         exact ⟨by rw [HR.out, HF2.out]; rfl, HZ2.out.bel⟩
end Go.Proofs.YthdbaligapdbeaaGreatDoor
/- The reference's function: no such kind. -/
namespace Go.Proofs.YthdbaligapdbeaaGreatDoor
open Go Go.RowKit
set_option linter.unusedVariables false

set_option maxHeartbeats 16000000 in
set_option maxRecDepth 100000 in
theorem func_no {d : Nat} (t : Tree) (ht : depth t ≤ d + 1) (hwf : TreeWf 281474976710656 t) (hk : ∀ l ks, t = .node l ks → ¬ l.kind = 2 ∧ ¬ l.kind = 3) (l : Lab) (x : Option Addr) (n k : Nat) (w : World) (hT : TreeAt w (fun _ => True) [.int .i64 l.kind, .string (str l.name), .int .u64 l.num, .int .i64 l.wd, .bool l.sg, .int .i64 l.op, .int .i64 l.fac, .int .i64 l.pip, .int .i64 l.unr, .int .i64 l.line, .slice x n k] t) :
  Calls Tryz.prog 32 #[.agg #[.int .i64 l.kind, .string (str l.name), .int .u64 l.num, .int .i64 l.wd, .bool l.sg, .int .i64 l.op, .int .i64 l.fac, .int .i64 l.pip, .int .i64 l.unr, .int .i64 l.line, .slice x n k]] w fun e w' => e = .returned (.bool (funcB d t)) ∧ Below w.heap.size w w' := by
 obtain ⟨lt, ks⟩ := t
 obtain ⟨xk, kk, hcs, hnk, hkm, hkids⟩ := TreeAt.kids hT
 obtain ⟨rfl, hv⟩ := lab_of (l := l) (m := lt) hcs
 simp only [Value.slice.injEq] at hv
 obtain ⟨rfl, rfl, rfl⟩ := hv
 obtain ⟨hlw, hkw⟩ := wf_node hwf
 have hnm := hlw.name
 have hdk : ∀ i, i < ks.length → depth (kat ks i) ≤ d := fun i hi => by
  have := depth_kat hi
  rw [depth] at ht
  omega
 have hkk := hk _ _ rfl
 clear hcs ht hwf hlw hk
 have HN := Hd fun W => rname_any l.name hnm W
 have HRI := Hd fun W => right_any l.wd l.sg W
 have HK : Hid (∀ W, Below w.heap.size w W → ∀ i, i < ks.length → ∃ a, x = some a ∧ True ∧ KidAt W (fun _ => True) a i (kat ks i)) := Hd fun W hb i hi => by
  obtain ⟨a, h1, h2, h3⟩ := hkids i hi
  exact ⟨a, h1, h2, h3.keep h2 (fun g hg hl => hb.block g hl) fun _ _ _ => trivial⟩
 have HBD := Hd fun i (hi : i < ks.length) => (bs_any d).1 (kat ks i) (hdk i hi) (hkw i hi)
 have HWF := Hd hkw
 have HB0 : Hid (BW w (w.alloc (.cells #[.int .i64 l.kind, .string (str l.name), .int .u64 l.num, .int .i64 l.wd, .bool l.sg, .int .i64 l.op, .int .i64 l.fac, .int .i64 l.pip, .int .i64 l.unr, .int .i64 l.line, .slice x ks.length k] 27)) [.int .i64 l.kind, .string (str l.name), .int .u64 l.num, .int .i64 l.wd, .bool l.sg, .int .i64 l.op, .int .i64 l.fac, .int .i64 l.pip, .int .i64 l.unr, .int .i64 l.line, .slice x ks.length k]) := Hd (BW.start w _)
 have HL3 : Hid (∀ i j, j ≤ ks.length → i < j → prmB l.kind (kat ks i) = false → (ks.take j).all (prmB l.kind) = false) := Hd fun i j h1 h2 h3 => take_all_false h1 h2 h3
 have HL2 : Hid (∀ j, j ≤ ks.length → (∀ i, i < j → prmB l.kind (kat ks i) = true) → (ks.take j).all (prmB l.kind) = true) := Hd fun j h1 h2 => (all_take ks j h1).2 h2
 unfold maxLen at hkm
 obtain ⟨a0, a1, a2, a3, a4, a5, a6, a7, a8, a9⟩ := l
 dsimp only at *
 clear hkids hkw hdk hnm
 obtain ⟨hk2, hk3⟩ := hkk
 generalize hNN : ks.length = N at *
 have HNN := Hd hNN
 clear hNN
 generalize hb1 : nameB a1 = bN at *
 generalize hb2 : typB a3 = bR at *
 have HNB := Hd (And.intro hb1 hb2)
 clear hb1 hb2
 have c0 := HB0.out.a.cell
 have HF := Hd fun W => fields_nm a0 a1 a2 a3 a4 a5 a6 a7 a8 a9 x N k a0 a1 0 a3 a4 0 0 0 0 0 none 0 0 W
 have HR : Hid (funcB d (.node ⟨a0, a1, a2, a3, a4, a5, a6, a7, a8, a9⟩ ks) = (sameL ⟨a0, a1, 0, a3, a4, 0, 0, 0, 0, 0⟩ ⟨a0, a1, a2, a3, a4, a5, a6, a7, a8, a9⟩ && (bN && (decide (0 < N) && (bodyB d (kat ks (N - 1)) && ((decide ((a0 : Int) = 2) || decide ((a0 : Int) = 3)) && ((bR || (decide ((a0 : Int) ≠ 2) && zerB a3 a4)) && (ks.take (N - 1)).all (prmB a0)))))))) := Hd (by rw [funcB, HNN.out]; simp only [HNB.out.1, HNB.out.2]; try rfl)
 generalize sameL ⟨a0, a1, 0, a3, a4, 0, 0, 0, 0, 0⟩ ⟨a0, a1, a2, a3, a4, a5, a6, a7, a8, a9⟩ = bF at *
 clear HNB
 obtain ⟨M, hM⟩ : ∃ M : Int, M = (N : Int) - 1 := ⟨_, rfl⟩
 have HM := Hd hM
 have hMs : (N : Int) - 1 = M := hM.symm
 clear hM
 go_enter Tryz.func32, Tryz.ntmps32
 go_wp2_with fail
 refine (HF.out _).mono ?_
 rintro e w1 ⟨rfl, hb⟩
 have HB1 := Hd (HB0.out.call hb)
 have c1 := HB1.out.a.cell
 clear hb
 cases bF with
 | false =>
  go_wp2
  go_ret
  exact ⟨by rw [HR.out]; rfl, HB1.out.bel⟩
 | true =>
  go_wp2_with fail
  refine (HN.out _).mono ?_
  rintro e w2 ⟨rfl, hb⟩
  have HB2 := Hd (HB1.out.call hb)
  have c2 := HB2.out.a.cell
  clear hb
  cases bN with
  | false =>
   go_wp2
   go_ret
   exact ⟨by rw [HR.out]; rfl, HB2.out.bel⟩
  | true =>
   by_cases h0 : 0 < N
   rotate_left
   ·have HR2 := HR.out
    rw [decide_eq_false h0] at HR2
    have HR := Hd HR2
    clear HR2
    have hMn : M < 0 := by have := HM.out; omega
    have qm : decide (M < 0) = true := decide_eq_true hMn
    go_wp2
    go_ret
    exact ⟨by rw [HR.out]; rfl, HB2.out.bel⟩
   have HR2 := HR.out
   rw [decide_eq_true h0] at HR2
   have HR := Hd HR2
   clear HR2
   obtain ⟨m, hm⟩ : ∃ m : Nat, N = m + 1 := ⟨N - 1, by omega⟩
   have hmM : M = (m : Int) := by have := HM.out; omega
   have hm1 : N - 1 = m := by omega
   rw [hm1] at HR
   have HM1 := Hd hm
   clear hm hm1 hMs HM
   subst hmM
   have qm : decide ((m : Int) < 0) = false := decide_eq_false (by omega)
   obtain ⟨ad, hxa, hab, hkid⟩ := HK.out _ HB2.out.bel m (by have := HM1.out; omega)
   subst hxa
   obtain ⟨l2, x2, n2, k2, ⟨e0, e1, e2, e3, e4, e5, e6, e7, e8, e9, e10⟩, hT⟩ := hkid
   have hj0 : (0 : Int) ≤ (m : Int) := by omega
   have hj1 : (m : Int) < (N : Int) := by have := HM1.out; omega
   have HC := Hd (HBD.out m (by have := HM1.out; omega) l2 x2 n2 k2 _ hT)
   generalize bodyB d (kat ks m) = bB at *
   clear hT
   go_wp2_with fail
   refine (HC.out).mono ?_
   rintro e w3 ⟨rfl, hb⟩
   have HB3 := Hd (HB2.out.call hb)
   have c3 := HB3.out.a.cell
   clear hb
   clear e0 e1 e2 e3 e4 e5 e6 e7 e8 e9 e10 hj1
   cases bB with
   | false =>
    go_wp2
    go_ret
    exact ⟨by rw [HR.out]; rfl, HB3.out.bel⟩
   | true =>
    have HR2 : funcB d (.node ⟨a0, a1, a2, a3, a4, a5, a6, a7, a8, a9⟩ ks) = false := by rw [HR.out]; simp [hk2, hk3]
    have HR := Hd HR2
    clear HR2
    go_wp2
    go_ret
    exact ⟨by rw [HR.out]; rfl, HB3.out.bel⟩
end Go.Proofs.YthdbaligapdbeaaGreatDoor
/- The reference's function: contract. -/
namespace Go.Proofs.YthdbaligapdbeaaGreatDoor
open Go Go.RowKit
set_option linter.unusedVariables false

theorem rfunc_any {d : Nat} : FOK d := by
 intro t ht hwf l x n k w hT
 obtain ⟨lt, ks⟩ := t
 by_cases h2 : lt.kind = 2
 ·exact func_2 _ ht hwf (fun _ _ h => by cases h; exact h2) l x n k w hT
 by_cases h3 : lt.kind = 3
 ·cases h4 : typB lt.wd with
  | true => exact func_3t _ ht hwf (fun _ _ h => by cases h; exact ⟨h3, h4⟩) l x n k w hT
  | false => exact func_3f _ ht hwf (fun _ _ h => by cases h; exact ⟨h3, h4⟩) l x n k w hT
 ·exact func_no _ ht hwf (fun _ _ h => by cases h; exact ⟨h2, h3⟩) l x n k w hT
end Go.Proofs.YthdbaligapdbeaaGreatDoor
