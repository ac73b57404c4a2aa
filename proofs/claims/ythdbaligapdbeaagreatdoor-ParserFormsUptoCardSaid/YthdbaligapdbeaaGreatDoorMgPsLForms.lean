/- The reference's Valid: contract. -/
import Derived.Test.YthdbaligapdbeaaGreatDoorMgPsVg
import Derived.Test.YthdbaligapdbeaaGreatDoorMgPsVe
import Derived.Test.YthdbaligapdbeaaGreatDoorMgPsTl
import Derived.Test.YthdbaligapdbeaaGreatDoorMgPsVt
namespace Go.Proofs.YthdbaligapdbeaaGreatDoor
open Go Go.RowKit
set_option linter.unusedVariables false

def rvalB (t : Tree) : Bool := decide (count t ≤ 20000) && (decide (depth t ≤ 200) && progB 200 (bareT t))
theorem progB_node (d : Nat) (l : Lab) (ks : List Tree) : progB d (.node l ks) = (sameL ⟨1, [], 0, 0, false, 0, 0, 0, 0, 0⟩ l && ks.all (funcB d)) := by rw [progB]; rfl
set_option maxHeartbeats 8000000 in
set_option maxRecDepth 100000 in
theorem rValid_any (t : Tree) (hc : count t ≤ 1000000) (hwf : TreeWf 281474976710656 t) (l : Lab) (x : Option Addr) (n k : Nat) (w : World) (hT : TreeAt w (fun _ => True) [.int .i64 l.kind, .string (str l.name), .int .u64 l.num, .int .i64 l.wd, .bool l.sg, .int .i64 l.op, .int .i64 l.fac, .int .i64 l.pip, .int .i64 l.unr, .int .i64 l.line, .slice x n k] t) :
  Calls Tryz.prog 13 #[.agg #[.int .i64 l.kind, .string (str l.name), .int .u64 l.num, .int .i64 l.wd, .bool l.sg, .int .i64 l.op, .int .i64 l.fac, .int .i64 l.pip, .int .i64 l.unr, .int .i64 l.line, .slice x n k]] w fun e w' => e = .returned (.bool (rvalB t)) ∧ Below w.heap.size w w' := by
 have hdc := depth_le_count t
 have HB0 : Hid (BW w (w.alloc (.cells #[.int .i64 l.kind, .string (str l.name), .int .u64 l.num, .int .i64 l.wd, .bool l.sg, .int .i64 l.op, .int .i64 l.fac, .int .i64 l.pip, .int .i64 l.unr, .int .i64 l.line, .slice x n k] 27)) [.int .i64 l.kind, .string (str l.name), .int .u64 l.num, .int .i64 l.wd, .bool l.sg, .int .i64 l.op, .int .i64 l.fac, .int .i64 l.pip, .int .i64 l.unr, .int .i64 l.line, .slice x n k]) := Hd (BW.start w _)
 have HTT := Hd fun W (hb : Below w.heap.size w W) => hT.keep (w' := W) (Q := fun _ => True) (fun g _ hl => hb.block g hl) fun _ _ _ => trivial
 have HCT := Hd fun W (hb : Below w.heap.size w W) => rcountT_any (depth t) t (Nat.le_refl _) hc l x n k W (HTT.out W hb)
 have HDT := Hd fun W (hb : Below w.heap.size w W) => rdepthT_any (depth t) t (Nat.le_refl _) (by omega) l x n k W (HTT.out W hb)
 have HBT := Hd fun W (hb : Below w.heap.size w W) => rbareTree_any (depth t) t (Nat.le_refl _) hc l x n k W (HTT.out W hb)
 have HWB := Hd (wf_bare (depth t) t (Nat.le_refl _) hwf)
 have HDB := Hd (depth_bare t)
 have HR : Hid (rvalB t = (decide (count t ≤ 20000) && (decide (depth t ≤ 200) && progB 200 (bareT t)))) := Hd rfl
 clear hT hwf HTT hdc hc
 have c0 := HB0.out.a.cell
 have f0 := HB0.out.a.frozen
 go_enter Tryz.func13, Tryz.ntmps13
 go_wp2_with fail
 refine (HCT.out _ HB0.out.bel).mono ?_
 rintro e w1 ⟨rfl, hb⟩
 have HB1 := Hd (HB0.out.call hb)
 have c1 := HB1.out.a.cell
 have f1 := HB1.out.a.frozen
 clear hb
 by_cases hct : count t ≤ 20000
 rotate_left
 ·have q1 : decide ((20000 : Int) < (count t : Int)) = true := decide_eq_true (by omega)
  have HR2 : Hid (rvalB t = false) := Hd (by rw [HR.out, decide_eq_false hct]; rfl)
  go_wp2
  go_ret
  exact ⟨by rw [HR2.out]; rfl, HB1.out.bel⟩
 have q1 : decide ((20000 : Int) < (count t : Int)) = false := decide_eq_false (by omega)
 go_wp2_with fail
 refine (HDT.out _ HB1.out.bel).mono ?_
 rintro e w2 ⟨rfl, hb⟩
 have HB2 := Hd (HB1.out.call hb)
 have c2 := HB2.out.a.cell
 have f2 := HB2.out.a.frozen
 clear hb
 by_cases hdt : depth t ≤ 200
 rotate_left
 ·have q2 : decide ((200 : Int) < (depth t : Int)) = true := decide_eq_true (by omega)
  have HR2 : Hid (rvalB t = false) := Hd (by rw [HR.out, decide_eq_false hdt, Bool.false_and, Bool.and_false])
  go_wp2
  go_ret
  exact ⟨by rw [HR2.out]; rfl, HB2.out.bel⟩
 have q2 : decide ((200 : Int) < (depth t : Int)) = false := decide_eq_false (by omega)
 have HR2 : Hid (rvalB t = progB 200 (bareT t)) := Hd (by rw [HR.out, decide_eq_true hct, decide_eq_true hdt]; rfl)
 have HDD := Hd hdt
 clear HR hct hdt
 go_wp2_with fail
 refine (HBT.out _ HB2.out.bel).mono ?_
 rintro e w3 ⟨l4, x4, n4, k4, rfl, hT4, hb⟩
 have HB3 := Hd (HB2.out.call hb)
 have c3 := HB3.out.a.cell
 have f3 := HB3.out.a.frozen
 have hlt3 := HB2.out.a.lt
 have HB2L := Hd hlt3
 generalize hbt : bareT t = bt at *
 have HBTE := Hd hbt
 clear hbt
 obtain ⟨lb, kb⟩ := bt
 obtain ⟨xk, kk, hcs, hnk, hkm, hkids⟩ := TreeAt.kids hT4
 obtain ⟨rfl, hv⟩ := lab_of (l := l4) (m := lb) hcs
 simp only [Value.slice.injEq] at hv
 obtain ⟨rfl, rfl, rfl⟩ := hv
 have HKW := Hd (wf_node HWB.out).2
 have HKD : Hid (∀ i, i < kb.length → depth (kat kb i) ≤ 201) := Hd fun i hi => by
  have h1 := depth_kat hi
  have h2 := HDB.out
  rw [depth] at h2
  have h3 := HDD.out
  omega
 have HKK := Hd hkids
 clear hcs hT4 hkids HWB HDB HBTE HDD c0 c1 c2 f0 f1 f2 HCT HDT HBT q1 q2
 unfold maxLen at hkm
 rw [progB_node] at HR2
 have HL2 : Hid ((∀ i, i < kb.length → funcB 200 (kat kb i) = true) → kb.all (funcB 200) = true) := Hd all_true
 have HL3 : Hid (∀ i, i < kb.length → funcB 200 (kat kb i) = false → kb.all (funcB 200) = false) := Hd fun i => all_false
 have HF := Hd fun W => fields_no l4.kind l4.name l4.num l4.wd l4.sg l4.op l4.fac l4.pip l4.unr l4.line x4 kb.length k4 1 0 0 false 0 0 0 0 0 none 0 0 W
 generalize sameL ⟨1, [], 0, 0, false, 0, 0, 0, 0, 0⟩ ⟨l4.kind, l4.name, l4.num, l4.wd, l4.sg, l4.op, l4.fac, l4.pip, l4.unr, l4.line⟩ = bF at *
 generalize kb.all (funcB 200) = bA at *
 generalize hN : kb.length = N at *
 have HN := Hd hN
 clear hN
 have HS : Hid (BW w (stor11 w3 w.heap.size (.int .i64 l4.kind) (.string (str l4.name)) (.int .u64 l4.num) (.int .i64 l4.wd) (.bool l4.sg) (.int .i64 l4.op) (.int .i64 l4.fac) (.int .i64 l4.pip) (.int .i64 l4.unr) (.int .i64 l4.line) (.slice x4 N k4)) [.int .i64 l4.kind, .string (str l4.name), .int .u64 l4.num, .int .i64 l4.wd, .bool l4.sg, .int .i64 l4.op, .int .i64 l4.fac, .int .i64 l4.pip, .int .i64 l4.unr, .int .i64 l4.line, .slice x4 N k4]) := Hd ⟨HB3.out.a.stor11 rfl _ _ _ _ _ _ _ _ _ _ _, below_stor11 HB3.out.bel (Nat.le_refl _) _ _ _ _ _ _ _ _ _ _ _⟩
 have HK9 : Hid (∀ W, Below (stor11 w3 w.heap.size (.int .i64 l4.kind) (.string (str l4.name)) (.int .u64 l4.num) (.int .i64 l4.wd) (.bool l4.sg) (.int .i64 l4.op) (.int .i64 l4.fac) (.int .i64 l4.pip) (.int .i64 l4.unr) (.int .i64 l4.line) (.slice x4 N k4)).heap.size (stor11 w3 w.heap.size (.int .i64 l4.kind) (.string (str l4.name)) (.int .u64 l4.num) (.int .i64 l4.wd) (.bool l4.sg) (.int .i64 l4.op) (.int .i64 l4.fac) (.int .i64 l4.pip) (.int .i64 l4.unr) (.int .i64 l4.line) (.slice x4 N k4)) W → ∀ i, i < N → ∃ a, x4 = some a ∧ True ∧ KidAt W (fun _ => True) a i (kat kb i)) := Hd fun W hb9 i hi => by
  obtain ⟨a, h1, h2, h3⟩ := HKK.out i hi
  refine ⟨a, h1, trivial, h3.keep h2 (fun g hg hl => ?_) fun _ _ _ => trivial⟩
  have hz : (stor11 w3 w.heap.size (.int .i64 l4.kind) (.string (str l4.name)) (.int .u64 l4.num) (.int .i64 l4.wd) (.bool l4.sg) (.int .i64 l4.op) (.int .i64 l4.fac) (.int .i64 l4.pip) (.int .i64 l4.unr) (.int .i64 l4.line) (.slice x4 N k4)).heap.size = w3.heap.size := stor11_size _ _ _ _ _ _ _ _ _ _ _ _ _
  rw [hb9.block g (by rw [hz]; exact hl), stor11_other _ (by have := HB2L.out; have : w2.heap.size ≤ g := hg; omega)]
 clear HKK hb hlt3
 have c9 := HS.out.a.cell
 go_wp2_with fail
 refine (HF.out _).mono ?_
 rintro e w4 ⟨rfl, hb⟩
 have HB94 : Hid (Below (stor11 w3 w.heap.size (.int .i64 l4.kind) (.string (str l4.name)) (.int .u64 l4.num) (.int .i64 l4.wd) (.bool l4.sg) (.int .i64 l4.op) (.int .i64 l4.fac) (.int .i64 l4.pip) (.int .i64 l4.unr) (.int .i64 l4.line) (.slice x4 N k4)).heap.size (stor11 w3 w.heap.size (.int .i64 l4.kind) (.string (str l4.name)) (.int .u64 l4.num) (.int .i64 l4.wd) (.bool l4.sg) (.int .i64 l4.op) (.int .i64 l4.fac) (.int .i64 l4.pip) (.int .i64 l4.unr) (.int .i64 l4.line) (.slice x4 N k4)) w4) := Hd hb
 have HA9 := Hd HS.out.a
 have HW9 := Hd HS.out.bel
 clear hb HS c9 c3 f3 HF HB3 HB2 HB1 HB0
 generalize (stor11 w3 w.heap.size (.int .i64 l4.kind) (.string (str l4.name)) (.int .u64 l4.num) (.int .i64 l4.wd) (.bool l4.sg) (.int .i64 l4.op) (.int .i64 l4.fac) (.int .i64 l4.pip) (.int .i64 l4.unr) (.int .i64 l4.line) (.slice x4 N k4)) = W9 at *
 have c4 := (HA9.out.below HB94.out HA9.out.lt).cell
 cases bF with
 | false =>
  go_wp2
  go_ret
  exact ⟨by rw [HR2.out]; rfl, HW9.out.trans (HB94.out.mono (Nat.le_of_lt HA9.out.lt))⟩
 | true =>
  have h0 : Hid (EvSt (funcB 200) W9 w4 kb 0) := Hd ⟨HB94.out, fun i hi => by omega⟩
  go_wp2
  clear c4 HB94
  go_loopw [3] (fun i wr => ∃ j : Nat, j ≤ N ∧ i = .int .i64 (j : Int) ∧ Hid (EvSt (funcB 200) W9 wr kb j)) (fun i _ => N - (intOf i).toNat)
  case atStart => exact ⟨0, by omega, rfl, h0⟩
  case round =>
   clear h0
   obtain ⟨j, hj, rfl, hX⟩ := hrel
   have c0 := (HA9.out.below hX.out.bel HA9.out.lt).cell
   have hbwf := HW9.out.trans (hX.out.bel.mono (Nat.le_of_lt HA9.out.lt))
   have HBWF := Hd hbwf
   clear hbwf
   by_cases hjn : j < N
   ·obtain ⟨ad, hxa, hab, hkid⟩ := HK9.out wr hX.out.bel j hjn
    subst hxa
    obtain ⟨l2, x2, n2, k2, ⟨e0, e1, e2, e3, e4, e5, e6, e7, e8, e9, e10⟩, hT3⟩ := hkid
    have HC := Hd (rfunc_any (d := 200) (kat kb j) (HKD.out j (by first | exact hjn | (rw [HN.out]; exact hjn))) (HKW.out j (by first | exact hjn | (rw [HN.out]; exact hjn))) l2 x2 n2 k2 wr hT3)
    have hj0 : (0 : Int) ≤ (j : Int) := by omega
    have hj1 : (j : Int) < (N : Int) := by omega
    clear hT3
    obtain ⟨bq, hbq⟩ : ∃ b, b = funcB 200 (kat kb j) := ⟨_, rfl⟩
    rw [← hbq] at HC
    have HQ := Hd hbq
    clear hbq
    go_wp2_with fail
    refine HC.out.mono ?_
    rintro e w5 ⟨rfl, hb⟩
    have HB := Hd (hX.out.bel.trans (hb.mono hX.out.bel.size))
    have HBF := Hd (HBWF.out.trans (hb.mono HBWF.out.size))
    clear hb HC c0
    have c0 := (HA9.out.below HB.out HA9.out.lt).cell
    cases bq with
    | true =>
     have HX2 := Hd (hX.out.step HQ.out.symm HB.out)
     clear hX HQ
     go_wp2
     go_roundw
     case rel => exact ⟨j + 1, by omega, by go_num, HX2⟩
     case measure => simp [intOf]; omega
    | false =>
     have HR3 := Hd (HL3.out j (by first | exact hjn | (rw [HN.out]; exact hjn)) HQ.out.symm)
     clear hX HQ
     go_wp2
     go_ret
     exact ⟨by rw [HR2.out, HR3.out]; rfl, HBF.out⟩
   ·obtain rfl : j = N := by omega
    have HR3 := Hd (HL2.out (by first | exact hX.out.all | (rw [HN.out]; exact hX.out.all)))
    clear hX
    go_wp2
    go_ret
    exact ⟨by rw [HR2.out, HR3.out]; rfl, HBWF.out⟩
end Go.Proofs.YthdbaligapdbeaaGreatDoor
/- The law on forms: the walk. -/
namespace Go.Proofs.YthdbaligapdbeaaGreatDoor
open Go Go.RowKit
set_option linter.unusedVariables false

theorem valid_same (t : Tree) : (kin 1 1 t && (decide (count t ≤ 20000 ∧ depth t ≤ 200) && fitB 202 t)) = rvalB t := by
 unfold rvalB
 rw [g_eq 200 t]
 by_cases h1 : count t ≤ 20000
 ·by_cases h2 : depth t ≤ 200
  ·simp [h1, h2]
  ·simp [h1, h2]
 ·simp [h1]
set_option maxHeartbeats 8000000 in
set_option maxRecDepth 100000 in
theorem parserForms_walk (l1 : Lab) (x1 : Option Addr) (n1 k1 : Nat) (t : Tree) (hwt : TreeWf 281474976710656 t) (hct : count t ≤ 1000000) (w : World) (V : Vs w) (LV : Lv w) (G : Gr w)
  (hT : TreeAt w (fun _ => True) [.int .i64 l1.kind, .string (str l1.name), .int .u64 l1.num, .int .i64 l1.wd, .bool l1.sg, .int .i64 l1.op, .int .i64 l1.fac, .int .i64 l1.pip, .int .i64 l1.unr, .int .i64 l1.line, .slice x1 n1 k1] t) :
  Calls Tryz.prog 3 #[.agg #[.int .i64 l1.kind, .string (str l1.name), .int .u64 l1.num, .int .i64 l1.wd, .bool l1.sg, .int .i64 l1.op, .int .i64 l1.fac, .int .i64 l1.pip, .int .i64 l1.unr, .int .i64 l1.line, .slice x1 n1 k1]] w fun e w' => e = .returned (.bool true) ∧ Below w.heap.size w w' := by
 have hdt : depth t ≤ 1000000 := Nat.le_trans (depth_le_count t) hct
 have HB0 := Hd (BW.start w [.int .i64 l1.kind, .string (str l1.name), .int .u64 l1.num, .int .i64 l1.wd, .bool l1.sg, .int .i64 l1.op, .int .i64 l1.fac, .int .i64 l1.pip, .int .i64 l1.unr, .int .i64 l1.line, .slice x1 n1 k1])
 have HA := Hd fun W (hb : Below w.heap.size w W) => awake_any W (V.below hb) (LV.below hb)
 have HTA := Hd fun W (hb : Below w.heap.size w W) => hT.keep (w' := W) (Q := fun _ => True) (fun g _ hl => hb.block g hl) fun _ _ _ => trivial
 have HSA := Hd fun W (hb : Below w.heap.size w W) => small_any t hct hdt l1 x1 n1 k1 W (HTA.out W hb)
 have HVA := Hd fun W (hb : Below w.heap.size w W) => valid_any t hwt l1 x1 n1 k1 W (V.below hb) (LV.below hb) (G.below hb) (HTA.out W hb)
 have HRV := Hd fun W (hb : Below w.heap.size w W) => rValid_any t hct hwt l1 x1 n1 k1 W (HTA.out W hb)
 rw [valid_same] at HVA
 clear V LV G hT HTA hct hdt hwt
 generalize rvalB t = bV at *
 generalize sml t = s1 at *
 have c0 := HB0.out.a.cell
 go_enter Tryz.func3, Tryz.ntmps3
 go_wp2_with fail
 refine (HA.out _ HB0.out.bel).mono ?_
 rintro e w1 ⟨rfl, hb⟩
 have HB1 := Hd (HB0.out.call hb)
 have c1 := HB1.out.a.cell
 clear hb
 go_wp2_with fail
 refine (HSA.out _ HB1.out.bel).mono ?_
 rintro e w2 ⟨rfl, hb⟩
 have HB2 := Hd (HB1.out.call hb)
 have c2 := HB2.out.a.cell
 clear hb
 cases s1 with
 | false =>
  go_wp2_with fail
  refine (HA.out _ HB2.out.bel).mono ?_
  rintro e w3 ⟨rfl, hb⟩
  have HB3 := Hd (HB2.out.call hb)
  clear hb
  go_wp2
  go_ret
  exact ⟨rfl, HB3.out.bel⟩
 | true =>
  go_upto_region 3 with fail
  clear c0 c1 c2
  have hD : Below w2.heap.size w2 w2.drew := (Below.refl _ _).drew
  have HB3 := Hd (HB2.out.call hD)
  have c3 := HB3.out.a.cell
  first
  | (go_region_with (first | (go_at_call 12; refine (HVA.out _ (by first | exact HB6.out.bel | exact HB3.out.bel)).mono ?_; rintro e w6 ⟨rfl, hb6⟩; (first | have HB6 := Hd (HB6.out.call hb6) | have HB6 := Hd (HB3.out.call hb6)); have c6 := HB6.out.a.cell) | (go_at_call 13; refine (HRV.out _ (by first | exact HB6.out.bel | exact HB3.out.bel)).mono ?_; rintro e w6 ⟨rfl, hb6⟩; (first | have HB6 := Hd (HB6.out.call hb6) | have HB6 := Hd (HB3.out.call hb6)); have c6 := HB6.out.a.cell)))
  | fail
  all_goals
   go_wp2
   go_ret
   exact ⟨by cases bV <;> rfl, HB6.out.bel⟩
end Go.Proofs.YthdbaligapdbeaaGreatDoor
