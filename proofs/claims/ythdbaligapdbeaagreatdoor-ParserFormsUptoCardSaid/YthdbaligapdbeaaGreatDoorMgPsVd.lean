/- The reference's exprs and expression: contracts. -/
import Derived.Test.YthdbaligapdbeaaGreatDoorMgPsVf
import Derived.Deep.Cut
import Derived.Deep.RegionHeld3
import Derived.Deep.RegionWith
import Derived.RegionTactic
import Derived.ChangeAlike
namespace Go.Proofs.YthdbaligapdbeaaGreatDoor
open Go Go.RowKit
set_option linter.unusedVariables false

structure BW (w W : World) (cs : List Value) : Prop where
 a : Blk W w.heap.size 27 cs
 bel : Below w.heap.size w W
theorem BW.start (w : World) (cs : List Value) : BW w (w.alloc (.cells cs.toArray 27)) cs := ⟨Blk.alloc w _ cs, (Below.refl w.heap.size w).alloc (Nat.le_refl _) _⟩
theorem BW.call {w W W' : World} {cs : List Value} (h : BW w W cs) (hb : Below W.heap.size W W') : BW w W' cs := ⟨h.a.below hb h.a.lt, h.bel.trans (hb.mono (Nat.le_of_lt h.a.lt))⟩
theorem wf_node {N : Nat} {l : Lab} {ks : List Tree} (h : TreeWf N (.node l ks)) : l.Wf N ∧ ∀ i, i < ks.length → TreeWf N (kat ks i) := by
 cases h with
 | mk _ _ hl hk => exact ⟨hl, fun i hi => by rw [kat_get hi]; exact hk i hi⟩
theorem exsW_long {f : Tree → Bool} {ks : List Tree} {j : Nat} (h : ¬ j ≤ ks.length) : exsW f ks j = false := by simp [exsW, h]
theorem all_take {f : Tree → Bool} : ∀ (ks : List Tree) (j : Nat), j ≤ ks.length → ((ks.take j).all f = true ↔ ∀ i, i < j → f (kat ks i) = true) := by
 intro ks j hj
 rw [List.all_eq_true]
 constructor
 ·intro h i hi
  refine h _ ?_
  rw [List.mem_take_iff_getElem]
  exact ⟨i, by omega, by rw [kat_get (by omega)]⟩
 ·intro h t ht
  rw [List.mem_take_iff_getElem] at ht
  obtain ⟨i, hi, rfl⟩ := ht
  rw [← kat_get (by omega)]
  exact h i (by omega)
theorem exsW_true {f : Tree → Bool} {ks : List Tree} {j : Nat} (hj : j ≤ ks.length) (h : ∀ i, i < j → f (kat ks i) = true) : exsW f ks j = true := by
 unfold exsW
 rw [decide_eq_true hj, (all_take ks j hj).2 h]; rfl
theorem exsW_false {f : Tree → Bool} {ks : List Tree} {i j : Nat} (hi : i < j) (hj : j ≤ ks.length) (h : f (kat ks i) = false) : exsW f ks j = false := by
 unfold exsW
 have : (ks.take j).all f = false := Bool.eq_false_iff.2 fun k => by rw [(all_take ks j hj).1 k i hi] at h; cases h
 rw [this, Bool.and_false]
structure ExSt (f : Tree → Bool) (w wr : World) (cs : List Value) (ks : List Tree) (m : Nat) : Prop where
 bw : BW w wr cs
 all : ∀ i, i < m → f (kat ks i) = true
theorem ExSt.step {f : Tree → Bool} {w wr w' : World} {cs : List Value} {ks : List Tree} {m : Nat} (h : ExSt f w wr cs ks m) (hb : BW w w' cs) (hf : f (kat ks m) = true) : ExSt f w w' cs ks (m + 1) :=
 ⟨hb, fun i hi => by
  by_cases e : i = m
  ·subst e; exact hf
  ·exact h.all i (by omega)⟩
def XOK (d : Nat) : Prop := ∀ t, depth t ≤ d → TreeWf 281474976710656 t → ∀ (l : Lab) (x : Option Addr) (n k : Nat) (w : World), TreeAt w (fun _ => True) [.int .i64 l.kind, .string (str l.name), .int .u64 l.num, .int .i64 l.wd, .bool l.sg, .int .i64 l.op, .int .i64 l.fac, .int .i64 l.pip, .int .i64 l.unr, .int .i64 l.line, .slice x n k] t →
 Calls Tryz.prog 165 #[.agg #[.int .i64 l.kind, .string (str l.name), .int .u64 l.num, .int .i64 l.wd, .bool l.sg, .int .i64 l.op, .int .i64 l.fac, .int .i64 l.pip, .int .i64 l.unr, .int .i64 l.line, .slice x n k]] w fun e w' => e = .returned (.bool (xB d t)) ∧ Below w.heap.size w w'
set_option maxHeartbeats 2000000 in
set_option maxRecDepth 100000 in
theorem exprs_any {d : Nat} (H : XOK d) (l : Lab) (ks : List Tree) (x : Option Addr) (k : Nat) (hw : ∀ i, i < ks.length → TreeWf 281474976710656 (kat ks i)) (hd : ∀ i, i < ks.length → depth (kat ks i) ≤ d) (to : Nat) (w : World) (hkm : ks.length ≤ k ∧ k ≤ maxLen)
  (hkids : ∀ i (hi : i < ks.length), ∃ a, x = some a ∧ True ∧ KidAt w (fun _ => True) a i (kat ks i)) :
  Calls Tryz.prog 132 #[.agg #[.int .i64 l.kind, .string (str l.name), .int .u64 l.num, .int .i64 l.wd, .bool l.sg, .int .i64 l.op, .int .i64 l.fac, .int .i64 l.pip, .int .i64 l.unr, .int .i64 l.line, .slice x ks.length k], .int .i64 0, .int .i64 (to : Int)] w fun e w' => e = .returned (.bool (exsW (xB d) ks to)) ∧ Below w.heap.size w w' := by
 obtain ⟨hk1, hk2⟩ := hkm
 unfold maxLen at hk2
 have HK := Hd hkids
 have HH := Hd fun i (hi : i < ks.length) => H (kat ks i) (hd i hi) (hw i hi)
 have h0 : Hid (ExSt (xB d) w (w.alloc (.cells #[.int .i64 l.kind, .string (str l.name), .int .u64 l.num, .int .i64 l.wd, .bool l.sg, .int .i64 l.op, .int .i64 l.fac, .int .i64 l.pip, .int .i64 l.unr, .int .i64 l.line, .slice x ks.length k] 27)) [.int .i64 l.kind, .string (str l.name), .int .u64 l.num, .int .i64 l.wd, .bool l.sg, .int .i64 l.op, .int .i64 l.fac, .int .i64 l.pip, .int .i64 l.unr, .int .i64 l.line, .slice x ks.length k] ks 0) := Hd ⟨BW.start w _, fun i hi => by omega⟩
 have HL1 : Hid (¬ to ≤ ks.length → exsW (xB d) ks to = false) := Hd exsW_long
 have HL2 : Hid (to ≤ ks.length → (∀ i, i < to → xB d (kat ks i) = true) → exsW (xB d) ks to = true) := Hd exsW_true
 have HL3 : Hid (∀ i, i < to → to ≤ ks.length → xB d (kat ks i) = false → exsW (xB d) ks to = false) := Hd fun i => exsW_false
 clear hkids H hw hd
 generalize exsW (xB d) ks to = R at *
 generalize hN : ks.length = N at *
 have HN := Hd hN
 clear hN
 have c0 := h0.out.bw.a.cell
 have q0 : decide ((to : Int) < 0) = false := by rw [decide_eq_false_iff_not]; omega
 by_cases htn : to ≤ N
 rotate_left
 ·have HR := Hd (HL1.out htn)
  have HB := Hd h0.out.bw.bel
  have q1 : decide (N < to) = true := by rw [decide_eq_true_iff]; omega
  clear h0 HL1 HL2 HL3
  go_enter Tryz.func132, Tryz.ntmps132
  go_wp2
  go_ret
  exact ⟨by rw [HR.out]; rfl, HB.out⟩
 have q1 : decide (N < to) = false := by rw [decide_eq_false_iff_not]; omega
 go_enter Tryz.func132, Tryz.ntmps132
 go_wp2
 generalize (w.alloc (.cells #[.int .i64 l.kind, .string (str l.name), .int .u64 l.num, .int .i64 l.wd, .bool l.sg, .int .i64 l.op, .int .i64 l.fac, .int .i64 l.pip, .int .i64 l.unr, .int .i64 l.line, .slice x N k] 27)) = W1 at *
 clear c0 q0 q1
 go_loopw [7] (fun i wr => ∃ j : Nat, j ≤ to ∧ i = .int .i64 (j : Int) ∧ Hid (ExSt (xB d) w wr [.int .i64 l.kind, .string (str l.name), .int .u64 l.num, .int .i64 l.wd, .bool l.sg, .int .i64 l.op, .int .i64 l.fac, .int .i64 l.pip, .int .i64 l.unr, .int .i64 l.line, .slice x N k] ks j)) (fun i _ => to - (intOf i).toNat)
 case atStart => exact ⟨0, by omega, rfl, h0⟩
 case round =>
  clear h0
  obtain ⟨j, hj, rfl, hX⟩ := hrel
  have c0 := hX.out.bw.a.cell
  by_cases hjt : j < to
  ·have hjn : j < N := by omega
   obtain ⟨ad, hxa, hab, hkid⟩ := HK.out j hjn
   subst hxa
   have hbw := hX.out.bw.bel
   obtain ⟨l2, x2, n2, k2, ⟨e0, e1, e2, e3, e4, e5, e6, e7, e8, e9, e10⟩, hT3⟩ := hkid.keep (w' := wr) (Q := fun _ => True) hab (fun g hg hl => hbw.block g hl) fun _ hg _ => trivial
   have HC := Hd (HH.out j hjn l2 x2 n2 k2 wr hT3)
   have hj0 : (0 : Int) ≤ (j : Int) := by omega
   have hj1 : (j : Int) < (N : Int) := by omega
   clear hT3 hkid hbw
   obtain ⟨bq, hbq⟩ : ∃ b, b = xB d (kat ks j) := ⟨_, rfl⟩
   rw [← hbq] at HC
   have HQ := Hd hbq
   clear hbq
   go_wp2_with fail
   refine HC.out.mono ?_
   rintro e w1 ⟨rfl, hb⟩
   have HB := Hd (hX.out.bw.call hb)
   clear hb HC c0
   have c0 := HB.out.a.cell
   cases bq with
   | true =>
    have HX2 := Hd (hX.out.step HB.out HQ.out.symm)
    clear hX HQ
    go_wp2
    go_roundw
    case rel => exact ⟨j + 1, by omega, by go_num, HX2⟩
    case measure => simp [intOf]; omega
   | false =>
    have HR := Hd (HL3.out j hjt htn HQ.out.symm)
    clear hX HQ
    go_wp2
    go_ret
    exact ⟨by rw [HR.out]; rfl, HB.out.bel⟩
  ·obtain rfl : j = to := by omega
   have HR := Hd (HL2.out htn hX.out.all)
   have HB := Hd hX.out.bw.bel
   clear hX
   go_wp2
   go_ret
   exact ⟨by rw [HR.out]; rfl, HB.out⟩
theorem exprs_at {d : Nat} (H : XOK d) (l : Lab) (ks : List Tree) (x : Option Addr) (k : Nat) (hw : ∀ i, i < ks.length → TreeWf 281474976710656 (kat ks i)) (hd : ∀ i, i < ks.length → depth (kat ks i) ≤ d) (to : Nat) (ti : Int) (hti : (to : Int) = ti) (w : World) (hkm : ks.length ≤ k ∧ k ≤ maxLen)
  (hkids : ∀ i (hi : i < ks.length), ∃ a, x = some a ∧ True ∧ KidAt w (fun _ => True) a i (kat ks i)) :
  Calls Tryz.prog 132 #[.agg #[.int .i64 l.kind, .string (str l.name), .int .u64 l.num, .int .i64 l.wd, .bool l.sg, .int .i64 l.op, .int .i64 l.fac, .int .i64 l.pip, .int .i64 l.unr, .int .i64 l.line, .slice x ks.length k], .int .i64 0, .int .i64 ti] w fun e w' => e = .returned (.bool (exsW (xB d) ks to)) ∧ Below w.heap.size w w' := hti ▸ exprs_any H l ks x k hw hd to w hkm hkids
set_option maxHeartbeats 8000000 in
set_option maxRecDepth 100000 in
theorem rexpr_step {d : Nat} (H : XOK d) : XOK (d + 1) := by
 intro t ht hwf l x n k w hT
 obtain ⟨lt, ks⟩ := t
 obtain ⟨xk, kk, hcs, hnk, hkm, hkids⟩ := TreeAt.kids hT
 obtain ⟨rfl, hv⟩ := lab_of (l := l) (m := lt) hcs
 simp only [Value.slice.injEq] at hv
 obtain ⟨rfl, rfl, rfl⟩ := hv
 obtain ⟨hlw, hkw⟩ := wf_node hwf
 have hnm := hlw.name
 have hdk : ∀ i, i < ks.length → depth (kat ks i) ≤ d := fun i hi => by
  have := depth_kat hi
  rw [depth] at ht
  omega
 clear hcs ht hwf hlw
 have HX := Hd fun (j : Nat) (ji : Int) (hji : (j : Int) = ji) W (hb : Below w.heap.size w W) => exprs_at H l ks x k hkw hdk j ji hji W ⟨hnk, hkm⟩ (fun i hi => by
  obtain ⟨a, h1, h2, h3⟩ := hkids i hi
  exact ⟨a, h1, h2, h3.keep h2 (fun g hg hl => hb.block g hl) fun _ _ _ => trivial⟩)
 have HN := Hd fun W => rname_any l.name hnm W
 have HRI := Hd fun W => right_any l.wd l.sg W
 have HB0 : Hid (BW w (w.alloc (.cells #[.int .i64 l.kind, .string (str l.name), .int .u64 l.num, .int .i64 l.wd, .bool l.sg, .int .i64 l.op, .int .i64 l.fac, .int .i64 l.pip, .int .i64 l.unr, .int .i64 l.line, .slice x ks.length k] 27)) [.int .i64 l.kind, .string (str l.name), .int .u64 l.num, .int .i64 l.wd, .bool l.sg, .int .i64 l.op, .int .i64 l.fac, .int .i64 l.pip, .int .i64 l.unr, .int .i64 l.line, .slice x ks.length k]) := Hd (BW.start w _)
 obtain ⟨a0, a1, a2, a3, a4, a5, a6, a7, a8, a9⟩ := l
 dsimp only at *
 clear hkids hkw hdk hnm hnk hkm
 have HFA := Hd True.intro
 generalize hNN : ks.length = N at *
 have HNN := Hd hNN
 clear hNN
 generalize hnb : nameB a1 = bN at *
 generalize htb : typB a3 = bR at *
 have HNB := Hd (And.intro hnb htb)
 clear hnb htb
 have c0 := HB0.out.a.cell
 go_enter Tryz.func165, Tryz.ntmps165
 go_upto_region 3 with fail
 generalize (w.alloc (.cells #[.int .i64 a0, .string (str a1), .int .u64 a2, .int .i64 a3, .bool a4, .int .i64 a5, .int .i64 a6, .int .i64 a7, .int .i64 a8, .int .i64 a9, .slice x N k] 27)) = W1 at *
 have hc : a0 = 18 ∨ a0 = 19 ∨ a0 = 20 ∨ a0 = 21 ∨ a0 = 22 ∨ a0 = 23 ∨ a0 = 24 ∨ a0 = 25 ∨ a0 = 26 ∨ (¬ a0 = 18 ∧ ¬ a0 = 19 ∧ ¬ a0 = 20 ∧ ¬ a0 = 21 ∧ ¬ a0 = 22 ∧ ¬ a0 = 23 ∧ ¬ a0 = 24 ∧ ¬ a0 = 25 ∧ ¬ a0 = 26) := by omega
 rcases hc with rfl | rfl | rfl | rfl | rfl | rfl | rfl | rfl | rfl | ⟨g18, g19, g20, g21, g22, g23, g24, g25, g26⟩
 ·skip
  have HF := Hd fun W => fields_no 18 a1 a2 a3 a4 a5 a6 a7 a8 a9 x N k 18 a2 a3 a4 0 0 0 0 0 none 0 0 W
  have HR : Hid (xB (d + 1) (.node ⟨18, a1, a2, a3, a4, a5, a6, a7, a8, a9⟩ ks) = (sameL ⟨18, [], a2, a3, a4, 0, 0, 0, 0, 0⟩ ⟨18, a1, a2, a3, a4, a5, a6, a7, a8, a9⟩ && (decide (N = 0) && (zerB a3 a4 || decide (a2 ≤ 1))))) := Hd (by rw [xB, HNN.out, if_pos (by simp)]; try rfl)
  generalize sameL ⟨18, [], a2, a3, a4, 0, 0, 0, 0, 0⟩ ⟨18, a1, a2, a3, a4, a5, a6, a7, a8, a9⟩ = bF at *
  go_wp2_with fail
  refine (HF.out _).mono ?_
  rintro e w1 ⟨rfl, hb⟩
  have HB1 := Hd (HB0.out.call hb)
  have c1 := HB1.out.a.cell
  clear hb
  cases bF with
  | false =>
   go_wp2
   go_ret
   exact ⟨by rw [HR.out]; rfl, HB1.out.bel⟩
  | true =>
   by_cases hj0 : N = 0
   rotate_left
   ·have HR2 := HR.out
    rw [decide_eq_false hj0] at HR2
    have HR := Hd HR2
    clear HR2
    have q1 : ((N : Int) == 0) = false := by rw [beq_eq_false_iff_ne]; omega
    go_wp2
    go_ret
    exact ⟨by rw [HR.out]; rfl, HB1.out.bel⟩
   have HR2 := HR.out
   rw [decide_eq_true hj0] at HR2
   have HR := Hd HR2
   clear HR2
   have q1 : ((N : Int) == 0) = true := by rw [hj0]; rfl
   have HJ := Hd hj0
   clear hj0
   by_cases hw : a3 = 0
   rotate_left
   ·have q1 : (a3 == 0) = false := by rw [beq_eq_false_iff_ne]; exact hw
    by_cases hn : a2 ≤ 1
    ·have HR2 := HR.out
     have hq : decide (a2 ≤ 1) = true := decide_eq_true hn
     have hz : zerB a3 a4 = false := by simp [zerB, hw]
     rw [hz, decide_eq_true hn] at HR2
     have HR := Hd HR2
     clear HR2 hz
     go_wp2
     go_ret
     exact ⟨by rw [HR.out]; rfl, HB1.out.bel⟩
    ·have HR2 := HR.out
     have hq : decide (a2 ≤ 1) = false := decide_eq_false hn
     have hz : zerB a3 a4 = false := by simp [zerB, hw]
     rw [hz, decide_eq_false hn] at HR2
     have HR := Hd HR2
     clear HR2 hz
     go_wp2
     go_ret
     exact ⟨by rw [HR.out]; rfl, HB1.out.bel⟩
   subst hw
   cases a4 with
   | false =>
    have HR2 := HR.out
    have hz : zerB 0 false = true := rfl
    rw [hz] at HR2
    have HR := Hd HR2
    clear HR2 hz
    go_wp2
    go_ret
    exact ⟨by rw [HR.out]; rfl, HB1.out.bel⟩
   | true =>
    by_cases hn : a2 ≤ 1
    ·have HR2 := HR.out
     have hq : decide (a2 ≤ 1) = true := decide_eq_true hn
     have hz : zerB 0 true = false := rfl
     rw [hz, decide_eq_true hn] at HR2
     have HR := Hd HR2
     clear HR2 hz
     go_wp2
     go_ret
     exact ⟨by rw [HR.out]; rfl, HB1.out.bel⟩
    ·have HR2 := HR.out
     have hq : decide (a2 ≤ 1) = false := decide_eq_false hn
     have hz : zerB 0 true = false := rfl
     rw [hz, decide_eq_false hn] at HR2
     have HR := Hd HR2
     clear HR2 hz
     go_wp2
     go_ret
     exact ⟨by rw [HR.out]; rfl, HB1.out.bel⟩
 ·skip
  have HF := Hd fun W => fields_nm 19 a1 a2 a3 a4 a5 a6 a7 a8 a9 x N k 19 a1 0 0 false 0 0 0 0 0 none 0 0 W
  have HR : Hid (xB (d + 1) (.node ⟨19, a1, a2, a3, a4, a5, a6, a7, a8, a9⟩ ks) = (sameL ⟨19, a1, 0, 0, false, 0, 0, 0, 0, 0⟩ ⟨19, a1, a2, a3, a4, a5, a6, a7, a8, a9⟩ && (bN && decide (N = 0)))) := Hd (by rw [xB, HNN.out, if_neg (by simp), if_pos (by simp)]; simp only [HNB.out.1]; try rfl)
  generalize sameL ⟨19, a1, 0, 0, false, 0, 0, 0, 0, 0⟩ ⟨19, a1, a2, a3, a4, a5, a6, a7, a8, a9⟩ = bF at *
  go_wp2_with fail
  refine (HF.out _).mono ?_
  rintro e w1 ⟨rfl, hb⟩
  have HB1 := Hd (HB0.out.call hb)
  have c1 := HB1.out.a.cell
  clear hb
  cases bF with
  | false =>
   go_wp2
   go_ret
   exact ⟨by rw [HR.out]; rfl, HB1.out.bel⟩
  | true =>
   go_wp2_with fail
   refine (HN.out _).mono ?_
   rintro e w2 ⟨rfl, hb⟩
   have HB2 := Hd (HB1.out.call hb)
   have c2 := HB2.out.a.cell
   clear hb
   cases bN with
   | false =>
    go_wp2
    go_ret
    exact ⟨by rw [HR.out]; rfl, HB2.out.bel⟩
   | true =>
    by_cases hj0 : N = 0
    rotate_left
    ·have HR2 := HR.out
     rw [decide_eq_false hj0] at HR2
     have HR := Hd HR2
     clear HR2
     have q1 : ((N : Int) == 0) = false := by rw [beq_eq_false_iff_ne]; omega
     go_wp2
     go_ret
     exact ⟨by rw [HR.out]; rfl, HB2.out.bel⟩
    have HR2 := HR.out
    rw [decide_eq_true hj0] at HR2
    have HR := Hd HR2
    clear HR2
    have q1 : ((N : Int) == 0) = true := by rw [hj0]; rfl
    have HJ := Hd hj0
    clear hj0
    go_wp2
    go_ret
    exact ⟨by rw [HR.out]; rfl, HB2.out.bel⟩
 ·skip
  have HF := Hd fun W => fields_nm 20 a1 a2 a3 a4 a5 a6 a7 a8 a9 x N k 20 a1 0 0 false 0 0 0 0 0 none 0 0 W
  have HR : Hid (xB (d + 1) (.node ⟨20, a1, a2, a3, a4, a5, a6, a7, a8, a9⟩ ks) = (sameL ⟨20, a1, 0, 0, false, 0, 0, 0, 0, 0⟩ ⟨20, a1, a2, a3, a4, a5, a6, a7, a8, a9⟩ && (bN && (decide (N = 1) && exsW (xB d) ks 1)))) := Hd (by rw [xB, HNN.out, if_neg (by simp), if_neg (by simp), if_pos (by simp)]; simp only [HNB.out.1]; try rfl)
  generalize sameL ⟨20, a1, 0, 0, false, 0, 0, 0, 0, 0⟩ ⟨20, a1, a2, a3, a4, a5, a6, a7, a8, a9⟩ = bF at *
  go_wp2_with fail
  refine (HF.out _).mono ?_
  rintro e w1 ⟨rfl, hb⟩
  have HB1 := Hd (HB0.out.call hb)
  have c1 := HB1.out.a.cell
  clear hb
  cases bF with
  | false =>
   go_wp2
   go_ret
   exact ⟨by rw [HR.out]; rfl, HB1.out.bel⟩
  | true =>
   go_wp2_with fail
   refine (HN.out _).mono ?_
   rintro e w2 ⟨rfl, hb⟩
   have HB2 := Hd (HB1.out.call hb)
   have c2 := HB2.out.a.cell
   clear hb
   cases bN with
   | false =>
    go_wp2
    go_ret
    exact ⟨by rw [HR.out]; rfl, HB2.out.bel⟩
   | true =>
    by_cases hj1 : N = 1
    rotate_left
    ·have HR2 := HR.out
     rw [decide_eq_false hj1] at HR2
     have HR := Hd HR2
     clear HR2
     have q1 : ((N : Int) == 1) = false := by rw [beq_eq_false_iff_ne]; omega
     go_wp2
     go_ret
     exact ⟨by rw [HR.out]; rfl, HB2.out.bel⟩
    have HR2 := HR.out
    rw [decide_eq_true hj1] at HR2
    have HR := Hd HR2
    clear HR2
    have q1 : ((N : Int) == 1) = true := by rw [hj1]; rfl
    have HJ := Hd hj1
    clear hj1
    have HX1 := Hd (HX.out 1 1 rfl _ HB2.out.bel)
    generalize exsW (xB d) ks 1 = bX at *
    go_wp2_with fail
    refine (HX1.out).mono ?_
    rintro e w3 ⟨rfl, hb⟩
    have HB3 := Hd (HB2.out.call hb)
    have c3 := HB3.out.a.cell
    clear hb
    go_wp2
    go_ret
    exact ⟨by rw [HR.out]; cases bX <;> rfl, HB3.out.bel⟩
 ·skip
  have HF := Hd fun W => fields_no 21 a1 a2 a3 a4 a5 a6 a7 a8 a9 x N k 21 0 0 false a5 0 0 0 0 none 0 0 W
  have HR : Hid (xB (d + 1) (.node ⟨21, a1, a2, a3, a4, a5, a6, a7, a8, a9⟩ ks) = (sameL ⟨21, [], 0, 0, false, a5, 0, 0, 0, 0⟩ ⟨21, a1, a2, a3, a4, a5, a6, a7, a8, a9⟩ && (decide (19 ≤ a5) && (decide (a5 ≤ 21) && (decide (N = 1) && exsW (xB d) ks 1))))) := Hd (by rw [xB, HNN.out, if_neg (by simp), if_neg (by simp), if_neg (by simp), if_neg (by simp), if_pos (by simp)]; try rfl)
  generalize sameL ⟨21, [], 0, 0, false, a5, 0, 0, 0, 0⟩ ⟨21, a1, a2, a3, a4, a5, a6, a7, a8, a9⟩ = bF at *
  go_wp2_with fail
  refine (HF.out _).mono ?_
  rintro e w1 ⟨rfl, hb⟩
  have HB1 := Hd (HB0.out.call hb)
  have c1 := HB1.out.a.cell
  clear hb
  cases bF with
  | false =>
   go_wp2
   go_ret
   exact ⟨by rw [HR.out]; rfl, HB1.out.bel⟩
  | true =>
   by_cases h1 : 19 ≤ a5
   rotate_left
   ·have HR2 := HR.out
    rw [decide_eq_false h1] at HR2
    have HR := Hd HR2
    clear HR2
    have qh1 : decide (19 ≤ a5) = false := decide_eq_false h1
    go_wp2
    go_ret
    exact ⟨by rw [HR.out]; rfl, HB1.out.bel⟩
   have HR2 := HR.out
   rw [decide_eq_true h1] at HR2
   have HR := Hd HR2
   clear HR2
   have qh1 : decide (19 ≤ a5) = true := decide_eq_true h1
   by_cases h2 : a5 ≤ 21
   rotate_left
   ·have HR2 := HR.out
    rw [decide_eq_false h2] at HR2
    have HR := Hd HR2
    clear HR2
    have qh2 : decide (a5 ≤ 21) = false := decide_eq_false h2
    go_wp2
    go_ret
    exact ⟨by rw [HR.out]; rfl, HB1.out.bel⟩
   have HR2 := HR.out
   rw [decide_eq_true h2] at HR2
   have HR := Hd HR2
   clear HR2
   have qh2 : decide (a5 ≤ 21) = true := decide_eq_true h2
   by_cases hj1 : N = 1
   rotate_left
   ·have HR2 := HR.out
    rw [decide_eq_false hj1] at HR2
    have HR := Hd HR2
    clear HR2
    have q1 : ((N : Int) == 1) = false := by rw [beq_eq_false_iff_ne]; omega
    go_wp2
    go_ret
    exact ⟨by rw [HR.out]; rfl, HB1.out.bel⟩
   have HR2 := HR.out
   rw [decide_eq_true hj1] at HR2
   have HR := Hd HR2
   clear HR2
   have q1 : ((N : Int) == 1) = true := by rw [hj1]; rfl
   have HJ := Hd hj1
   clear hj1
   have HX1 := Hd (HX.out 1 1 rfl _ HB1.out.bel)
   generalize exsW (xB d) ks 1 = bX at *
   go_wp2_with fail
   refine (HX1.out).mono ?_
   rintro e w2 ⟨rfl, hb⟩
   have HB2 := Hd (HB1.out.call hb)
   have c2 := HB2.out.a.cell
   clear hb
   go_wp2
   go_ret
   exact ⟨by rw [HR.out]; cases bX <;> rfl, HB2.out.bel⟩
 ·skip
  have HF := Hd fun W => fields_no 22 a1 a2 a3 a4 a5 a6 a7 a8 a9 x N k 22 0 0 false a5 0 0 0 0 none 0 0 W
  have HR : Hid (xB (d + 1) (.node ⟨22, a1, a2, a3, a4, a5, a6, a7, a8, a9⟩ ks) = (sameL ⟨22, [], 0, 0, false, a5, 0, 0, 0, 0⟩ ⟨22, a1, a2, a3, a4, a5, a6, a7, a8, a9⟩ && (decide (1 ≤ a5) && (decide (a5 ≤ 18) && (decide (N = 2) && exsW (xB d) ks 2))))) := Hd (by rw [xB, HNN.out, if_neg (by simp), if_neg (by simp), if_neg (by simp), if_neg (by simp), if_neg (by simp), if_pos (by simp)]; try rfl)
  generalize sameL ⟨22, [], 0, 0, false, a5, 0, 0, 0, 0⟩ ⟨22, a1, a2, a3, a4, a5, a6, a7, a8, a9⟩ = bF at *
  go_wp2_with fail
  refine (HF.out _).mono ?_
  rintro e w1 ⟨rfl, hb⟩
  have HB1 := Hd (HB0.out.call hb)
  have c1 := HB1.out.a.cell
  clear hb
  cases bF with
  | false =>
   go_wp2
   go_ret
   exact ⟨by rw [HR.out]; rfl, HB1.out.bel⟩
  | true =>
   by_cases h1 : 1 ≤ a5
   rotate_left
   ·have HR2 := HR.out
    rw [decide_eq_false h1] at HR2
    have HR := Hd HR2
    clear HR2
    have qh1 : decide (1 ≤ a5) = false := decide_eq_false h1
    go_wp2
    go_ret
    exact ⟨by rw [HR.out]; rfl, HB1.out.bel⟩
   have HR2 := HR.out
   rw [decide_eq_true h1] at HR2
   have HR := Hd HR2
   clear HR2
   have qh1 : decide (1 ≤ a5) = true := decide_eq_true h1
   by_cases h2 : a5 ≤ 18
   rotate_left
   ·have HR2 := HR.out
    rw [decide_eq_false h2] at HR2
    have HR := Hd HR2
    clear HR2
    have qh2 : decide (a5 ≤ 18) = false := decide_eq_false h2
    go_wp2
    go_ret
    exact ⟨by rw [HR.out]; rfl, HB1.out.bel⟩
   have HR2 := HR.out
   rw [decide_eq_true h2] at HR2
   have HR := Hd HR2
   clear HR2
   have qh2 : decide (a5 ≤ 18) = true := decide_eq_true h2
   by_cases hj2 : N = 2
   rotate_left
   ·have HR2 := HR.out
    rw [decide_eq_false hj2] at HR2
    have HR := Hd HR2
    clear HR2
    have q1 : ((N : Int) == 2) = false := by rw [beq_eq_false_iff_ne]; omega
    go_wp2
    go_ret
    exact ⟨by rw [HR.out]; rfl, HB1.out.bel⟩
   have HR2 := HR.out
   rw [decide_eq_true hj2] at HR2
   have HR := Hd HR2
   clear HR2
   have q1 : ((N : Int) == 2) = true := by rw [hj2]; rfl
   have HJ := Hd hj2
   clear hj2
   have HX1 := Hd (HX.out 2 2 rfl _ HB1.out.bel)
   generalize exsW (xB d) ks 2 = bX at *
   go_wp2_with fail
   refine (HX1.out).mono ?_
   rintro e w2 ⟨rfl, hb⟩
   have HB2 := Hd (HB1.out.call hb)
   have c2 := HB2.out.a.cell
   clear hb
   go_wp2
   go_ret
   exact ⟨by rw [HR.out]; cases bX <;> rfl, HB2.out.bel⟩
 ·skip
  have HF := Hd fun W => fields_no 23 a1 a2 a3 a4 a5 a6 a7 a8 a9 x N k 23 0 0 false 0 0 0 0 0 none 0 0 W
  have HR : Hid (xB (d + 1) (.node ⟨23, a1, a2, a3, a4, a5, a6, a7, a8, a9⟩ ks) = (sameL ⟨23, [], 0, 0, false, 0, 0, 0, 0, 0⟩ ⟨23, a1, a2, a3, a4, a5, a6, a7, a8, a9⟩ && (decide (N = 3) && exsW (xB d) ks 3))) := Hd (by rw [xB, HNN.out, if_neg (by simp), if_neg (by simp), if_neg (by simp), if_neg (by simp), if_neg (by simp), if_neg (by simp), if_pos (by simp)]; try rfl)
  generalize sameL ⟨23, [], 0, 0, false, 0, 0, 0, 0, 0⟩ ⟨23, a1, a2, a3, a4, a5, a6, a7, a8, a9⟩ = bF at *
  go_wp2_with fail
  refine (HF.out _).mono ?_
  rintro e w1 ⟨rfl, hb⟩
  have HB1 := Hd (HB0.out.call hb)
  have c1 := HB1.out.a.cell
  clear hb
  cases bF with
  | false =>
   go_wp2
   go_ret
   exact ⟨by rw [HR.out]; rfl, HB1.out.bel⟩
  | true =>
   by_cases hj3 : N = 3
   rotate_left
   ·have HR2 := HR.out
    rw [decide_eq_false hj3] at HR2
    have HR := Hd HR2
    clear HR2
    have q1 : ((N : Int) == 3) = false := by rw [beq_eq_false_iff_ne]; omega
    go_wp2
    go_ret
    exact ⟨by rw [HR.out]; rfl, HB1.out.bel⟩
   have HR2 := HR.out
   rw [decide_eq_true hj3] at HR2
   have HR := Hd HR2
   clear HR2
   have q1 : ((N : Int) == 3) = true := by rw [hj3]; rfl
   have HJ := Hd hj3
   clear hj3
   have HX1 := Hd (HX.out 3 3 rfl _ HB1.out.bel)
   generalize exsW (xB d) ks 3 = bX at *
   go_wp2_with fail
   refine (HX1.out).mono ?_
   rintro e w2 ⟨rfl, hb⟩
   have HB2 := Hd (HB1.out.call hb)
   have c2 := HB2.out.a.cell
   clear hb
   go_wp2
   go_ret
   exact ⟨by rw [HR.out]; cases bX <;> rfl, HB2.out.bel⟩
 ·skip
  have HF := Hd fun W => fields_no 24 a1 a2 a3 a4 a5 a6 a7 a8 a9 x N k 24 0 a3 a4 0 0 0 0 0 none 0 0 W
  have HR : Hid (xB (d + 1) (.node ⟨24, a1, a2, a3, a4, a5, a6, a7, a8, a9⟩ ks) = (sameL ⟨24, [], 0, a3, a4, 0, 0, 0, 0, 0⟩ ⟨24, a1, a2, a3, a4, a5, a6, a7, a8, a9⟩ && (bR && (decide (N = 1) && exsW (xB d) ks 1)))) := Hd (by rw [xB, HNN.out, if_neg (by simp), if_neg (by simp), if_neg (by simp), if_neg (by simp), if_neg (by simp), if_neg (by simp), if_neg (by simp), if_pos (by simp)]; simp only [HNB.out.2]; try rfl)
  generalize sameL ⟨24, [], 0, a3, a4, 0, 0, 0, 0, 0⟩ ⟨24, a1, a2, a3, a4, a5, a6, a7, a8, a9⟩ = bF at *
  go_wp2_with fail
  refine (HF.out _).mono ?_
  rintro e w1 ⟨rfl, hb⟩
  have HB1 := Hd (HB0.out.call hb)
  have c1 := HB1.out.a.cell
  clear hb
  cases bF with
  | false =>
   go_wp2
   go_ret
   exact ⟨by rw [HR.out]; rfl, HB1.out.bel⟩
  | true =>
   go_wp2_with fail
   refine (HRI.out _).mono ?_
   rintro e w2 ⟨rfl, hb⟩
   have HB2 := Hd (HB1.out.call hb)
   have c2 := HB2.out.a.cell
   clear hb
   cases bR with
   | false =>
    go_wp2
    go_ret
    exact ⟨by rw [HR.out]; rfl, HB2.out.bel⟩
   | true =>
    by_cases hj1 : N = 1
    rotate_left
    ·have HR2 := HR.out
     rw [decide_eq_false hj1] at HR2
     have HR := Hd HR2
     clear HR2
     have q1 : ((N : Int) == 1) = false := by rw [beq_eq_false_iff_ne]; omega
     go_wp2
     go_ret
     exact ⟨by rw [HR.out]; rfl, HB2.out.bel⟩
    have HR2 := HR.out
    rw [decide_eq_true hj1] at HR2
    have HR := Hd HR2
    clear HR2
    have q1 : ((N : Int) == 1) = true := by rw [hj1]; rfl
    have HJ := Hd hj1
    clear hj1
    have HX1 := Hd (HX.out 1 1 rfl _ HB2.out.bel)
    generalize exsW (xB d) ks 1 = bX at *
    go_wp2_with fail
    refine (HX1.out).mono ?_
    rintro e w3 ⟨rfl, hb⟩
    have HB3 := Hd (HB2.out.call hb)
    have c3 := HB3.out.a.cell
    clear hb
    go_wp2
    go_ret
    exact ⟨by rw [HR.out]; cases bX <;> rfl, HB3.out.bel⟩
 ·skip
  have HF := Hd fun W => fields_nm 25 a1 a2 a3 a4 a5 a6 a7 a8 a9 x N k 25 a1 0 0 false 0 0 0 0 0 none 0 0 W
  have HR : Hid (xB (d + 1) (.node ⟨25, a1, a2, a3, a4, a5, a6, a7, a8, a9⟩ ks) = (sameL ⟨25, a1, 0, 0, false, 0, 0, 0, 0, 0⟩ ⟨25, a1, a2, a3, a4, a5, a6, a7, a8, a9⟩ && (bN && exsW (xB d) ks N))) := Hd (by rw [xB, HNN.out, if_neg (by simp), if_neg (by simp), if_neg (by simp), if_pos (by simp)]; simp only [HNB.out.1]; try rfl)
  generalize sameL ⟨25, a1, 0, 0, false, 0, 0, 0, 0, 0⟩ ⟨25, a1, a2, a3, a4, a5, a6, a7, a8, a9⟩ = bF at *
  go_wp2_with fail
  refine (HF.out _).mono ?_
  rintro e w1 ⟨rfl, hb⟩
  have HB1 := Hd (HB0.out.call hb)
  have c1 := HB1.out.a.cell
  clear hb
  cases bF with
  | false =>
   go_wp2
   go_ret
   exact ⟨by rw [HR.out]; rfl, HB1.out.bel⟩
  | true =>
   go_wp2_with fail
   refine (HN.out _).mono ?_
   rintro e w2 ⟨rfl, hb⟩
   have HB2 := Hd (HB1.out.call hb)
   have c2 := HB2.out.a.cell
   clear hb
   cases bN with
   | false =>
    go_wp2
    go_ret
    exact ⟨by rw [HR.out]; rfl, HB2.out.bel⟩
   | true =>
    have HX1 := Hd (HX.out N (N : Int) rfl _ HB2.out.bel)
    generalize exsW (xB d) ks N = bX at *
    go_wp2_with fail
    refine (HX1.out).mono ?_
    rintro e w3 ⟨rfl, hb⟩
    have HB3 := Hd (HB2.out.call hb)
    have c3 := HB3.out.a.cell
    clear hb
    go_wp2
    go_ret
    exact ⟨by rw [HR.out]; cases bX <;> rfl, HB3.out.bel⟩
 ·skip
  have HF := Hd fun W => fields_nm 26 a1 a2 a3 a4 a5 a6 a7 a8 a9 x N k 26 a1 0 0 false 0 0 0 0 0 none 0 0 W
  have HR : Hid (xB (d + 1) (.node ⟨26, a1, a2, a3, a4, a5, a6, a7, a8, a9⟩ ks) = (sameL ⟨26, a1, 0, 0, false, 0, 0, 0, 0, 0⟩ ⟨26, a1, a2, a3, a4, a5, a6, a7, a8, a9⟩ && (bN && decide (N = 0)))) := Hd (by rw [xB, HNN.out, if_neg (by simp), if_pos (by simp)]; simp only [HNB.out.1]; try rfl)
  generalize sameL ⟨26, a1, 0, 0, false, 0, 0, 0, 0, 0⟩ ⟨26, a1, a2, a3, a4, a5, a6, a7, a8, a9⟩ = bF at *
  go_wp2_with fail
  refine (HF.out _).mono ?_
  rintro e w1 ⟨rfl, hb⟩
  have HB1 := Hd (HB0.out.call hb)
  have c1 := HB1.out.a.cell
  clear hb
  cases bF with
  | false =>
   go_wp2
   go_ret
   exact ⟨by rw [HR.out]; rfl, HB1.out.bel⟩
  | true =>
   go_wp2_with fail
   refine (HN.out _).mono ?_
   rintro e w2 ⟨rfl, hb⟩
   have HB2 := Hd (HB1.out.call hb)
   have c2 := HB2.out.a.cell
   clear hb
   cases bN with
   | false =>
    go_wp2
    go_ret
    exact ⟨by rw [HR.out]; rfl, HB2.out.bel⟩
   | true =>
    by_cases hj0 : N = 0
    rotate_left
    ·have HR2 := HR.out
     rw [decide_eq_false hj0] at HR2
     have HR := Hd HR2
     clear HR2
     have q1 : ((N : Int) == 0) = false := by rw [beq_eq_false_iff_ne]; omega
     go_wp2
     go_ret
     exact ⟨by rw [HR.out]; rfl, HB2.out.bel⟩
    have HR2 := HR.out
    rw [decide_eq_true hj0] at HR2
    have HR := Hd HR2
    clear HR2
    have q1 : ((N : Int) == 0) = true := by rw [hj0]; rfl
    have HJ := Hd hj0
    clear hj0
    go_wp2
    go_ret
    exact ⟨by rw [HR.out]; rfl, HB2.out.bel⟩
 ·have HR : Hid (xB (d + 1) (.node ⟨a0, a1, a2, a3, a4, a5, a6, a7, a8, a9⟩ ks) = false) := Hd (by rw [xB]; simp [g18, g19, g20, g21, g22, g23, g24, g25, g26])
  go_wp2
  go_ret
  exact ⟨by rw [HR.out]; rfl, HB0.out.bel⟩
theorem rexpr_any : ∀ d, XOK d
 | 0 => fun t h => by obtain ⟨lt, ks⟩ := t; rw [depth] at h; omega
 | d + 1 => rexpr_step (rexpr_any d)
end Go.Proofs.YthdbaligapdbeaaGreatDoor
/- The code's said: contract. -/
namespace Go.Proofs.YthdbaligapdbeaaGreatDoor
open Go Go.RowKit
set_option linter.unusedVariables false

theorem infoLb9 : (Tryz.prog.info? 71).map (·.size) = some 9 := by kernel_rfl
structure SD (w W : World) (cn cr co : List Value) : Prop where
 n : Blk W w.heap.size 27 cn
 r : Blk W (w.heap.size + 1) 71 cr
 o : Blk W (w.heap.size + 1 + 1) 71 co
 bel : Below w.heap.size w W
theorem SD.call {w W W' : World} {cn cr co : List Value} (h : SD w W cn cr co) (hb : Below W.heap.size W W') : SD w W' cn cr co :=
 ⟨h.n.below hb h.n.lt, h.r.below hb h.r.lt, h.o.below hb h.o.lt, h.bel.trans (hb.mono (Nat.le_of_lt h.n.lt))⟩
theorem SD.setO {w W : World} {cn cr co : List Value} (h : SD w W cn cr co) (i : Nat) (v : Value) : SD w (W.setCell ⟨w.heap.size + 1 + 1, i, none⟩ v) cn cr (co.set i v) :=
 ⟨h.n.set_other (by show w.heap.size ≠ w.heap.size + 1 + 1; omega) v, h.r.set_other (by show w.heap.size + 1 ≠ w.heap.size + 1 + 1; omega) v, h.o.set i v, h.bel.setCell (p := ⟨w.heap.size + 1 + 1, i, none⟩) (by show w.heap.size ≤ w.heap.size + 1 + 1; omega) v⟩
def stor9 (w : World) (g : Nat) (x0 x1 x2 x3 x4 x5 x6 x7 x8 : Value) : World := ((((((((w.setCell ⟨g, 0, none⟩ x0).setCell ⟨g, 1, none⟩ x1).setCell ⟨g, 2, none⟩ x2).setCell ⟨g, 3, none⟩ x3).setCell ⟨g, 4, none⟩ x4).setCell ⟨g, 5, none⟩ x5).setCell ⟨g, 6, none⟩ x6).setCell ⟨g, 7, none⟩ x7).setCell ⟨g, 8, none⟩ x8
theorem stor9_eq (w : World) (g : Nat) (x0 x1 x2 x3 x4 x5 x6 x7 x8 : Value) : stor9 w g x0 x1 x2 x3 x4 x5 x6 x7 x8 = putAt w g 0 [x0, x1, x2, x3, x4, x5, x6, x7, x8] := rfl
theorem Blk.stor9 {w : World} {g : Nat} {t : TypeId} {cs : List Value} (h : Blk w g t cs) (hl : cs.length = 9) (x0 x1 x2 x3 x4 x5 x6 x7 x8 : Value) : Blk (stor9 w g x0 x1 x2 x3 x4 x5 x6 x7 x8) g t [x0, x1, x2, x3, x4, x5, x6, x7, x8] := by rw [stor9_eq]; exact Blk.put h hl
theorem below_stor9 {B : Nat} {a w : World} (h : Below B a w) {g : Nat} (hg : B ≤ g) (x0 x1 x2 x3 x4 x5 x6 x7 x8 : Value) : Below B a (stor9 w g x0 x1 x2 x3 x4 x5 x6 x7 x8) := by rw [stor9_eq]; exact put_below hg _ _ _ h
def zL : List Value := [.int .i64 0, .string ⟨#[]⟩, .int .u64 0, .int .i64 0, .bool false, .int .i64 0, .int .i64 0, .int .i64 0, .int .i64 0]
def saidOK (l : Lab) : Prop := ∀ (x : Option Addr) (n k : Nat) (w : World), Vs w → Lv w →
 Calls Tryz.prog 53 #[.agg #[.int .i64 l.kind, .string (str l.name), .int .u64 l.num, .int .i64 l.wd, .bool l.sg, .int .i64 l.op, .int .i64 l.fac, .int .i64 l.pip, .int .i64 l.unr, .int .i64 l.line, .slice x n k]] w fun e w' => e = .returned (.tuple #[.agg #[.int .i64 (ownB l).kind, .string (str (ownB l).name), .int .u64 (ownB l).num, .int .i64 (ownB l).wd, .bool (ownB l).sg, .int .i64 (ownB l).op, .int .i64 (ownB l).fac, .int .i64 (ownB l).pip, .int .i64 (ownB l).unr], .bool (okB l)]) ∧ Below w.heap.size w w'
theorem amt_b (n : Int) (W : World) : Calls Tryz.prog 87 #[.int .i64 n] W fun e w' => e = .returned (.bool (amtB n)) ∧ Below W.heap.size W w' := (isAmount_any n W).mono fun e w' h => ⟨h.1, by rw [← h.2]; exact Below.refl _ _⟩
theorem div_b (op fac : Int) (W : World) : Calls Tryz.prog 86 #[.int .i64 op, .int .i64 fac] W fun e w' => e = .returned (.bool (divB op fac)) ∧ Below W.heap.size W w' := (isDivision_any op fac W).mono fun e w' h => ⟨h.1, by rw [← h.2]; exact Below.refl _ _⟩
theorem zer_eqd (wd : Int) (sg : Bool) (W : World) : (binOp .eql 24 (.agg #[.int .i64 wd, .bool sg]) (.agg #[.int .i64 0, .bool false])).run Tryz.prog W = .ok (.bool (zerB wd sg)) W := by
 by_cases h : wd = 0
 ·subst h
  cases sg
  ·have hz : zerB 0 false = true := rfl
   rw [hz]
   go_simp
  ·have hz : zerB 0 true = false := rfl
   rw [hz]
   go_simp
 ·have hz : zerB wd sg = false := by simp [zerB, h]
  rw [hz]
  go_simp
  try exact fun h2 => absurd h2 h
set_option maxHeartbeats 40000000 in
set_option maxRecDepth 100000 in
theorem sd_24 (l : Lab) (hk : l.kind = 24) (hnm : l.name.length ≤ 281474976710656) : saidOK l := by
 intro x n k w V L
 obtain ⟨a0, a1, a2, a3, a4, a5, a6, a7, a8, a9⟩ := l
 dsimp only at *
 subst hk
 have HS0 : Hid (SD w (((w.alloc (.cells #[.int .i64 24, .string (str a1), .int .u64 a2, .int .i64 a3, .bool a4, .int .i64 a5, .int .i64 a6, .int .i64 a7, .int .i64 a8, .int .i64 a9, .slice x n k] 27)).alloc (.cells #[.int .i64 0, .string ⟨#[]⟩, .int .u64 0, .int .i64 0, .bool false, .int .i64 0, .int .i64 0, .int .i64 0, .int .i64 0] 71)).alloc (.cells #[.int .i64 24, .string ⟨#[]⟩, .int .u64 0, .int .i64 0, .bool false, .int .i64 0, .int .i64 0, .int .i64 0, .int .i64 0] 71)) [.int .i64 24, .string (str a1), .int .u64 a2, .int .i64 a3, .bool a4, .int .i64 a5, .int .i64 a6, .int .i64 a7, .int .i64 a8, .int .i64 a9, .slice x n k] zL [.int .i64 24, .string ⟨#[]⟩, .int .u64 0, .int .i64 0, .bool false, .int .i64 0, .int .i64 0, .int .i64 0, .int .i64 0]) := by
  have b1 := Blk.alloc w 27 [.int .i64 24, .string (str a1), .int .u64 a2, .int .i64 a3, .bool a4, .int .i64 a5, .int .i64 a6, .int .i64 a7, .int .i64 a8, .int .i64 a9, .slice x n k]
  have z1 : (w.alloc (.cells #[.int .i64 24, .string (str a1), .int .u64 a2, .int .i64 a3, .bool a4, .int .i64 a5, .int .i64 a6, .int .i64 a7, .int .i64 a8, .int .i64 a9, .slice x n k] 27)).heap.size = w.heap.size + 1 := by simp
  have b2 := Blk.alloc (w.alloc (.cells #[.int .i64 24, .string (str a1), .int .u64 a2, .int .i64 a3, .bool a4, .int .i64 a5, .int .i64 a6, .int .i64 a7, .int .i64 a8, .int .i64 a9, .slice x n k] 27)) 71 zL
  have z2 : ((w.alloc (.cells #[.int .i64 24, .string (str a1), .int .u64 a2, .int .i64 a3, .bool a4, .int .i64 a5, .int .i64 a6, .int .i64 a7, .int .i64 a8, .int .i64 a9, .slice x n k] 27)).alloc (.cells #[.int .i64 0, .string ⟨#[]⟩, .int .u64 0, .int .i64 0, .bool false, .int .i64 0, .int .i64 0, .int .i64 0, .int .i64 0] 71)).heap.size = w.heap.size + 1 + 1 := by simp
  have b3 := Blk.alloc ((w.alloc (.cells #[.int .i64 24, .string (str a1), .int .u64 a2, .int .i64 a3, .bool a4, .int .i64 a5, .int .i64 a6, .int .i64 a7, .int .i64 a8, .int .i64 a9, .slice x n k] 27)).alloc (.cells #[.int .i64 0, .string ⟨#[]⟩, .int .u64 0, .int .i64 0, .bool false, .int .i64 0, .int .i64 0, .int .i64 0, .int .i64 0] 71)) 71 [.int .i64 24, .string ⟨#[]⟩, .int .u64 0, .int .i64 0, .bool false, .int .i64 0, .int .i64 0, .int .i64 0, .int .i64 0]
  rw [z1] at b2
  rw [z2] at b3
  exact Hd ⟨(b1.alloc_other _).alloc_other _, b2.alloc_other _, b3, (((Below.refl w.heap.size w).alloc (Nat.le_refl _) _).alloc (by simp) _).alloc (by simp; omega) _⟩
 have HOW : Hid (ownB ⟨24, a1, a2, a3, a4, a5, a6, a7, a8, a9⟩ = ⟨24, [], 0, a3, a4, 0, 0, 0, 0, 0⟩) := Hd (by simp [ownB, kA, kB, kC, kD, lab0])
 have HOK : Hid (okB ⟨24, a1, a2, a3, a4, a5, a6, a7, a8, a9⟩ = typB a3) := Hd (by simp [okB, kA, kB, kC, kD])
 have HC := Hd fun W (hb : Below w.heap.size w W) => isType_any a3 a4 W
 clear V L hnm
 go_enter Tryz.func53, Tryz.ntmps53
 go_upto_region 48 with fail
 generalize (((w.alloc (.cells #[.int .i64 24, .string (str a1), .int .u64 a2, .int .i64 a3, .bool a4, .int .i64 a5, .int .i64 a6, .int .i64 a7, .int .i64 a8, .int .i64 a9, .slice x n k] 27)).alloc (.cells #[.int .i64 0, .string ⟨#[]⟩, .int .u64 0, .int .i64 0, .bool false, .int .i64 0, .int .i64 0, .int .i64 0, .int .i64 0] 71)).alloc (.cells #[.int .i64 24, .string ⟨#[]⟩, .int .u64 0, .int .i64 0, .bool false, .int .i64 0, .int .i64 0, .int .i64 0, .int .i64 0] 71)) = W1 at *
 have cn := HS0.out.n.cell
 have co := HS0.out.o.cell
 have fo := HS0.out.o.frozen
 have HS1 : Hid (SD w ((W1.setCell ⟨w.heap.size + 1 + 1, 3, none⟩ (.int .i64 a3)).setCell ⟨w.heap.size + 1 + 1, 4, none⟩ (.bool a4)) [.int .i64 24, .string (str a1), .int .u64 a2, .int .i64 a3, .bool a4, .int .i64 a5, .int .i64 a6, .int .i64 a7, .int .i64 a8, .int .i64 a9, .slice x n k] zL [.int .i64 24, .string ⟨#[]⟩, .int .u64 0, .int .i64 a3, .bool a4, .int .i64 0, .int .i64 0, .int .i64 0, .int .i64 0]) := Hd ((HS0.out.setO 3 (.int .i64 a3)).setO 4 (.bool a4))
 go_upto_region 49 with fail
 clear cn co fo HS0
 generalize ((W1.setCell ⟨w.heap.size + 1 + 1, 3, none⟩ (.int .i64 a3)).setCell ⟨w.heap.size + 1 + 1, 4, none⟩ (.bool a4)) = W2 at *
 have hD : Below W2.heap.size W2 W2.drew := (Below.refl _ _).drew
 have HS2 := Hd (HS1.out.call hD)
 have cn := HS2.out.n.cell
 have co := HS2.out.o.cell
 have cr := HS2.out.r.cell
 have fr := HS2.out.r.frozen
 unfold zL at cr
 first
 | (go_region_with (go_at_call 85; refine (HC.out _ (by first | exact HS2.out.bel | assumption)).mono ?_; rintro e w6 ⟨rfl, hb6⟩; have HS6 := Hd (HS2.out.call hb6); have cn6 := HS6.out.n.cell; have co6 := HS6.out.o.cell; have cr6 := HS6.out.r.cell; have fr6 := HS6.out.r.frozen; unfold zL at cr6))
 | fail
 all_goals
  go_wp2
  refine bodyPost_ret ((HS6.out.r.stor9 rfl (.int .i64 24) (.string ⟨#[]⟩) (.int .u64 0) (.int .i64 a3) (.bool a4) (.int .i64 0) (.int .i64 0) (.int .i64 0) (.int .i64 0)).res Tryz.results53 Tryz.underlying71 rfl infoLb9 _ rfl) rfl ?_
  exact ⟨by rw [HOW.out, HOK.out]; rfl, below_stor9 HS6.out.bel (by omega) _ _ _ _ _ _ _ _ _⟩
end Go.Proofs.YthdbaligapdbeaaGreatDoor
