/- The law on tools: the walk. -/
import Derived.Test.YtfnhogeocbndcaaGreatDoorMgPsLs
import Derived.Test.YtfnhogeocbndcaaGreatDoorMgPsLsExpr
import Derived.Test.YtfnhogeocbndcaaGreatDoorMgPsLLevels
namespace Go.Proofs.YtfnhogeocbndcaaGreatDoor
open Go Go.RowKit
set_option linter.unusedVariables false

mutual
theorem sameT_refl : ∀ t : Tree, sameT t t = true
  | .node l ks => by rw [sameT, sameL_refl, sameTs_refl ks]; rfl
theorem sameTs_refl : ∀ ks : List Tree, sameTs ks ks = true
  | [] => by rw [sameTs]
  | t :: r => by rw [sameTs, sameT_refl t, sameTs_refl r]; rfl
end
mutual
theorem lineT_refl : ∀ t : Tree, lineT t t = true
  | .node l ks => by rw [lineT, lineTs_refl ks, decide_eq_true rfl]; rfl
theorem lineTs_refl : ∀ ks : List Tree, lineTs ks ks = true
  | [] => by rw [lineTs]
  | t :: r => by rw [lineTs, lineT_refl t, lineTs_refl r]; rfl
end
theorem bareL_keep {l : Lab} (h : keepsT l = true) : bareL l = { l with line := 0 } := by unfold bareL; rw [if_pos h, if_pos h]
theorem bareL_drop {l : Lab} (h : keepsT l = false) : bareL l = { l with line := 0, wd := 0, sg := false } := by
  unfold bareL
  rw [if_neg (by rw [h]; simp), if_neg (by rw [h]; simp)]
theorem bareL_bareL (l : Lab) : bareL (bareL l) = bareL l := by
  cases h : keepsT l with
  | true =>
    have e := bareL_keep h
    have h2 : keepsT (bareL l) = true := by rw [e]; exact h
    rw [bareL_keep h2, e]
  | false =>
    have e := bareL_drop h
    have h2 : keepsT (bareL l) = false := by
      rw [e]
      unfold keepsT at h ⊢
      simp only [Bool.or_eq_false_iff] at h ⊢
      exact ⟨h.1, h.2.1, by simp [isTr]⟩
    rw [bareL_drop h2, e]
mutual
theorem bareT_bareT : ∀ t : Tree, bareT (bareT t) = bareT t
  | .node l ks => by rw [bareT, bareT, bareL_bareL, bareTs_bareTs ks]
theorem bareTs_bareTs : ∀ ks : List Tree, bareTs (bareTs ks) = bareTs ks
  | [] => by rw [bareTs, bareTs]
  | t :: r => by rw [bareTs, bareTs, bareT_bareT t, bareTs_bareTs r]
end
mutual
theorem depth_bare : ∀ t : Tree, depth (bareT t) = depth t
  | .node l ks => by rw [bareT, depth, depth, depths_bare ks]
theorem depths_bare : ∀ ks : List Tree, depths (bareTs ks) = depths ks
  | [] => by rw [bareTs]
  | t :: r => by rw [bareTs, depths, depths, depth_bare t, depths_bare r]
end
mutual
theorem count_bare : ∀ t : Tree, count (bareT t) = count t
  | .node l ks => by rw [bareT, count, count, counts_bare ks]
theorem counts_bare : ∀ ks : List Tree, counts (bareTs ks) = counts ks
  | [] => by rw [bareTs]
  | t :: r => by rw [bareTs, counts, counts, count_bare t, counts_bare r]
end
theorem wf_bare {N : Nat} : ∀ d (t : Tree), depth t ≤ d → TreeWf N t → TreeWf N (bareT t) := by
  intro d
  induction d with
  | zero => intro t h; obtain ⟨lt, ks⟩ := t; rw [depth] at h; omega
  | succ d ih =>
    intro t h hw
    cases hw with
    | mk l ks hl hk =>
      rw [bareT]
      refine .mk _ _ ?_ fun i hi => ?_
      · have := hl
        refine ⟨hl.kind, hl.name, hl.num, ?_, hl.op, hl.fac, hl.pip, hl.unr, by show _ ≤ (0 : Int) ∧ (0 : Int) ≤ _; omega⟩
        show _ ≤ (if keepsT l then l.wd else 0) ∧ (if keepsT l then l.wd else 0) ≤ _
        have := hl.wd
        split <;> omega
      · have hi2 : i < ks.length := by rwa [bareTs_length] at hi
        rw [← kat_get hi, bareTs_kat hi2]
        refine ih _ ?_ ?_
        · have := depth_kat hi2
          rw [depth] at h
          omega
        · rw [kat_get hi2]; exact hk i hi2
mutual
theorem depth_le_count : ∀ t : Tree, depth t ≤ count t
  | .node l ks => by have := depths_le_counts ks; rw [depth, count]; omega
theorem depths_le_counts : ∀ ks : List Tree, depths ks ≤ counts ks
  | [] => by rw [depths]; omega
  | t :: r => by have := depth_le_count t; have := depths_le_counts r; rw [depths, counts]; omega
end
def sml (t : Tree) : Bool := decide (depth t ≤ 100) && decide (count t ≤ 300)
set_option maxHeartbeats 1000000 in
set_option maxRecDepth 100000 in
theorem small_any (t : Tree) (hc : count t ≤ 1000000) (hd : depth t ≤ 1000000) (l : Lab) (x : Option Addr) (n k : Nat) (w : World) (hT : TreeAt w (fun _ => True) [.int .i64 l.kind, .string (str l.name), .int .u64 l.num, .int .i64 l.wd, .bool l.sg, .int .i64 l.op, .int .i64 l.fac, .int .i64 l.pip, .int .i64 l.unr, .int .i64 l.line, .slice x n k] t) :
    Calls Tryz.prog 15 #[.agg #[.int .i64 l.kind, .string (str l.name), .int .u64 l.num, .int .i64 l.wd, .bool l.sg, .int .i64 l.op, .int .i64 l.fac, .int .i64 l.pip, .int .i64 l.unr, .int .i64 l.line, .slice x n k]] w fun e w' => e = .returned (.bool (sml t)) ∧ Below w.heap.size w w' := by
  have hW := (Below.refl w.heap.size w).alloc (Nat.le_refl _) (.cells #[.int .i64 l.kind, .string (str l.name), .int .u64 l.num, .int .i64 l.wd, .bool l.sg, .int .i64 l.op, .int .i64 l.fac, .int .i64 l.pip, .int .i64 l.unr, .int .i64 l.line, .slice x n k] 28)
  have HW := Lib.hid hW
  have HD := Lib.hid fun W h => rdepthT_any (depth t) t (Nat.le_refl _) hd l x n k W h
  have HC := Lib.hid fun W h => rcountT_any (depth t) t (Nat.le_refl _) hc l x n k W h
  have HT := Lib.hid fun W (hb : Below w.heap.size w W) => hT.keep (w' := W) (Q := fun _ => True) (fun g _ hl => hb.block g hl) fun _ _ _ => trivial
  have HX := Lib.hid (Blk.alloc w 28 [.int .i64 l.kind, .string (str l.name), .int .u64 l.num, .int .i64 l.wd, .bool l.sg, .int .i64 l.op, .int .i64 l.fac, .int .i64 l.pip, .int .i64 l.unr, .int .i64 l.line, .slice x n k])
  have HS : Hid (sml t = (decide (depth t ≤ 100) && decide (count t ≤ 300))) := Lib.hid rfl
  clear hT hW hc hd
  generalize depth t = d at *
  generalize count t = c at *
  generalize sml t = st at *
  go_enter Tryz.func15, Tryz.ntmps15
  go_wp2_with fail
  refine (HD.out _ (HT.out _ HW.out)).mono ?_
  rintro e w1 ⟨rfl, hb1⟩
  have HB1 := Lib.hid (HW.out.trans (hb1.mono (by simp)))
  have c0 := (HX.out.below hb1 (by simp)).cell
  clear hb1
  by_cases h1 : d ≤ 100
  · go_wp2_with fail
    refine (HC.out _ (HT.out _ HB1.out)).mono ?_
    rintro e w2 ⟨rfl, hb2⟩
    have HB2 := Lib.hid (HB1.out.trans (hb2.mono HB1.out.size))
    clear hb2 c0
    by_cases h2 : c ≤ 300
    · have HR := Lib.hid (HS.out.trans (by rw [decide_eq_true h1, decide_eq_true h2]; rfl : _ = true))
      go_wp2
      go_ret
      exact ⟨by rw [HR.out]; first | rfl | (simp; omega), HB2.out⟩
    · have HR := Lib.hid (HS.out.trans (by rw [decide_eq_true h1, decide_eq_false h2]; rfl : _ = false))
      go_wp2
      go_ret
      exact ⟨by rw [HR.out]; first | rfl | (simp; omega), HB2.out⟩
  · have HR := Lib.hid (HS.out.trans (by rw [decide_eq_false h1]; rfl : _ = false))
    go_wp2
    go_ret
    exact ⟨by rw [HR.out]; first | rfl | (simp; omega), HB1.out⟩
end Go.Proofs.YtfnhogeocbndcaaGreatDoor
/- The law on tools: the walk. -/
namespace Go.Proofs.YtfnhogeocbndcaaGreatDoor
open Go Go.RowKit
set_option linter.unusedVariables false

theorem keepB3 {q0 q1 q2 : Prop} {W2 w' : World} (h : q0 ∧ q1 ∧ q2 ∧ Hid (Below W2.heap.size W2 w')) : Below W2.heap.size W2 w' := h.2.2.2.out
theorem keepC3 {q0 q1 q2 : Prop} {W2 w' w'' : World} (h : q0 ∧ q1 ∧ q2 ∧ Hid (Below W2.heap.size W2 w')) (hb : Below w'.heap.size w' w'') : Below W2.heap.size W2 w'' := (keepB3 h).trans (hb.mono (keepB3 h).size)
set_option maxHeartbeats 4000000 in
set_option maxRecDepth 100000 in
theorem parserTools_walk (l1 : Lab) (x1 : Option Addr) (n1 k1 : Nat) (t : Tree) (hwt : TreeWf 281474976710656 t) (hct : count t ≤ 1000000) (l2 : Lab) (x2 : Option Addr) (n2 k2 : Nat) (u : Tree) (hcu : count u ≤ 1000000) (w : World) (V : Vs w) (LV : Lv w) (E : Ex w)
    (hT : TreeAt w (fun _ => True) [.int .i64 l1.kind, .string (str l1.name), .int .u64 l1.num, .int .i64 l1.wd, .bool l1.sg, .int .i64 l1.op, .int .i64 l1.fac, .int .i64 l1.pip, .int .i64 l1.unr, .int .i64 l1.line, .slice x1 n1 k1] t) (hU : TreeAt w (fun _ => True) [.int .i64 l2.kind, .string (str l2.name), .int .u64 l2.num, .int .i64 l2.wd, .bool l2.sg, .int .i64 l2.op, .int .i64 l2.fac, .int .i64 l2.pip, .int .i64 l2.unr, .int .i64 l2.line, .slice x2 n2 k2] u) :
    Calls Tryz.prog 7 #[.agg #[.int .i64 l1.kind, .string (str l1.name), .int .u64 l1.num, .int .i64 l1.wd, .bool l1.sg, .int .i64 l1.op, .int .i64 l1.fac, .int .i64 l1.pip, .int .i64 l1.unr, .int .i64 l1.line, .slice x1 n1 k1], .agg #[.int .i64 l2.kind, .string (str l2.name), .int .u64 l2.num, .int .i64 l2.wd, .bool l2.sg, .int .i64 l2.op, .int .i64 l2.fac, .int .i64 l2.pip, .int .i64 l2.unr, .int .i64 l2.line, .slice x2 n2 k2]] w fun e w' => e = .returned (.bool true) ∧ Below w.heap.size w w' := by
  have hdt : depth t ≤ 1000000 := Nat.le_trans (depth_le_count t) hct
  have hdu : depth u ≤ 1000000 := Nat.le_trans (depth_le_count u) hcu
  have hW : Below w.heap.size w ((w.alloc (.cells #[.int .i64 l1.kind, .string (str l1.name), .int .u64 l1.num, .int .i64 l1.wd, .bool l1.sg, .int .i64 l1.op, .int .i64 l1.fac, .int .i64 l1.pip, .int .i64 l1.unr, .int .i64 l1.line, .slice x1 n1 k1] 28)).alloc (.cells #[.int .i64 l2.kind, .string (str l2.name), .int .u64 l2.num, .int .i64 l2.wd, .bool l2.sg, .int .i64 l2.op, .int .i64 l2.fac, .int .i64 l2.pip, .int .i64 l2.unr, .int .i64 l2.line, .slice x2 n2 k2] 28)) := ((Below.refl w.heap.size w).alloc (Nat.le_refl _) _).alloc (by simp) _
  have HW := Lib.hid hW
  have HA := Lib.hid fun W (hb : Below w.heap.size w W) => awake_any W (V.below hb) (LV.below hb)
  have HTA := Lib.hid fun W (hb : Below w.heap.size w W) => hT.keep (w' := W) (Q := fun _ => True) (fun g _ hl => hb.block g hl) fun _ _ _ => trivial
  have HTB := Lib.hid fun W (hb : Below w.heap.size w W) => hU.keep (w' := W) (Q := fun _ => True) (fun g _ hl => hb.block g hl) fun _ _ _ => trivial
  have HEX := Lib.hid fun W (hb : Below w.heap.size w W) => E.below hb
  have HX1 := Lib.hid ((Blk.alloc w 28 [.int .i64 l1.kind, .string (str l1.name), .int .u64 l1.num, .int .i64 l1.wd, .bool l1.sg, .int .i64 l1.op, .int .i64 l1.fac, .int .i64 l1.pip, .int .i64 l1.unr, .int .i64 l1.line, .slice x1 n1 k1]).alloc_other (.cells #[.int .i64 l2.kind, .string (str l2.name), .int .u64 l2.num, .int .i64 l2.wd, .bool l2.sg, .int .i64 l2.op, .int .i64 l2.fac, .int .i64 l2.pip, .int .i64 l2.unr, .int .i64 l2.line, .slice x2 n2 k2] 28))
  have HX2 := Lib.hid (blk_two (w := w) (.cells #[.int .i64 l1.kind, .string (str l1.name), .int .u64 l1.num, .int .i64 l1.wd, .bool l1.sg, .int .i64 l1.op, .int .i64 l1.fac, .int .i64 l1.pip, .int .i64 l1.unr, .int .i64 l1.line, .slice x1 n1 k1] 28) 28 [.int .i64 l2.kind, .string (str l2.name), .int .u64 l2.num, .int .i64 l2.wd, .bool l2.sg, .int .i64 l2.op, .int .i64 l2.fac, .int .i64 l2.pip, .int .i64 l2.unr, .int .i64 l2.line, .slice x2 n2 k2])
  have HSA := Lib.hid fun W (hb : Below w.heap.size w W) => small_any t hct hdt l1 x1 n1 k1 W (HTA.out W hb)
  have HSB := Lib.hid fun W (hb : Below w.heap.size w W) => small_any u hcu hdu l2 x2 n2 k2 W (HTB.out W hb)
  have HB := Lib.hid fun W (hb : Below w.heap.size w W) => bareTree_any (depth t) t (Nat.le_refl _) hct hwt l1 x1 n1 k1 W (HEX.out W hb) (HTA.out W hb)
  -- the calls of the last statement
  have HRB := Lib.hid fun W (hb : Below w.heap.size w W) => rbareTree_any (depth t) t (Nat.le_refl _) hct l1 x1 n1 k1 W (HTA.out W hb)
  have HPB := Lib.hid fun (l3 : Lab) (x3 : Option Addr) (n3 k3 : Nat) W (hb : Below w.heap.size w W) (h : TreeAt W (fun _ => True) [.int .i64 l3.kind, .string (str l3.name), .int .u64 l3.num, .int .i64 l3.wd, .bool l3.sg, .int .i64 l3.op, .int .i64 l3.fac, .int .i64 l3.pip, .int .i64 l3.unr, .int .i64 l3.line, .slice x3 n3 k3] (bareT t)) => bareTree_any (depth t) (bareT t) (by rw [depth_bare]; exact Nat.le_refl _) (by rw [count_bare]; exact hct) (wf_bare (depth t) t (Nat.le_refl _) hwt) l3 x3 n3 k3 W (HEX.out W hb) h
  rw [bareT_bareT] at HPB
  have HRSX := Lib.hid fun (l3 : Lab) (x3 : Option Addr) (n3 k3 : Nat) (l4 : Lab) (x4 : Option Addr) (n4 k4 : Nat) W (h : TreeAt W (fun _ => True) [.int .i64 l3.kind, .string (str l3.name), .int .u64 l3.num, .int .i64 l3.wd, .bool l3.sg, .int .i64 l3.op, .int .i64 l3.fac, .int .i64 l3.pip, .int .i64 l3.unr, .int .i64 l3.line, .slice x3 n3 k3] (bareT t)) (h' : TreeAt W (fun _ => True) [.int .i64 l4.kind, .string (str l4.name), .int .u64 l4.num, .int .i64 l4.wd, .bool l4.sg, .int .i64 l4.op, .int .i64 l4.fac, .int .i64 l4.pip, .int .i64 l4.unr, .int .i64 l4.line, .slice x4 n4 k4] (bareT t)) => rSame_any (depth (bareT t)) (bareT t) (bareT t) (Nat.le_refl _) l3 x3 n3 k3 l4 x4 n4 k4 W h h'
  have HLNX := Lib.hid fun (l3 : Lab) (x3 : Option Addr) (n3 k3 : Nat) (l4 : Lab) (x4 : Option Addr) (n4 k4 : Nat) W (h : TreeAt W (fun _ => True) [.int .i64 l3.kind, .string (str l3.name), .int .u64 l3.num, .int .i64 l3.wd, .bool l3.sg, .int .i64 l3.op, .int .i64 l3.fac, .int .i64 l3.pip, .int .i64 l3.unr, .int .i64 l3.line, .slice x3 n3 k3] (bareT t)) (h' : TreeAt W (fun _ => True) [.int .i64 l4.kind, .string (str l4.name), .int .u64 l4.num, .int .i64 l4.wd, .bool l4.sg, .int .i64 l4.op, .int .i64 l4.fac, .int .i64 l4.pip, .int .i64 l4.unr, .int .i64 l4.line, .slice x4 n4 k4] (bareT t)) => lines_any (depth (bareT t)) (bareT t) (bareT t) (Nat.le_refl _) l3 x3 n3 k3 l4 x4 n4 k4 W h h'
  have HSMX := Lib.hid fun (l3 : Lab) (x3 : Option Addr) (n3 k3 : Nat) (l4 : Lab) (x4 : Option Addr) (n4 k4 : Nat) W (h : TreeAt W (fun _ => True) [.int .i64 l3.kind, .string (str l3.name), .int .u64 l3.num, .int .i64 l3.wd, .bool l3.sg, .int .i64 l3.op, .int .i64 l3.fac, .int .i64 l3.pip, .int .i64 l3.unr, .int .i64 l3.line, .slice x3 n3 k3] (bareT t)) (h' : TreeAt W (fun _ => True) [.int .i64 l4.kind, .string (str l4.name), .int .u64 l4.num, .int .i64 l4.wd, .bool l4.sg, .int .i64 l4.op, .int .i64 l4.fac, .int .i64 l4.pip, .int .i64 l4.unr, .int .i64 l4.line, .slice x4 n4 k4] (bareT t)) => same_any2 (depth (bareT t)) (bareT t) (bareT t) (Nat.le_refl _) l3 x3 n3 k3 l4 x4 n4 k4 W h h'
  rw [sameT_refl] at HRSX HSMX
  rw [lineT_refl] at HLNX
  have HRSAB := Lib.hid fun W (hb : Below w.heap.size w W) => rSame_any (depth t) t u (Nat.le_refl _) l1 x1 n1 k1 l2 x2 n2 k2 W (HTA.out W hb) (HTB.out W hb)
  have HSMAB := Lib.hid fun W (hb : Below w.heap.size w W) => same_any2 (depth t) t u (Nat.le_refl _) l1 x1 n1 k1 l2 x2 n2 k2 W (HTA.out W hb) (HTB.out W hb)
  have HSMAA := Lib.hid fun W (hb : Below w.heap.size w W) => same_any2 (depth t) t t (Nat.le_refl _) l1 x1 n1 k1 l1 x1 n1 k1 W (HTA.out W hb) (HTA.out W hb)
  rw [sameT_refl] at HSMAA
  have HCT := Lib.hid fun W (hb : Below w.heap.size w W) => countT_any (depth t) t (Nat.le_refl _) hct l1 x1 n1 k1 W (HTA.out W hb)
  have HRC := Lib.hid fun W (hb : Below w.heap.size w W) => rcountT_any (depth t) t (Nat.le_refl _) hct l1 x1 n1 k1 W (HTA.out W hb)
  have HDT := Lib.hid fun W (hb : Below w.heap.size w W) => depthT_any (depth t) t (Nat.le_refl _) hdt l1 x1 n1 k1 W (HTA.out W hb)
  have HRD := Lib.hid fun W (hb : Below w.heap.size w W) => rdepthT_any (depth t) t (Nat.le_refl _) hdt l1 x1 n1 k1 W (HTA.out W hb)
  clear hT hU V LV E hW hct hcu hwt
  generalize bareT t = bt at *
  generalize sameT t u = st at *
  generalize count t = ct at *
  generalize depth t = dt at *
  generalize sml t = s1 at *
  generalize sml u = s2 at *
  go_enter Tryz.func7, Tryz.ntmps7
  go_wp2_with fail
  refine (HA.out _ HW.out).mono ?_
  rintro e w1 ⟨rfl, hb1⟩
  have HB1 := Lib.hid (HW.out.trans (hb1.mono (by simp; omega)))
  have HY1 := Lib.hid (HX1.out.below hb1 (by simp; omega))
  have HY2 := Lib.hid (HX2.out.below hb1 (by simp))
  have c0 := HY1.out.cell
  have d0 := HY2.out.cell
  clear hb1 HX1 HX2 HW
  go_wp2_with fail
  refine (HSA.out _ HB1.out).mono ?_
  rintro e w2 ⟨rfl, hb2⟩
  have HB2 := Lib.hid (HB1.out.trans (hb2.mono HB1.out.size))
  have HZ1 := Lib.hid (HY1.out.below hb2 HY1.out.lt)
  have HZ2 := Lib.hid (HY2.out.below hb2 HY2.out.lt)
  clear c0 d0 hb2 HY1 HY2 HB1
  have c0 := HZ1.out.cell
  have d0 := HZ2.out.cell
  cases s1 with
  | false =>
    go_wp2_with fail
    refine (HA.out _ HB2.out).mono ?_
    rintro e w3 ⟨rfl, hb3⟩
    have HB3 := Lib.hid (HB2.out.trans (hb3.mono HB2.out.size))
    clear c0 d0 hb3
    go_wp2
    go_ret
    exact ⟨rfl, HB3.out⟩
  | true =>
    go_wp2_with fail
    refine (HSB.out _ HB2.out).mono ?_
    rintro e w3 ⟨rfl, hb3⟩
    have HB3 := Lib.hid (HB2.out.trans (hb3.mono HB2.out.size))
    have HU1 := Lib.hid (HZ1.out.below hb3 HZ1.out.lt)
    have HU2 := Lib.hid (HZ2.out.below hb3 HZ2.out.lt)
    clear c0 d0 hb3 HZ1 HZ2 HB2
    have c0 := HU1.out.cell
    have d0 := HU2.out.cell
    cases s2 with
    | false =>
      go_wp2_with fail
      refine (HA.out _ HB3.out).mono ?_
      rintro e w4 ⟨rfl, hb4⟩
      have HB4 := Lib.hid (HB3.out.trans (hb4.mono HB3.out.size))
      clear c0 d0 hb4
      go_wp2
      go_ret
      exact ⟨rfl, HB4.out⟩
    | true =>
      go_wp2_with fail
      refine (HB.out _ HB3.out).mono ?_
      rintro e w4 ⟨l3, x3, n3, k3, rfl, hX, hb4⟩
      have HB4 := Lib.hid (HB3.out.trans (hb4.mono HB3.out.size))
      have hb5 : Below w4.heap.size w4 (w4.alloc (.cells #[.int .i64 l3.kind, .string (str l3.name), .int .u64 l3.num, .int .i64 l3.wd, .bool l3.sg, .int .i64 l3.op, .int .i64 l3.fac, .int .i64 l3.pip, .int .i64 l3.unr, .int .i64 l3.line, .slice x3 n3 k3] 28)) := (Below.refl _ _).alloc (Nat.le_refl _) _
      have HB5 := Lib.hid (HB4.out.trans (hb5.mono HB4.out.size))
      have HX5 := Lib.hid (hX.keep (w' := w4.alloc (.cells #[.int .i64 l3.kind, .string (str l3.name), .int .u64 l3.num, .int .i64 l3.wd, .bool l3.sg, .int .i64 l3.op, .int .i64 l3.fac, .int .i64 l3.pip, .int .i64 l3.unr, .int .i64 l3.line, .slice x3 n3 k3] 28)) (Q := fun _ => True) (fun g _ hl => hb5.block g hl) fun _ _ _ => trivial)
      have HV1 := Lib.hid ((HU1.out.below hb4 HU1.out.lt).alloc_other (.cells #[.int .i64 l3.kind, .string (str l3.name), .int .u64 l3.num, .int .i64 l3.wd, .bool l3.sg, .int .i64 l3.op, .int .i64 l3.fac, .int .i64 l3.pip, .int .i64 l3.unr, .int .i64 l3.line, .slice x3 n3 k3] 28))
      have HV2 := Lib.hid ((HU2.out.below hb4 HU2.out.lt).alloc_other (.cells #[.int .i64 l3.kind, .string (str l3.name), .int .u64 l3.num, .int .i64 l3.wd, .bool l3.sg, .int .i64 l3.op, .int .i64 l3.fac, .int .i64 l3.pip, .int .i64 l3.unr, .int .i64 l3.line, .slice x3 n3 k3] 28))
      have HV3 := Lib.hid (Blk.alloc w4 28 [.int .i64 l3.kind, .string (str l3.name), .int .u64 l3.num, .int .i64 l3.wd, .bool l3.sg, .int .i64 l3.op, .int .i64 l3.fac, .int .i64 l3.pip, .int .i64 l3.unr, .int .i64 l3.line, .slice x3 n3 k3])
      clear c0 d0 hb4 hb5 hX HU1 HU2 HB3 HB4 HA HSA HSB HB
      go_upto_region 4 with fail
      generalize (w4.alloc (.cells #[.int .i64 l3.kind, .string (str l3.name), .int .u64 l3.num, .int .i64 l3.wd, .bool l3.sg, .int .i64 l3.op, .int .i64 l3.fac, .int .i64 l3.pip, .int .i64 l3.unr, .int .i64 l3.line, .slice x3 n3 k3] 28)) = W3 at *
      generalize w4.heap.size = P3 at *
      have HBW : Hid (∀ w', Below W3.heap.size W3 w' → Below w.heap.size w w') := Lib.hid fun w' hb => HB5.out.trans (hb.mono HB5.out.size)
      have HBF := Lib.hid HB5.out
      clear HB5
      generalize hP1 : w.heap.size = P1 at *
      have HP1 := Lib.hid hP1
      clear hP1
      have HSO : Hid (∀ w', Below W3.heap.size W3 w' → (∀ i : Nat, w'.cell? ⟨P1, i, none⟩ = ([.int .i64 l1.kind, .string (str l1.name), .int .u64 l1.num, .int .i64 l1.wd, .bool l1.sg, .int .i64 l1.op, .int .i64 l1.fac, .int .i64 l1.pip, .int .i64 l1.unr, .int .i64 l1.line, .slice x1 n1 k1] : List Value)[i]?) ∧ (∀ i : Nat, w'.cell? ⟨P1 + 1, i, none⟩ = ([.int .i64 l2.kind, .string (str l2.name), .int .u64 l2.num, .int .i64 l2.wd, .bool l2.sg, .int .i64 l2.op, .int .i64 l2.fac, .int .i64 l2.pip, .int .i64 l2.unr, .int .i64 l2.line, .slice x2 n2 k2] : List Value)[i]?) ∧ (∀ i : Nat, w'.cell? ⟨P3, i, none⟩ = ([.int .i64 l3.kind, .string (str l3.name), .int .u64 l3.num, .int .i64 l3.wd, .bool l3.sg, .int .i64 l3.op, .int .i64 l3.fac, .int .i64 l3.pip, .int .i64 l3.unr, .int .i64 l3.line, .slice x3 n3 k3] : List Value)[i]?) ∧ Hid (Below W3.heap.size W3 w')) := Lib.hid fun w' hb => ⟨fun i => (hb.cell (p := ⟨P1, i, none⟩) HV1.out.lt).trans (HV1.out.cell i), fun i => (hb.cell (p := ⟨P1 + 1, i, none⟩) HV2.out.lt).trans (HV2.out.cell i), fun i => (hb.cell (p := ⟨P3, i, none⟩) HV3.out.lt).trans (HV3.out.cell i), Lib.hid hb⟩
      have HTX : Hid (∀ w', Below W3.heap.size W3 w' → TreeAt w' (fun _ => True) [.int .i64 l3.kind, .string (str l3.name), .int .u64 l3.num, .int .i64 l3.wd, .bool l3.sg, .int .i64 l3.op, .int .i64 l3.fac, .int .i64 l3.pip, .int .i64 l3.unr, .int .i64 l3.line, .slice x3 n3 k3] bt) := Lib.hid fun w' hb => HX5.out.keep (fun g _ hl => hb.block g hl) fun _ _ _ => trivial
      clear HV1 HV2 HV3 HX5 HTA HTB HEX
      go_region_held3 (fun w' => (∀ i : Nat, w'.cell? ⟨P1, i, none⟩ = ([.int .i64 l1.kind, .string (str l1.name), .int .u64 l1.num, .int .i64 l1.wd, .bool l1.sg, .int .i64 l1.op, .int .i64 l1.fac, .int .i64 l1.pip, .int .i64 l1.unr, .int .i64 l1.line, .slice x1 n1 k1] : List Value)[i]?) ∧ (∀ i : Nat, w'.cell? ⟨P1 + 1, i, none⟩ = ([.int .i64 l2.kind, .string (str l2.name), .int .u64 l2.num, .int .i64 l2.wd, .bool l2.sg, .int .i64 l2.op, .int .i64 l2.fac, .int .i64 l2.pip, .int .i64 l2.unr, .int .i64 l2.line, .slice x2 n2 k2] : List Value)[i]?) ∧ (∀ i : Nat, w'.cell? ⟨P3, i, none⟩ = ([.int .i64 l3.kind, .string (str l3.name), .int .u64 l3.num, .int .i64 l3.wd, .bool l3.sg, .int .i64 l3.op, .int .i64 l3.fac, .int .i64 l3.pip, .int .i64 l3.unr, .int .i64 l3.line, .slice x3 n3 k3] : List Value)[i]?) ∧ Hid (Below W3.heap.size W3 w'))
        (first
          | exact HSO.out _ (Below.refl _ _).drew
          | assumption
          | exact HSO.out _ (keepC3 (by assumption) hb6))
        (first
          | (go_at_call 19; refine (HRB.out _ (HBW.out _ (keepB3 (by assumption)))).mono ?_; rintro e w6 ⟨l4, x4, n4, k4, rfl, hT4', hb6⟩; have hT4 := hT4'.mono (Q := fun _ => True) (fun _ _ _ => trivial); clear hT4')
          | (go_at_call 22; refine (HPB.out l3 x3 n3 k3 _ (HBW.out _ (keepB3 (by assumption))) (HTX.out _ (keepB3 (by assumption)))).mono ?_; rintro e w6 ⟨l4, x4, n4, k4, rfl, hT4', hb6⟩; have hT4 := hT4'.mono (Q := fun _ => True) (fun _ _ _ => trivial); clear hT4')
          | (go_at_call 13; (first | (with_reducible refine (HRSAB.out _ (HBW.out _ (keepB3 (by assumption)))).mono ?_) | (with_reducible refine (HRSX.out l3 x3 n3 k3 l4 x4 n4 k4 _ (HTX.out _ (keepB3 (by assumption))) hT4).mono ?_)); rintro e w6 ⟨rfl, hb6⟩)
          | (go_at_call 14; refine (HLNX.out l3 x3 n3 k3 l4 x4 n4 k4 _ (HTX.out _ (keepB3 (by assumption))) hT4).mono ?_; rintro e w6 ⟨rfl, hb6⟩)
          | (go_at_call 23; (first | (with_reducible refine (HSMAB.out _ (HBW.out _ (keepB3 (by assumption)))).mono ?_) | (with_reducible refine (HSMAA.out _ (HBW.out _ (keepB3 (by assumption)))).mono ?_) | (with_reducible refine (HSMX.out l3 x3 n3 k3 l4 x4 n4 k4 _ (HTX.out _ (keepB3 (by assumption))) hT4).mono ?_)); rintro e w6 ⟨rfl, hb6⟩)
          | (go_at_call 24; refine (HCT.out _ (HBW.out _ (keepB3 (by assumption)))).mono ?_; rintro e w6 ⟨rfl, hb6⟩)
          | (go_at_call 25; refine (HRC.out _ (HBW.out _ (keepB3 (by assumption)))).mono ?_; rintro e w6 ⟨rfl, hb6⟩)
          | (go_at_call 26; refine (HDT.out _ (HBW.out _ (keepB3 (by assumption)))).mono ?_; rintro e w6 ⟨rfl, hb6⟩)
          | (go_at_call 27; refine (HRD.out _ (HBW.out _ (keepB3 (by assumption)))).mono ?_; rintro e w6 ⟨rfl, hb6⟩))
      have hb := keepB3 (W2 := W3) (w' := w6) (by assumption)
      have HBE := Lib.hid (HBW.out _ hb)
      clear hb
      go_wp2
      go_ret
      exact ⟨rfl, by rw [HP1.out]; exact HBE.out⟩
end Go.Proofs.YtfnhogeocbndcaaGreatDoor
