/- The law on tools: the walk. -/
import Derived.Test.YthdbaligapdbeaaGreatDoorMgPsUn
import Derived.Test.YthdbaligapdbeaaGreatDoorMgPsRCnt
import Derived.Test.YthdbaligapdbeaaGreatDoorMgPsLLevels
namespace Go.Proofs.YthdbaligapdbeaaGreatDoor
open Go Go.RowKit
set_option linter.unusedVariables false

mutual
theorem depth_bare : ∀ t : Tree, depth (bareT t) = depth t
 | .node l ks => by rw [bareT, depth, depth, depths_bare ks]
theorem depths_bare : ∀ ks : List Tree, depths (bareTs ks) = depths ks
 | [] => by rw [bareTs]
 | t :: r => by rw [bareTs, depths, depths, depth_bare t, depths_bare r]
end
theorem wf_bare {N : Nat} : ∀ d (t : Tree), depth t ≤ d → TreeWf N t → TreeWf N (bareT t) := by
 intro d
 induction d with
 | zero => intro t h; obtain ⟨lt, ks⟩ := t; rw [depth] at h; omega
 | succ d ih =>
  intro t h hw
  cases hw with
  | mk l ks hl hk =>
   rw [bareT]
   refine .mk _ _ ?_ fun i hi => ?_
   ·have := hl
    refine ⟨hl.kind, hl.name, hl.num, ?_, hl.op, hl.fac, hl.pip, hl.unr, by show _ ≤ (0 : Int) ∧ (0 : Int) ≤ _; omega⟩
    show _ ≤ (if keepsT l then l.wd else 0) ∧ (if keepsT l then l.wd else 0) ≤ _
    have := hl.wd
    split <;> omega
   ·have hi2 : i < ks.length := by rwa [bareTs_length] at hi
    rw [← kat_get hi, bareTs_kat hi2]
    refine ih _ ?_ ?_
    ·have := depth_kat hi2
     rw [depth] at h
     omega
    ·rw [kat_get hi2]; exact hk i hi2
mutual
theorem depth_le_count : ∀ t : Tree, depth t ≤ count t
 | .node l ks => by have := depths_le_counts ks; rw [depth, count]; omega
theorem depths_le_counts : ∀ ks : List Tree, depths ks ≤ counts ks
 | [] => by rw [depths]; omega
 | t :: r => by have := depth_le_count t; have := depths_le_counts r; rw [depths, counts]; omega
end
def sml (t : Tree) : Bool := decide (depth t ≤ 100) && decide (count t ≤ 300)
set_option maxHeartbeats 1000000 in
set_option maxRecDepth 100000 in
theorem small_any (t : Tree) (hc : count t ≤ 1000000) (hd : depth t ≤ 1000000) (l : Lab) (x : Option Addr) (n k : Nat) (w : World) (hT : TreeAt w (fun _ => True) [.int .i64 l.kind, .string (str l.name), .int .u64 l.num, .int .i64 l.wd, .bool l.sg, .int .i64 l.op, .int .i64 l.fac, .int .i64 l.pip, .int .i64 l.unr, .int .i64 l.line, .slice x n k] t) :
  Calls Tryz.prog 11 #[.agg #[.int .i64 l.kind, .string (str l.name), .int .u64 l.num, .int .i64 l.wd, .bool l.sg, .int .i64 l.op, .int .i64 l.fac, .int .i64 l.pip, .int .i64 l.unr, .int .i64 l.line, .slice x n k]] w fun e w' => e = .returned (.bool (sml t)) ∧ Below w.heap.size w w' := by
 have hW := (Below.refl w.heap.size w).alloc (Nat.le_refl _) (.cells #[.int .i64 l.kind, .string (str l.name), .int .u64 l.num, .int .i64 l.wd, .bool l.sg, .int .i64 l.op, .int .i64 l.fac, .int .i64 l.pip, .int .i64 l.unr, .int .i64 l.line, .slice x n k] 27)
 have HW := Hd hW
 have HD := Hd fun W h => rdepthT_any (depth t) t (Nat.le_refl _) hd l x n k W h
 have HC := Hd fun W h => rcountT_any (depth t) t (Nat.le_refl _) hc l x n k W h
 have HT := Hd fun W (hb : Below w.heap.size w W) => hT.keep (w' := W) (Q := fun _ => True) (fun g _ hl => hb.block g hl) fun _ _ _ => trivial
 have HX := Hd (Blk.alloc w 27 [.int .i64 l.kind, .string (str l.name), .int .u64 l.num, .int .i64 l.wd, .bool l.sg, .int .i64 l.op, .int .i64 l.fac, .int .i64 l.pip, .int .i64 l.unr, .int .i64 l.line, .slice x n k])
 have HS : Hid (sml t = (decide (depth t ≤ 100) && decide (count t ≤ 300))) := Hd rfl
 clear hT hW hc hd
 generalize depth t = d at *
 generalize count t = c at *
 generalize sml t = st at *
 go_enter Tryz.func11, Tryz.ntmps11
 go_wp2_with fail
 refine (HD.out _ (HT.out _ HW.out)).mono ?_
 rintro e w1 ⟨rfl, hb1⟩
 have HB1 := Hd (HW.out.trans (hb1.mono (by simp)))
 have c0 := (HX.out.below hb1 (by simp)).cell
 clear hb1
 by_cases h1 : d ≤ 100
 ·go_wp2_with fail
  refine (HC.out _ (HT.out _ HB1.out)).mono ?_
  rintro e w2 ⟨rfl, hb2⟩
  have HB2 := Hd (HB1.out.trans (hb2.mono HB1.out.size))
  clear hb2 c0
  by_cases h2 : c ≤ 300
  ·have HR := Hd (HS.out.trans (by rw [decide_eq_true h1, decide_eq_true h2]; rfl : _ = true))
   go_wp2
   go_ret
   exact ⟨by rw [HR.out]; first | rfl | (simp; omega), HB2.out⟩
  ·have HR := Hd (HS.out.trans (by rw [decide_eq_true h1, decide_eq_false h2]; rfl : _ = false))
   go_wp2
   go_ret
   exact ⟨by rw [HR.out]; first | rfl | (simp; omega), HB2.out⟩
 ·have HR := Hd (HS.out.trans (by rw [decide_eq_false h1]; rfl : _ = false))
  go_wp2
  go_ret
  exact ⟨by rw [HR.out]; first | rfl | (simp; omega), HB1.out⟩
end Go.Proofs.YthdbaligapdbeaaGreatDoor
