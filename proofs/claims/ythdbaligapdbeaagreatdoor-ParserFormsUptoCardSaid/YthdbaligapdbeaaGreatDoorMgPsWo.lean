/- within: the walk of all levels. -/
import Derived.Test.YthdbaligapdbeaaGreatDoorMgPsWi
import Derived.Laws.EntriesVeiled
namespace Go.Proofs.YthdbaligapdbeaaGreatDoor
open Go Go.RowKit
set_option linter.unusedVariables false

set_option maxHeartbeats 1000000 in
set_option maxRecDepth 100000 in
theorem contains_kids {Lf Lw lv : Nat} (H : WalkOK Lf Lw lv) (hlv : lv < 200) (left : Nat) (hleft : left ≤ 20000) (ks : List Tree) (x : Option Addr) (k : Nat) (hk : ks.length ≤ maxLen) (L5 : Nat) (w : World)
  (hT : ∀ i (hi : i < ks.length), ∃ a, x = some a ∧ a.block < Lf ∧ KidAt w (· < Lf) a i (kat ks i)) (hS : WS w Lf Lw left) (h5 : w.cell? ⟨L5, 0, none⟩ = some (.int .i64 ((lv : Int) + 1))) (hl5 : Lf < L5 ∧ L5 < w.heap.size) :
  Calls Tryz.prog 50 #[.slice x ks.length k, .func (Fn.func 51) #[] #[.pointer (some ⟨Lw, 0, none⟩), .pointer (some ⟨L5, 0, none⟩)]] w fun e w' => e = .returned (.bool !(wIns left lv ks).1) ∧ WS w' Lf Lw (wIns left lv ks).2 ∧ St w w' Lf := by
 have HI := Hd (index_any H hlv left hleft ks x k hk L5 w hT hS h5 hl5)
 clear hT hS h5 H
 generalize wIns left lv ks = W2 at *
 generalize ks.length = N at *
 obtain ⟨b, l3⟩ := W2
 go_enter Tryz.func50, Tryz.ntmps50
 go_wp2_with fail
 refine HI.out.mono ?_
 rintro e w1 ⟨⟨r, rfl, hr⟩, hs, hst⟩
 have H1 := Hd (And.intro hs hst)
 have HR := Hd hr
 clear hs hst hr HI
 go_wp2
 go_ret
 refine ⟨?_, H1.out.1, H1.out.2⟩
 show Ending.returned (.bool (decide (0 ≤ r))) = _
 rw [HR.out]

set_option maxHeartbeats 1000000 in
set_option maxRecDepth 100000 in
theorem walk_all (Lf Lw : Nat) (hfw : Lf < Lw) : ∀ lv, lv ≤ 200 → WalkOK Lf Lw lv := by
 intro lv
 induction lv with
 | zero =>
  intro _ left t l x n k w hleft hT hS
  obtain ⟨lt, ks⟩ := t
  rw [wIn_node, if_pos (.inr rfl)]
  have hcf := hS.cf
  have hlf := hS.lf
  have HS := Hd ((hS.alloc (.cells #[.int .i64 l.kind, .string (str l.name), .int .u64 l.num, .int .i64 l.wd, .bool l.sg, .int .i64 l.op, .int .i64 l.fac, .int .i64 l.pip, .int .i64 l.unr, .int .i64 l.line, .slice x n k] 27)).alloc (.cells #[.int .i64 ((0 : Nat) : Int)] 3))
  have HST := Hd (((St.refl w Lf).alloc (.cells #[.int .i64 l.kind, .string (str l.name), .int .u64 l.num, .int .i64 l.wd, .bool l.sg, .int .i64 l.op, .int .i64 l.fac, .int .i64 l.pip, .int .i64 l.unr, .int .i64 l.line, .slice x n k] 27)).alloc (.cells #[.int .i64 ((0 : Nat) : Int)] 3))
  clear hT hS
  by_cases h0 : left = 0
  ·subst h0
   go_enter Tryz.func49, Tryz.ntmps49
   go_wp2
   go_ret
   exact ⟨rfl, HS.out, HST.out⟩
  ·have q0 : ((left : Int) == 0) = false := by simp; omega
   clear h0
   go_enter Tryz.func49, Tryz.ntmps49
   go_wp2
   go_ret
   exact ⟨rfl, HS.out, HST.out⟩
 | succ lv ih =>
  intro hlv left t l x n k w hleft hT hS
  have H := ih (by omega)
  obtain ⟨lt, ks⟩ := t
  obtain ⟨xk, kk, hcs, hnk, hkm, hkids⟩ := TreeAt.kids hT
  obtain ⟨rfl, rfl, rfl⟩ : x = xk ∧ n = ks.length ∧ k = kk := by
   have h10 := congrArg (fun c : List Value => c[10]?) hcs
   simp [lcells] at h10
   exact h10
  rw [wIn_node]
  have hcf := hS.cf
  have hff := hS.ff
  have hlf := hS.lf
  by_cases h0 : left = 0
  ·have HS := Hd ((hS.alloc (.cells #[.int .i64 l.kind, .string (str l.name), .int .u64 l.num, .int .i64 l.wd, .bool l.sg, .int .i64 l.op, .int .i64 l.fac, .int .i64 l.pip, .int .i64 l.unr, .int .i64 l.line, .slice x ks.length k] 27)).alloc (.cells #[.int .i64 ((lv + 1 : Nat) : Int)] 3))
   have HST := Hd (((St.refl w Lf).alloc (.cells #[.int .i64 l.kind, .string (str l.name), .int .u64 l.num, .int .i64 l.wd, .bool l.sg, .int .i64 l.op, .int .i64 l.fac, .int .i64 l.pip, .int .i64 l.unr, .int .i64 l.line, .slice x ks.length k] 27)).alloc (.cells #[.int .i64 ((lv + 1 : Nat) : Int)] 3))
   rw [if_pos (.inl h0)]
   subst h0
   clear hT hS hkids H ih hcs
   generalize ks.length = N at *
   go_enter Tryz.func49, Tryz.ntmps49
   go_wp2
   go_ret
   exact ⟨rfl, HS.out, HST.out⟩
  ·rw [if_neg (by omega)]
   have q0 : ((left : Int) == 0) = false := by simp; omega
   have q1 : (((lv + 1 : Nat) : Int) == 0) = false := by simp; omega
   have hl1 : 1 ≤ left := by omega
   have hcast : (left : Int) - 1 = ((left - 1 : Nat) : Int) := by omega
   have hsw := hS.dec (by omega) (left - 1)
   have hsz : (w.setCell ⟨Lf, 0, none⟩ (.int .i64 ((left - 1 : Nat) : Int))).heap.size = w.heap.size := size_setCell _ _ _
   have HS2 := Hd ((hsw.alloc (.cells #[.int .i64 l.kind, .string (str l.name), .int .u64 l.num, .int .i64 l.wd, .bool l.sg, .int .i64 l.op, .int .i64 l.fac, .int .i64 l.pip, .int .i64 l.unr, .int .i64 l.line, .slice x ks.length k] 27)).alloc (.cells #[.int .i64 ((lv : Int) + 1)] 3))
   have hst : St w (w.setCell ⟨Lf, 0, none⟩ (.int .i64 ((left - 1 : Nat) : Int))) Lf := St.setR (St.refl _ _) rfl _
   have HST := Hd ((hst.alloc (.cells #[.int .i64 l.kind, .string (str l.name), .int .u64 l.num, .int .i64 l.wd, .bool l.sg, .int .i64 l.op, .int .i64 l.fac, .int .i64 l.pip, .int .i64 l.unr, .int .i64 l.line, .slice x ks.length k] 27)).alloc (.cells #[.int .i64 ((lv : Int) + 1)] 3))
   have HK := Hd fun i (hi : i < ks.length) => (show ∃ a, x = some a ∧ a.block < Lf ∧ KidAt (((w.setCell ⟨Lf, 0, none⟩ (.int .i64 ((left - 1 : Nat) : Int))).alloc (.cells #[.int .i64 l.kind, .string (str l.name), .int .u64 l.num, .int .i64 l.wd, .bool l.sg, .int .i64 l.op, .int .i64 l.fac, .int .i64 l.pip, .int .i64 l.unr, .int .i64 l.line, .slice x ks.length k] 27)).alloc (.cells #[.int .i64 ((lv : Int) + 1)] 3)) (· < Lf) a i (kat ks i) by
    obtain ⟨a, ha, hp, hkid⟩ := hkids i hi
    exact ⟨a, ha, hp, hkid.keep hp (fun g hg hl => World.grownBy.block HST.out g hl (fun e => by injection e with e; omega)) fun _ hg _ => hg⟩)
   have HB5 : Hid ((((w.setCell ⟨Lf, 0, none⟩ (.int .i64 ((left - 1 : Nat) : Int))).alloc (.cells #[.int .i64 l.kind, .string (str l.name), .int .u64 l.num, .int .i64 l.wd, .bool l.sg, .int .i64 l.op, .int .i64 l.fac, .int .i64 l.pip, .int .i64 l.unr, .int .i64 l.line, .slice x ks.length k] 27)).alloc (.cells #[.int .i64 ((lv : Int) + 1)] 3)).cell? ⟨w.heap.size + 1, 0, none⟩ = some (.int .i64 ((lv : Int) + 1)) ∧ Lf < w.heap.size + 1 ∧ w.heap.size + 1 < (((w.setCell ⟨Lf, 0, none⟩ (.int .i64 ((left - 1 : Nat) : Int))).alloc (.cells #[.int .i64 l.kind, .string (str l.name), .int .u64 l.num, .int .i64 l.wd, .bool l.sg, .int .i64 l.op, .int .i64 l.fac, .int .i64 l.pip, .int .i64 l.unr, .int .i64 l.line, .slice x ks.length k] 27)).alloc (.cells #[.int .i64 ((lv : Int) + 1)] 3)).heap.size) := by
    have hBk := Blk.alloc ((w.setCell ⟨Lf, 0, none⟩ (.int .i64 ((left - 1 : Nat) : Int))).alloc (.cells #[.int .i64 l.kind, .string (str l.name), .int .u64 l.num, .int .i64 l.wd, .bool l.sg, .int .i64 l.op, .int .i64 l.fac, .int .i64 l.pip, .int .i64 l.unr, .int .i64 l.line, .slice x ks.length k] 27)) 3 [.int .i64 ((lv : Int) + 1)]
    have hz2 : ((w.setCell ⟨Lf, 0, none⟩ (.int .i64 ((left - 1 : Nat) : Int))).alloc (.cells #[.int .i64 l.kind, .string (str l.name), .int .u64 l.num, .int .i64 l.wd, .bool l.sg, .int .i64 l.op, .int .i64 l.fac, .int .i64 l.pip, .int .i64 l.unr, .int .i64 l.line, .slice x ks.length k] 27)).heap.size = w.heap.size + 1 := by rw [← hsz]; simp
    rw [hz2] at hBk
    exact ⟨hBk.cell 0, by omega, by rw [← hz2]; simp⟩
   have HC := Hd (contains_kids H (by omega) (left - 1) (by omega) ks x k (by unfold maxLen at hkm ⊢; omega) (w.heap.size + 1) _ HK.out HS2.out HB5.out.1 HB5.out.2)
   have hlvs : lv + 1 - 1 = lv := by omega
   rw [hlvs]
   have HCA := Hd hcast
   clear hT hS hkids H ih hcs hsw hst HK HB5 HS2 hcast hsz hlvs h0 hnk hkm
   generalize wIns (left - 1) lv ks = W2 at *
   generalize ks.length = N at *
   obtain ⟨b, l3⟩ := W2
   generalize ((left - 1 : Nat) : Int) = lm at *
   have hca := HCA.out
   go_enter Tryz.func49, Tryz.ntmps49
   go_wp2_with fail
   refine HC.out.mono ?_
   rintro e w1 ⟨rfl, hs, hst⟩
   have H1 := Hd (And.intro hs (St.trans HST.out hst))
   clear hs hst
   go_wp2
   go_ret
   exact ⟨by cases b <;> rfl, H1.out.1, H1.out.2⟩

set_option maxHeartbeats 1000000 in
set_option maxRecDepth 100000 in
theorem within_any (t : Tree) (l : Lab) (x : Option Addr) (n k : Nat) (w : World) (hT : TreeAt w (fun _ => True) [.int .i64 l.kind, .string (str l.name), .int .u64 l.num, .int .i64 l.wd, .bool l.sg, .int .i64 l.op, .int .i64 l.fac, .int .i64 l.pip, .int .i64 l.unr, .int .i64 l.line, .slice x n k] t) :
  Calls Tryz.prog 29 #[.agg #[.int .i64 l.kind, .string (str l.name), .int .u64 l.num, .int .i64 l.wd, .bool l.sg, .int .i64 l.op, .int .i64 l.fac, .int .i64 l.pip, .int .i64 l.unr, .int .i64 l.line, .slice x n k]] w fun e w' => e = .returned (.bool (decide (count t ≤ 20000 ∧ depth t ≤ 200))) ∧ Below w.heap.size w w' := by
 have hW := (wIn_iff 20000 200 t).1
 have hb : (wIn 20000 200 t).1 = decide (count t ≤ 20000 ∧ depth t ≤ 200) := by
  rw [Bool.eq_iff_iff, hW, decide_eq_true_iff]
 rw [← hb]
 have HB := Hd ((((Below.refl w.heap.size w).alloc (Nat.le_refl _) (.cells #[.int .i64 l.kind, .string (str l.name), .int .u64 l.num, .int .i64 l.wd, .bool l.sg, .int .i64 l.op, .int .i64 l.fac, .int .i64 l.pip, .int .i64 l.unr, .int .i64 l.line, .slice x n k] 27)).alloc (by simp) (.cells #[.int .i64 20000] 3)).alloc (by simp; omega) (.cells #[.func (Fn.func 49) #[] #[.pointer (some ⟨w.heap.size + 1, 0, none⟩), .pointer (some ⟨w.heap.size + 1 + 1, 0, none⟩)]] 67))
 have hz1 : (w.alloc (.cells #[.int .i64 l.kind, .string (str l.name), .int .u64 l.num, .int .i64 l.wd, .bool l.sg, .int .i64 l.op, .int .i64 l.fac, .int .i64 l.pip, .int .i64 l.unr, .int .i64 l.line, .slice x n k] 27)).heap.size = w.heap.size + 1 := by simp
 have hz2 : ((w.alloc (.cells #[.int .i64 l.kind, .string (str l.name), .int .u64 l.num, .int .i64 l.wd, .bool l.sg, .int .i64 l.op, .int .i64 l.fac, .int .i64 l.pip, .int .i64 l.unr, .int .i64 l.line, .slice x n k] 27)).alloc (.cells #[.int .i64 20000] 3)).heap.size = w.heap.size + 1 + 1 := by simp
 have hT3 : TW (((w.alloc (.cells #[.int .i64 l.kind, .string (str l.name), .int .u64 l.num, .int .i64 l.wd, .bool l.sg, .int .i64 l.op, .int .i64 l.fac, .int .i64 l.pip, .int .i64 l.unr, .int .i64 l.line, .slice x n k] 27)).alloc (.cells #[.int .i64 20000] 3)).alloc (.cells #[.func (Fn.func 49) #[] #[.pointer (some ⟨w.heap.size + 1, 0, none⟩), .pointer (some ⟨w.heap.size + 1 + 1, 0, none⟩)]] 67)) (w.heap.size + 1) [.int .i64 l.kind, .string (str l.name), .int .u64 l.num, .int .i64 l.wd, .bool l.sg, .int .i64 l.op, .int .i64 l.fac, .int .i64 l.pip, .int .i64 l.unr, .int .i64 l.line, .slice x n k] t :=
  hT.keep (fun g _ hl => HB.out.block g hl) fun g _ hl => by omega
 have hS3 : WS (((w.alloc (.cells #[.int .i64 l.kind, .string (str l.name), .int .u64 l.num, .int .i64 l.wd, .bool l.sg, .int .i64 l.op, .int .i64 l.fac, .int .i64 l.pip, .int .i64 l.unr, .int .i64 l.line, .slice x n k] 27)).alloc (.cells #[.int .i64 20000] 3)).alloc (.cells #[.func (Fn.func 49) #[] #[.pointer (some ⟨w.heap.size + 1, 0, none⟩), .pointer (some ⟨w.heap.size + 1 + 1, 0, none⟩)]] 67)) (w.heap.size + 1) (w.heap.size + 1 + 1) 20000 := by
  have b1 := Blk.alloc (w.alloc (.cells #[.int .i64 l.kind, .string (str l.name), .int .u64 l.num, .int .i64 l.wd, .bool l.sg, .int .i64 l.op, .int .i64 l.fac, .int .i64 l.pip, .int .i64 l.unr, .int .i64 l.line, .slice x n k] 27)) 3 [.int .i64 20000]
  rw [hz1] at b1
  have b2 := b1.alloc_other (.cells #[.func (Fn.func 49) #[] #[.pointer (some ⟨w.heap.size + 1, 0, none⟩), .pointer (some ⟨w.heap.size + 1 + 1, 0, none⟩)]] 67)
  have b3 := Blk.alloc ((w.alloc (.cells #[.int .i64 l.kind, .string (str l.name), .int .u64 l.num, .int .i64 l.wd, .bool l.sg, .int .i64 l.op, .int .i64 l.fac, .int .i64 l.pip, .int .i64 l.unr, .int .i64 l.line, .slice x n k] 27)).alloc (.cells #[.int .i64 20000] 3)) 67 [.func (Fn.func 49) #[] #[.pointer (some ⟨w.heap.size + 1, 0, none⟩), .pointer (some ⟨w.heap.size + 1 + 1, 0, none⟩)]]
  rw [hz2] at b3
  exact ⟨b2.cell 0, b2.frozen 0, b3.cell 0, b2.lt, b3.lt⟩
 have HC := Hd (walk_all (w.heap.size + 1) (w.heap.size + 1 + 1) (by omega) 200 (Nat.le_refl _) 20000 t l x n k _ (Nat.le_refl _) hT3 hS3)
 clear hT hT3 hS3 hW hb hz1 hz2
 generalize (wIn 20000 200 t) = W2 at *
 obtain ⟨b, l3⟩ := W2
 go_enter Tryz.func29, Tryz.ntmps29
 go_wp2_with fail
 refine HC.out.mono ?_
 rintro e w1 ⟨rfl, hs, hst⟩
 have H1 : Hid (Below w.heap.size w w1) := Hd ⟨hst.os.trans HB.out.os, hst.tape.trans HB.out.tape, hst.output.trans HB.out.output, Nat.le_trans HB.out.size hst.size, fun g hg => (hst.block g (Nat.lt_of_lt_of_le hg HB.out.size) (fun e => by injection e with e; omega)).trans (HB.out.block g hg)⟩
 clear hs hst
 go_wp2
 go_ret
 exact ⟨rfl, H1.out⟩
end Go.Proofs.YthdbaligapdbeaaGreatDoor
