/- The code's said, kind by kind (GA). -/
import Derived.Test.YthdbaligapdbeaaGreatDoorMgPsVd
import Derived.Deep.Cut
import Derived.Deep.CutBlock
namespace Go.Proofs.YthdbaligapdbeaaGreatDoor
open Go Go.RowKit
set_option linter.unusedVariables false
set_option linter.unusedSimpArgs false

set_option maxHeartbeats 40000000 in
set_option maxRecDepth 100000 in
theorem sd_A (l : Lab) (hk : l.kind = 1 ∨ l.kind = 8 ∨ l.kind = 13 ∨ l.kind = 17 ∨ l.kind = 23) (hnm : l.name.length ≤ 281474976710656) : saidOK l := by
 intro x n k w V L
 obtain ⟨a0, a1, a2, a3, a4, a5, a6, a7, a8, a9⟩ := l
 dsimp only at *
 have HK := Hd hk
 have HS0 : Hid (SD w (((w.alloc (.cells #[.int .i64 a0, .string (str a1), .int .u64 a2, .int .i64 a3, .bool a4, .int .i64 a5, .int .i64 a6, .int .i64 a7, .int .i64 a8, .int .i64 a9, .slice x n k] 27)).alloc (.cells #[.int .i64 0, .string ⟨#[]⟩, .int .u64 0, .int .i64 0, .bool false, .int .i64 0, .int .i64 0, .int .i64 0, .int .i64 0] 71)).alloc (.cells #[.int .i64 a0, .string ⟨#[]⟩, .int .u64 0, .int .i64 0, .bool false, .int .i64 0, .int .i64 0, .int .i64 0, .int .i64 0] 71)) [.int .i64 a0, .string (str a1), .int .u64 a2, .int .i64 a3, .bool a4, .int .i64 a5, .int .i64 a6, .int .i64 a7, .int .i64 a8, .int .i64 a9, .slice x n k] zL [.int .i64 a0, .string ⟨#[]⟩, .int .u64 0, .int .i64 0, .bool false, .int .i64 0, .int .i64 0, .int .i64 0, .int .i64 0]) := by
  have b1 := Blk.alloc w 27 [.int .i64 a0, .string (str a1), .int .u64 a2, .int .i64 a3, .bool a4, .int .i64 a5, .int .i64 a6, .int .i64 a7, .int .i64 a8, .int .i64 a9, .slice x n k]
  have z1 : (w.alloc (.cells #[.int .i64 a0, .string (str a1), .int .u64 a2, .int .i64 a3, .bool a4, .int .i64 a5, .int .i64 a6, .int .i64 a7, .int .i64 a8, .int .i64 a9, .slice x n k] 27)).heap.size = w.heap.size + 1 := by simp
  have b2 := Blk.alloc (w.alloc (.cells #[.int .i64 a0, .string (str a1), .int .u64 a2, .int .i64 a3, .bool a4, .int .i64 a5, .int .i64 a6, .int .i64 a7, .int .i64 a8, .int .i64 a9, .slice x n k] 27)) 71 zL
  have z2 : ((w.alloc (.cells #[.int .i64 a0, .string (str a1), .int .u64 a2, .int .i64 a3, .bool a4, .int .i64 a5, .int .i64 a6, .int .i64 a7, .int .i64 a8, .int .i64 a9, .slice x n k] 27)).alloc (.cells #[.int .i64 0, .string ⟨#[]⟩, .int .u64 0, .int .i64 0, .bool false, .int .i64 0, .int .i64 0, .int .i64 0, .int .i64 0] 71)).heap.size = w.heap.size + 1 + 1 := by simp
  have b3 := Blk.alloc ((w.alloc (.cells #[.int .i64 a0, .string (str a1), .int .u64 a2, .int .i64 a3, .bool a4, .int .i64 a5, .int .i64 a6, .int .i64 a7, .int .i64 a8, .int .i64 a9, .slice x n k] 27)).alloc (.cells #[.int .i64 0, .string ⟨#[]⟩, .int .u64 0, .int .i64 0, .bool false, .int .i64 0, .int .i64 0, .int .i64 0, .int .i64 0] 71)) 71 [.int .i64 a0, .string ⟨#[]⟩, .int .u64 0, .int .i64 0, .bool false, .int .i64 0, .int .i64 0, .int .i64 0, .int .i64 0]
  rw [z1] at b2
  rw [z2] at b3
  exact Hd ⟨(b1.alloc_other _).alloc_other _, b2.alloc_other _, b3, (((Below.refl w.heap.size w).alloc (Nat.le_refl _) _).alloc (by simp) _).alloc (by simp; omega) _⟩
 have HOW : Hid (ownB ⟨a0, a1, a2, a3, a4, a5, a6, a7, a8, a9⟩ = ⟨a0, [], 0, 0, false, 0, 0, 0, 0, 0⟩) := Hd (by rcases hk with rfl | rfl | rfl | rfl | rfl <;> simp [ownB, kA, kB, kC, kD, lab0])
 have HOK : Hid (okB ⟨a0, a1, a2, a3, a4, a5, a6, a7, a8, a9⟩ = true) := Hd (by rcases hk with rfl | rfl | rfl | rfl | rfl <;> simp [okB, kA, kB, kC, kD])
 clear V L hnm hk
 have cn := HS0.out.n.cell
 have co := HS0.out.o.cell
 have cr := HS0.out.r.cell
 have fr := HS0.out.r.frozen
 unfold zL at cr
 go_enter Tryz.func53, Tryz.ntmps53
 go_upto_region 3 with fail
 generalize (((w.alloc (.cells #[.int .i64 a0, .string (str a1), .int .u64 a2, .int .i64 a3, .bool a4, .int .i64 a5, .int .i64 a6, .int .i64 a7, .int .i64 a8, .int .i64 a9, .slice x n k] 27)).alloc (.cells #[.int .i64 0, .string ⟨#[]⟩, .int .u64 0, .int .i64 0, .bool false, .int .i64 0, .int .i64 0, .int .i64 0, .int .i64 0] 71)).alloc (.cells #[.int .i64 a0, .string ⟨#[]⟩, .int .u64 0, .int .i64 0, .bool false, .int .i64 0, .int .i64 0, .int .i64 0, .int .i64 0] 71)) = W1 at *
 go_cut [10] from 11 to 15 (fun s100 wx => s100 = .bool (a0 == 1) ∧ Hid (wx = W1))
 case first =>
  have hk := HK.out
  rcases hk with rfl | rfl | rfl | rfl | rfl
  all_goals
   go_wp2
   go_meet
   exact ⟨rfl, Hd rfl⟩
 obtain ⟨hs, hwc⟩ := hcut
 subst hs
 have hw2 := hwc.out
 subst hw2
 clear hwc
 go_upto_if 10 with fail
 go_cut [10] from 11 to 15 (fun s100 wx => s100 = .bool true ∧ Hid (wx = wc))
 case first =>
  have hk := HK.out
  rcases hk with rfl | rfl | rfl | rfl | rfl
  all_goals
   go_wp2
   go_meet
   exact ⟨rfl, Hd rfl⟩
 obtain ⟨hs, hwc⟩ := hcut
 subst hs
 have hw2 := hwc.out
 subst hw2
 clear hwc
 go_upto_region 8 with fail
 obtain ⟨W1, hW1⟩ : ∃ y : World, y = wc := ⟨_, rfl⟩
 subst hW1
 go_wp2
 refine bodyPost_ret ((HS0.out.r.stor9 rfl (.int .i64 a0) (.string ⟨#[]⟩) (.int .u64 0) (.int .i64 0) (.bool false) (.int .i64 0) (.int .i64 0) (.int .i64 0) (.int .i64 0)).res Tryz.results53 Tryz.underlying71 rfl infoLb9 _ rfl) rfl ?_
 exact ⟨by rw [HOW.out, HOK.out]; rfl, below_stor9 HS0.out.bel (by omega) _ _ _ _ _ _ _ _ _⟩
end Go.Proofs.YthdbaligapdbeaaGreatDoor
