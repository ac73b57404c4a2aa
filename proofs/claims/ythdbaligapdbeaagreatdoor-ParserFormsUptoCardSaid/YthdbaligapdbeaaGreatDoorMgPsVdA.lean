/- The code's said, kind by kind (K18). -/
import Derived.Test.YthdbaligapdbeaaGreatDoorMgPsVd
import Derived.Deep.Cut
import Derived.Deep.CutBlock
import Derived.Test.YthdbaligapdbeaaGreatDoorMgPsVdK5a
import Derived.Test.YthdbaligapdbeaaGreatDoorMgPsVdK5b
import Derived.Test.YthdbaligapdbeaaGreatDoorMgPsVdK5c
import Derived.Test.YthdbaligapdbeaaGreatDoorMgPsVdK14a
import Derived.Test.YthdbaligapdbeaaGreatDoorMgPsVdK14b
import Derived.Test.YthdbaligapdbeaaGreatDoorMgPsVdK14e
import Derived.Test.YthdbaligapdbeaaGreatDoorMgPsVdGA
import Derived.Test.YthdbaligapdbeaaGreatDoorMgPsVdGB
import Derived.Test.YthdbaligapdbeaaGreatDoorMgPsVdGC
import Derived.Test.YthdbaligapdbeaaGreatDoorMgPsVdS
import Derived.Test.YthdbaligapdbeaaGreatDoorMgPsVdK15
namespace Go.Proofs.YthdbaligapdbeaaGreatDoor
open Go Go.RowKit
set_option linter.unusedVariables false

set_option maxHeartbeats 40000000 in
set_option maxRecDepth 100000 in
theorem sd_18 (l : Lab) (hk : l.kind = 18) (hnm : l.name.length ≤ 281474976710656) : saidOK l := by
 intro x n k w V L
 obtain ⟨a0, a1, a2, a3, a4, a5, a6, a7, a8, a9⟩ := l
 dsimp only at *
 subst hk
 have HS0 : Hid (SD w (((w.alloc (.cells #[.int .i64 18, .string (str a1), .int .u64 a2, .int .i64 a3, .bool a4, .int .i64 a5, .int .i64 a6, .int .i64 a7, .int .i64 a8, .int .i64 a9, .slice x n k] 27)).alloc (.cells #[.int .i64 0, .string ⟨#[]⟩, .int .u64 0, .int .i64 0, .bool false, .int .i64 0, .int .i64 0, .int .i64 0, .int .i64 0] 71)).alloc (.cells #[.int .i64 18, .string ⟨#[]⟩, .int .u64 0, .int .i64 0, .bool false, .int .i64 0, .int .i64 0, .int .i64 0, .int .i64 0] 71)) [.int .i64 18, .string (str a1), .int .u64 a2, .int .i64 a3, .bool a4, .int .i64 a5, .int .i64 a6, .int .i64 a7, .int .i64 a8, .int .i64 a9, .slice x n k] zL [.int .i64 18, .string ⟨#[]⟩, .int .u64 0, .int .i64 0, .bool false, .int .i64 0, .int .i64 0, .int .i64 0, .int .i64 0]) := by
  have b1 := Blk.alloc w 27 [.int .i64 18, .string (str a1), .int .u64 a2, .int .i64 a3, .bool a4, .int .i64 a5, .int .i64 a6, .int .i64 a7, .int .i64 a8, .int .i64 a9, .slice x n k]
  have z1 : (w.alloc (.cells #[.int .i64 18, .string (str a1), .int .u64 a2, .int .i64 a3, .bool a4, .int .i64 a5, .int .i64 a6, .int .i64 a7, .int .i64 a8, .int .i64 a9, .slice x n k] 27)).heap.size = w.heap.size + 1 := by simp
  have b2 := Blk.alloc (w.alloc (.cells #[.int .i64 18, .string (str a1), .int .u64 a2, .int .i64 a3, .bool a4, .int .i64 a5, .int .i64 a6, .int .i64 a7, .int .i64 a8, .int .i64 a9, .slice x n k] 27)) 71 zL
  have z2 : ((w.alloc (.cells #[.int .i64 18, .string (str a1), .int .u64 a2, .int .i64 a3, .bool a4, .int .i64 a5, .int .i64 a6, .int .i64 a7, .int .i64 a8, .int .i64 a9, .slice x n k] 27)).alloc (.cells #[.int .i64 0, .string ⟨#[]⟩, .int .u64 0, .int .i64 0, .bool false, .int .i64 0, .int .i64 0, .int .i64 0, .int .i64 0] 71)).heap.size = w.heap.size + 1 + 1 := by simp
  have b3 := Blk.alloc ((w.alloc (.cells #[.int .i64 18, .string (str a1), .int .u64 a2, .int .i64 a3, .bool a4, .int .i64 a5, .int .i64 a6, .int .i64 a7, .int .i64 a8, .int .i64 a9, .slice x n k] 27)).alloc (.cells #[.int .i64 0, .string ⟨#[]⟩, .int .u64 0, .int .i64 0, .bool false, .int .i64 0, .int .i64 0, .int .i64 0, .int .i64 0] 71)) 71 [.int .i64 18, .string ⟨#[]⟩, .int .u64 0, .int .i64 0, .bool false, .int .i64 0, .int .i64 0, .int .i64 0, .int .i64 0]
  rw [z1] at b2
  rw [z2] at b3
  exact Hd ⟨(b1.alloc_other _).alloc_other _, b2.alloc_other _, b3, (((Below.refl w.heap.size w).alloc (Nat.le_refl _) _).alloc (by simp) _).alloc (by simp; omega) _⟩
 have HOW : Hid (ownB ⟨18, a1, a2, a3, a4, a5, a6, a7, a8, a9⟩ = ⟨18, [], a2, a3, a4, 0, 0, 0, 0, 0⟩) := Hd (by simp [ownB, kA, kB, kC, kD, lab0])
 have HOK : Hid (okB ⟨18, a1, a2, a3, a4, a5, a6, a7, a8, a9⟩ = (!isTr 18 a3 a4 || decide (a2 ≤ 1))) := Hd (by simp [okB, kA, kB, kC, kD])
 have HCI := Hd (fun W (hb : Below w.heap.size w W) => isTruth_any ⟨18, a1, a2, a3, a4, a5, a6, a7, a8, a9⟩ x n k W)
 clear V L hnm
 generalize isTr 18 a3 a4 = bI at *
 obtain ⟨bm, hbm⟩ : ∃ b, b = decide (a2 ≤ 1) := ⟨_, rfl⟩
 rw [← hbm] at HOK
 have qm : decide (a2 ≤ 1) = bm := hbm.symm
 clear hbm
 cases bI with
 | false =>
  go_enter Tryz.func53, Tryz.ntmps53
  go_upto_region 39 with fail
  generalize (((w.alloc (.cells #[.int .i64 18, .string (str a1), .int .u64 a2, .int .i64 a3, .bool a4, .int .i64 a5, .int .i64 a6, .int .i64 a7, .int .i64 a8, .int .i64 a9, .slice x n k] 27)).alloc (.cells #[.int .i64 0, .string ⟨#[]⟩, .int .u64 0, .int .i64 0, .bool false, .int .i64 0, .int .i64 0, .int .i64 0, .int .i64 0] 71)).alloc (.cells #[.int .i64 18, .string ⟨#[]⟩, .int .u64 0, .int .i64 0, .bool false, .int .i64 0, .int .i64 0, .int .i64 0, .int .i64 0] 71)) = W1 at *
  have cn := HS0.out.n.cell
  have co := HS0.out.o.cell
  have fo := HS0.out.o.frozen
  have HS1 : Hid (SD w (((W1.setCell ⟨w.heap.size + 1 + 1, 2, none⟩ (.int .u64 a2)).setCell ⟨w.heap.size + 1 + 1, 3, none⟩ (.int .i64 a3)).setCell ⟨w.heap.size + 1 + 1, 4, none⟩ (.bool a4)).drew [.int .i64 18, .string (str a1), .int .u64 a2, .int .i64 a3, .bool a4, .int .i64 a5, .int .i64 a6, .int .i64 a7, .int .i64 a8, .int .i64 a9, .slice x n k] zL [.int .i64 18, .string ⟨#[]⟩, .int .u64 a2, .int .i64 a3, .bool a4, .int .i64 0, .int .i64 0, .int .i64 0, .int .i64 0]) := Hd ((((HS0.out.setO 2 (.int .u64 a2)).setO 3 (.int .i64 a3)).setO 4 (.bool a4)).call (Below.refl _ _).drew)
  go_region
  go_upto_region 40 with fail
  clear cn co fo HS0
  generalize (((W1.setCell ⟨w.heap.size + 1 + 1, 2, none⟩ (.int .u64 a2)).setCell ⟨w.heap.size + 1 + 1, 3, none⟩ (.int .i64 a3)).setCell ⟨w.heap.size + 1 + 1, 4, none⟩ (.bool a4)).drew = W2 at *
  have hD : Below W2.heap.size W2 W2.drew := (Below.refl _ _).drew
  have HS2 := Hd (HS1.out.call hD)
  clear HS1
  have cn := HS2.out.n.cell
  have co := HS2.out.o.cell
  have cr := HS2.out.r.cell
  have fr := HS2.out.r.frozen
  unfold zL at cr
  first
  | (go_region_with (first | (go_at_call 83; refine (HCI.out _ (by first | exact HS6.out.bel | exact HS2.out.bel)).mono ?_; rintro e w6 ⟨rfl, hb6⟩; (first | have HS6 := Hd (HS6.out.call hb6) | have HS6 := Hd (HS2.out.call hb6)); have cn6 := HS6.out.n.cell; have co6 := HS6.out.o.cell; have cr6 := HS6.out.r.cell; have fr6 := HS6.out.r.frozen; unfold zL at cr6)))
  | fail
  all_goals
   have HSE : Hid (SD w _ [.int .i64 18, .string (str a1), .int .u64 a2, .int .i64 a3, .bool a4, .int .i64 a5, .int .i64 a6, .int .i64 a7, .int .i64 a8, .int .i64 a9, .slice x n k] zL [.int .i64 18, .string ⟨#[]⟩, .int .u64 a2, .int .i64 a3, .bool a4, .int .i64 0, .int .i64 0, .int .i64 0, .int .i64 0]) := HS6
   go_wp2
   refine bodyPost_ret ((HSE.out.r.stor9 rfl (.int .i64 18) (.string ⟨#[]⟩) (.int .u64 a2) (.int .i64 a3) (.bool a4) (.int .i64 0) (.int .i64 0) (.int .i64 0) (.int .i64 0)).res Tryz.results53 Tryz.underlying71 rfl infoLb9 _ rfl) rfl ?_
   exact ⟨by rw [HOW.out, HOK.out]; rfl, below_stor9 HSE.out.bel (by omega) _ _ _ _ _ _ _ _ _⟩
 | true =>
  cases bm with
  | false =>
   go_enter Tryz.func53, Tryz.ntmps53
   go_upto_region 39 with fail
   generalize (((w.alloc (.cells #[.int .i64 18, .string (str a1), .int .u64 a2, .int .i64 a3, .bool a4, .int .i64 a5, .int .i64 a6, .int .i64 a7, .int .i64 a8, .int .i64 a9, .slice x n k] 27)).alloc (.cells #[.int .i64 0, .string ⟨#[]⟩, .int .u64 0, .int .i64 0, .bool false, .int .i64 0, .int .i64 0, .int .i64 0, .int .i64 0] 71)).alloc (.cells #[.int .i64 18, .string ⟨#[]⟩, .int .u64 0, .int .i64 0, .bool false, .int .i64 0, .int .i64 0, .int .i64 0, .int .i64 0] 71)) = W1 at *
   have cn := HS0.out.n.cell
   have co := HS0.out.o.cell
   have fo := HS0.out.o.frozen
   have HS1 : Hid (SD w (((W1.setCell ⟨w.heap.size + 1 + 1, 2, none⟩ (.int .u64 a2)).setCell ⟨w.heap.size + 1 + 1, 3, none⟩ (.int .i64 a3)).setCell ⟨w.heap.size + 1 + 1, 4, none⟩ (.bool a4)).drew [.int .i64 18, .string (str a1), .int .u64 a2, .int .i64 a3, .bool a4, .int .i64 a5, .int .i64 a6, .int .i64 a7, .int .i64 a8, .int .i64 a9, .slice x n k] zL [.int .i64 18, .string ⟨#[]⟩, .int .u64 a2, .int .i64 a3, .bool a4, .int .i64 0, .int .i64 0, .int .i64 0, .int .i64 0]) := Hd ((((HS0.out.setO 2 (.int .u64 a2)).setO 3 (.int .i64 a3)).setO 4 (.bool a4)).call (Below.refl _ _).drew)
   go_region
   go_upto_region 40 with fail
   clear cn co fo HS0
   generalize (((W1.setCell ⟨w.heap.size + 1 + 1, 2, none⟩ (.int .u64 a2)).setCell ⟨w.heap.size + 1 + 1, 3, none⟩ (.int .i64 a3)).setCell ⟨w.heap.size + 1 + 1, 4, none⟩ (.bool a4)).drew = W2 at *
   have hD : Below W2.heap.size W2 W2.drew := (Below.refl _ _).drew
   have HS2 := Hd (HS1.out.call hD)
   clear HS1
   have cn := HS2.out.n.cell
   have co := HS2.out.o.cell
   have cr := HS2.out.r.cell
   have fr := HS2.out.r.frozen
   unfold zL at cr
   first
   | (go_region_with (first | (go_at_call 83; refine (HCI.out _ (by first | exact HS6.out.bel | exact HS2.out.bel)).mono ?_; rintro e w6 ⟨rfl, hb6⟩; (first | have HS6 := Hd (HS6.out.call hb6) | have HS6 := Hd (HS2.out.call hb6)); have cn6 := HS6.out.n.cell; have co6 := HS6.out.o.cell; have cr6 := HS6.out.r.cell; have fr6 := HS6.out.r.frozen; unfold zL at cr6)))
   | fail
   all_goals
    have HSE : Hid (SD w _ [.int .i64 18, .string (str a1), .int .u64 a2, .int .i64 a3, .bool a4, .int .i64 a5, .int .i64 a6, .int .i64 a7, .int .i64 a8, .int .i64 a9, .slice x n k] zL [.int .i64 18, .string ⟨#[]⟩, .int .u64 a2, .int .i64 a3, .bool a4, .int .i64 0, .int .i64 0, .int .i64 0, .int .i64 0]) := HS6
    go_wp2
    refine bodyPost_ret ((HSE.out.r.stor9 rfl (.int .i64 18) (.string ⟨#[]⟩) (.int .u64 a2) (.int .i64 a3) (.bool a4) (.int .i64 0) (.int .i64 0) (.int .i64 0) (.int .i64 0)).res Tryz.results53 Tryz.underlying71 rfl infoLb9 _ rfl) rfl ?_
    exact ⟨by rw [HOW.out, HOK.out]; rfl, below_stor9 HSE.out.bel (by omega) _ _ _ _ _ _ _ _ _⟩
  | true =>
   go_enter Tryz.func53, Tryz.ntmps53
   go_upto_region 39 with fail
   generalize (((w.alloc (.cells #[.int .i64 18, .string (str a1), .int .u64 a2, .int .i64 a3, .bool a4, .int .i64 a5, .int .i64 a6, .int .i64 a7, .int .i64 a8, .int .i64 a9, .slice x n k] 27)).alloc (.cells #[.int .i64 0, .string ⟨#[]⟩, .int .u64 0, .int .i64 0, .bool false, .int .i64 0, .int .i64 0, .int .i64 0, .int .i64 0] 71)).alloc (.cells #[.int .i64 18, .string ⟨#[]⟩, .int .u64 0, .int .i64 0, .bool false, .int .i64 0, .int .i64 0, .int .i64 0, .int .i64 0] 71)) = W1 at *
   have cn := HS0.out.n.cell
   have co := HS0.out.o.cell
   have fo := HS0.out.o.frozen
   have HS1 : Hid (SD w (((W1.setCell ⟨w.heap.size + 1 + 1, 2, none⟩ (.int .u64 a2)).setCell ⟨w.heap.size + 1 + 1, 3, none⟩ (.int .i64 a3)).setCell ⟨w.heap.size + 1 + 1, 4, none⟩ (.bool a4)).drew [.int .i64 18, .string (str a1), .int .u64 a2, .int .i64 a3, .bool a4, .int .i64 a5, .int .i64 a6, .int .i64 a7, .int .i64 a8, .int .i64 a9, .slice x n k] zL [.int .i64 18, .string ⟨#[]⟩, .int .u64 a2, .int .i64 a3, .bool a4, .int .i64 0, .int .i64 0, .int .i64 0, .int .i64 0]) := Hd ((((HS0.out.setO 2 (.int .u64 a2)).setO 3 (.int .i64 a3)).setO 4 (.bool a4)).call (Below.refl _ _).drew)
   go_region
   go_upto_region 40 with fail
   clear cn co fo HS0
   generalize (((W1.setCell ⟨w.heap.size + 1 + 1, 2, none⟩ (.int .u64 a2)).setCell ⟨w.heap.size + 1 + 1, 3, none⟩ (.int .i64 a3)).setCell ⟨w.heap.size + 1 + 1, 4, none⟩ (.bool a4)).drew = W2 at *
   have hD : Below W2.heap.size W2 W2.drew := (Below.refl _ _).drew
   have HS2 := Hd (HS1.out.call hD)
   clear HS1
   have cn := HS2.out.n.cell
   have co := HS2.out.o.cell
   have cr := HS2.out.r.cell
   have fr := HS2.out.r.frozen
   unfold zL at cr
   first
   | (go_region_with (first | (go_at_call 83; refine (HCI.out _ (by first | exact HS6.out.bel | exact HS2.out.bel)).mono ?_; rintro e w6 ⟨rfl, hb6⟩; (first | have HS6 := Hd (HS6.out.call hb6) | have HS6 := Hd (HS2.out.call hb6)); have cn6 := HS6.out.n.cell; have co6 := HS6.out.o.cell; have cr6 := HS6.out.r.cell; have fr6 := HS6.out.r.frozen; unfold zL at cr6)))
   | fail
   all_goals
    have HSE : Hid (SD w _ [.int .i64 18, .string (str a1), .int .u64 a2, .int .i64 a3, .bool a4, .int .i64 a5, .int .i64 a6, .int .i64 a7, .int .i64 a8, .int .i64 a9, .slice x n k] zL [.int .i64 18, .string ⟨#[]⟩, .int .u64 a2, .int .i64 a3, .bool a4, .int .i64 0, .int .i64 0, .int .i64 0, .int .i64 0]) := HS6
    go_wp2
    refine bodyPost_ret ((HSE.out.r.stor9 rfl (.int .i64 18) (.string ⟨#[]⟩) (.int .u64 a2) (.int .i64 a3) (.bool a4) (.int .i64 0) (.int .i64 0) (.int .i64 0) (.int .i64 0)).res Tryz.results53 Tryz.underlying71 rfl infoLb9 _ rfl) rfl ?_
    exact ⟨by rw [HOW.out, HOK.out]; rfl, below_stor9 HSE.out.bel (by omega) _ _ _ _ _ _ _ _ _⟩
end Go.Proofs.YthdbaligapdbeaaGreatDoor
/- The code's said, kind by kind (K21). -/
namespace Go.Proofs.YthdbaligapdbeaaGreatDoor
open Go Go.RowKit
set_option linter.unusedVariables false

set_option maxHeartbeats 40000000 in
set_option maxRecDepth 100000 in
theorem sd_21 (l : Lab) (hk : l.kind = 21) (hnm : l.name.length ≤ 281474976710656) : saidOK l := by
 intro x n k w V L
 obtain ⟨a0, a1, a2, a3, a4, a5, a6, a7, a8, a9⟩ := l
 dsimp only at *
 subst hk
 have HS0 : Hid (SD w (((w.alloc (.cells #[.int .i64 21, .string (str a1), .int .u64 a2, .int .i64 a3, .bool a4, .int .i64 a5, .int .i64 a6, .int .i64 a7, .int .i64 a8, .int .i64 a9, .slice x n k] 27)).alloc (.cells #[.int .i64 0, .string ⟨#[]⟩, .int .u64 0, .int .i64 0, .bool false, .int .i64 0, .int .i64 0, .int .i64 0, .int .i64 0] 71)).alloc (.cells #[.int .i64 21, .string ⟨#[]⟩, .int .u64 0, .int .i64 0, .bool false, .int .i64 0, .int .i64 0, .int .i64 0, .int .i64 0] 71)) [.int .i64 21, .string (str a1), .int .u64 a2, .int .i64 a3, .bool a4, .int .i64 a5, .int .i64 a6, .int .i64 a7, .int .i64 a8, .int .i64 a9, .slice x n k] zL [.int .i64 21, .string ⟨#[]⟩, .int .u64 0, .int .i64 0, .bool false, .int .i64 0, .int .i64 0, .int .i64 0, .int .i64 0]) := by
  have b1 := Blk.alloc w 27 [.int .i64 21, .string (str a1), .int .u64 a2, .int .i64 a3, .bool a4, .int .i64 a5, .int .i64 a6, .int .i64 a7, .int .i64 a8, .int .i64 a9, .slice x n k]
  have z1 : (w.alloc (.cells #[.int .i64 21, .string (str a1), .int .u64 a2, .int .i64 a3, .bool a4, .int .i64 a5, .int .i64 a6, .int .i64 a7, .int .i64 a8, .int .i64 a9, .slice x n k] 27)).heap.size = w.heap.size + 1 := by simp
  have b2 := Blk.alloc (w.alloc (.cells #[.int .i64 21, .string (str a1), .int .u64 a2, .int .i64 a3, .bool a4, .int .i64 a5, .int .i64 a6, .int .i64 a7, .int .i64 a8, .int .i64 a9, .slice x n k] 27)) 71 zL
  have z2 : ((w.alloc (.cells #[.int .i64 21, .string (str a1), .int .u64 a2, .int .i64 a3, .bool a4, .int .i64 a5, .int .i64 a6, .int .i64 a7, .int .i64 a8, .int .i64 a9, .slice x n k] 27)).alloc (.cells #[.int .i64 0, .string ⟨#[]⟩, .int .u64 0, .int .i64 0, .bool false, .int .i64 0, .int .i64 0, .int .i64 0, .int .i64 0] 71)).heap.size = w.heap.size + 1 + 1 := by simp
  have b3 := Blk.alloc ((w.alloc (.cells #[.int .i64 21, .string (str a1), .int .u64 a2, .int .i64 a3, .bool a4, .int .i64 a5, .int .i64 a6, .int .i64 a7, .int .i64 a8, .int .i64 a9, .slice x n k] 27)).alloc (.cells #[.int .i64 0, .string ⟨#[]⟩, .int .u64 0, .int .i64 0, .bool false, .int .i64 0, .int .i64 0, .int .i64 0, .int .i64 0] 71)) 71 [.int .i64 21, .string ⟨#[]⟩, .int .u64 0, .int .i64 0, .bool false, .int .i64 0, .int .i64 0, .int .i64 0, .int .i64 0]
  rw [z1] at b2
  rw [z2] at b3
  exact Hd ⟨(b1.alloc_other _).alloc_other _, b2.alloc_other _, b3, (((Below.refl w.heap.size w).alloc (Nat.le_refl _) _).alloc (by simp) _).alloc (by simp; omega) _⟩
 have HOW : Hid (ownB ⟨21, a1, a2, a3, a4, a5, a6, a7, a8, a9⟩ = ⟨21, [], 0, 0, false, a5, 0, 0, 0, 0⟩) := Hd (by simp [ownB, kA, kB, kC, kD, lab0])
 have HOK : Hid (okB ⟨21, a1, a2, a3, a4, a5, a6, a7, a8, a9⟩ = (decide (19 ≤ a5) && decide (a5 ≤ 21))) := Hd (by simp [okB, kA, kB, kC, kD])
 have HC := Hd fun W (hb : Below w.heap.size w W) => textOf_any 10 (by omega) a5 W (L.belowK hb)
 have hO : (str (opText 10 a5)).toList.isEmpty = !(decide (19 ≤ a5) && decide (a5 ≤ 21)) := by
  rw [str_toList, Bool.eq_iff_iff, List.isEmpty_iff]
  have h := opText_10 a5
  by_cases he : opText 10 a5 = []
  ·have h2 : ¬ (19 ≤ a5 ∧ a5 ≤ 21) := fun hh => (h.2 hh) he
   simp [he]; omega
  ·have h2 := h.1 he
   simp [he, h2]
 generalize (decide (19 ≤ a5) && decide (a5 ≤ 21)) = bO at *
 generalize str (opText 10 a5) = S at *
 clear V L hnm
 go_enter Tryz.func53, Tryz.ntmps53
 go_upto_region 42 with fail
 generalize (((w.alloc (.cells #[.int .i64 21, .string (str a1), .int .u64 a2, .int .i64 a3, .bool a4, .int .i64 a5, .int .i64 a6, .int .i64 a7, .int .i64 a8, .int .i64 a9, .slice x n k] 27)).alloc (.cells #[.int .i64 0, .string ⟨#[]⟩, .int .u64 0, .int .i64 0, .bool false, .int .i64 0, .int .i64 0, .int .i64 0, .int .i64 0] 71)).alloc (.cells #[.int .i64 21, .string ⟨#[]⟩, .int .u64 0, .int .i64 0, .bool false, .int .i64 0, .int .i64 0, .int .i64 0, .int .i64 0] 71)) = W1 at *
 have cn := HS0.out.n.cell
 have co := HS0.out.o.cell
 have fo := HS0.out.o.frozen
 have HS1 : Hid (SD w (W1.setCell ⟨w.heap.size + 1 + 1, 5, none⟩ (.int .i64 a5)) [.int .i64 21, .string (str a1), .int .u64 a2, .int .i64 a3, .bool a4, .int .i64 a5, .int .i64 a6, .int .i64 a7, .int .i64 a8, .int .i64 a9, .slice x n k] zL [.int .i64 21, .string ⟨#[]⟩, .int .u64 0, .int .i64 0, .bool false, .int .i64 a5, .int .i64 0, .int .i64 0, .int .i64 0]) := Hd (HS0.out.setO 5 (.int .i64 a5))
 go_upto_region 43 with fail
 clear cn co fo HS0
 generalize (W1.setCell ⟨w.heap.size + 1 + 1, 5, none⟩ (.int .i64 a5)) = W2 at *
 have hD : Below W2.heap.size W2 W2.drew := (Below.refl _ _).drew
 have HS2 := Hd (HS1.out.call hD)
 have cn := HS2.out.n.cell
 have co := HS2.out.o.cell
 have cr := HS2.out.r.cell
 have fr := HS2.out.r.frozen
 unfold zL at cr
 first
 | (go_region_with (go_at_call 88; refine (HC.out _ (by first | exact HS2.out.bel | assumption)).mono ?_; rintro e w6 ⟨rfl, hb6⟩; have HS6 := Hd (HS2.out.call hb6); have cn6 := HS6.out.n.cell; have co6 := HS6.out.o.cell; have cr6 := HS6.out.r.cell; have fr6 := HS6.out.r.frozen; unfold zL at cr6))
 | fail
 all_goals
  go_wp2
  refine bodyPost_ret ((HS6.out.r.stor9 rfl (.int .i64 21) (.string ⟨#[]⟩) (.int .u64 0) (.int .i64 0) (.bool false) (.int .i64 a5) (.int .i64 0) (.int .i64 0) (.int .i64 0)).res Tryz.results53 Tryz.underlying71 rfl infoLb9 _ rfl) rfl ?_
  exact ⟨by rw [HOW.out, HOK.out]; rfl, below_stor9 HS6.out.bel (by omega) _ _ _ _ _ _ _ _ _⟩
end Go.Proofs.YthdbaligapdbeaaGreatDoor
/- The code's said, kind by kind (K22). -/
namespace Go.Proofs.YthdbaligapdbeaaGreatDoor
open Go Go.RowKit
set_option linter.unusedVariables false

set_option maxHeartbeats 40000000 in
set_option maxRecDepth 100000 in
theorem sd_22 (l : Lab) (hk : l.kind = 22) (hnm : l.name.length ≤ 281474976710656) : saidOK l := by
 intro x n k w V L
 obtain ⟨a0, a1, a2, a3, a4, a5, a6, a7, a8, a9⟩ := l
 dsimp only at *
 subst hk
 have HS0 : Hid (SD w (((w.alloc (.cells #[.int .i64 22, .string (str a1), .int .u64 a2, .int .i64 a3, .bool a4, .int .i64 a5, .int .i64 a6, .int .i64 a7, .int .i64 a8, .int .i64 a9, .slice x n k] 27)).alloc (.cells #[.int .i64 0, .string ⟨#[]⟩, .int .u64 0, .int .i64 0, .bool false, .int .i64 0, .int .i64 0, .int .i64 0, .int .i64 0] 71)).alloc (.cells #[.int .i64 22, .string ⟨#[]⟩, .int .u64 0, .int .i64 0, .bool false, .int .i64 0, .int .i64 0, .int .i64 0, .int .i64 0] 71)) [.int .i64 22, .string (str a1), .int .u64 a2, .int .i64 a3, .bool a4, .int .i64 a5, .int .i64 a6, .int .i64 a7, .int .i64 a8, .int .i64 a9, .slice x n k] zL [.int .i64 22, .string ⟨#[]⟩, .int .u64 0, .int .i64 0, .bool false, .int .i64 0, .int .i64 0, .int .i64 0, .int .i64 0]) := by
  have b1 := Blk.alloc w 27 [.int .i64 22, .string (str a1), .int .u64 a2, .int .i64 a3, .bool a4, .int .i64 a5, .int .i64 a6, .int .i64 a7, .int .i64 a8, .int .i64 a9, .slice x n k]
  have z1 : (w.alloc (.cells #[.int .i64 22, .string (str a1), .int .u64 a2, .int .i64 a3, .bool a4, .int .i64 a5, .int .i64 a6, .int .i64 a7, .int .i64 a8, .int .i64 a9, .slice x n k] 27)).heap.size = w.heap.size + 1 := by simp
  have b2 := Blk.alloc (w.alloc (.cells #[.int .i64 22, .string (str a1), .int .u64 a2, .int .i64 a3, .bool a4, .int .i64 a5, .int .i64 a6, .int .i64 a7, .int .i64 a8, .int .i64 a9, .slice x n k] 27)) 71 zL
  have z2 : ((w.alloc (.cells #[.int .i64 22, .string (str a1), .int .u64 a2, .int .i64 a3, .bool a4, .int .i64 a5, .int .i64 a6, .int .i64 a7, .int .i64 a8, .int .i64 a9, .slice x n k] 27)).alloc (.cells #[.int .i64 0, .string ⟨#[]⟩, .int .u64 0, .int .i64 0, .bool false, .int .i64 0, .int .i64 0, .int .i64 0, .int .i64 0] 71)).heap.size = w.heap.size + 1 + 1 := by simp
  have b3 := Blk.alloc ((w.alloc (.cells #[.int .i64 22, .string (str a1), .int .u64 a2, .int .i64 a3, .bool a4, .int .i64 a5, .int .i64 a6, .int .i64 a7, .int .i64 a8, .int .i64 a9, .slice x n k] 27)).alloc (.cells #[.int .i64 0, .string ⟨#[]⟩, .int .u64 0, .int .i64 0, .bool false, .int .i64 0, .int .i64 0, .int .i64 0, .int .i64 0] 71)) 71 [.int .i64 22, .string ⟨#[]⟩, .int .u64 0, .int .i64 0, .bool false, .int .i64 0, .int .i64 0, .int .i64 0, .int .i64 0]
  rw [z1] at b2
  rw [z2] at b3
  exact Hd ⟨(b1.alloc_other _).alloc_other _, b2.alloc_other _, b3, (((Below.refl w.heap.size w).alloc (Nat.le_refl _) _).alloc (by simp) _).alloc (by simp; omega) _⟩
 have HOW : Hid (ownB ⟨22, a1, a2, a3, a4, a5, a6, a7, a8, a9⟩ = ⟨22, [], 0, 0, false, a5, 0, 0, 0, 0⟩) := Hd (by simp [ownB, kA, kB, kC, kD, lab0])
 have HOK : Hid (okB ⟨22, a1, a2, a3, a4, a5, a6, a7, a8, a9⟩ = (decide (1 ≤ a5) && decide (a5 ≤ 18))) := Hd (by simp [okB, kA, kB, kC, kD])
 have HC := Hd fun W (hb : Below w.heap.size w W) => binLevel_any a5 W (L.belowK hb)
 clear V L hnm
 go_enter Tryz.func53, Tryz.ntmps53
 go_upto_region 45 with fail
 generalize (((w.alloc (.cells #[.int .i64 22, .string (str a1), .int .u64 a2, .int .i64 a3, .bool a4, .int .i64 a5, .int .i64 a6, .int .i64 a7, .int .i64 a8, .int .i64 a9, .slice x n k] 27)).alloc (.cells #[.int .i64 0, .string ⟨#[]⟩, .int .u64 0, .int .i64 0, .bool false, .int .i64 0, .int .i64 0, .int .i64 0, .int .i64 0] 71)).alloc (.cells #[.int .i64 22, .string ⟨#[]⟩, .int .u64 0, .int .i64 0, .bool false, .int .i64 0, .int .i64 0, .int .i64 0, .int .i64 0] 71)) = W1 at *
 have cn := HS0.out.n.cell
 have co := HS0.out.o.cell
 have fo := HS0.out.o.frozen
 have HS1 : Hid (SD w (W1.setCell ⟨w.heap.size + 1 + 1, 5, none⟩ (.int .i64 a5)) [.int .i64 22, .string (str a1), .int .u64 a2, .int .i64 a3, .bool a4, .int .i64 a5, .int .i64 a6, .int .i64 a7, .int .i64 a8, .int .i64 a9, .slice x n k] zL [.int .i64 22, .string ⟨#[]⟩, .int .u64 0, .int .i64 0, .bool false, .int .i64 a5, .int .i64 0, .int .i64 0, .int .i64 0]) := Hd (HS0.out.setO 5 (.int .i64 a5))
 go_upto_region 46 with fail
 clear cn co fo HS0
 generalize (W1.setCell ⟨w.heap.size + 1 + 1, 5, none⟩ (.int .i64 a5)) = W2 at *
 have hD : Below W2.heap.size W2 W2.drew := (Below.refl _ _).drew
 have HS2 := Hd (HS1.out.call hD)
 have cn := HS2.out.n.cell
 have co := HS2.out.o.cell
 have cr := HS2.out.r.cell
 have fr := HS2.out.r.frozen
 unfold zL at cr
 first
 | (go_region_with (go_at_call 89; refine (HC.out _ (by first | exact HS2.out.bel | assumption)).mono ?_; rintro e w6 ⟨⟨r6, rfl, hr6, hq6⟩, hb6⟩; have HS6 := Hd (HS2.out.call hb6); have HQ6 := Hd ((decide_eq_decide.2 (by omega) : decide ((r6 : Int) < 9) = decide (r6 < 9)).trans hq6); clear hq6; have cn6 := HS6.out.n.cell; have co6 := HS6.out.o.cell; have cr6 := HS6.out.r.cell; have fr6 := HS6.out.r.frozen; unfold zL at cr6))
 | fail
 all_goals
  go_wp2
  refine bodyPost_ret ((HS6.out.r.stor9 rfl (.int .i64 22) (.string ⟨#[]⟩) (.int .u64 0) (.int .i64 0) (.bool false) (.int .i64 a5) (.int .i64 0) (.int .i64 0) (.int .i64 0)).res Tryz.results53 Tryz.underlying71 rfl infoLb9 _ rfl) rfl ?_
  exact ⟨by rw [HOW.out, HOK.out, ← HQ6.out]; rfl, below_stor9 HS6.out.bel (by omega) _ _ _ _ _ _ _ _ _⟩
end Go.Proofs.YthdbaligapdbeaaGreatDoor
/- The code's said, kind 5: the arms joined. -/
namespace Go.Proofs.YthdbaligapdbeaaGreatDoor
open Go Go.RowKit
set_option linter.unusedVariables false

theorem sd_5 (l : Lab) (hk : l.kind = 5) (hnm : l.name.length ≤ 281474976710656) : saidOK l := by
 cases hN : nameB l.name
 ·exact sd_5a l hk hnm hN
 cases hT : typB l.wd
 ·exact sd_5b l hk hnm hN hT
 cases hm : decide (l.num ≤ 1048576)
 ·exact sd_5c l hk hnm hN hT hm
 cases hD : divB l.op l.fac
 ·exact sd_5d l hk hnm hN hT hm hD
 exact sd_5e l hk hnm hN hT hm hD
end Go.Proofs.YthdbaligapdbeaaGreatDoor
/- The code's said, kind 14: the arms joined. -/
namespace Go.Proofs.YthdbaligapdbeaaGreatDoor
open Go Go.RowKit
set_option linter.unusedVariables false

theorem sd_14 (l : Lab) (hk : l.kind = 14) (hnm : l.name.length ≤ 281474976710656) : saidOK l := by
 cases hN : nameB l.name
 ·exact sd_14a l hk hnm hN
 cases hT : typB l.wd
 ·exact sd_14b l hk hnm hN hT
 cases hP : amtB l.pip
 ·exact sd_14c l hk hnm hN hT hP
 cases hU : amtB l.unr
 ·exact sd_14d l hk hnm hN hT hP hU
 exact sd_14e l hk hnm hN hT hP hU
end Go.Proofs.YthdbaligapdbeaaGreatDoor
/- The code's said: contract. -/
namespace Go.Proofs.YthdbaligapdbeaaGreatDoor
open Go Go.RowKit
set_option linter.unusedVariables false

theorem said_any (l : Lab) (hnm : l.name.length ≤ 281474976710656) : saidOK l := by
 by_cases hA : l.kind = 1 ∨ l.kind = 8 ∨ l.kind = 13 ∨ l.kind = 17 ∨ l.kind = 23
 ·exact sd_A l hA hnm
 by_cases hB : l.kind = 2 ∨ l.kind = 4 ∨ l.kind = 6 ∨ l.kind = 7 ∨ l.kind = 9
 ·exact sd_B l hB hnm
 by_cases hC : l.kind = 3 ∨ l.kind = 10
 ·exact sd_C l hC hnm
 by_cases hD : l.kind = 11 ∨ l.kind = 12 ∨ l.kind = 16 ∨ l.kind = 19 ∨ l.kind = 20 ∨ l.kind = 25 ∨ l.kind = 26
 ·exact sd_D l hD hnm
 by_cases h5 : l.kind = 5
 ·exact sd_5 l h5 hnm
 by_cases h14 : l.kind = 14
 ·exact sd_14 l h14 hnm
 by_cases h15 : l.kind = 15
 ·exact sd_15 l h15 hnm
 by_cases h18 : l.kind = 18
 ·exact sd_18 l h18 hnm
 by_cases h21 : l.kind = 21
 ·exact sd_21 l h21 hnm
 by_cases h22 : l.kind = 22
 ·exact sd_22 l h22 hnm
 by_cases h24 : l.kind = 24
 ·exact sd_24 l h24 hnm
 exact sd_no l (by refine ⟨?_, ?_, ?_, ?_, ?_, ?_, ?_, ?_, ?_, ?_, ?_, ?_, ?_, ?_, ?_, ?_, ?_, ?_, ?_, ?_, ?_, ?_, ?_, ?_, ?_, ?_⟩ <;> omega) hnm
end Go.Proofs.YthdbaligapdbeaaGreatDoor
