/- The code's said, kind by kind (GD). -/
import Derived.Test.YthdbaligapdbeaaGreatDoorMgPsVd
import Derived.Deep.Cut
import Derived.Deep.CutBlock
namespace Go.Proofs.YthdbaligapdbeaaGreatDoor
open Go Go.RowKit
set_option linter.unusedVariables false

set_option maxHeartbeats 40000000 in
set_option maxRecDepth 100000 in
theorem sd_D (l : Lab) (hk : l.kind = 11 ∨ l.kind = 12 ∨ l.kind = 16 ∨ l.kind = 19 ∨ l.kind = 20 ∨ l.kind = 25 ∨ l.kind = 26) (hnm : l.name.length ≤ 281474976710656) : saidOK l := by
 intro x n k w V L
 obtain ⟨a0, a1, a2, a3, a4, a5, a6, a7, a8, a9⟩ := l
 dsimp only at *
 have p1 : (a0 == 1) = false := by rw [beq_eq_false_iff_ne]; omega
 have p8 : (a0 == 8) = false := by rw [beq_eq_false_iff_ne]; omega
 have p13 : (a0 == 13) = false := by rw [beq_eq_false_iff_ne]; omega
 have p17 : (a0 == 17) = false := by rw [beq_eq_false_iff_ne]; omega
 have p23 : (a0 == 23) = false := by rw [beq_eq_false_iff_ne]; omega
 have p2 : (a0 == 2) = false := by rw [beq_eq_false_iff_ne]; omega
 have p4 : (a0 == 4) = false := by rw [beq_eq_false_iff_ne]; omega
 have p6 : (a0 == 6) = false := by rw [beq_eq_false_iff_ne]; omega
 have p7 : (a0 == 7) = false := by rw [beq_eq_false_iff_ne]; omega
 have p9 : (a0 == 9) = false := by rw [beq_eq_false_iff_ne]; omega
 have p3 : (a0 == 3) = false := by rw [beq_eq_false_iff_ne]; omega
 have p10 : (a0 == 10) = false := by rw [beq_eq_false_iff_ne]; omega
 have p5 : (a0 == 5) = false := by rw [beq_eq_false_iff_ne]; omega
 have HK := Hd hk
 have HS0 : Hid (SD w (((w.alloc (.cells #[.int .i64 a0, .string (str a1), .int .u64 a2, .int .i64 a3, .bool a4, .int .i64 a5, .int .i64 a6, .int .i64 a7, .int .i64 a8, .int .i64 a9, .slice x n k] 27)).alloc (.cells #[.int .i64 0, .string ⟨#[]⟩, .int .u64 0, .int .i64 0, .bool false, .int .i64 0, .int .i64 0, .int .i64 0, .int .i64 0] 71)).alloc (.cells #[.int .i64 a0, .string ⟨#[]⟩, .int .u64 0, .int .i64 0, .bool false, .int .i64 0, .int .i64 0, .int .i64 0, .int .i64 0] 71)) [.int .i64 a0, .string (str a1), .int .u64 a2, .int .i64 a3, .bool a4, .int .i64 a5, .int .i64 a6, .int .i64 a7, .int .i64 a8, .int .i64 a9, .slice x n k] zL [.int .i64 a0, .string ⟨#[]⟩, .int .u64 0, .int .i64 0, .bool false, .int .i64 0, .int .i64 0, .int .i64 0, .int .i64 0]) := by
  have b1 := Blk.alloc w 27 [.int .i64 a0, .string (str a1), .int .u64 a2, .int .i64 a3, .bool a4, .int .i64 a5, .int .i64 a6, .int .i64 a7, .int .i64 a8, .int .i64 a9, .slice x n k]
  have z1 : (w.alloc (.cells #[.int .i64 a0, .string (str a1), .int .u64 a2, .int .i64 a3, .bool a4, .int .i64 a5, .int .i64 a6, .int .i64 a7, .int .i64 a8, .int .i64 a9, .slice x n k] 27)).heap.size = w.heap.size + 1 := by simp
  have b2 := Blk.alloc (w.alloc (.cells #[.int .i64 a0, .string (str a1), .int .u64 a2, .int .i64 a3, .bool a4, .int .i64 a5, .int .i64 a6, .int .i64 a7, .int .i64 a8, .int .i64 a9, .slice x n k] 27)) 71 zL
  have z2 : ((w.alloc (.cells #[.int .i64 a0, .string (str a1), .int .u64 a2, .int .i64 a3, .bool a4, .int .i64 a5, .int .i64 a6, .int .i64 a7, .int .i64 a8, .int .i64 a9, .slice x n k] 27)).alloc (.cells #[.int .i64 0, .string ⟨#[]⟩, .int .u64 0, .int .i64 0, .bool false, .int .i64 0, .int .i64 0, .int .i64 0, .int .i64 0] 71)).heap.size = w.heap.size + 1 + 1 := by simp
  have b3 := Blk.alloc ((w.alloc (.cells #[.int .i64 a0, .string (str a1), .int .u64 a2, .int .i64 a3, .bool a4, .int .i64 a5, .int .i64 a6, .int .i64 a7, .int .i64 a8, .int .i64 a9, .slice x n k] 27)).alloc (.cells #[.int .i64 0, .string ⟨#[]⟩, .int .u64 0, .int .i64 0, .bool false, .int .i64 0, .int .i64 0, .int .i64 0, .int .i64 0] 71)) 71 [.int .i64 a0, .string ⟨#[]⟩, .int .u64 0, .int .i64 0, .bool false, .int .i64 0, .int .i64 0, .int .i64 0, .int .i64 0]
  rw [z1] at b2
  rw [z2] at b3
  exact Hd ⟨(b1.alloc_other _).alloc_other _, b2.alloc_other _, b3, (((Below.refl w.heap.size w).alloc (Nat.le_refl _) _).alloc (by simp) _).alloc (by simp; omega) _⟩
 have HOW : Hid (ownB ⟨a0, a1, a2, a3, a4, a5, a6, a7, a8, a9⟩ = ⟨a0, a1, 0, 0, false, 0, 0, 0, 0, 0⟩) := Hd (by rcases hk with rfl | rfl | rfl | rfl | rfl | rfl | rfl <;> simp [ownB, kA, kB, kC, kD, lab0])
 have HOK : Hid (okB ⟨a0, a1, a2, a3, a4, a5, a6, a7, a8, a9⟩ = nameB a1) := Hd (by rcases hk with rfl | rfl | rfl | rfl | rfl | rfl | rfl <;> simp [okB, kA, kB, kC, kD])
 have HC := Hd fun W (hb : Below w.heap.size w W) => isName_any a1 hnm W (V.below hb)
 clear V L hnm hk
 go_enter Tryz.func53, Tryz.ntmps53
 go_upto_region 23 with fail
 generalize (((w.alloc (.cells #[.int .i64 a0, .string (str a1), .int .u64 a2, .int .i64 a3, .bool a4, .int .i64 a5, .int .i64 a6, .int .i64 a7, .int .i64 a8, .int .i64 a9, .slice x n k] 27)).alloc (.cells #[.int .i64 0, .string ⟨#[]⟩, .int .u64 0, .int .i64 0, .bool false, .int .i64 0, .int .i64 0, .int .i64 0, .int .i64 0] 71)).alloc (.cells #[.int .i64 a0, .string ⟨#[]⟩, .int .u64 0, .int .i64 0, .bool false, .int .i64 0, .int .i64 0, .int .i64 0, .int .i64 0] 71)) = W1 at *
 go_cut [100] from 101 to 107 (fun s100 wx => s100 = .bool (a0 == 11) ∧ Hid (wx = W1))
 case first =>
  have hk := HK.out
  rcases hk with rfl | rfl | rfl | rfl | rfl | rfl | rfl
  all_goals
   go_wp2
   go_meet
   exact ⟨rfl, Hd rfl⟩
 obtain ⟨hs, hwc⟩ := hcut
 subst hs
 have hw2 := hwc.out
 subst hw2
 clear hwc
 go_upto_if 100 with fail
 go_cut [100] from 101 to 107 (fun s100 wx => s100 = .bool true ∧ Hid (wx = wc))
 case first =>
  have hk := HK.out
  rcases hk with rfl | rfl | rfl | rfl | rfl | rfl | rfl
  all_goals
   go_wp2
   go_meet
   exact ⟨rfl, Hd rfl⟩
 obtain ⟨hs, hwc⟩ := hcut
 subst hs
 have hw2 := hwc.out
 subst hw2
 clear hwc
 go_upto_region 30 with fail
 obtain ⟨W1, hW1⟩ : ∃ y : World, y = wc := ⟨_, rfl⟩
 subst hW1
 have cn := HS0.out.n.cell
 have co := HS0.out.o.cell
 have fo := HS0.out.o.frozen
 have HS1 : Hid (SD w (W1.setCell ⟨w.heap.size + 1 + 1, 1, none⟩ (.string (str a1))) [.int .i64 a0, .string (str a1), .int .u64 a2, .int .i64 a3, .bool a4, .int .i64 a5, .int .i64 a6, .int .i64 a7, .int .i64 a8, .int .i64 a9, .slice x n k] zL [.int .i64 a0, .string (str a1), .int .u64 0, .int .i64 0, .bool false, .int .i64 0, .int .i64 0, .int .i64 0, .int .i64 0]) := Hd (HS0.out.setO 1 (.string (str a1)))
 go_upto_region 31 with fail
 clear cn co fo HS0
 generalize (W1.setCell ⟨w.heap.size + 1 + 1, 1, none⟩ (.string (str a1))) = W2 at *
 have hD : Below W2.heap.size W2 W2.drew := (Below.refl _ _).drew
 have HS2 := Hd (HS1.out.call hD)
 have cn := HS2.out.n.cell
 have co := HS2.out.o.cell
 have cr := HS2.out.r.cell
 have fr := HS2.out.r.frozen
 unfold zL at cr
 first
 | (go_region_with (go_at_call 84; refine (HC.out _ (by first | exact HS2.out.bel | assumption)).mono ?_; rintro e w6 ⟨rfl, hb6⟩; have HS6 := Hd (HS2.out.call hb6); have cn6 := HS6.out.n.cell; have co6 := HS6.out.o.cell; have cr6 := HS6.out.r.cell; have fr6 := HS6.out.r.frozen; unfold zL at cr6))
 | fail
 all_goals
  go_wp2
  refine bodyPost_ret ((HS6.out.r.stor9 rfl (.int .i64 a0) (.string (str a1)) (.int .u64 0) (.int .i64 0) (.bool false) (.int .i64 0) (.int .i64 0) (.int .i64 0) (.int .i64 0)).res Tryz.results53 Tryz.underlying71 rfl infoLb9 _ rfl) rfl ?_
  exact ⟨by rw [HOW.out, HOK.out]; rfl, below_stor9 HS6.out.bel (by omega) _ _ _ _ _ _ _ _ _⟩
end Go.Proofs.YthdbaligapdbeaaGreatDoor
/- The code's said, kind by kind (7). -/
namespace Go.Proofs.YthdbaligapdbeaaGreatDoor
open Go Go.RowKit
set_option linter.unusedVariables false

set_option maxHeartbeats 40000000 in
set_option maxRecDepth 100000 in
theorem sd_no (l : Lab) (hk : ¬ l.kind = 1 ∧ ¬ l.kind = 8 ∧ ¬ l.kind = 13 ∧ ¬ l.kind = 17 ∧ ¬ l.kind = 23 ∧ ¬ l.kind = 2 ∧ ¬ l.kind = 4 ∧ ¬ l.kind = 6 ∧ ¬ l.kind = 7 ∧ ¬ l.kind = 9 ∧ ¬ l.kind = 3 ∧ ¬ l.kind = 10 ∧ ¬ l.kind = 5 ∧ ¬ l.kind = 11 ∧ ¬ l.kind = 12 ∧ ¬ l.kind = 16 ∧ ¬ l.kind = 19 ∧ ¬ l.kind = 20 ∧ ¬ l.kind = 25 ∧ ¬ l.kind = 26 ∧ ¬ l.kind = 14 ∧ ¬ l.kind = 15 ∧ ¬ l.kind = 18 ∧ ¬ l.kind = 21 ∧ ¬ l.kind = 22 ∧ ¬ l.kind = 24) (hnm : l.name.length ≤ 281474976710656) : saidOK l := by
 intro x n k w V L
 obtain ⟨a0, a1, a2, a3, a4, a5, a6, a7, a8, a9⟩ := l
 dsimp only at *
 obtain ⟨g1, g8, g13, g17, g23, g2, g4, g6, g7, g9, g3, g10, g5, g11, g12, g16, g19, g20, g25, g26, g14, g15, g18, g21, g22, g24⟩ := hk
 have HS0 : Hid (SD w (((w.alloc (.cells #[.int .i64 a0, .string (str a1), .int .u64 a2, .int .i64 a3, .bool a4, .int .i64 a5, .int .i64 a6, .int .i64 a7, .int .i64 a8, .int .i64 a9, .slice x n k] 27)).alloc (.cells #[.int .i64 0, .string ⟨#[]⟩, .int .u64 0, .int .i64 0, .bool false, .int .i64 0, .int .i64 0, .int .i64 0, .int .i64 0] 71)).alloc (.cells #[.int .i64 a0, .string ⟨#[]⟩, .int .u64 0, .int .i64 0, .bool false, .int .i64 0, .int .i64 0, .int .i64 0, .int .i64 0] 71)) [.int .i64 a0, .string (str a1), .int .u64 a2, .int .i64 a3, .bool a4, .int .i64 a5, .int .i64 a6, .int .i64 a7, .int .i64 a8, .int .i64 a9, .slice x n k] zL [.int .i64 a0, .string ⟨#[]⟩, .int .u64 0, .int .i64 0, .bool false, .int .i64 0, .int .i64 0, .int .i64 0, .int .i64 0]) := by
  have b1 := Blk.alloc w 27 [.int .i64 a0, .string (str a1), .int .u64 a2, .int .i64 a3, .bool a4, .int .i64 a5, .int .i64 a6, .int .i64 a7, .int .i64 a8, .int .i64 a9, .slice x n k]
  have z1 : (w.alloc (.cells #[.int .i64 a0, .string (str a1), .int .u64 a2, .int .i64 a3, .bool a4, .int .i64 a5, .int .i64 a6, .int .i64 a7, .int .i64 a8, .int .i64 a9, .slice x n k] 27)).heap.size = w.heap.size + 1 := by simp
  have b2 := Blk.alloc (w.alloc (.cells #[.int .i64 a0, .string (str a1), .int .u64 a2, .int .i64 a3, .bool a4, .int .i64 a5, .int .i64 a6, .int .i64 a7, .int .i64 a8, .int .i64 a9, .slice x n k] 27)) 71 zL
  have z2 : ((w.alloc (.cells #[.int .i64 a0, .string (str a1), .int .u64 a2, .int .i64 a3, .bool a4, .int .i64 a5, .int .i64 a6, .int .i64 a7, .int .i64 a8, .int .i64 a9, .slice x n k] 27)).alloc (.cells #[.int .i64 0, .string ⟨#[]⟩, .int .u64 0, .int .i64 0, .bool false, .int .i64 0, .int .i64 0, .int .i64 0, .int .i64 0] 71)).heap.size = w.heap.size + 1 + 1 := by simp
  have b3 := Blk.alloc ((w.alloc (.cells #[.int .i64 a0, .string (str a1), .int .u64 a2, .int .i64 a3, .bool a4, .int .i64 a5, .int .i64 a6, .int .i64 a7, .int .i64 a8, .int .i64 a9, .slice x n k] 27)).alloc (.cells #[.int .i64 0, .string ⟨#[]⟩, .int .u64 0, .int .i64 0, .bool false, .int .i64 0, .int .i64 0, .int .i64 0, .int .i64 0] 71)) 71 [.int .i64 a0, .string ⟨#[]⟩, .int .u64 0, .int .i64 0, .bool false, .int .i64 0, .int .i64 0, .int .i64 0, .int .i64 0]
  rw [z1] at b2
  rw [z2] at b3
  exact Hd ⟨(b1.alloc_other _).alloc_other _, b2.alloc_other _, b3, (((Below.refl w.heap.size w).alloc (Nat.le_refl _) _).alloc (by simp) _).alloc (by simp; omega) _⟩
 have HOW : Hid (ownB ⟨a0, a1, a2, a3, a4, a5, a6, a7, a8, a9⟩ = lab0) := Hd (by simp [ownB, kA, kB, kC, kD, g1, g8, g13, g17, g23, g2, g4, g6, g7, g9, g3, g10, g5, g11, g12, g16, g19, g20, g25, g26, g14, g15, g18, g21, g22, g24])
 have HOK : Hid (okB ⟨a0, a1, a2, a3, a4, a5, a6, a7, a8, a9⟩ = false) := Hd (by simp [okB, kA, kB, kC, kD, g1, g8, g13, g17, g23, g2, g4, g6, g7, g9, g3, g10, g5, g11, g12, g16, g19, g20, g25, g26, g14, g15, g18, g21, g22, g24])
 clear V L hnm
 have cn := HS0.out.n.cell
 have co := HS0.out.o.cell
 have cr := HS0.out.r.cell
 have fr := HS0.out.r.frozen
 unfold zL at cr
 go_enter Tryz.func53, Tryz.ntmps53
 go_upto_region 50 with fail
 generalize (((w.alloc (.cells #[.int .i64 a0, .string (str a1), .int .u64 a2, .int .i64 a3, .bool a4, .int .i64 a5, .int .i64 a6, .int .i64 a7, .int .i64 a8, .int .i64 a9, .slice x n k] 27)).alloc (.cells #[.int .i64 0, .string ⟨#[]⟩, .int .u64 0, .int .i64 0, .bool false, .int .i64 0, .int .i64 0, .int .i64 0, .int .i64 0] 71)).alloc (.cells #[.int .i64 a0, .string ⟨#[]⟩, .int .u64 0, .int .i64 0, .bool false, .int .i64 0, .int .i64 0, .int .i64 0, .int .i64 0] 71)) = W1 at *
 go_wp2
 refine bodyPost_ret ((HS0.out.r.stor9 rfl (.int .i64 0) (.string ⟨#[]⟩) (.int .u64 0) (.int .i64 0) (.bool false) (.int .i64 0) (.int .i64 0) (.int .i64 0) (.int .i64 0)).res Tryz.results53 Tryz.underlying71 rfl infoLb9 _ rfl) rfl ?_
 exact ⟨by rw [HOW.out, HOK.out]; rfl, below_stor9 HS0.out.bel (by omega) _ _ _ _ _ _ _ _ _⟩
end Go.Proofs.YthdbaligapdbeaaGreatDoor
/- The code's said: what the region of its return keeps. -/
namespace Go.Proofs.YthdbaligapdbeaaGreatDoor
open Go Go.RowKit
set_option linter.unusedVariables false

theorem keepD {W : World} {g : Nat} {c : List Value} (h : ∀ i : Nat, W.cell? ⟨g, i, none⟩ = c[i]?) : ∀ i : Nat, W.drew.cell? ⟨g, i, none⟩ = c[i]? := h
theorem keepO {W : World} {g g2 j : Nat} {v : Value} {c : List Value} (h : ∀ i : Nat, W.drew.cell? ⟨g, i, none⟩ = c[i]?) (hne : g ≠ g2) : ∀ i : Nat, (W.setCell ⟨g2, j, none⟩ v).drew.cell? ⟨g, i, none⟩ = c[i]? := fun i =>
 (World.cell?_setCell_far W ⟨g2, j, none⟩ ⟨g, i, none⟩ v (fun e => hne e.symm)).trans (h i)
theorem SKof {w W : World} {cn cr co : List Value} (h : SD w W cn cr co) : (∀ i : Nat, W.cell? ⟨w.heap.size, i, none⟩ = cn[i]?) ∧ (∀ i : Nat, W.cell? ⟨w.heap.size + 1 + 1, i, none⟩ = co[i]?) := ⟨h.n.cell, h.o.cell⟩
theorem SKst {w W : World} {cn cr co : List Value} (h : SD w W cn cr co) (x0 x1 x2 x3 x4 x5 x6 x7 x8 : Value) : (∀ i : Nat, ((((((((((W.setCell ⟨w.heap.size + 1, 0, none⟩ x0).setCell ⟨w.heap.size + 1, 1, none⟩ x1).setCell ⟨w.heap.size + 1, 2, none⟩ x2).setCell ⟨w.heap.size + 1, 3, none⟩ x3).setCell ⟨w.heap.size + 1, 4, none⟩ x4).setCell ⟨w.heap.size + 1, 5, none⟩ x5).setCell ⟨w.heap.size + 1, 6, none⟩ x6).setCell ⟨w.heap.size + 1, 7, none⟩ x7).setCell ⟨w.heap.size + 1, 8, none⟩ x8)).cell? ⟨w.heap.size, i, none⟩ = cn[i]?) ∧ (∀ i : Nat, ((((((((((W.setCell ⟨w.heap.size + 1, 0, none⟩ x0).setCell ⟨w.heap.size + 1, 1, none⟩ x1).setCell ⟨w.heap.size + 1, 2, none⟩ x2).setCell ⟨w.heap.size + 1, 3, none⟩ x3).setCell ⟨w.heap.size + 1, 4, none⟩ x4).setCell ⟨w.heap.size + 1, 5, none⟩ x5).setCell ⟨w.heap.size + 1, 6, none⟩ x6).setCell ⟨w.heap.size + 1, 7, none⟩ x7).setCell ⟨w.heap.size + 1, 8, none⟩ x8)).cell? ⟨w.heap.size + 1 + 1, i, none⟩ = co[i]?) := by
 have b := below_stor9 (B := w.heap.size + 1) (Below.refl _ W) (Nat.le_refl _) x0 x1 x2 x3 x4 x5 x6 x7 x8
 refine ⟨(h.n.below b (by omega)).cell, ?_⟩
 have ho : Blk (stor9 W (w.heap.size + 1) x0 x1 x2 x3 x4 x5 x6 x7 x8) (w.heap.size + 1 + 1) 71 co := by
  unfold stor9
  iterate 9 refine Blk.set_other ?_ (by show w.heap.size + 1 + 1 ≠ w.heap.size + 1; omega) _
  exact h.o
 exact ho.cell
end Go.Proofs.YthdbaligapdbeaaGreatDoor
