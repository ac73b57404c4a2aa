/- The code's said, kind by kind (K5). -/
import Derived.Test.YthdbaligapdbeaaGreatDoorMgPsVdS
import Derived.Deep.Cut
import Derived.Deep.CutBlock
namespace Go.Proofs.YthdbaligapdbeaaGreatDoor
open Go Go.RowKit
set_option linter.unusedVariables false

set_option maxHeartbeats 40000000 in
set_option maxRecDepth 100000 in
theorem sd_5b (l : Lab) (hk : l.kind = 5) (hnm : l.name.length ≤ 281474976710656) (hN : nameB l.name = true) (hT : typB l.wd = false) : saidOK l := by
 intro x n k w V L
 obtain ⟨a0, a1, a2, a3, a4, a5, a6, a7, a8, a9⟩ := l
 dsimp only at *
 subst hk
 have HS0 : Hid (SD w (((w.alloc (.cells #[.int .i64 5, .string (str a1), .int .u64 a2, .int .i64 a3, .bool a4, .int .i64 a5, .int .i64 a6, .int .i64 a7, .int .i64 a8, .int .i64 a9, .slice x n k] 27)).alloc (.cells #[.int .i64 0, .string ⟨#[]⟩, .int .u64 0, .int .i64 0, .bool false, .int .i64 0, .int .i64 0, .int .i64 0, .int .i64 0] 71)).alloc (.cells #[.int .i64 5, .string ⟨#[]⟩, .int .u64 0, .int .i64 0, .bool false, .int .i64 0, .int .i64 0, .int .i64 0, .int .i64 0] 71)) [.int .i64 5, .string (str a1), .int .u64 a2, .int .i64 a3, .bool a4, .int .i64 a5, .int .i64 a6, .int .i64 a7, .int .i64 a8, .int .i64 a9, .slice x n k] zL [.int .i64 5, .string ⟨#[]⟩, .int .u64 0, .int .i64 0, .bool false, .int .i64 0, .int .i64 0, .int .i64 0, .int .i64 0]) := by
  have b1 := Blk.alloc w 27 [.int .i64 5, .string (str a1), .int .u64 a2, .int .i64 a3, .bool a4, .int .i64 a5, .int .i64 a6, .int .i64 a7, .int .i64 a8, .int .i64 a9, .slice x n k]
  have z1 : (w.alloc (.cells #[.int .i64 5, .string (str a1), .int .u64 a2, .int .i64 a3, .bool a4, .int .i64 a5, .int .i64 a6, .int .i64 a7, .int .i64 a8, .int .i64 a9, .slice x n k] 27)).heap.size = w.heap.size + 1 := by simp
  have b2 := Blk.alloc (w.alloc (.cells #[.int .i64 5, .string (str a1), .int .u64 a2, .int .i64 a3, .bool a4, .int .i64 a5, .int .i64 a6, .int .i64 a7, .int .i64 a8, .int .i64 a9, .slice x n k] 27)) 71 zL
  have z2 : ((w.alloc (.cells #[.int .i64 5, .string (str a1), .int .u64 a2, .int .i64 a3, .bool a4, .int .i64 a5, .int .i64 a6, .int .i64 a7, .int .i64 a8, .int .i64 a9, .slice x n k] 27)).alloc (.cells #[.int .i64 0, .string ⟨#[]⟩, .int .u64 0, .int .i64 0, .bool false, .int .i64 0, .int .i64 0, .int .i64 0, .int .i64 0] 71)).heap.size = w.heap.size + 1 + 1 := by simp
  have b3 := Blk.alloc ((w.alloc (.cells #[.int .i64 5, .string (str a1), .int .u64 a2, .int .i64 a3, .bool a4, .int .i64 a5, .int .i64 a6, .int .i64 a7, .int .i64 a8, .int .i64 a9, .slice x n k] 27)).alloc (.cells #[.int .i64 0, .string ⟨#[]⟩, .int .u64 0, .int .i64 0, .bool false, .int .i64 0, .int .i64 0, .int .i64 0, .int .i64 0] 71)) 71 [.int .i64 5, .string ⟨#[]⟩, .int .u64 0, .int .i64 0, .bool false, .int .i64 0, .int .i64 0, .int .i64 0, .int .i64 0]
  rw [z1] at b2
  rw [z2] at b3
  exact Hd ⟨(b1.alloc_other _).alloc_other _, b2.alloc_other _, b3, (((Below.refl w.heap.size w).alloc (Nat.le_refl _) _).alloc (by simp) _).alloc (by simp; omega) _⟩
 have HOW : Hid (ownB ⟨5, a1, a2, a3, a4, a5, a6, a7, a8, a9⟩ = ⟨5, a1, a2, a3, a4, a5, a6, 0, 0, 0⟩) := Hd (by simp [ownB, kA, kB, kC, lab0])
 have HOK : Hid (okB ⟨5, a1, a2, a3, a4, a5, a6, a7, a8, a9⟩ = (nameB a1 && (typB a3 && (decide (a2 ≤ 1048576) && divB a5 a6)))) := Hd (by simp [okB, kA, kB, kC])
 have HCN := Hd (fun W (hb : Below w.heap.size w W) => isName_any a1 hnm W (V.below hb))
 have HCT := Hd (fun W (hb : Below w.heap.size w W) => isType_any a3 a4 W)
 have HCD := Hd (fun W (hb : Below w.heap.size w W) => div_b a5 a6 W)
 clear V L hnm
 generalize nameB a1 = bN at *
 generalize typB a3 = bT at *
 obtain ⟨bm, hbm⟩ : ∃ b, b = decide (a2 ≤ 1048576) := ⟨_, rfl⟩
 rw [← hbm] at HOK
 have qm : decide (a2 ≤ 1048576) = bm := hbm.symm
 clear hbm
 generalize divB a5 a6 = bD at *
 subst hN
 subst hT
 go_enter Tryz.func53, Tryz.ntmps53
 go_upto_region 21 with fail
 generalize (((w.alloc (.cells #[.int .i64 5, .string (str a1), .int .u64 a2, .int .i64 a3, .bool a4, .int .i64 a5, .int .i64 a6, .int .i64 a7, .int .i64 a8, .int .i64 a9, .slice x n k] 27)).alloc (.cells #[.int .i64 0, .string ⟨#[]⟩, .int .u64 0, .int .i64 0, .bool false, .int .i64 0, .int .i64 0, .int .i64 0, .int .i64 0] 71)).alloc (.cells #[.int .i64 5, .string ⟨#[]⟩, .int .u64 0, .int .i64 0, .bool false, .int .i64 0, .int .i64 0, .int .i64 0, .int .i64 0] 71)) = W1 at *
 have cn := HS0.out.n.cell
 have co := HS0.out.o.cell
 have fo := HS0.out.o.frozen
 have HS1 : Hid (SD w ((((((W1.setCell ⟨w.heap.size + 1 + 1, 1, none⟩ (.string (str a1))).setCell ⟨w.heap.size + 1 + 1, 3, none⟩ (.int .i64 a3)).setCell ⟨w.heap.size + 1 + 1, 4, none⟩ (.bool a4)).setCell ⟨w.heap.size + 1 + 1, 2, none⟩ (.int .u64 a2)).setCell ⟨w.heap.size + 1 + 1, 5, none⟩ (.int .i64 a5)).setCell ⟨w.heap.size + 1 + 1, 6, none⟩ (.int .i64 a6)).drew [.int .i64 5, .string (str a1), .int .u64 a2, .int .i64 a3, .bool a4, .int .i64 a5, .int .i64 a6, .int .i64 a7, .int .i64 a8, .int .i64 a9, .slice x n k] zL [.int .i64 5, .string (str a1), .int .u64 a2, .int .i64 a3, .bool a4, .int .i64 a5, .int .i64 a6, .int .i64 0, .int .i64 0]) := Hd (((((((HS0.out.setO 1 (.string (str a1))).setO 3 (.int .i64 a3)).setO 4 (.bool a4)).setO 2 (.int .u64 a2)).setO 5 (.int .i64 a5)).setO 6 (.int .i64 a6)).call (Below.refl _ _).drew)
 first
 | (go_region_held3 (fun w' => ∀ i : Nat, w'.cell? ⟨w.heap.size, i, none⟩ = ([.int .i64 5, .string (str a1), .int .u64 a2, .int .i64 a3, .bool a4, .int .i64 a5, .int .i64 a6, .int .i64 a7, .int .i64 a8, .int .i64 a9, .slice x n k] : List Value)[i]?) ((first | with_reducible exact keepD cn | with_reducible assumption | (refine keepO ?_ (by omega); first | assumption | (refine keepO ?_ (by omega); assumption)))) (fail))
 | fail
 go_upto_region 22 with fail
 clear cn co fo HS0
 generalize ((((((W1.setCell ⟨w.heap.size + 1 + 1, 1, none⟩ (.string (str a1))).setCell ⟨w.heap.size + 1 + 1, 3, none⟩ (.int .i64 a3)).setCell ⟨w.heap.size + 1 + 1, 4, none⟩ (.bool a4)).setCell ⟨w.heap.size + 1 + 1, 2, none⟩ (.int .u64 a2)).setCell ⟨w.heap.size + 1 + 1, 5, none⟩ (.int .i64 a5)).setCell ⟨w.heap.size + 1 + 1, 6, none⟩ (.int .i64 a6)).drew = W2 at *
 have hD : Below W2.heap.size W2 W2.drew := (Below.refl _ _).drew
 have HS2 := Hd (HS1.out.call hD)
 clear HS1
 have cn := HS2.out.n.cell
 have co := HS2.out.o.cell
 have cr := HS2.out.r.cell
 have fr := HS2.out.r.frozen
 unfold zL at cr
 first
 | (go_region_with (first | (go_at_call 84; refine (HCN.out _ (by first | exact HS6.out.bel | exact HS2.out.bel)).mono ?_; rintro e w6 ⟨rfl, hb6⟩; (first | have HS6 := Hd (HS6.out.call hb6) | have HS6 := Hd (HS2.out.call hb6)); have cn6 := HS6.out.n.cell; have co6 := HS6.out.o.cell; have cr6 := HS6.out.r.cell; have fr6 := HS6.out.r.frozen; unfold zL at cr6) | (go_at_call 85; refine (HCT.out _ (by first | exact HS6.out.bel | exact HS2.out.bel)).mono ?_; rintro e w6 ⟨rfl, hb6⟩; (first | have HS6 := Hd (HS6.out.call hb6) | have HS6 := Hd (HS2.out.call hb6)); have cn6 := HS6.out.n.cell; have co6 := HS6.out.o.cell; have cr6 := HS6.out.r.cell; have fr6 := HS6.out.r.frozen; unfold zL at cr6) | (go_at_call 86; refine (HCD.out _ (by first | exact HS6.out.bel | exact HS2.out.bel)).mono ?_; rintro e w6 ⟨rfl, hb6⟩; (first | have HS6 := Hd (HS6.out.call hb6) | have HS6 := Hd (HS2.out.call hb6)); have cn6 := HS6.out.n.cell; have co6 := HS6.out.o.cell; have cr6 := HS6.out.r.cell; have fr6 := HS6.out.r.frozen; unfold zL at cr6)))
 | fail
 all_goals
  have HSE : Hid (SD w _ [.int .i64 5, .string (str a1), .int .u64 a2, .int .i64 a3, .bool a4, .int .i64 a5, .int .i64 a6, .int .i64 a7, .int .i64 a8, .int .i64 a9, .slice x n k] zL [.int .i64 5, .string (str a1), .int .u64 a2, .int .i64 a3, .bool a4, .int .i64 a5, .int .i64 a6, .int .i64 0, .int .i64 0]) := HS6
  go_wp2
  refine bodyPost_ret ((HSE.out.r.stor9 rfl (.int .i64 5) (.string (str a1)) (.int .u64 a2) (.int .i64 a3) (.bool a4) (.int .i64 a5) (.int .i64 a6) (.int .i64 0) (.int .i64 0)).res Tryz.results53 Tryz.underlying71 rfl infoLb9 _ rfl) rfl ?_
  exact ⟨by rw [HOW.out, HOK.out]; rfl, below_stor9 HSE.out.bel (by omega) _ _ _ _ _ _ _ _ _⟩
end Go.Proofs.YthdbaligapdbeaaGreatDoor
