/- The code's said, kind by kind (GC). -/
import Derived.Test.YthdbaligapdbeaaGreatDoorMgPsVd
import Derived.Deep.Cut
import Derived.Deep.CutBlock
namespace Go.Proofs.YthdbaligapdbeaaGreatDoor
open Go Go.RowKit
set_option linter.unusedVariables false
set_option linter.unusedSimpArgs false

set_option maxHeartbeats 40000000 in
set_option maxRecDepth 100000 in
theorem sd_C (l : Lab) (hk : l.kind = 3 ∨ l.kind = 10) (hnm : l.name.length ≤ 281474976710656) : saidOK l := by
 intro x n k w V L
 obtain ⟨a0, a1, a2, a3, a4, a5, a6, a7, a8, a9⟩ := l
 dsimp only at *
 have p1 : (a0 == 1) = false := by rw [beq_eq_false_iff_ne]; omega
 have p8 : (a0 == 8) = false := by rw [beq_eq_false_iff_ne]; omega
 have p13 : (a0 == 13) = false := by rw [beq_eq_false_iff_ne]; omega
 have p17 : (a0 == 17) = false := by rw [beq_eq_false_iff_ne]; omega
 have p23 : (a0 == 23) = false := by rw [beq_eq_false_iff_ne]; omega
 have p2 : (a0 == 2) = false := by rw [beq_eq_false_iff_ne]; omega
 have p4 : (a0 == 4) = false := by rw [beq_eq_false_iff_ne]; omega
 have p6 : (a0 == 6) = false := by rw [beq_eq_false_iff_ne]; omega
 have p7 : (a0 == 7) = false := by rw [beq_eq_false_iff_ne]; omega
 have p9 : (a0 == 9) = false := by rw [beq_eq_false_iff_ne]; omega
 have HK := Hd hk
 have HS0 : Hid (SD w (((w.alloc (.cells #[.int .i64 a0, .string (str a1), .int .u64 a2, .int .i64 a3, .bool a4, .int .i64 a5, .int .i64 a6, .int .i64 a7, .int .i64 a8, .int .i64 a9, .slice x n k] 27)).alloc (.cells #[.int .i64 0, .string ⟨#[]⟩, .int .u64 0, .int .i64 0, .bool false, .int .i64 0, .int .i64 0, .int .i64 0, .int .i64 0] 71)).alloc (.cells #[.int .i64 a0, .string ⟨#[]⟩, .int .u64 0, .int .i64 0, .bool false, .int .i64 0, .int .i64 0, .int .i64 0, .int .i64 0] 71)) [.int .i64 a0, .string (str a1), .int .u64 a2, .int .i64 a3, .bool a4, .int .i64 a5, .int .i64 a6, .int .i64 a7, .int .i64 a8, .int .i64 a9, .slice x n k] zL [.int .i64 a0, .string ⟨#[]⟩, .int .u64 0, .int .i64 0, .bool false, .int .i64 0, .int .i64 0, .int .i64 0, .int .i64 0]) := by
  have b1 := Blk.alloc w 27 [.int .i64 a0, .string (str a1), .int .u64 a2, .int .i64 a3, .bool a4, .int .i64 a5, .int .i64 a6, .int .i64 a7, .int .i64 a8, .int .i64 a9, .slice x n k]
  have z1 : (w.alloc (.cells #[.int .i64 a0, .string (str a1), .int .u64 a2, .int .i64 a3, .bool a4, .int .i64 a5, .int .i64 a6, .int .i64 a7, .int .i64 a8, .int .i64 a9, .slice x n k] 27)).heap.size = w.heap.size + 1 := by simp
  have b2 := Blk.alloc (w.alloc (.cells #[.int .i64 a0, .string (str a1), .int .u64 a2, .int .i64 a3, .bool a4, .int .i64 a5, .int .i64 a6, .int .i64 a7, .int .i64 a8, .int .i64 a9, .slice x n k] 27)) 71 zL
  have z2 : ((w.alloc (.cells #[.int .i64 a0, .string (str a1), .int .u64 a2, .int .i64 a3, .bool a4, .int .i64 a5, .int .i64 a6, .int .i64 a7, .int .i64 a8, .int .i64 a9, .slice x n k] 27)).alloc (.cells #[.int .i64 0, .string ⟨#[]⟩, .int .u64 0, .int .i64 0, .bool false, .int .i64 0, .int .i64 0, .int .i64 0, .int .i64 0] 71)).heap.size = w.heap.size + 1 + 1 := by simp
  have b3 := Blk.alloc ((w.alloc (.cells #[.int .i64 a0, .string (str a1), .int .u64 a2, .int .i64 a3, .bool a4, .int .i64 a5, .int .i64 a6, .int .i64 a7, .int .i64 a8, .int .i64 a9, .slice x n k] 27)).alloc (.cells #[.int .i64 0, .string ⟨#[]⟩, .int .u64 0, .int .i64 0, .bool false, .int .i64 0, .int .i64 0, .int .i64 0, .int .i64 0] 71)) 71 [.int .i64 a0, .string ⟨#[]⟩, .int .u64 0, .int .i64 0, .bool false, .int .i64 0, .int .i64 0, .int .i64 0, .int .i64 0]
  rw [z1] at b2
  rw [z2] at b3
  exact Hd ⟨(b1.alloc_other _).alloc_other _, b2.alloc_other _, b3, (((Below.refl w.heap.size w).alloc (Nat.le_refl _) _).alloc (by simp) _).alloc (by simp; omega) _⟩
 have HOW : Hid (ownB ⟨a0, a1, a2, a3, a4, a5, a6, a7, a8, a9⟩ = ⟨a0, a1, 0, a3, a4, 0, 0, 0, 0, 0⟩) := Hd (by rcases hk with rfl | rfl <;> simp [ownB, kA, kB, kC, kD, lab0])
 have HOK : Hid (okB ⟨a0, a1, a2, a3, a4, a5, a6, a7, a8, a9⟩ = (nameB a1 && (zerB a3 a4 || typB a3))) := Hd (by rcases hk with rfl | rfl <;> simp [okB, kA, kB, kC, kD])
 have HCN := Hd (fun W (hb : Below w.heap.size w W) => isName_any a1 hnm W (V.below hb))
 have HCT := Hd (fun W (hb : Below w.heap.size w W) => isType_any a3 a4 W)
 clear V L hnm hk
 generalize nameB a1 = bN at *
 obtain ⟨bZ, hbZ⟩ : ∃ b, b = zerB a3 a4 := ⟨_, rfl⟩
 rw [← hbZ] at HOK
 have qZ : ∀ W, (binOp .eql 24 (.agg #[.int .i64 a3, .bool a4]) (.agg #[.int .i64 0, .bool false])).run Tryz.prog W = .ok (.bool bZ) W := fun W => by rw [hbZ]; exact zer_eqd a3 a4 W
 clear hbZ
 generalize typB a3 = bT at *
 cases bN with
 | false =>
  go_enter Tryz.func53, Tryz.ntmps53
  go_upto_region 16 with fail
  generalize (((w.alloc (.cells #[.int .i64 a0, .string (str a1), .int .u64 a2, .int .i64 a3, .bool a4, .int .i64 a5, .int .i64 a6, .int .i64 a7, .int .i64 a8, .int .i64 a9, .slice x n k] 27)).alloc (.cells #[.int .i64 0, .string ⟨#[]⟩, .int .u64 0, .int .i64 0, .bool false, .int .i64 0, .int .i64 0, .int .i64 0, .int .i64 0] 71)).alloc (.cells #[.int .i64 a0, .string ⟨#[]⟩, .int .u64 0, .int .i64 0, .bool false, .int .i64 0, .int .i64 0, .int .i64 0, .int .i64 0] 71)) = W1 at *
  go_cut [38] from 39 to 40 (fun s100 wx => s100 = .bool (a0 == 3) ∧ Hid (wx = W1))
  case first =>
   have hk := HK.out
   rcases hk with rfl | rfl
   all_goals
    try clear hundef
    go_wp2
    go_meet
    exact ⟨rfl, Hd rfl⟩
  obtain ⟨hs, hwc⟩ := hcut
  subst hs
  have hw2 := hwc.out
  subst hw2
  clear hwc
  go_upto_if 38 with fail
  go_cut [38] from 39 to 40 (fun s100 wx => s100 = .bool true ∧ Hid (wx = wc))
  case first =>
   have hk := HK.out
   rcases hk with rfl | rfl
   all_goals
    try clear hundef
    go_wp2
    go_meet
    exact ⟨rfl, Hd rfl⟩
  obtain ⟨hs, hwc⟩ := hcut
  subst hs
  have hw2 := hwc.out
  subst hw2
  clear hwc
  go_upto_region 18 with fail
  obtain ⟨W1, hW1⟩ : ∃ y : World, y = wc := ⟨_, rfl⟩
  subst hW1
  have cn := HS0.out.n.cell
  have co := HS0.out.o.cell
  have fo := HS0.out.o.frozen
  have HS1 : Hid (SD w (((W1.setCell ⟨w.heap.size + 1 + 1, 1, none⟩ (.string (str a1))).setCell ⟨w.heap.size + 1 + 1, 3, none⟩ (.int .i64 a3)).setCell ⟨w.heap.size + 1 + 1, 4, none⟩ (.bool a4)).drew [.int .i64 a0, .string (str a1), .int .u64 a2, .int .i64 a3, .bool a4, .int .i64 a5, .int .i64 a6, .int .i64 a7, .int .i64 a8, .int .i64 a9, .slice x n k] zL [.int .i64 a0, .string (str a1), .int .u64 0, .int .i64 a3, .bool a4, .int .i64 0, .int .i64 0, .int .i64 0, .int .i64 0]) := Hd ((((HS0.out.setO 1 (.string (str a1))).setO 3 (.int .i64 a3)).setO 4 (.bool a4)).call (Below.refl _ _).drew)
  go_region
  go_upto_region 19 with fail
  clear cn co fo HS0
  generalize (((W1.setCell ⟨w.heap.size + 1 + 1, 1, none⟩ (.string (str a1))).setCell ⟨w.heap.size + 1 + 1, 3, none⟩ (.int .i64 a3)).setCell ⟨w.heap.size + 1 + 1, 4, none⟩ (.bool a4)).drew = W2 at *
  have hD : Below W2.heap.size W2 W2.drew := (Below.refl _ _).drew
  have HS2 := Hd (HS1.out.call hD)
  clear HS1
  have cn := HS2.out.n.cell
  have co := HS2.out.o.cell
  have cr := HS2.out.r.cell
  have fr := HS2.out.r.frozen
  unfold zL at cr
  have hundef : undef = Value.tuple #[] := rfl
  first
  | (go_region_with (first | (go_at_call 84; refine (HCN.out _ (by first | exact HS6.out.bel | exact HS2.out.bel)).mono ?_; rintro e w6 ⟨rfl, hb6⟩; (first | have HS6 := Hd (HS6.out.call hb6) | have HS6 := Hd (HS2.out.call hb6)); have cn6 := HS6.out.n.cell; have co6 := HS6.out.o.cell; have cr6 := HS6.out.r.cell; have fr6 := HS6.out.r.frozen; unfold zL at cr6) | (go_at_call 85; refine (HCT.out _ (by first | exact HS6.out.bel | exact HS2.out.bel)).mono ?_; rintro e w6 ⟨rfl, hb6⟩; (first | have HS6 := Hd (HS6.out.call hb6) | have HS6 := Hd (HS2.out.call hb6)); have cn6 := HS6.out.n.cell; have co6 := HS6.out.o.cell; have cr6 := HS6.out.r.cell; have fr6 := HS6.out.r.frozen; unfold zL at cr6)))
  | fail
  all_goals
   try clear hundef
   have HSE : Hid (SD w _ [.int .i64 a0, .string (str a1), .int .u64 a2, .int .i64 a3, .bool a4, .int .i64 a5, .int .i64 a6, .int .i64 a7, .int .i64 a8, .int .i64 a9, .slice x n k] zL [.int .i64 a0, .string (str a1), .int .u64 0, .int .i64 a3, .bool a4, .int .i64 0, .int .i64 0, .int .i64 0, .int .i64 0]) := HS6
   go_wp2
   refine bodyPost_ret ((HSE.out.r.stor9 rfl (.int .i64 a0) (.string (str a1)) (.int .u64 0) (.int .i64 a3) (.bool a4) (.int .i64 0) (.int .i64 0) (.int .i64 0) (.int .i64 0)).res Tryz.results53 Tryz.underlying71 rfl infoLb9 _ rfl) rfl ?_
   exact ⟨by rw [HOW.out, HOK.out]; rfl, below_stor9 HSE.out.bel (by omega) _ _ _ _ _ _ _ _ _⟩
 | true =>
  cases bZ with
  | true =>
   go_enter Tryz.func53, Tryz.ntmps53
   go_upto_region 16 with fail
   generalize (((w.alloc (.cells #[.int .i64 a0, .string (str a1), .int .u64 a2, .int .i64 a3, .bool a4, .int .i64 a5, .int .i64 a6, .int .i64 a7, .int .i64 a8, .int .i64 a9, .slice x n k] 27)).alloc (.cells #[.int .i64 0, .string ⟨#[]⟩, .int .u64 0, .int .i64 0, .bool false, .int .i64 0, .int .i64 0, .int .i64 0, .int .i64 0] 71)).alloc (.cells #[.int .i64 a0, .string ⟨#[]⟩, .int .u64 0, .int .i64 0, .bool false, .int .i64 0, .int .i64 0, .int .i64 0, .int .i64 0] 71)) = W1 at *
   go_cut [38] from 39 to 40 (fun s100 wx => s100 = .bool (a0 == 3) ∧ Hid (wx = W1))
   case first =>
    have hk := HK.out
    rcases hk with rfl | rfl
    all_goals
     try clear hundef
     go_wp2
     go_meet
     exact ⟨rfl, Hd rfl⟩
   obtain ⟨hs, hwc⟩ := hcut
   subst hs
   have hw2 := hwc.out
   subst hw2
   clear hwc
   go_upto_if 38 with fail
   go_cut [38] from 39 to 40 (fun s100 wx => s100 = .bool true ∧ Hid (wx = wc))
   case first =>
    have hk := HK.out
    rcases hk with rfl | rfl
    all_goals
     try clear hundef
     go_wp2
     go_meet
     exact ⟨rfl, Hd rfl⟩
   obtain ⟨hs, hwc⟩ := hcut
   subst hs
   have hw2 := hwc.out
   subst hw2
   clear hwc
   go_upto_region 18 with fail
   obtain ⟨W1, hW1⟩ : ∃ y : World, y = wc := ⟨_, rfl⟩
   subst hW1
   have cn := HS0.out.n.cell
   have co := HS0.out.o.cell
   have fo := HS0.out.o.frozen
   have HS1 : Hid (SD w (((W1.setCell ⟨w.heap.size + 1 + 1, 1, none⟩ (.string (str a1))).setCell ⟨w.heap.size + 1 + 1, 3, none⟩ (.int .i64 a3)).setCell ⟨w.heap.size + 1 + 1, 4, none⟩ (.bool a4)).drew [.int .i64 a0, .string (str a1), .int .u64 a2, .int .i64 a3, .bool a4, .int .i64 a5, .int .i64 a6, .int .i64 a7, .int .i64 a8, .int .i64 a9, .slice x n k] zL [.int .i64 a0, .string (str a1), .int .u64 0, .int .i64 a3, .bool a4, .int .i64 0, .int .i64 0, .int .i64 0, .int .i64 0]) := Hd ((((HS0.out.setO 1 (.string (str a1))).setO 3 (.int .i64 a3)).setO 4 (.bool a4)).call (Below.refl _ _).drew)
   go_region
   go_upto_region 19 with fail
   clear cn co fo HS0
   generalize (((W1.setCell ⟨w.heap.size + 1 + 1, 1, none⟩ (.string (str a1))).setCell ⟨w.heap.size + 1 + 1, 3, none⟩ (.int .i64 a3)).setCell ⟨w.heap.size + 1 + 1, 4, none⟩ (.bool a4)).drew = W2 at *
   have hD : Below W2.heap.size W2 W2.drew := (Below.refl _ _).drew
   have HS2 := Hd (HS1.out.call hD)
   clear HS1
   have cn := HS2.out.n.cell
   have co := HS2.out.o.cell
   have cr := HS2.out.r.cell
   have fr := HS2.out.r.frozen
   unfold zL at cr
   have hundef : undef = Value.tuple #[] := rfl
   first
   | (go_region_with (first | (go_at_call 84; refine (HCN.out _ (by first | exact HS6.out.bel | exact HS2.out.bel)).mono ?_; rintro e w6 ⟨rfl, hb6⟩; (first | have HS6 := Hd (HS6.out.call hb6) | have HS6 := Hd (HS2.out.call hb6)); have cn6 := HS6.out.n.cell; have co6 := HS6.out.o.cell; have cr6 := HS6.out.r.cell; have fr6 := HS6.out.r.frozen; unfold zL at cr6) | (go_at_call 85; refine (HCT.out _ (by first | exact HS6.out.bel | exact HS2.out.bel)).mono ?_; rintro e w6 ⟨rfl, hb6⟩; (first | have HS6 := Hd (HS6.out.call hb6) | have HS6 := Hd (HS2.out.call hb6)); have cn6 := HS6.out.n.cell; have co6 := HS6.out.o.cell; have cr6 := HS6.out.r.cell; have fr6 := HS6.out.r.frozen; unfold zL at cr6)))
   | fail
   all_goals
    try clear hundef
    have HSE : Hid (SD w _ [.int .i64 a0, .string (str a1), .int .u64 a2, .int .i64 a3, .bool a4, .int .i64 a5, .int .i64 a6, .int .i64 a7, .int .i64 a8, .int .i64 a9, .slice x n k] zL [.int .i64 a0, .string (str a1), .int .u64 0, .int .i64 a3, .bool a4, .int .i64 0, .int .i64 0, .int .i64 0, .int .i64 0]) := HS6
    go_wp2
    refine bodyPost_ret ((HSE.out.r.stor9 rfl (.int .i64 a0) (.string (str a1)) (.int .u64 0) (.int .i64 a3) (.bool a4) (.int .i64 0) (.int .i64 0) (.int .i64 0) (.int .i64 0)).res Tryz.results53 Tryz.underlying71 rfl infoLb9 _ rfl) rfl ?_
    exact ⟨by rw [HOW.out, HOK.out]; rfl, below_stor9 HSE.out.bel (by omega) _ _ _ _ _ _ _ _ _⟩
  | false =>
   cases bT with
   | false =>
    go_enter Tryz.func53, Tryz.ntmps53
    go_upto_region 16 with fail
    generalize (((w.alloc (.cells #[.int .i64 a0, .string (str a1), .int .u64 a2, .int .i64 a3, .bool a4, .int .i64 a5, .int .i64 a6, .int .i64 a7, .int .i64 a8, .int .i64 a9, .slice x n k] 27)).alloc (.cells #[.int .i64 0, .string ⟨#[]⟩, .int .u64 0, .int .i64 0, .bool false, .int .i64 0, .int .i64 0, .int .i64 0, .int .i64 0] 71)).alloc (.cells #[.int .i64 a0, .string ⟨#[]⟩, .int .u64 0, .int .i64 0, .bool false, .int .i64 0, .int .i64 0, .int .i64 0, .int .i64 0] 71)) = W1 at *
    go_cut [38] from 39 to 40 (fun s100 wx => s100 = .bool (a0 == 3) ∧ Hid (wx = W1))
    case first =>
     have hk := HK.out
     rcases hk with rfl | rfl
     all_goals
      try clear hundef
      go_wp2
      go_meet
      exact ⟨rfl, Hd rfl⟩
    obtain ⟨hs, hwc⟩ := hcut
    subst hs
    have hw2 := hwc.out
    subst hw2
    clear hwc
    go_upto_if 38 with fail
    go_cut [38] from 39 to 40 (fun s100 wx => s100 = .bool true ∧ Hid (wx = wc))
    case first =>
     have hk := HK.out
     rcases hk with rfl | rfl
     all_goals
      try clear hundef
      go_wp2
      go_meet
      exact ⟨rfl, Hd rfl⟩
    obtain ⟨hs, hwc⟩ := hcut
    subst hs
    have hw2 := hwc.out
    subst hw2
    clear hwc
    go_upto_region 18 with fail
    obtain ⟨W1, hW1⟩ : ∃ y : World, y = wc := ⟨_, rfl⟩
    subst hW1
    have cn := HS0.out.n.cell
    have co := HS0.out.o.cell
    have fo := HS0.out.o.frozen
    have HS1 : Hid (SD w (((W1.setCell ⟨w.heap.size + 1 + 1, 1, none⟩ (.string (str a1))).setCell ⟨w.heap.size + 1 + 1, 3, none⟩ (.int .i64 a3)).setCell ⟨w.heap.size + 1 + 1, 4, none⟩ (.bool a4)).drew [.int .i64 a0, .string (str a1), .int .u64 a2, .int .i64 a3, .bool a4, .int .i64 a5, .int .i64 a6, .int .i64 a7, .int .i64 a8, .int .i64 a9, .slice x n k] zL [.int .i64 a0, .string (str a1), .int .u64 0, .int .i64 a3, .bool a4, .int .i64 0, .int .i64 0, .int .i64 0, .int .i64 0]) := Hd ((((HS0.out.setO 1 (.string (str a1))).setO 3 (.int .i64 a3)).setO 4 (.bool a4)).call (Below.refl _ _).drew)
    go_region
    go_upto_region 19 with fail
    clear cn co fo HS0
    generalize (((W1.setCell ⟨w.heap.size + 1 + 1, 1, none⟩ (.string (str a1))).setCell ⟨w.heap.size + 1 + 1, 3, none⟩ (.int .i64 a3)).setCell ⟨w.heap.size + 1 + 1, 4, none⟩ (.bool a4)).drew = W2 at *
    have hD : Below W2.heap.size W2 W2.drew := (Below.refl _ _).drew
    have HS2 := Hd (HS1.out.call hD)
    clear HS1
    have cn := HS2.out.n.cell
    have co := HS2.out.o.cell
    have cr := HS2.out.r.cell
    have fr := HS2.out.r.frozen
    unfold zL at cr
    have hundef : undef = Value.tuple #[] := rfl
    first
    | (go_region_with (first | (go_at_call 84; refine (HCN.out _ (by first | exact HS6.out.bel | exact HS2.out.bel)).mono ?_; rintro e w6 ⟨rfl, hb6⟩; (first | have HS6 := Hd (HS6.out.call hb6) | have HS6 := Hd (HS2.out.call hb6)); have cn6 := HS6.out.n.cell; have co6 := HS6.out.o.cell; have cr6 := HS6.out.r.cell; have fr6 := HS6.out.r.frozen; unfold zL at cr6) | (go_at_call 85; refine (HCT.out _ (by first | exact HS6.out.bel | exact HS2.out.bel)).mono ?_; rintro e w6 ⟨rfl, hb6⟩; (first | have HS6 := Hd (HS6.out.call hb6) | have HS6 := Hd (HS2.out.call hb6)); have cn6 := HS6.out.n.cell; have co6 := HS6.out.o.cell; have cr6 := HS6.out.r.cell; have fr6 := HS6.out.r.frozen; unfold zL at cr6)))
    | fail
    all_goals
     try clear hundef
     have HSE : Hid (SD w _ [.int .i64 a0, .string (str a1), .int .u64 a2, .int .i64 a3, .bool a4, .int .i64 a5, .int .i64 a6, .int .i64 a7, .int .i64 a8, .int .i64 a9, .slice x n k] zL [.int .i64 a0, .string (str a1), .int .u64 0, .int .i64 a3, .bool a4, .int .i64 0, .int .i64 0, .int .i64 0, .int .i64 0]) := HS6
     go_wp2
     refine bodyPost_ret ((HSE.out.r.stor9 rfl (.int .i64 a0) (.string (str a1)) (.int .u64 0) (.int .i64 a3) (.bool a4) (.int .i64 0) (.int .i64 0) (.int .i64 0) (.int .i64 0)).res Tryz.results53 Tryz.underlying71 rfl infoLb9 _ rfl) rfl ?_
     exact ⟨by rw [HOW.out, HOK.out]; rfl, below_stor9 HSE.out.bel (by omega) _ _ _ _ _ _ _ _ _⟩
   | true =>
    go_enter Tryz.func53, Tryz.ntmps53
    go_upto_region 16 with fail
    generalize (((w.alloc (.cells #[.int .i64 a0, .string (str a1), .int .u64 a2, .int .i64 a3, .bool a4, .int .i64 a5, .int .i64 a6, .int .i64 a7, .int .i64 a8, .int .i64 a9, .slice x n k] 27)).alloc (.cells #[.int .i64 0, .string ⟨#[]⟩, .int .u64 0, .int .i64 0, .bool false, .int .i64 0, .int .i64 0, .int .i64 0, .int .i64 0] 71)).alloc (.cells #[.int .i64 a0, .string ⟨#[]⟩, .int .u64 0, .int .i64 0, .bool false, .int .i64 0, .int .i64 0, .int .i64 0, .int .i64 0] 71)) = W1 at *
    go_cut [38] from 39 to 40 (fun s100 wx => s100 = .bool (a0 == 3) ∧ Hid (wx = W1))
    case first =>
     have hk := HK.out
     rcases hk with rfl | rfl
     all_goals
      try clear hundef
      go_wp2
      go_meet
      exact ⟨rfl, Hd rfl⟩
    obtain ⟨hs, hwc⟩ := hcut
    subst hs
    have hw2 := hwc.out
    subst hw2
    clear hwc
    go_upto_if 38 with fail
    go_cut [38] from 39 to 40 (fun s100 wx => s100 = .bool true ∧ Hid (wx = wc))
    case first =>
     have hk := HK.out
     rcases hk with rfl | rfl
     all_goals
      try clear hundef
      go_wp2
      go_meet
      exact ⟨rfl, Hd rfl⟩
    obtain ⟨hs, hwc⟩ := hcut
    subst hs
    have hw2 := hwc.out
    subst hw2
    clear hwc
    go_upto_region 18 with fail
    obtain ⟨W1, hW1⟩ : ∃ y : World, y = wc := ⟨_, rfl⟩
    subst hW1
    have cn := HS0.out.n.cell
    have co := HS0.out.o.cell
    have fo := HS0.out.o.frozen
    have HS1 : Hid (SD w (((W1.setCell ⟨w.heap.size + 1 + 1, 1, none⟩ (.string (str a1))).setCell ⟨w.heap.size + 1 + 1, 3, none⟩ (.int .i64 a3)).setCell ⟨w.heap.size + 1 + 1, 4, none⟩ (.bool a4)).drew [.int .i64 a0, .string (str a1), .int .u64 a2, .int .i64 a3, .bool a4, .int .i64 a5, .int .i64 a6, .int .i64 a7, .int .i64 a8, .int .i64 a9, .slice x n k] zL [.int .i64 a0, .string (str a1), .int .u64 0, .int .i64 a3, .bool a4, .int .i64 0, .int .i64 0, .int .i64 0, .int .i64 0]) := Hd ((((HS0.out.setO 1 (.string (str a1))).setO 3 (.int .i64 a3)).setO 4 (.bool a4)).call (Below.refl _ _).drew)
    go_region
    go_upto_region 19 with fail
    clear cn co fo HS0
    generalize (((W1.setCell ⟨w.heap.size + 1 + 1, 1, none⟩ (.string (str a1))).setCell ⟨w.heap.size + 1 + 1, 3, none⟩ (.int .i64 a3)).setCell ⟨w.heap.size + 1 + 1, 4, none⟩ (.bool a4)).drew = W2 at *
    have hD : Below W2.heap.size W2 W2.drew := (Below.refl _ _).drew
    have HS2 := Hd (HS1.out.call hD)
    clear HS1
    have cn := HS2.out.n.cell
    have co := HS2.out.o.cell
    have cr := HS2.out.r.cell
    have fr := HS2.out.r.frozen
    unfold zL at cr
    have hundef : undef = Value.tuple #[] := rfl
    first
    | (go_region_with (first | (go_at_call 84; refine (HCN.out _ (by first | exact HS6.out.bel | exact HS2.out.bel)).mono ?_; rintro e w6 ⟨rfl, hb6⟩; (first | have HS6 := Hd (HS6.out.call hb6) | have HS6 := Hd (HS2.out.call hb6)); have cn6 := HS6.out.n.cell; have co6 := HS6.out.o.cell; have cr6 := HS6.out.r.cell; have fr6 := HS6.out.r.frozen; unfold zL at cr6) | (go_at_call 85; refine (HCT.out _ (by first | exact HS6.out.bel | exact HS2.out.bel)).mono ?_; rintro e w6 ⟨rfl, hb6⟩; (first | have HS6 := Hd (HS6.out.call hb6) | have HS6 := Hd (HS2.out.call hb6)); have cn6 := HS6.out.n.cell; have co6 := HS6.out.o.cell; have cr6 := HS6.out.r.cell; have fr6 := HS6.out.r.frozen; unfold zL at cr6)))
    | fail
    all_goals
     try clear hundef
     have HSE : Hid (SD w _ [.int .i64 a0, .string (str a1), .int .u64 a2, .int .i64 a3, .bool a4, .int .i64 a5, .int .i64 a6, .int .i64 a7, .int .i64 a8, .int .i64 a9, .slice x n k] zL [.int .i64 a0, .string (str a1), .int .u64 0, .int .i64 a3, .bool a4, .int .i64 0, .int .i64 0, .int .i64 0, .int .i64 0]) := HS6
     go_wp2
     refine bodyPost_ret ((HSE.out.r.stor9 rfl (.int .i64 a0) (.string (str a1)) (.int .u64 0) (.int .i64 a3) (.bool a4) (.int .i64 0) (.int .i64 0) (.int .i64 0) (.int .i64 0)).res Tryz.results53 Tryz.underlying71 rfl infoLb9 _ rfl) rfl ?_
     exact ⟨by rw [HOW.out, HOK.out]; rfl, below_stor9 HSE.out.bel (by omega) _ _ _ _ _ _ _ _ _⟩
end Go.Proofs.YthdbaligapdbeaaGreatDoor
