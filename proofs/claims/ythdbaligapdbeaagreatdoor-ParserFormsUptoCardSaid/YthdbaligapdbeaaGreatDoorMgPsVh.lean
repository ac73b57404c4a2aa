/- The code's header and kidsFit: contracts. -/
import Derived.Test.YthdbaligapdbeaaGreatDoorMgPsVe
import Derived.Deep.RegionHeld3
import Derived.Deep.Cut
import Derived.Deep.RegionWith
import Derived.StillTailTactics
namespace Go.Proofs.YthdbaligapdbeaaGreatDoor
open Go Go.RowKit
set_option linter.unusedVariables false

structure Gr (w : World) : Prop where
 units0 : w.cell? ⟨2, 0, none⟩ = some (.int .i64 2)
 units1 : w.cell? ⟨2, 1, none⟩ = some (.int .i64 3)
 scalars0 : w.cell? ⟨3, 0, none⟩ = some (.int .i64 4)
 scalars1 : w.cell? ⟨3, 1, none⟩ = some (.int .i64 4)
 params0 : w.cell? ⟨4, 0, none⟩ = some (.int .i64 4)
 params1 : w.cell? ⟨4, 1, none⟩ = some (.int .i64 7)
 statements0 : w.cell? ⟨5, 0, none⟩ = some (.int .i64 9)
 statements1 : w.cell? ⟨5, 1, none⟩ = some (.int .i64 17)
 blocks0 : w.cell? ⟨6, 0, none⟩ = some (.int .i64 8)
 blocks1 : w.cell? ⟨6, 1, none⟩ = some (.int .i64 8)
 branches0 : w.cell? ⟨7, 0, none⟩ = some (.int .i64 13)
 branches1 : w.cell? ⟨7, 1, none⟩ = some (.int .i64 13)
 exprs : Ex w
theorem Gr.below {w w' : World} (h : Gr w) (hb : Below w.heap.size w w') : Gr w' :=
 ⟨(hb.cell (p := ⟨2, 0, none⟩) (cell_block_lt h.units0)).trans h.units0, (hb.cell (p := ⟨2, 1, none⟩) (cell_block_lt h.units1)).trans h.units1, (hb.cell (p := ⟨3, 0, none⟩) (cell_block_lt h.scalars0)).trans h.scalars0, (hb.cell (p := ⟨3, 1, none⟩) (cell_block_lt h.scalars1)).trans h.scalars1, (hb.cell (p := ⟨4, 0, none⟩) (cell_block_lt h.params0)).trans h.params0, (hb.cell (p := ⟨4, 1, none⟩) (cell_block_lt h.params1)).trans h.params1, (hb.cell (p := ⟨5, 0, none⟩) (cell_block_lt h.statements0)).trans h.statements0, (hb.cell (p := ⟨5, 1, none⟩) (cell_block_lt h.statements1)).trans h.statements1, (hb.cell (p := ⟨6, 0, none⟩) (cell_block_lt h.blocks0)).trans h.blocks0, (hb.cell (p := ⟨6, 1, none⟩) (cell_block_lt h.blocks1)).trans h.blocks1, (hb.cell (p := ⟨7, 0, none⟩) (cell_block_lt h.branches0)).trans h.branches0, (hb.cell (p := ⟨7, 1, none⟩) (cell_block_lt h.branches1)).trans h.branches1, h.exprs.below hb⟩
theorem keepH {q0 q1 q2 q3 q4 q5 q6 q7 q8 q9 q10 q11 q12 q13 : Prop} {W2 w' : World} (h : q0 ∧ q1 ∧ q2 ∧ q3 ∧ q4 ∧ q5 ∧ q6 ∧ q7 ∧ q8 ∧ q9 ∧ q10 ∧ q11 ∧ q12 ∧ q13 ∧ Hid (Below W2.heap.size W2 w')) : Below W2.heap.size W2 w' := h.2.2.2.2.2.2.2.2.2.2.2.2.2.2.out
set_option maxHeartbeats 4000000 in
set_option maxRecDepth 100000 in
theorem header_any (a b : Int) (ks : List Tree) (x : Option Addr) (k : Nat) (hk : ks.length ≤ k) (hkm : k ≤ maxLen) (w : World) (G : Gr w) (hT : ∀ i (hi : i < ks.length), ∃ ad, x = some ad ∧ True ∧ KidAt w (fun _ => True) ad i (kat ks i)) :
  Calls Tryz.prog 91 #[.slice x ks.length k, .agg #[.int .i64 a, .int .i64 b]] w fun e w' => e = .returned (.bool (headB a b ks)) ∧ Below w.heap.size w w' := by
 have HB0 := Hd ((Below.refl w.heap.size w).alloc (Nat.le_refl _) (.cells #[.int .i64 a, .int .i64 b] 99))
 have hG0 := Blk.alloc w 99 [.int .i64 a, .int .i64 b]
 have HR : Hid (headB a b ks = (decide (0 < ks.length) && ((ks.take (ks.length - 1)).all (kin a b) && kin 8 8 (kat ks (ks.length - 1))))) := Hd rfl
 unfold maxLen at hkm
 by_cases h0 : 0 < ks.length
 rotate_left
 ·have hz : ks.length = 0 := by omega
  have HR2 : Hid (headB a b ks = false) := Hd (by rw [HR.out, decide_eq_false h0]; rfl)
  rw [hz]
  have qm : decide ((0 : Int) ≤ -1) = false := rfl
  clear hT HR
  go_enter Tryz.func91, Tryz.ntmps91
  go_upto_region 2 with fail
  first
  | (go_region_with (fail))
  | fail
  all_goals
   go_wp2
   go_ret
   exact ⟨by rw [HR2.out]; rfl, HB0.out.drew⟩
 obtain ⟨m, hm⟩ : ∃ m : Nat, ks.length = m + 1 := ⟨ks.length - 1, by omega⟩
 obtain ⟨ad, hxa, _, hkid⟩ := hT m (by omega)
 subst hxa
 have hm1 : ks.length - 1 = m := by omega
 have hlt : (ks.take m).length = m := by rw [List.length_take]; omega
 have HEV : Hid (∀ W, Below w.heap.size w W → Calls Tryz.prog 90 #[.slice (some ad) m k, .agg #[.int .i64 a, .int .i64 b]] W fun e w' => e = .returned (.bool ((ks.take m).all (kin a b))) ∧ Below W.heap.size W w') := Hd fun W hb => by
  have h := every_any a b (ks.take m) (some ad) k (by rw [hlt]; unfold maxLen; omega) W (fun i hi => by
   rw [hlt] at hi
   obtain ⟨a2, h1, h2, h3⟩ := hT i (by omega)
   refine ⟨a2, h1, h2, ?_⟩
   have e : kat (ks.take m) i = kat ks i := by
    rw [kat_get (by rw [hlt]; exact hi), kat_get (by omega), List.getElem_take]
   rw [e]
   exact h3.keep h2 (fun g _ hl => hb.block g hl) fun _ _ _ => trivial)
  rw [hlt] at h
  exact h
 have HHA := Hd fun l x n k W => has_any 8 8 l x n k W
 rw [hm1, decide_eq_true h0] at HR
 obtain ⟨l2, x2, n2, k2, ⟨e0, e1, e2, e3, e4, e5, e6, e7, e8, e9, e10⟩, hT3⟩ := hkid
 have hkk : kin 8 8 (kat ks m) = inG 8 8 l2.kind := by unfold kin; rw [kindT_cellsE hT3]
 rw [hkk] at HR
 have HSO : Hid (∀ w', Below (w.alloc (.cells #[.int .i64 a, .int .i64 b] 99)).heap.size (w.alloc (.cells #[.int .i64 a, .int .i64 b] 99)) w' → (∀ i : Nat, w'.cell? ⟨w.heap.size, i, none⟩ = ([.int .i64 a, .int .i64 b] : List Value)[i]?) ∧ w'.cell? ⟨6, 0, none⟩ = some (.int .i64 8) ∧ w'.cell? ⟨6, 1, none⟩ = some (.int .i64 8) ∧ w'.cell? (ad.add (m * 11)) = some (.int .i64 l2.kind) ∧ w'.cell? ⟨(ad.add (m * 11)).block, (ad.add (m * 11)).off + 1, none⟩ = some (.string (str l2.name)) ∧ w'.cell? ⟨(ad.add (m * 11)).block, (ad.add (m * 11)).off + 2, none⟩ = some (.int .u64 l2.num) ∧ w'.cell? ⟨(ad.add (m * 11)).block, (ad.add (m * 11)).off + 3, none⟩ = some (.int .i64 l2.wd) ∧ w'.cell? ⟨(ad.add (m * 11)).block, (ad.add (m * 11)).off + 4, none⟩ = some (.bool l2.sg) ∧ w'.cell? ⟨(ad.add (m * 11)).block, (ad.add (m * 11)).off + 5, none⟩ = some (.int .i64 l2.op) ∧ w'.cell? ⟨(ad.add (m * 11)).block, (ad.add (m * 11)).off + 6, none⟩ = some (.int .i64 l2.fac) ∧ w'.cell? ⟨(ad.add (m * 11)).block, (ad.add (m * 11)).off + 7, none⟩ = some (.int .i64 l2.pip) ∧ w'.cell? ⟨(ad.add (m * 11)).block, (ad.add (m * 11)).off + 8, none⟩ = some (.int .i64 l2.unr) ∧ w'.cell? ⟨(ad.add (m * 11)).block, (ad.add (m * 11)).off + 9, none⟩ = some (.int .i64 l2.line) ∧ w'.cell? ⟨(ad.add (m * 11)).block, (ad.add (m * 11)).off + 10, none⟩ = some (.slice x2 n2 k2) ∧ Hid (Below (w.alloc (.cells #[.int .i64 a, .int .i64 b] 99)).heap.size (w.alloc (.cells #[.int .i64 a, .int .i64 b] 99)) w')) := Hd fun w' hb => by
  have hbw := HB0.out.trans (hb.mono HB0.out.size)
  have ec : ∀ (p : Addr) (v : Value), w.cell? p = some v → w'.cell? p = some v := fun p v h => (hbw.cell (cell_block_lt h)).trans h
  exact ⟨fun i => ((hG0.below hb hG0.lt).cell i), ec _ _ G.blocks0, ec _ _ G.blocks1, ec _ _ e0, ec _ _ e1, ec _ _ e2, ec _ _ e3, ec _ _ e4, ec _ _ e5, ec _ _ e6, ec _ _ e7, ec _ _ e8, ec _ _ e9, ec _ _ e10, Hd hb⟩
 have HWB : Hid (∀ w', Below (w.alloc (.cells #[.int .i64 a, .int .i64 b] 99)).heap.size (w.alloc (.cells #[.int .i64 a, .int .i64 b] 99)) w' → Below w.heap.size w w') := Hd fun w' hb => HB0.out.trans (hb.mono HB0.out.size)
 have hmi : (0 : Int) ≤ (m : Int) := by omega
 have hmk : (m : Int) ≤ (k : Int) := by omega
 have hmn : (m : Int) < ((m + 1 : Nat) : Int) := by omega
 have hsub : (((m + 1 : Nat) : Int)) - 1 = (m : Int) := by omega
 have qm : decide ((0 : Int) ≤ (m : Int)) = true := decide_eq_true hmi
 rw [hm]
 clear hT hT3 G hG0 e0 e1 e2 e3 e4 e5 e6 e7 e8 e9 e10 hkk hm1 hlt HB0 h0
 generalize (ks.take m).all (kin a b) = bE at *
 have HHI := Hd fun W => HHA.out l2 x2 n2 k2 W
 clear hm
 generalize hN : m + 1 = N at *
 clear hN
 generalize hW1 : w.alloc (.cells #[.int .i64 a, .int .i64 b] 99) = W2 at *
 have HSD := HSO.out _ ((Below.refl W2.heap.size W2).drew)
 clear HSD
 cases bE with
 | true =>
  go_enter Tryz.func91, Tryz.ntmps91
  go_upto_region 2 with fail
  clear hW1
  go_region_held3 (fun w' => (∀ i : Nat, w'.cell? ⟨w.heap.size, i, none⟩ = ([.int .i64 a, .int .i64 b] : List Value)[i]?) ∧ w'.cell? ⟨6, 0, none⟩ = some (.int .i64 8) ∧ w'.cell? ⟨6, 1, none⟩ = some (.int .i64 8) ∧ w'.cell? (ad.add (m * 11)) = some (.int .i64 l2.kind) ∧ w'.cell? ⟨(ad.add (m * 11)).block, (ad.add (m * 11)).off + 1, none⟩ = some (.string (str l2.name)) ∧ w'.cell? ⟨(ad.add (m * 11)).block, (ad.add (m * 11)).off + 2, none⟩ = some (.int .u64 l2.num) ∧ w'.cell? ⟨(ad.add (m * 11)).block, (ad.add (m * 11)).off + 3, none⟩ = some (.int .i64 l2.wd) ∧ w'.cell? ⟨(ad.add (m * 11)).block, (ad.add (m * 11)).off + 4, none⟩ = some (.bool l2.sg) ∧ w'.cell? ⟨(ad.add (m * 11)).block, (ad.add (m * 11)).off + 5, none⟩ = some (.int .i64 l2.op) ∧ w'.cell? ⟨(ad.add (m * 11)).block, (ad.add (m * 11)).off + 6, none⟩ = some (.int .i64 l2.fac) ∧ w'.cell? ⟨(ad.add (m * 11)).block, (ad.add (m * 11)).off + 7, none⟩ = some (.int .i64 l2.pip) ∧ w'.cell? ⟨(ad.add (m * 11)).block, (ad.add (m * 11)).off + 8, none⟩ = some (.int .i64 l2.unr) ∧ w'.cell? ⟨(ad.add (m * 11)).block, (ad.add (m * 11)).off + 9, none⟩ = some (.int .i64 l2.line) ∧ w'.cell? ⟨(ad.add (m * 11)).block, (ad.add (m * 11)).off + 10, none⟩ = some (.slice x2 n2 k2) ∧ Hid (Below W2.heap.size W2 w'))
   (first
    | exact HSO.out _ (Below.refl _ _).drew
    | exact HSO.out _ ((keepH (by assumption)).trans (hb6.mono (keepH (by assumption)).size))
    | exact HSO.out _ (keepH (by assumption)).drew)
   (first
    | (go_at_call 90; refine (HEV.out _ (HWB.out _ (keepH (by assumption)))).mono ?_; rintro e w6 ⟨rfl, hb6⟩)
    | (go_at_call 82; refine (HHI.out _).mono ?_; rintro e w6 ⟨rfl, hb6⟩))
  have HB := Hd (HWB.out _ (keepH (W2 := W2) (w' := w6) (by assumption)))
  go_wp2
  go_ret
  exact ⟨by rw [HR.out]; rfl, HB.out⟩
 | false =>
  have hBD : Below W2.heap.size W2 W2.drew := (Below.refl _ _).drew
  have HS1 := HSO.out _ hBD
  obtain ⟨g0, g1, g2, e0, e1, e2, e3, e4, e5, e6, e7, e8, e9, e10, _⟩ := HS1
  go_enter Tryz.func91, Tryz.ntmps91
  go_upto_region 2 with fail
  clear hW1
  first
  | (go_region_with (go_at_call 90; refine (HEV.out _ (HWB.out _ (by assumption))).mono ?_; rintro e w6 ⟨rfl, hb6⟩; have hB6 := hBD.trans (hb6.mono hBD.size); have hS6 := HSO.out _ hB6; obtain ⟨k0, k1, k2, f0, f1, f2, f3, f4, f5, f6, f7, f8, f9, f10, _⟩ := hS6))
  | fail
  all_goals
   have HB := Hd (HWB.out _ hB6)
   go_wp2
   go_ret
   exact ⟨by rw [HR.out]; rfl, HB.out⟩
end Go.Proofs.YthdbaligapdbeaaGreatDoor
