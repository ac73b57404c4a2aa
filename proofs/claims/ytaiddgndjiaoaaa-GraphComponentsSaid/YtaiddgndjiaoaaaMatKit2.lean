/- Matrices, more: the rows by name; a row out of an owned slice. Nothing of the program stands here. -/
import Derived.Test.YtaiddgndjiaoaaaMatKit
namespace Go.Proofs.Ytaiddgndjiaoaaa
open Go.RowKit
set_option linter.unusedVariables false

theorem mat_open {w : World} {base : Nat} {t e : TypeId} {B cap : Nat} {k n : Nat} {M : Nat → Nat → Bool} (h : Mat w base t e (.slice (some ⟨B, 0, none⟩) k cap) k n M) :
    ∃ G C : Nat → Nat, (∀ a, a < k → w.cell? ⟨B, a, none⟩ = some (.slice (some ⟨G a, 0, none⟩) n (C a))) ∧ (∀ a b, a < k → b < n → w.cell? ⟨G a, b, none⟩ = some (.bool (M a b))) ∧ (∀ a b, a < k → w.frozen? ⟨G a, b, none⟩ = false) ∧ (∀ a, a < k → base ≤ G a) ∧
      ∀ (a b : Nat) (y : Bool) (M' : Nat → Nat → Bool), a < k → b < n → (∀ i j, i < k → j < n → M' i j = if i = a ∧ j = b then y else M i j) → Mat (w.setCell ⟨G a, b, none⟩ (.bool y)) base t e (.slice (some ⟨B, 0, none⟩) k cap) k n M' := by
  obtain ⟨G, C, h1, h2, h3⟩ := h
  refine ⟨G, C, fun a ha => ?_, fun a b ha hb => (h2 a ha).2.2.cell hb, fun a b ha => (h2 a ha).2.2.frozen b, fun a ha => (h2 a ha).1, fun a b y M' ha hb hM => ?_⟩
  · rw [h1.cellAt a (by omega)]
    exact rowsV_get ha
  · refine ⟨G, C, h1.kept (row := some (G a)) ⟨rfl, rfl, rfl, by simp [World.setCell], fun q _ hq => Below.heap_setCell _ _ _ _ (fun e => hq (by rw [e]))⟩ (.inr fun e => (h2 a ha).2.1 e.symm), fun i hi => ?_, h3⟩
    have hi2 := h2 i hi
    by_cases hia : i = a
    · subst hia
      exact ⟨hi2.1, hi2.2.1, hi2.2.2.set b y fun j hj => by rw [hM i j hi hj]; simp⟩
    · refine ⟨hi2.1, hi2.2.1, (hi2.2.2.of_block ?_).congr fun j hj => by rw [hM i j hi hj, if_neg (fun h => hia h.1)]⟩
      exact Below.heap_setCell _ _ _ _ (h3 i a hi ha hia)
theorem brow_own {w : World} {base e g n cap : Nat} {f : Nat → Bool} (h : w.ownsRow base e 1 (.slice (some ⟨g, 0, none⟩) n cap) n ((List.range n).map fun b => .bool (f b))) : BRow w e g n f := by
  rcases h.2 with ⟨h1, _⟩ | ⟨g', cap', cur, hv, hb, hh, hc, hm, hs, ht⟩
  · cases h1
  · cases hv
    refine ⟨cap, fun i => cur.getD i undef, hc, ⟨cur, hh, by omega, fun i hi => ?_⟩, fun b hb' => ?_⟩
    · have : i < cur.size := by omega
      simp [Array.getD, this]
    · have h1 : (cur.toList.take (n * 1))[b]? = ((List.range n).map fun b => Value.bool (f b))[b]? := by rw [ht]
      rw [List.getElem?_take_of_lt (by omega)] at h1
      have hbs : b < cur.size := by omega
      simp [hb', hbs] at h1
      simp [Array.getD, hbs, h1]
end Go.Proofs.Ytaiddgndjiaoaaa
