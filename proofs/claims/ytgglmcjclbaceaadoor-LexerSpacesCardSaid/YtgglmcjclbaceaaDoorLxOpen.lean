/- A list of texts that comes in, opened. -/
import Derived.Test.YtgglmcjclbaceaaDoorLxLSpaces
import Derived.Test.YtgglmcjclbaceaaDoorLawKit
import Derived.SliceStrings
namespace Go.Proofs.YtgglmcjclbaceaaDoor
open Go.ChangeShapes Go.WideShapes Go.ChangeAt Go.RowKit
set_option linter.unusedVariables false

set_option maxRecDepth 100000 in
theorem open_texts {H : Type} {enc : TypeId × Value → H} {w : World} {base : Nat} {spare : Nat → Bool} {held : Bool} {r : Reach} {b0 : Nat} {v : Value} {d : DataW H} {p : List MemPlace}
    (hv : Value.okWide Tryd.prog w r b0 34 v) (h : DataW.Trod enc Tryd.prog w base spare held 34 v d p) :
    ∃ (x : Option Addr) (len cap : Nat) (ss : Nat → List UInt8), v = .slice x len cap ∧ len ≤ 9223372036854775807 ∧ (TextsAt w x len ss ∧ ∀ i, i < len → (ss i).length ≤ maxLen) := by
  obtain ⟨a0, len0, cap0, rfl⟩ := okWide_slice Tryd.underlying34 hv
  obtain ⟨fuel, hf⟩ := h
  rcases open_strings Tryd.underlying34 Tryd.underlying9 (by kernel_rfl) hf with ⟨hcs, _⟩ | ⟨a, len, cap, zs, hcs, _, hl, hm, hz, _, hcell, hwz⟩
  · simp [Value.cells] at hcs
    obtain ⟨rfl, rfl, rfl⟩ := hcs
    exact ⟨none, 0, 0, fun _ => [], rfl, by omega, .inl rfl, fun i hi => by omega⟩
  · simp [Value.cells] at hcs
    obtain ⟨rfl, rfl, rfl⟩ := hcs
    have hm' := hm
    unfold maxLen at hm'
    have hlz : len0 ≤ zs.length := by rw [hz]; split <;> omega
    refine ⟨some a, len0, cap0, fun i => (zs.getD i ByteArray.empty).data.toList, rfl, by omega, ?_, fun i hi => ?_⟩
    · by_cases h0 : len0 = 0
      · exact .inl h0
      · right
        have hc0 := hcell 0 (by omega)
        obtain ⟨b, o, s⟩ := a
        have hs : s = none := by simpa [Addr.add] using World.cell?_spot hc0
        subst hs
        refine ⟨b, o, rfl, ?_, fun i hi => ?_⟩
        · have := World.block_lt_of_cell? _ _ hc0
          simpa [Addr.add] using this
        · have h1 := hcell i (by omega)
          rw [Go.WideShapes.add_plain] at h1
          rw [h1, str_of]
    · have hmem : zs.getD i ByteArray.empty ∈ zs := by
        have : i < zs.length := by omega
        simp [List.getD, List.getElem?_eq_getElem this]
      have := hwz _ hmem
      show (zs.getD i ByteArray.empty).data.toList.length ≤ maxLen
      rw [Array.length_toList]
      exact this
end Go.Proofs.YtgglmcjclbaceaaDoor
