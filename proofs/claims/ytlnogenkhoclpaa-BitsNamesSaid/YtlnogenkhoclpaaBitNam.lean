/- The names of operators: contracts. -/
import Derived.Test.YtlnogenkhoclpaaBitKinds
namespace Go.Proofs.Ytlnogenkhoclpaa
open Go.RowKit

/-- The names, from 1 on. -/
def tbl : List ByteArray := [⟨#[]⟩, ⟨#[99, 111, 110, 115, 116]⟩, ⟨#[97, 100, 100]⟩, ⟨#[115, 117, 98]⟩, ⟨#[109, 117, 108]⟩, ⟨#[117, 100, 105, 118]⟩, ⟨#[117, 114, 101, 109]⟩, ⟨#[115, 100, 105, 118]⟩, ⟨#[115, 114, 101, 109]⟩, ⟨#[97, 110, 100]⟩, ⟨#[111, 114]⟩, ⟨#[120, 111, 114]⟩, ⟨#[115, 104, 108]⟩, ⟨#[108, 115, 104, 114]⟩, ⟨#[97, 115, 104, 114]⟩, ⟨#[101, 113]⟩, ⟨#[110, 101]⟩, ⟨#[117, 108, 116]⟩, ⟨#[117, 108, 101]⟩, ⟨#[115, 108, 116]⟩, ⟨#[115, 108, 101]⟩, ⟨#[115, 101, 108, 101, 99, 116]⟩, ⟨#[122, 101, 120, 116]⟩, ⟨#[115, 101, 120, 116]⟩, ⟨#[116, 114, 117, 110, 99]⟩, ⟨#[108, 111, 97, 100]⟩, ⟨#[115, 116, 111, 114, 101]⟩, ⟨#[114, 101, 99, 118]⟩, ⟨#[115, 101, 110, 100]⟩]
def nm (i : Nat) : ByteArray := tbl.getD i ⟨#[]⟩
theorem nm_far {i : Nat} (h : 29 ≤ i) : nm i = ⟨#[]⟩ := by
  unfold nm
  rw [List.getD, List.getElem?_eq_none (by simpa [tbl] using h)]
  rfl
theorem ret_str {a b : ByteArray} (h : a = b) : Ending.returned (.string a) = .returned (.string b) := by rw [h]
theorem op28 {op : Int} (h : 1 ≤ op ∧ op ≤ 28) : op = 1 ∨ op = 2 ∨ op = 3 ∨ op = 4 ∨ op = 5 ∨ op = 6 ∨ op = 7 ∨ op = 8 ∨ op = 9 ∨ op = 10 ∨ op = 11 ∨ op = 12 ∨ op = 13 ∨ op = 14 ∨ op = 15 ∨ op = 16 ∨ op = 17 ∨ op = 18 ∨ op = 19 ∨ op = 20 ∨ op = 21 ∨ op = 22 ∨ op = 23 ∨ op = 24 ∨ op = 25 ∨ op = 26 ∨ op = 27 ∨ op = 28 := by omega

set_option maxHeartbeats 1000000 in
theorem binaryName_yes (op : Int) (h : 2 ≤ op ∧ op ≤ 20) (w : World) : Calls Try.prog 50 #[.int .i64 op] w fun e w' => e = .returned (.string (nm op.toNat)) ∧ w = w' := by
  rcases op_cases h with rfl | rfl | rfl | rfl | rfl | rfl | rfl | rfl | rfl | rfl | rfl | rfl | rfl | rfl | rfl | rfl | rfl | rfl | rfl
  all_goals
    go_enter Try.func50, Try.ntmps50
    go_wp2
    go_ret
    exact ⟨rfl, rfl⟩
theorem binaryName_no (op : Int) (h : ¬ (2 ≤ op ∧ op ≤ 20)) (w : World) : Calls Try.prog 50 #[.int .i64 op] w fun e w' => e = .returned (.string ⟨#[]⟩) ∧ w = w' := by
  go_enter Try.func50, Try.ntmps50
  go_wp2
  go_ret
  exact ⟨rfl, rfl⟩
set_option maxHeartbeats 1000000 in
theorem Name_any (op : Int) (w : World) : Calls Try.prog 30 #[.int .i64 op] w fun e w' => e = .returned (.string (nm op.toNat)) ∧ w = w' := by
  by_cases h : 1 ≤ op ∧ op ≤ 28
  · by_cases h2 : 2 ≤ op ∧ op ≤ 20
    · go_enter Try.func30, Try.ntmps30
      go_wp2_with (go_at_call 50; refine (binaryName_yes _ h2 _).mono ?_; rintro e w' ⟨rfl, rfl⟩)
      go_ret
      exact ⟨rfl, rfl⟩
    · rcases (show op = 1 ∨ op = 21 ∨ op = 22 ∨ op = 23 ∨ op = 24 ∨ op = 25 ∨ op = 26 ∨ op = 27 ∨ op = 28 by omega) with rfl | rfl | rfl | rfl | rfl | rfl | rfl | rfl | rfl
      all_goals
        clear h h2
        go_enter Try.func30, Try.ntmps30
        go_wp2
        go_ret
        exact ⟨rfl, rfl⟩
  · have h2 : ¬ (2 ≤ op ∧ op ≤ 20) := by omega
    have e : nm op.toNat = ⟨#[]⟩ := by
      by_cases h0 : op ≤ 0
      · have : op.toNat = 0 := by omega
        rw [this]; rfl
      · exact nm_far (by omega)
    have E := Lib.hid e
    clear e
    go_enter Try.func30, Try.ntmps30
    go_wp2_with (go_at_call 50; refine (binaryName_no _ h2 _).mono ?_; rintro e w' ⟨rfl, rfl⟩)
    go_ret
    exact ⟨ret_str E.out.symm, rfl⟩

theorem rNames_any (w : World) : Calls Try.prog 29 #[] w fun e w' => ∃ g, e = .returned (.slice (some ⟨g, 0, none⟩) 29 29) ∧ g < w'.heap.size ∧ (∀ i, i < 29 → w'.cell? ⟨g, i, none⟩ = some (.string (nm i))) ∧ Below w.heap.size w w' := by
  go_enter Try.func29, Try.ntmps29
  go_wp2
  go_ret
  refine ⟨_, rfl, by simp, fun i hi => ?_, (Below.refl _ _).alloc (Nat.le_refl _) _⟩
  rw [World.cell?_alloc_at _ _ _ _ rfl]
  show (tbl.map Value.string).toArray[i]? = some (.string (nm i))
  have hl : i < tbl.length := by simpa [tbl] using hi
  rw [List.getElem?_toArray, List.getElem?_map, List.getElem?_eq_getElem hl]
  simp [nm, List.getD, List.getElem?_eq_getElem hl]
end Go.Proofs.Ytlnogenkhoclpaa
