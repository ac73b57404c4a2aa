/- Plain mathematics of a path of the greatest weight, followed backwards. Nothing of the program stands here. -/
import Derived.Test.YtfobjonihlfepaaLMath
import Derived.Test.YtfobjonihlfepaaGFar
import Derived.Lib.Slices
namespace Go.Proofs.Ytfobjonihlfepaa

theorem maxOf_spec (zs : List Int) : ∀ k, 0 < k → k ≤ zs.length → (∀ j, j < k → zs.getD j 0 ≤ Lib.maxOf (zs.take k)) ∧ ∃ j, j < k ∧ zs.getD j 0 = Lib.maxOf (zs.take k) := by
  intro k
  induction k with
  | zero => intro h; omega
  | succ k ih =>
    intro _ hk
    by_cases h0 : k = 0
    · subst h0
      rw [Lib.maxOf_one]
      exact ⟨fun j hj => by obtain rfl : j = 0 := by omega
                            omega, 0, by omega, rfl⟩
    · obtain ⟨i1, j0, hj0, i2⟩ := ih (by omega) (by omega)
      rw [Lib.maxOf_step zs k (by omega) (by omega)]
      refine ⟨fun j hj => ?_, ?_⟩
      · by_cases e : j = k
        · subst e; omega
        · have := i1 j (by omega); omega
      · by_cases hm : Lib.maxOf (zs.take k) ≤ zs.getD k 0
        · exact ⟨k, by omega, by omega⟩
        · exact ⟨j0, by omega, by omega⟩
/-- The first place of the greatest number. -/
theorem idx_of_max (zs : List Int) (h0 : 0 < zs.length) : ∃ u : Nat, u < zs.length ∧ Lib.idxOf (zs.take zs.length) (Lib.maxOf (zs.take zs.length)) = (u : Int) ∧ zs.getD u 0 = Lib.maxOf (zs.take zs.length) := by
  obtain ⟨_, j, hj, hm⟩ := maxOf_spec zs zs.length h0 (Nat.le_refl _)
  -- the least such place
  have : ∃ u, u < zs.length ∧ zs.getD u 0 = Lib.maxOf (zs.take zs.length) ∧ ∀ i, i < u → zs.getD i 0 ≠ Lib.maxOf (zs.take zs.length) := by
    generalize Lib.maxOf (zs.take zs.length) = M at *
    induction j using Nat.strongRecOn with
    | ind j ih =>
      by_cases h : ∃ i, i < j ∧ zs.getD i 0 = M
      · obtain ⟨i, hi, he⟩ := h
        exact ih i hi (by omega) he
      · exact ⟨j, hj, hm, fun i hi he => h ⟨i, hi, he⟩⟩
  obtain ⟨u, hu, he, hne⟩ := this
  exact ⟨u, hu, Lib.idxOf_hit zs zs.length u _ hu (Nat.le_refl _) he hne, he⟩

/-- The sum of the weights of a list of nodes. -/
def sumW (W : Nat → Int) : List Nat → Int
  | [] => 0
  | a :: t => W a + sumW W t
theorem sumW_append (W : Nat → Int) (l l' : List Nat) : sumW W (l ++ l') = sumW W l + sumW W l' := by
  induction l with
  | nil => simp [sumW]
  | cons a t ih => simp only [List.cons_append, sumW, ih]; omega
theorem sumW_reverse (W : Nat → Int) (l : List Nat) : sumW W l.reverse = sumW W l := by
  induction l with
  | nil => rfl
  | cons a t ih => rw [List.reverse_cons, sumW_append, ih]; simp only [sumW]; omega
theorem sumW_bound {W : Nat → Int} (hw : ∀ v, -1073741824 ≤ W v ∧ W v ≤ 1073741824) (l : List Nat) : -(1073741824 * (l.length : Int)) ≤ sumW W l ∧ sumW W l ≤ 1073741824 * (l.length : Int) := by
  induction l with
  | nil => simp [sumW]
  | cons a t ih =>
    have := hw a
    simp only [sumW, List.length_cons]
    omega
/-- A list in which each node has a link from the next one. -/
def Back (E : Nat → Nat → Bool) (Q : List Nat) : Prop := ∀ i, i + 1 < Q.length → E (at0 Q (i + 1)) (at0 Q i) = true
theorem back_nil (E : Nat → Nat → Bool) : Back E [] := fun i h => by simp at h
theorem at0_append_lt {l l' : List Nat} {i : Nat} (h : i < l.length) : at0 (l ++ l') i = at0 l i := by simp [at0, List.getD, List.getElem?_append_left h]
theorem at0_append_end (l : List Nat) (c : Nat) : at0 (l ++ [c]) l.length = c := by simp [at0]
theorem back_snoc {E : Nat → Nat → Bool} {Q : List Nat} {c : Nat} (h : Back E Q) (he : Q = [] ∨ E c (at0 Q (Q.length - 1)) = true) : Back E (Q ++ [c]) := by
  intro i hi
  simp at hi
  by_cases e : i + 1 = Q.length
  · rw [e, at0_append_end, at0_append_lt (by omega)]
    rcases he with he | he
    · subst he; simp at e
    · have : i = Q.length - 1 := by omega
      rw [this]; exact he
  · rw [at0_append_lt (by omega), at0_append_lt (by omega)]
    exact h i (by omega)
theorem at0_reverse {Q : List Nat} {i : Nat} (h : i < Q.length) : at0 Q.reverse i = at0 Q (Q.length - 1 - i) := by
  rw [at0_eq (by simpa using h), at0_eq (by omega)]
  simp
/-- Reversed, it is a path. -/
theorem back_path {E : Nat → Nat → Bool} {Q : List Nat} (h : Back E Q) {i : Nat} (hi : i + 1 < Q.reverse.length) : E (at0 Q.reverse i) (at0 Q.reverse (i + 1)) = true := by
  have hi' : i + 1 < Q.length := by simpa using hi
  rw [at0_reverse (by omega), at0_reverse hi']
  have := h (Q.length - 1 - (i + 1)) (by omega)
  have e : Q.length - 1 - (i + 1) + 1 = Q.length - 1 - i := by omega
  rwa [e] at this
theorem idx_le : ∀ (l : List Nat) (j : Nat) (h : j < l.length), l.idxOf l[j] ≤ j := by
  intro l
  induction l with
  | nil => intro j h; simp at h
  | cons a t ih =>
    intro j h
    match j with
    | 0 => simp
    | j + 1 =>
      have := ih j (by simpa using h)
      simp only [List.getElem_cons_succ, List.idxOf_cons]
      by_cases e : a == t[j]'(by simpa using h)
      · simp [e]
      · simp [e]; exact this
/-- A predecessor stands before. -/
theorem idx_lt {E : Nat → Nat → Bool} {n : Nat} {l : List Nat} (h : Tord E n l) {p u : Nat} (hp : p < n) (hu : u ∈ l) (he : E p u = true) : l.idxOf p < l.idxOf u := by
  have hk := List.idxOf_lt_length_of_mem hu
  have h1 : at0 l (l.idxOf u) = u := by rw [at0_eq hk]; exact List.getElem_idxOf hk
  have h2 := (tord_at h hk).2.2 p hp (by rw [h1]; exact he)
  obtain ⟨j, hj, hjp⟩ := List.mem_iff_getElem.1 h2
  have hj' : j < l.idxOf u := by simp at hj; omega
  rw [List.getElem_take] at hjp
  have h3 : l.idxOf p ≤ j := by
    rw [← hjp]
    exact idx_le l j (by omega)
  omega
end Go.Proofs.Ytfobjonihlfepaa
