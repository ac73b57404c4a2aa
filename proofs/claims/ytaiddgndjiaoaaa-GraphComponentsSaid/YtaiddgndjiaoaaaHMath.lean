/- Plain mathematics of a heap in a list: the node at k has its parent at (k - 1) / 2. Nothing of the program stands here. -/
namespace Go.Proofs.Ytaiddgndjiaoaaa

def par (k : Nat) : Nat := (k - 1) / 2
theorem par_lt {k : Nat} (h : 0 < k) : par k < k := by unfold par; omega
def at0 (q : List Nat) (k : Nat) : Nat := q.getD k 0
def swp (q : List Nat) (i j : Nat) : List Nat := (q.set i (at0 q j)).set j (at0 q i)
theorem swp_length (q : List Nat) (i j : Nat) : (swp q i j).length = q.length := by simp [swp]
theorem at0_eq {q : List Nat} {k : Nat} (h : k < q.length) : at0 q k = q[k] := by simp [at0, List.getD, List.getElem?_eq_getElem h]
theorem swp_perm {q : List Nat} {i j : Nat} (hi : i < q.length) (hj : j < q.length) : (swp q i j).Perm q := by
  unfold swp
  rw [at0_eq hi, at0_eq hj]
  exact List.set_set_perm hi hj
theorem swp_at {q : List Nat} {i j : Nat} (hi : i < q.length) (hj : j < q.length) (k : Nat) : at0 (swp q i j) k = if k = j then at0 q i else if k = i then at0 q j else at0 q k := by
  by_cases h1 : k = j
  · subst h1
    rw [if_pos rfl]
    simp [at0, swp, List.getD, hj]
  · rw [if_neg h1]
    have h1' : ¬ j = k := fun e => h1 e.symm
    by_cases h2 : k = i
    · subst h2
      rw [if_pos rfl]
      simp [at0, swp, List.getD, hi, h1']
    · rw [if_neg h2]
      have h2' : ¬ i = k := fun e => h2 e.symm
      simp [at0, swp, List.getD, h1', h2']

def Heap (q : List Nat) : Prop := ∀ k, 0 < k → k < q.length → at0 q (par k) ≤ at0 q k
def HeapTo (q : List Nat) (n : Nat) : Prop := ∀ k, 0 < k → k < n → at0 q (par k) ≤ at0 q k
def UpInv (q : List Nat) (j : Nat) : Prop := (∀ k, 0 < k → k < q.length → k ≠ j → at0 q (par k) ≤ at0 q k) ∧ ∀ k, 0 < k → k < q.length → par k = j → 0 < j → at0 q (par j) ≤ at0 q k
theorem up_start {q : List Nat} (h : Heap q) (x : Nat) : UpInv (q ++ [x]) q.length := by
  have e : ∀ k, k < q.length → at0 (q ++ [x]) k = at0 q k := fun k hk => by simp [at0, List.getD, List.getElem?_append_left hk]
  refine ⟨fun k h0 hk hne => ?_, fun k h0 hk hp _ => ?_⟩
  · have hk' : k < q.length := by simp at hk; omega
    have := par_lt h0
    rw [e k hk', e _ (by omega)]
    exact h k h0 hk'
  · have := par_lt h0
    simp at hk
    omega
theorem up_stop {q : List Nat} {j : Nat} (h : UpInv q j) (hj : j = 0 ∨ at0 q (par j) ≤ at0 q j) : Heap q := by
  intro k h0 hk
  by_cases e : k = j
  · subst e
    rcases hj with hj | hj
    · omega
    · exact hj
  · exact h.1 k h0 hk e
theorem up_step {q : List Nat} {j : Nat} (h : UpInv q j) (h0 : 0 < j) (hj : j < q.length) (hlt : at0 q j < at0 q (par j)) : UpInv (swp q (par j) j) (par j) := by
  have hp := par_lt h0
  have hi : par j < q.length := by omega
  have sw := swp_at hi hj
  refine ⟨fun k k0 hk hne => ?_, fun k k0 hk hkp hp0 => ?_⟩
  · rw [swp_length] at hk
    have hpk := par_lt k0
    rw [sw, sw k]
    by_cases e1 : k = j
    · subst e1
      rw [if_pos rfl, if_neg (by omega), if_pos rfl]
      omega
    · rw [if_neg e1, if_neg hne]
      by_cases e2 : par k = j
      · rw [if_pos e2]
        exact h.2 k k0 hk e2 h0
      · rw [if_neg e2]
        by_cases e3 : par k = par j
        · rw [if_pos e3]
          have := h.1 k k0 hk e1
          rw [e3] at this
          omega
        · rw [if_neg e3]
          exact h.1 k k0 hk e1
  · rw [swp_length] at hk
    have hpp := par_lt hp0
    rw [sw, sw k, if_neg (by omega), if_neg (by omega)]
    have a1 := h.1 (par j) hp0 (by omega) (by omega)
    by_cases e1 : k = j
    · subst e1
      rw [if_pos rfl]
      exact a1
    · rw [if_neg e1]
      have hpk := par_lt k0
      rw [if_neg (by omega)]
      have a2 := h.1 k k0 hk e1
      rw [hkp] at a2
      omega

def DownInv (q : List Nat) (n i : Nat) : Prop := (∀ k, 0 < k → k < n → par k ≠ i → at0 q (par k) ≤ at0 q k) ∧ ∀ k, 0 < k → k < n → par k = i → 0 < i → at0 q (par i) ≤ at0 q k
theorem down_start {q : List Nat} {n : Nat} (h : Heap q) (hn : q.length = n + 1) : DownInv (swp q 0 n) n 0 := by
  have sw := swp_at (q := q) (i := 0) (j := n) (by omega) (by omega)
  refine ⟨fun k k0 hk hp => ?_, fun k _ _ _ h0 => by omega⟩
  have hpk := par_lt k0
  rw [sw, sw k, if_neg (by omega), if_neg hp, if_neg (by omega), if_neg (by omega)]
  exact h k k0 (by omega)
theorem down_stop {q : List Nat} {n i : Nat} (h : DownInv q n i) (hc : ∀ k, 0 < k → k < n → par k = i → at0 q i ≤ at0 q k) : HeapTo q n := by
  intro k k0 hk
  by_cases e : par k = i
  · rw [e]; exact hc k k0 hk e
  · exact h.1 k k0 hk e
theorem down_step {q : List Nat} {n i j : Nat} (h : DownInv q n i) (hn : n ≤ q.length) (j0 : 0 < j) (hj : j < n) (hp : par j = i) (hc : ∀ k, 0 < k → k < n → par k = i → at0 q j ≤ at0 q k) (hlt : at0 q j < at0 q i) : DownInv (swp q i j) n j := by
  have hij := par_lt j0
  have sw := swp_at (q := q) (i := i) (j := j) (by omega) (by omega)
  refine ⟨fun k k0 hk hpj => ?_, fun k k0 hk hpj _ => ?_⟩
  · have hpk := par_lt k0
    rw [sw, sw k, if_neg hpj]
    by_cases e1 : par k = i
    · rw [if_pos e1]
      by_cases e2 : k = j
      · subst e2; rw [if_pos rfl]; omega
      · rw [if_neg e2, if_neg (by omega)]
        exact hc k k0 hk e1
    · rw [if_neg e1]
      by_cases e2 : k = j
      · subst e2; exact absurd hp e1
      · rw [if_neg e2]
        by_cases e3 : k = i
        · subst e3
          rw [if_pos rfl]
          exact h.2 j j0 hj hp k0
        · rw [if_neg e3]
          exact h.1 k k0 hk e1
  · have hpk := par_lt k0
    rw [sw, sw k, hp, if_neg (by omega), if_pos rfl, if_neg (by omega), if_neg (by omega)]
    have := h.1 k k0 hk (by omega)
    rw [hpj] at this
    exact this
theorem heap_min {q : List Nat} (h : Heap q) : ∀ k, k < q.length → at0 q 0 ≤ at0 q k := by
  intro k
  induction k using Nat.strongRecOn with
  | ind k ih =>
    intro hk
    by_cases h0 : 0 < k
    · have hp := par_lt h0
      have := ih (par k) hp (by omega)
      have := h k h0 hk
      omega
    · obtain rfl : k = 0 := by omega
      exact Nat.le_refl _
theorem heap_take {q : List Nat} {n : Nat} (h : HeapTo q n) (hn : n ≤ q.length) : Heap (q.take n) := by
  intro k k0 hk
  have hk' : k < n := by simp at hk; omega
  have hp := par_lt k0
  have e : ∀ i, i < n → at0 (q.take n) i = at0 q i := fun i hi => by simp [at0, List.getD, List.getElem?_take_of_lt hi]
  rw [e k hk', e _ (by omega)]
  exact h k k0 hk'
theorem heap_nil : Heap [] := fun k _ h => by simp at h
/-- What Pop leaves. -/
theorem pop_perm {q q2 : List Nat} {n : Nat} (hn : q.length = n + 1) (hp : q2.Perm q) (hl : at0 q2 n = at0 q 0) : (at0 q 0 :: q2.take n).Perm q := by
  have hl2 : q2.length = n + 1 := by rw [hp.length_eq, hn]
  have e : q2 = q2.take n ++ [at0 q 0] := by
    rw [← hl, at0_eq (by omega)]
    have h1 := List.take_succ_eq_append_getElem (l := q2) (i := n) (by omega)
    rw [List.take_of_length_le (by omega)] at h1
    exact h1
  have h2 : (q2.take n ++ [at0 q 0]).Perm q := e ▸ hp
  have h3 : (at0 q 0 :: q2.take n).Perm (q2.take n ++ [at0 q 0]) := by
    have := List.perm_append_comm (l₁ := [at0 q 0]) (l₂ := q2.take n)
    simpa using this
  exact h3.trans h2
theorem pop_min {q : List Nat} (h : Heap q) {x : Nat} (hx : x ∈ q) : at0 q 0 ≤ x := by
  obtain ⟨k, hk, rfl⟩ := List.mem_iff_getElem.1 hx
  rw [← at0_eq hk]
  exact heap_min h k hk
end Go.Proofs.Ytaiddgndjiaoaaa
