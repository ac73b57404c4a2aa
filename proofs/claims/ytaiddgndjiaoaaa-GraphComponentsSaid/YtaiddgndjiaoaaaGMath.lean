/- Plain mathematics of directed graphs with the nodes 0 to n - 1: sorted lists of successors; what is reached; the closure by Warshall's rounds. Nothing of the program stands here. -/
namespace Go.Proofs.Ytaiddgndjiaoaaa

/-- Two strictly ascending lists with the same members are one. -/
theorem sorted_eq : ∀ {l l' : List Nat}, l.Pairwise (· < ·) → l'.Pairwise (· < ·) → (∀ x, x ∈ l ↔ x ∈ l') → l = l' := by
  intro l
  induction l with
  | nil =>
    intro l' _ _ h
    match l' with
    | [] => rfl
    | b :: t => exact absurd ((h b).2 (by simp)) (by simp)
  | cons a t ih =>
    intro l' h1 h2 h
    match l' with
    | [] => exact absurd ((h a).1 (by simp)) (by simp)
    | b :: t' =>
      have ha := (List.pairwise_cons.1 h1)
      have hb := (List.pairwise_cons.1 h2)
      have hab : a = b := by
        have e1 := (h a).1 (by simp)
        have e2 := (h b).2 (by simp)
        rcases List.mem_cons.1 e1 with e1 | e1
        · exact e1
        · rcases List.mem_cons.1 e2 with e2 | e2
          · exact e2.symm
          · have := hb.1 a e1
            have := ha.1 b e2
            omega
      subst hab
      congr 1
      refine ih ha.2 hb.2 fun x => ?_
      constructor
      · intro hx
        rcases List.mem_cons.1 ((h x).1 (List.mem_cons_of_mem _ hx)) with e | e
        · have := ha.1 x hx; omega
        · exact e
      · intro hx
        rcases List.mem_cons.1 ((h x).2 (List.mem_cons_of_mem _ hx)) with e | e
        · have := hb.1 x hx; omega
        · exact e

theorem range_pairwise (n : Nat) : (List.range n).Pairwise (· < ·) := List.pairwise_lt_range
theorem filter_range_pairwise (n : Nat) (p : Nat → Bool) : ((List.range n).filter p).Pairwise (· < ·) := (range_pairwise n).filter p

/-- The links of a graph as a relation on numbers. -/
def edge (ls : List (Int × Int)) (n a b : Nat) : Bool := decide (a < n) && decide (b < n) && ls.any fun p => decide (p.1 = (a : Int)) && decide (p.2 = (b : Int))
/-- The successors of a, ascending. -/
def adj (E : Nat → Nat → Bool) (n a : Nat) : List Nat := (List.range n).filter (E a)
theorem adj_mem {E : Nat → Nat → Bool} {n a x : Nat} : x ∈ adj E n a ↔ x < n ∧ E a x = true := by simp [adj]
theorem adj_length (E : Nat → Nat → Bool) (n a : Nat) : (adj E n a).length ≤ n := by
  unfold adj
  have := List.length_filter_le (E a) (List.range n)
  simpa using this
theorem edge_lt {ls : List (Int × Int)} {n a b : Nat} (h : edge ls n a b = true) : a < n ∧ b < n := by
  simp only [edge, Bool.and_eq_true, decide_eq_true_eq] at h
  exact ⟨h.1.1, h.1.2⟩
/-- What the first links say of a's successors, in the order in which they stand. -/
def col (ls : List (Int × Int)) (n k a : Nat) : List Nat :=
  ((ls.take k).filter fun p => decide (p.1 = (a : Int)) && (decide (0 ≤ p.2) && decide (p.2 < (n : Int)))).map fun p => p.2.toNat
theorem col_zero (ls : List (Int × Int)) (n a : Nat) : col ls n 0 a = [] := by simp [col]
theorem col_length (ls : List (Int × Int)) (n k a : Nat) : (col ls n k a).length ≤ ls.length := by
  unfold col
  rw [List.length_map]
  refine Nat.le_trans (List.length_filter_le _ _) ?_
  rw [List.length_take]; omega
theorem col_step {ls : List (Int × Int)} {n k a : Nat} {f t : Int} (hk : k < ls.length) (he : ls[k]? = some (f, t)) :
    col ls n (k + 1) a = if f = (a : Int) ∧ 0 ≤ t ∧ t < (n : Int) then col ls n k a ++ [t.toNat] else col ls n k a := by
  have e : ls.take (k + 1) = ls.take k ++ [(f, t)] := by
    rw [List.take_succ_eq_append_getElem hk]
    rw [List.getElem?_eq_getElem hk] at he
    injection he with he
    rw [he]
  unfold col
  rw [e, List.filter_append, List.map_append]
  by_cases h : f = (a : Int) ∧ 0 ≤ t ∧ t < (n : Int)
  · rw [if_pos h]; simp [h]
  · rw [if_neg h]
    have h' : (decide (f = (a : Int)) && (decide (0 ≤ t) && decide (t < (n : Int)))) = false := by
      rcases Decidable.em (f = (a : Int)) with h1 | h1
      · rcases Decidable.em (0 ≤ t) with h2 | h2
        · rcases Decidable.em (t < (n : Int)) with h3 | h3
          · exact absurd ⟨h1, h2, h3⟩ h
          · simp [h3]
        · simp [h2]
      · simp [h1]
    simp [h']
theorem col_mem {ls : List (Int × Int)} {n a x : Nat} (ha : a < n) : x ∈ col ls n ls.length a ↔ x < n ∧ edge ls n a x = true := by
  simp only [col, List.take_length, List.mem_map, List.mem_filter, Bool.and_eq_true, decide_eq_true_eq, edge, List.any_eq_true]
  constructor
  · rintro ⟨p, ⟨hp, h1, h2, h3⟩, rfl⟩
    refine ⟨by omega, ⟨ha, by omega⟩, p, hp, h1, by omega⟩
  · rintro ⟨hx, _, p, hp, h1, h2⟩
    exact ⟨p, ⟨hp, h1, by omega, by omega⟩, by omega⟩
theorem adj_of {ls : List (Int × Int)} {n a : Nat} {l : List Nat} (ha : a < n) (h1 : l.Pairwise (· < ·)) (h2 : ∀ x, x ∈ l ↔ x ∈ col ls n ls.length a) : l = adj (edge ls n) n a := by
  refine sorted_eq h1 (filter_range_pairwise n _) fun x => ?_
  rw [h2 x, col_mem ha, ← adj_mem]

/-! Paths. -/
/-- A path of at least one link. -/
inductive Path (E : Nat → Nat → Bool) : Nat → Nat → Prop where
  | one {a b : Nat} : E a b = true → Path E a b
  | more {a b c : Nat} : Path E a b → E b c = true → Path E a c
theorem Path.trans {E : Nat → Nat → Bool} {a b c : Nat} (h : Path E a b) (k : Path E b c) : Path E a c := by
  induction k with
  | one e => exact .more h e
  | more _ e ih => exact .more ih e
theorem Path.head {E : Nat → Nat → Bool} {a b c : Nat} (h : E a b = true) (k : Path E b c) : Path E a c := (Path.one h).trans k
theorem Path.lt {E : Nat → Nat → Bool} {n : Nat} (hE : ∀ a b, E a b = true → a < n ∧ b < n) {a b : Nat} (h : Path E a b) : a < n ∧ b < n := by
  induction h with
  | one e => exact hE _ _ e
  | more _ e ih => exact ⟨ih.1, (hE _ _ e).2⟩

/-- Warshall's rounds: whether a path from a to b exists whose inner nodes are below k. -/
def wars (M : Nat → Nat → Bool) : Nat → Nat → Nat → Bool
  | 0, a, b => M a b
  | k + 1, a, b => wars M k a b || (wars M k a k && wars M k k b)
theorem wars_mono {M : Nat → Nat → Bool} {k a b : Nat} (h : wars M k a b = true) : wars M (k + 1) a b = true := by simp [wars, h]
theorem wars_le {M : Nat → Nat → Bool} {k m a b : Nat} (hk : k ≤ m) (h : wars M k a b = true) : wars M m a b = true := by
  induction m with
  | zero => obtain rfl : k = 0 := by omega
            exact h
  | succ m ih =>
    rcases Nat.lt_or_ge k (m + 1) with h1 | h1
    · exact wars_mono (ih (by omega))
    · obtain rfl : k = m + 1 := by omega
      exact h
theorem wars_row {M : Nat → Nat → Bool} {k a : Nat} : wars M (k + 1) a k = wars M k a k := by
  simp only [wars]
  cases wars M k a k <;> simp
theorem wars_col {M : Nat → Nat → Bool} {k b : Nat} : wars M (k + 1) k b = wars M k k b := by
  simp only [wars]
  cases wars M k k b <;> simp
theorem wars_trans {M : Nat → Nat → Bool} : ∀ {k j a b : Nat}, j < k → wars M k a j = true → wars M k j b = true → wars M k a b = true := by
  intro k
  induction k with
  | zero => intro j a b h; omega
  | succ k ih =>
    intro j a b hj h1 h2
    rcases Nat.lt_or_ge j k with hjk | hjk
    · simp only [wars, Bool.or_eq_true, Bool.and_eq_true] at h1 h2 ⊢
      rcases h1 with h1 | ⟨h1, h1'⟩
      · rcases h2 with h2 | ⟨h2, h2'⟩
        · exact .inl (ih hjk h1 h2)
        · exact .inr ⟨ih hjk h1 h2, h2'⟩
      · rcases h2 with h2 | ⟨h2, h2'⟩
        · exact .inr ⟨h1, ih hjk h1' h2⟩
        · exact .inr ⟨h1, h2'⟩
    · obtain rfl : j = k := by omega
      rw [wars_row] at h1
      rw [wars_col] at h2
      simp [wars, h1, h2]
theorem wars_sound {M : Nat → Nat → Bool} : ∀ {k a b : Nat}, wars M k a b = true → Path M a b := by
  intro k
  induction k with
  | zero => intro a b h; exact .one h
  | succ k ih =>
    intro a b h
    simp only [wars, Bool.or_eq_true, Bool.and_eq_true] at h
    rcases h with h | ⟨h1, h2⟩
    · exact ih h
    · exact (ih h1).trans (ih h2)
theorem wars_complete {M : Nat → Nat → Bool} {n : Nat} (hM : ∀ a b, M a b = true → a < n ∧ b < n) {a b : Nat} (h : Path M a b) : wars M n a b = true := by
  induction h with
  | one e => exact wars_le (k := 0) (Nat.zero_le _) e
  | more _ e ih => exact wars_trans (hM _ _ e).1 ih (wars_le (k := 0) (Nat.zero_le _) e)
theorem wars_path {M : Nat → Nat → Bool} {n : Nat} (hM : ∀ a b, M a b = true → a < n ∧ b < n) {a b : Nat} : wars M n a b = true ↔ Path M a b := ⟨wars_sound, wars_complete hM⟩

/-! What a walk from a node reaches. -/
/-- R' is what was marked and what is reached from v by unmarked nodes: all that is new is reached, and the successors of all that is new are marked. -/
structure Walked (E : Nat → Nat → Bool) (R : Nat → Bool) (v : Nat) (R' : Nat → Bool) : Prop where
  old : ∀ u, R u = true → R' u = true
  at_v : R' v = true
  from_v : ∀ u, R' u = true → R u = true ∨ u = v ∨ Path E v u
  closed : ∀ u, R' u = true → R u = false → ∀ w, E u w = true → R' w = true
/-- The walk in the midst of v's successors: those that stand in l are done. -/
structure Walking (E : Nat → Nat → Bool) (R : Nat → Bool) (v : Nat) (l : List Nat) (R' : Nat → Bool) : Prop where
  old : ∀ u, R u = true → R' u = true
  at_v : R' v = true
  from_v : ∀ u, R' u = true → R u = true ∨ u = v ∨ Path E v u
  closed : ∀ u, R' u = true → R u = false → u ≠ v → ∀ w, E u w = true → R' w = true
  done : ∀ w, w ∈ l → R' w = true
theorem walking_start (E : Nat → Nat → Bool) (R : Nat → Bool) (v : Nat) : Walking E R v [] (fun u => if u = v then true else R u) :=
  ⟨fun u h => by split <;> simp_all, by simp, fun u h => by by_cases e : u = v <;> simp_all, fun u h h' e => by simp_all, fun w h => by simp at h⟩
theorem walking_skip {E : Nat → Nat → Bool} {R R' : Nat → Bool} {v w : Nat} {l : List Nat} (h : Walking E R v l R') (hw : R' w = true) : Walking E R v (l ++ [w]) R' :=
  ⟨h.old, h.at_v, h.from_v, h.closed, fun x hx => by
    rcases List.mem_append.1 hx with hx | hx
    · exact h.done x hx
    · simp at hx; subst hx; exact hw⟩
theorem walking_step {E : Nat → Nat → Bool} {R R' R'' : Nat → Bool} {v w : Nat} {l : List Nat} (h : Walking E R v l R') (hE : E v w = true) (k : Walked E R' w R'') : Walking E R v (l ++ [w]) R'' := by
  refine ⟨fun u hu => k.old u (h.old u hu), k.old v h.at_v, fun u hu => ?_, fun u hu hR hne x hx => ?_, fun x hx => ?_⟩
  · rcases k.from_v u hu with h1 | rfl | h1
    · exact h.from_v u h1
    · exact .inr (.inr (.one hE))
    · exact .inr (.inr (Path.head hE h1))
  · cases h2 : R' u with
    | true => exact k.old x (h.closed u h2 hR hne x hx)
    | false => exact k.closed u hu h2 x hx
  · rcases List.mem_append.1 hx with hx | hx
    · exact k.old x (h.done x hx)
    · simp at hx; subst hx; exact k.at_v
theorem walking_end {E : Nat → Nat → Bool} {R R' : Nat → Bool} {n v : Nat} (hE : ∀ a b, E a b = true → a < n ∧ b < n) (h : Walking E R v (adj E n v) R') : Walked E R v R' := by
  refine ⟨h.old, h.at_v, h.from_v, fun u hu hR w hw => ?_⟩
  by_cases e : u = v
  · subst e
    exact h.done w (adj_mem.2 ⟨(hE _ _ hw).2, hw⟩)
  · exact h.closed u hu hR e w hw
/-- A walk over nothing marked marks what is reached, and that alone. -/
theorem walked_all {E : Nat → Nat → Bool} {v : Nat} {R' : Nat → Bool} (h : Walked E (fun _ => false) v R') (u : Nat) : R' u = true ↔ u = v ∨ Path E v u := by
  constructor
  · intro hu
    rcases h.from_v u hu with h1 | h1
    · simp at h1
    · exact h1
  · rintro (rfl | hp)
    · exact h.at_v
    · induction hp with
      | one e => exact h.closed _ h.at_v rfl _ e
      | more _ e ih => exact h.closed _ ih rfl _ e
/-- How many of the first n are not marked. -/
def unmarked (R : Nat → Bool) (n : Nat) : Nat := ((List.range n).filter fun i => !R i).length
theorem filter_len_le {p q : Nat → Bool} {l : List Nat} (h : ∀ x, x ∈ l → p x = true → q x = true) : (l.filter p).length ≤ (l.filter q).length := by
  induction l with
  | nil => simp
  | cons a t ih =>
    have ih := ih fun x hx => h x (List.mem_cons_of_mem _ hx)
    have ha := h a (by simp)
    cases hp : p a <;> cases hq : q a <;> simp_all <;> omega
theorem filter_len_lt {p q : Nat → Bool} {l : List Nat} (h : ∀ x, x ∈ l → p x = true → q x = true) {v : Nat} (hv : v ∈ l) (h1 : p v = false) (h2 : q v = true) : (l.filter p).length < (l.filter q).length := by
  induction l with
  | nil => simp at hv
  | cons a t ih =>
    have hle := filter_len_le (p := p) (q := q) (l := t) fun x hx => h x (List.mem_cons_of_mem _ hx)
    rcases List.mem_cons.1 hv with rfl | hv
    · simp [h1, h2]; omega
    · have ih := ih (fun x hx => h x (List.mem_cons_of_mem _ hx)) hv
      have ha := h a (by simp)
      cases hp : p a <;> cases hq : q a <;> simp_all <;> omega
theorem unmarked_le {R R' : Nat → Bool} {n : Nat} (h : ∀ u, R u = true → R' u = true) : unmarked R' n ≤ unmarked R n := by
  refine filter_len_le fun x _ hx => ?_
  cases hR : R x with
  | false => rfl
  | true => simp [h x hR] at hx
theorem unmarked_lt {R R' : Nat → Bool} {n v : Nat} (h : ∀ u, R u = true → R' u = true) (hv : v < n) (h1 : R v = false) (h2 : R' v = true) : unmarked R' n < unmarked R n := by
  refine filter_len_lt (v := v) (fun x _ hx => ?_) (by simpa using hv) (by simp [h2]) (by simp [h1])
  cases hR : R x with
  | false => rfl
  | true => simp [h x hR] at hx
theorem unmarked_le_n (R : Nat → Bool) (n : Nat) : unmarked R n ≤ n := by
  unfold unmarked
  have := List.length_filter_le (fun i => !R i) (List.range n)
  simpa using this
end Go.Proofs.Ytaiddgndjiaoaaa
