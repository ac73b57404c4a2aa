/- Plain mathematics of strongly connected components by one depth-first search. Nothing of the program stands here. -/
import Derived.Test.YtaiddgndjiaoaaaCompMath
import Derived.Test.YtaiddgndjiaoaaaCyMath
namespace Go.Proofs.Ytaiddgndjiaoaaa

/-- The state: T, the nodes in the order of their visit; O, those whose component is open. -/
structure Tar (E : Nat → Nat → Bool) (n : Nat) (T O : List Nat) : Prop where
  nodup : T.Nodup
  lt : ∀ v, v ∈ T → v < n
  sub : O.Sublist T
  closed : ∀ u, u ∈ T → u ∉ O → ∀ w, E u w = true → w ∈ T ∧ w ∉ O
theorem Tar.done_path {E : Nat → Nat → Bool} {n : Nat} {T O : List Nat} (h : Tar E n T O) {u w : Nat} (p : Path E u w) : u ∈ T → u ∉ O → w ∈ T ∧ w ∉ O := by
  induction p with
  | one e => intro h1 h2; exact h.closed _ h1 h2 _ e
  | more _ e ih => intro h1 h2; obtain ⟨h3, h4⟩ := ih h1 h2; exact h.closed _ h3 h4 _ e
/-- In the midst of v's list; T0 and O0: the state at v's entry. -/
structure TarMid (E : Nat → Nat → Bool) (n : Nat) (T0 O0 : List Nat) (v : Nat) (T X : List Nat) (k low : Nat) : Prop where
  st : Tar E n T (O0 ++ X)
  vX : v ∈ X
  grow : (T0 ++ [v]) <+: T
  xnew : ∀ x, x ∈ X → x ∉ T0
  a : ∀ x, x ∈ X → x = v ∨ Path E x v
  e : ∀ x, x ∈ X → x = v ∨ Path E v x
  c : ∀ x, x ∈ X → x ≠ v → ∀ w, E x w = true → w ∈ T ∧ (w ∈ O0 → low ≤ T.idxOf w)
  cv : ∀ w, w ∈ (adj E n v).take k → w ∈ T ∧ (w ∈ O0 → low ≤ T.idxOf w)
  lowle : low ≤ T0.length
  lowat : low = T0.length ∨ ∃ o, o ∈ O0 ∧ T0.idxOf o = low ∧ Path E v o
/-- What the search from v leaves behind. -/
structure TarOut (E : Nat → Nat → Bool) (n : Nat) (T0 O0 : List Nat) (v : Nat) (T X : List Nat) (low : Nat) : Prop where
  st : Tar E n T (O0 ++ X)
  grow : (T0 ++ [v]) <+: T
  xnew : ∀ x, x ∈ X → x ∉ T0
  a : ∀ x, x ∈ X → x = v ∨ Path E x v
  e : ∀ x, x ∈ X → x = v ∨ Path E v x
  c : ∀ x, x ∈ X → ∀ w, E x w = true → w ∈ T ∧ (w ∈ O0 → low ≤ T.idxOf w)
  lowat : (X = [] ∧ low = T0.length) ∨ (v ∈ X ∧ low < T0.length ∧ ∃ o, o ∈ O0 ∧ T0.idxOf o = low ∧ Path E v o)

theorem idx_pre {T T' : List Nat} (h : T <+: T') {u : Nat} (hu : u ∈ T) : T'.idxOf u = T.idxOf u := by
  obtain ⟨r, rfl⟩ := h
  rw [List.idxOf_append, if_pos hu]
theorem pre_mem {T T' : List Nat} (h : T <+: T') {u : Nat} (hu : u ∈ T) : u ∈ T' := h.subset hu
theorem idx_new {T T' : List Nat} (h : T <+: T') {u : Nat} (hu : u ∉ T) : T.length ≤ T'.idxOf u := by
  obtain ⟨r, rfl⟩ := h
  rw [List.idxOf_append, if_neg hu]
  omega
theorem tar_start {E : Nat → Nat → Bool} {n : Nat} {T O : List Nat} {v : Nat} (h : Tar E n T O) (hv : v < n) (hvT : v ∉ T) : TarMid E n T O v (T ++ [v]) [v] 0 T.length := by
  refine ⟨⟨?_, ?_, ?_, ?_⟩, by simp, List.prefix_refl _, ?_, ?_, ?_, ?_, ?_, Nat.le_refl _, .inl rfl⟩
  · rw [List.nodup_append]
    exact ⟨h.nodup, by simp, fun a ha b hb e => hvT (by rw [List.mem_singleton.1 hb] at e; exact e ▸ ha)⟩
  · intro u hu
    rcases List.mem_append.1 hu with hu | hu
    · exact h.lt u hu
    · rw [List.mem_singleton.1 hu]; exact hv
  · exact h.sub.append (List.Sublist.refl _)
  · intro u hu hno w hw
    have h1 : u ∈ T := by
      rcases List.mem_append.1 hu with hu | hu
      · exact hu
      · exact absurd (List.mem_append_right _ hu) hno
    obtain ⟨h2, h3⟩ := h.closed u h1 (fun h => hno (List.mem_append_left _ h)) w hw
    refine ⟨List.mem_append_left _ h2, fun h4 => ?_⟩
    rcases List.mem_append.1 h4 with h4 | h4
    · exact h3 h4
    · exact hvT (List.mem_singleton.1 h4 ▸ h2)
  · intro x hx; rw [List.mem_singleton.1 hx]; exact hvT
  · intro x hx; exact .inl (List.mem_singleton.1 hx)
  · intro x hx; exact .inl (List.mem_singleton.1 hx)
  · intro x hx hne; exact absurd (List.mem_singleton.1 hx) hne
  · intro w hw; simp at hw
/-- v's next successor is done. -/
theorem tar_done {E : Nat → Nat → Bool} {n : Nat} {T0 O0 T X : List Nat} {v k low : Nat} (h : TarMid E n T0 O0 v T X k low) (hk : k < (adj E n v).length) (hT : at0 (adj E n v) k ∈ T) (hO : at0 (adj E n v) k ∉ O0 ++ X) : TarMid E n T0 O0 v T X (k + 1) low := by
  refine ⟨h.st, h.vX, h.grow, h.xnew, h.a, h.e, h.c, fun w hw => ?_, h.lowle, h.lowat⟩
  rw [take_at0 hk] at hw
  rcases List.mem_append.1 hw with hw | hw
  · exact h.cv w hw
  · rw [List.mem_singleton.1 hw]
    exact ⟨hT, fun h1 => absurd (List.mem_append_left _ h1) hO⟩
/-- v's next successor is open. -/
theorem tar_open {E : Nat → Nat → Bool} {n : Nat} {T0 O0 T X : List Nat} {v k low : Nat} (h : TarMid E n T0 O0 v T X k low) (hO0 : ∀ o, o ∈ O0 → o ∈ T0) (hk : k < (adj E n v).length) (hO : at0 (adj E n v) k ∈ O0 ++ X) : TarMid E n T0 O0 v T X (k + 1) (min low (T.idxOf (at0 (adj E n v) k))) := by
  have hE := (at0_adj hk).2
  have hT := h.st.sub.subset hO
  have hpre : T0 <+: T := (List.prefix_append _ _).trans h.grow
  refine ⟨h.st, h.vX, h.grow, h.xnew, h.a, h.e, fun x hx hne w hw => ?_, fun w hw => ?_, by have := h.lowle; omega, ?_⟩
  · obtain ⟨h1, h2⟩ := h.c x hx hne w hw
    exact ⟨h1, fun h3 => by have := h2 h3; omega⟩
  · rw [take_at0 hk] at hw
    rcases List.mem_append.1 hw with hw | hw
    · obtain ⟨h1, h2⟩ := h.cv w hw
      exact ⟨h1, fun h3 => by have := h2 h3; omega⟩
    · rw [List.mem_singleton.1 hw]
      exact ⟨hT, fun _ => by omega⟩
  · by_cases hlt : T.idxOf (at0 (adj E n v) k) < low
    · have hm : min low (T.idxOf (at0 (adj E n v) k)) = T.idxOf (at0 (adj E n v) k) := by omega
      have h0 : at0 (adj E n v) k ∈ O0 := by
        rcases List.mem_append.1 hO with h1 | h1
        · exact h1
        · have := idx_new hpre (h.xnew _ h1)
          have := h.lowle
          omega
      exact .inr ⟨_, h0, by rw [hm, idx_pre hpre (hO0 _ h0)], .one hE⟩
    · have hm : min low (T.idxOf (at0 (adj E n v) k)) = low := by omega
      rw [hm]; exact h.lowat
/-- v's next successor is searched. -/
theorem tar_call {E : Nat → Nat → Bool} {n : Nat} {T0 O0 T X T2 X2 : List Nat} {v k low low2 : Nat} (h : TarMid E n T0 O0 v T X k low) (hO0 : ∀ o, o ∈ O0 → o ∈ T0) (hA : ∀ o, o ∈ O0 → Path E o v) (hk : k < (adj E n v).length) (hT : at0 (adj E n v) k ∉ T) (g : TarOut E n T (O0 ++ X) (at0 (adj E n v) k) T2 X2 low2) : TarMid E n T0 O0 v T2 (X ++ X2) (k + 1) (min low low2) := by
  have hE := (at0_adj hk).2
  have hp0 : T0 <+: T := (List.prefix_append _ _).trans h.grow
  have hp2 : T <+: T2 := (List.prefix_append _ _).trans g.grow
  have hll := h.lowle
  have hvT : v ∈ T := pre_mem h.grow (by simp)
  have hlen : T0.length < T.length := by have := h.grow.length_le; simp at this; omega
  have hreach : ∀ o, o ∈ O0 ++ X → o = v ∨ Path E o v := fun o ho => by
    rcases List.mem_append.1 ho with ho | ho
    · exact .inr (hA o ho)
    · exact h.a o ho
  refine ⟨by rw [← List.append_assoc]; exact g.st, List.mem_append_left _ h.vX, h.grow.trans hp2, fun x hx => ?_, fun x hx => ?_, fun x hx => ?_, fun x hx hne w hw => ?_, fun w hw => ?_, by omega, ?_⟩
  · rcases List.mem_append.1 hx with hx | hx
    · exact h.xnew x hx
    · exact fun h1 => g.xnew x hx (pre_mem hp0 h1)
  · rcases List.mem_append.1 hx with hx | hx
    · exact h.a x hx
    · rcases g.lowat with ⟨h1, _⟩ | ⟨_, _, o, ho, _, hwo⟩
      · rw [h1] at hx; simp at hx
      · have hwv : Path E (at0 (adj E n v) k) v := by
          rcases hreach o ho with rfl | h1
          · exact hwo
          · exact hwo.trans h1
        rcases g.a x hx with rfl | h1
        · exact .inr hwv
        · exact .inr (h1.trans hwv)
  · rcases List.mem_append.1 hx with hx | hx
    · exact h.e x hx
    · rcases g.e x hx with rfl | h1
      · exact .inr (.one hE)
      · exact .inr (Path.head hE h1)
  · rcases List.mem_append.1 hx with hx | hx
    · obtain ⟨h1, h2⟩ := h.c x hx hne w hw
      exact ⟨pre_mem hp2 h1, fun h3 => by rw [idx_pre hp2 h1]; have := h2 h3; omega⟩
    · obtain ⟨h1, h2⟩ := g.c x hx w hw
      exact ⟨h1, fun h3 => by have := h2 (List.mem_append_left _ h3); omega⟩
  · rw [take_at0 hk] at hw
    rcases List.mem_append.1 hw with hw | hw
    · obtain ⟨h1, h2⟩ := h.cv w hw
      exact ⟨pre_mem hp2 h1, fun h3 => by rw [idx_pre hp2 h1]; have := h2 h3; omega⟩
    · rw [List.mem_singleton.1 hw]
      exact ⟨pre_mem g.grow (by simp), fun h3 => absurd (pre_mem hp0 (hO0 _ h3)) hT⟩
  · by_cases hlt : low2 < low
    · rw [show min low low2 = low2 by omega]
      rcases g.lowat with ⟨_, h1⟩ | ⟨_, _, o, ho, hi, hwo⟩
      · omega
      · rcases List.mem_append.1 ho with ho | ho
        · exact .inr ⟨o, ho, by rw [← hi, idx_pre hp0 (hO0 _ ho)], Path.head hE hwo⟩
        · have := idx_new hp0 (h.xnew _ ho)
          omega
    · rw [show min low low2 = low by omega]
      exact h.lowat
/-- All successors: what v's open nodes lead to. -/
theorem tar_all {E : Nat → Nat → Bool} {n : Nat} {T0 O0 T X : List Nat} {v low : Nat} (hE : ∀ a b, E a b = true → a < n ∧ b < n) (h : TarMid E n T0 O0 v T X (adj E n v).length low) : ∀ x, x ∈ X → ∀ w, E x w = true → w ∈ T ∧ (w ∈ O0 → low ≤ T.idxOf w) := by
  intro x hx w hw
  by_cases e : x = v
  · subst e
    refine h.cv w ?_
    rw [List.take_length]
    exact adj_mem.2 ⟨(hE _ _ hw).2, hw⟩
  · exact h.c x hx e w hw
theorem tar_low {E : Nat → Nat → Bool} {n : Nat} {T0 O0 T X : List Nat} {v low : Nat} (hE : ∀ a b, E a b = true → a < n ∧ b < n) (h : TarMid E n T0 O0 v T X (adj E n v).length low) (hlow : low ≠ T0.length) : TarOut E n T0 O0 v T X low :=
  ⟨h.st, h.grow, h.xnew, h.a, h.e, tar_all hE h, .inr ⟨h.vX, by have := h.lowle; omega, h.lowat.resolve_left hlow⟩⟩
/-- v's component is complete. -/
theorem tar_top {E : Nat → Nat → Bool} {n : Nat} {T0 O0 T X : List Nat} {v low : Nat} (hE : ∀ a b, E a b = true → a < n ∧ b < n) (hO0 : ∀ o, o ∈ O0 → o ∈ T0) (h : TarMid E n T0 O0 v T X (adj E n v).length low) (hlow : low = T0.length) : TarOut E n T0 O0 v T [] low := by
  have hp0 : T0 <+: T := (List.prefix_append _ _).trans h.grow
  refine ⟨⟨h.st.nodup, h.st.lt, by rw [List.append_nil]; exact (List.sublist_append_left _ _).trans h.st.sub, ?_⟩, h.grow, by simp, by simp, by simp, by simp, .inl ⟨rfl, hlow⟩⟩
  rw [List.append_nil]
  intro u hu hno w hw
  by_cases hX : u ∈ X
  · obtain ⟨h1, h2⟩ := tar_all hE h u hX w hw
    refine ⟨h1, fun h3 => ?_⟩
    have h4 := h2 h3
    rw [idx_pre hp0 (hO0 _ h3)] at h4
    have := List.idxOf_lt_length_iff.2 (hO0 _ h3)
    omega
  · obtain ⟨h1, h2⟩ := h.st.closed u hu (by simp [hno, hX]) w hw
    exact ⟨h1, fun h3 => h2 (List.mem_append_left _ h3)⟩
theorem tar_comp {E : Nat → Nat → Bool} {n : Nat} {T0 O0 T X : List Nat} {v low m x : Nat} (hE : ∀ a b, E a b = true → a < n ∧ b < n) (hO0 : ∀ o, o ∈ O0 → o ∈ T0) (h : TarMid E n T0 O0 v T X (adj E n v).length low) (hlow : low = T0.length) (hm : m ∈ X) (hmin : ∀ y, y ∈ X → m ≤ y) (hx : x ∈ X) : compB (wars E n) x = m := by
  have ht := (tar_top hE hO0 h hlow).st
  rw [List.append_nil] at ht
  have hin : ∀ y, y ∈ X → y ∈ T := fun y hy => h.st.sub.subset (List.mem_append_right _ hy)
  refine compB_spec hE ?_ (fun y h1 h2 => ?_) (hmin x hx)
  · have hxm : ∀ p q, p ∈ X → q ∈ X → p = q ∨ Path E p q := by
      intro p q hp hq
      rcases h.a p hp with rfl | h1
      · rcases h.e q hq with rfl | h2
        · exact .inl rfl
        · exact .inr h2
      · rcases h.e q hq with rfl | h2
        · exact .inr h1
        · exact .inr (h1.trans h2)
    by_cases e : m = x
    · exact .inl e
    · exact .inr ⟨(hxm x m hx hm).resolve_left (fun h => e h.symm), (hxm m x hm hx).resolve_left e⟩
  · refine hmin y (Classical.byContradiction fun hy => ?_)
    obtain ⟨h3, h4⟩ := ht.done_path h1 (hin x hx) (fun h5 => h.xnew x hx (hO0 x h5))
    exact (h.st.done_path h2 h3 (by simp [h4, hy])).2 (List.mem_append_right _ hx)
end Go.Proofs.Ytaiddgndjiaoaaa
