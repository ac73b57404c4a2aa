/- Plain mathematics of the topological order in which the least possible node always comes next. Nothing of the program stands here. -/
import Derived.Test.YtaiddgndjiaoaaaGMath
import Derived.Test.YtaiddgndjiaoaaaHMath
namespace Go.Proofs.Ytaiddgndjiaoaaa

/-- How many predecessors of w are not listed yet. -/
def cnt (E : Nat → Nat → Bool) (n : Nat) (acc : List Nat) (w : Nat) : Nat := ((List.range n).filter fun p => E p w && !(acc.contains p)).length
/-- v is not listed, and all its predecessors are. -/
def freeb (E : Nat → Nat → Bool) (n : Nat) (acc : List Nat) (v : Nat) : Bool := !(acc.contains v) && (List.range n).all fun p => !(E p v) || acc.contains p
def nextOf (E : Nat → Nat → Bool) (n : Nat) (acc : List Nat) : Option Nat := (List.range n).find? (freeb E n acc)
def topoRun (E : Nat → Nat → Bool) (n : Nat) : Nat → List Nat → Option (List Nat)
  | 0, acc => some acc
  | k + 1, acc => match nextOf E n acc with
    | none => none
    | some v => topoRun E n k (acc ++ [v])
def topo (E : Nat → Nat → Bool) (n : Nat) : Option (List Nat) := topoRun E n n []

theorem freeb_iff {E : Nat → Nat → Bool} {n : Nat} {acc : List Nat} {v : Nat} : freeb E n acc v = true ↔ v ∉ acc ∧ ∀ p, p < n → E p v = true → p ∈ acc := by
  simp only [freeb, Bool.and_eq_true, Bool.not_eq_true', List.all_eq_true, List.mem_range, Bool.or_eq_true, List.contains_iff_mem]
  constructor
  · rintro ⟨h1, h2⟩
    refine ⟨fun h => by simp [h] at h1, fun p hp he => ?_⟩
    rcases h2 p hp with h | h
    · rw [he] at h; cases h
    · exact h
  · rintro ⟨h1, h2⟩
    refine ⟨by simpa using h1, fun p hp => ?_⟩
    cases he : E p v with
    | false => exact .inl rfl
    | true => exact .inr (h2 p hp he)
theorem cnt_zero {E : Nat → Nat → Bool} {n : Nat} {acc : List Nat} {w : Nat} : cnt E n acc w = 0 ↔ ∀ p, p < n → E p w = true → p ∈ acc := by
  unfold cnt
  rw [List.length_eq_zero_iff, List.filter_eq_nil_iff]
  simp only [List.mem_range, Bool.and_eq_true, Bool.not_eq_true', not_and]
  constructor
  · intro h p hp he
    have := h p hp he
    simpa using this
  · intro h p hp he
    have := h p hp he
    simpa using this
theorem filter_split {l : List Nat} {p q : Nat → Bool} {m : Nat} (hnd : l.Nodup) (hm : m ∈ l) (hp : p m = true) (hq : q m = false) (h : ∀ x, x ∈ l → x ≠ m → p x = q x) : (l.filter q).length + 1 = (l.filter p).length := by
  induction l with
  | nil => simp at hm
  | cons a t ih =>
    have hn := List.nodup_cons.1 hnd
    by_cases ha : a = m
    · subst ha
      have e : t.filter p = t.filter q := List.filter_congr fun x hx => h x (by simp [hx]) (fun e => hn.1 (e ▸ hx))
      simp [hp, hq, e]
    · have hm' : m ∈ t := by
        rcases List.mem_cons.1 hm with h1 | h1
        · exact absurd h1.symm ha
        · exact h1
      have ih := ih hn.2 hm' fun x hx hne => h x (by simp [hx]) hne
      have hpa := h a (by simp) ha
      cases hqa : q a <;> simp [hpa, hqa] <;> omega
theorem cnt_step {E : Nat → Nat → Bool} {n : Nat} {acc : List Nat} {m w : Nat} (hm : m < n) (hacc : m ∉ acc) (hE : E m w = true) : cnt E n (acc ++ [m]) w + 1 = cnt E n acc w := by
  unfold cnt
  refine filter_split (m := m) List.nodup_range (by simpa using hm) (by simp [hE, hacc]) (by simp) fun x _ hne => ?_
  simp [hne]
theorem cnt_same {E : Nat → Nat → Bool} {n : Nat} {acc : List Nat} {m w : Nat} (hE : E m w = false) : cnt E n (acc ++ [m]) w = cnt E n acc w := by
  unfold cnt
  congr 1
  refine List.filter_congr fun x _ => ?_
  by_cases hx : x = m
  · subst hx; simp [hE]
  · simp [hx]
theorem nextOf_least {E : Nat → Nat → Bool} {n : Nat} {acc : List Nat} {m : Nat} (hm : m < n) (hf : freeb E n acc m = true) (hl : ∀ v, v < n → freeb E n acc v = true → m ≤ v) : nextOf E n acc = some m := by
  unfold nextOf
  rw [List.find?_eq_some_iff_append]
  refine ⟨hf, List.range m, (List.range (n - m - 1)).map (· + (m + 1)), ?_, fun a ha => ?_⟩
  · apply List.ext_getElem
    · simp; omega
    · intro i h1 h2
      simp only [List.getElem_range, List.getElem_append, List.length_range]
      split
      · rfl
      · rename_i h3
        rcases Nat.lt_or_ge m i with h4 | h4
        · rw [List.getElem_cons]
          rw [dif_neg (by omega)]
          simp; omega
        · rw [List.getElem_cons, dif_pos (by omega)]
          omega
  · have ha' := List.mem_range.1 ha
    cases h : freeb E n acc a with
    | false => rfl
    | true => have := hl a (by omega) h; omega
theorem nextOf_none {E : Nat → Nat → Bool} {n : Nat} {acc : List Nat} (h : ∀ v, v < n → freeb E n acc v = false) : nextOf E n acc = none := by
  unfold nextOf
  rw [List.find?_eq_none]
  intro x hx
  simp [h x (List.mem_range.1 hx)]

/-- The state of the search: what is listed, and what is ready. -/
structure TopoAt (E : Nat → Nat → Bool) (n : Nat) (acc q : List Nat) : Prop where
  nodup : acc.Nodup
  lt : ∀ v, v ∈ acc → v < n
  preds : ∀ v, v ∈ acc → ∀ p, p < n → E p v = true → p ∈ acc
  qnodup : q.Nodup
  ready : ∀ v, v ∈ q ↔ v < n ∧ freeb E n acc v = true
  run : topoRun E n (n - acc.length) acc = topo E n
theorem acc_le {n : Nat} {acc : List Nat} (h1 : acc.Nodup) (h2 : ∀ v, v ∈ acc → v < n) : acc.length ≤ n := by
  have hp : acc.Perm ((List.range n).filter fun x => acc.contains x) := by
    rw [List.perm_iff_count]
    intro a
    rw [List.Nodup.count h1, List.Nodup.count (List.nodup_range.filter _)]
    have e : (a ∈ acc) ↔ a ∈ (List.range n).filter fun x => acc.contains x := by
      simp only [List.mem_filter, List.mem_range, List.contains_iff_mem]
      exact ⟨fun h => ⟨h2 a h, h⟩, fun h => h.2⟩
    by_cases h : a ∈ acc
    · rw [if_pos h, if_pos (e.1 h)]
    · rw [if_neg h, if_neg fun h' => h (e.2 h')]
  rw [hp.length_eq]
  have := List.length_filter_le (fun x => acc.contains x) (List.range n)
  simpa using this
theorem TopoAt.lt_n {E : Nat → Nat → Bool} {n : Nat} {acc q : List Nat} (h : TopoAt E n acc q) (hq : 0 < q.length) : acc.length < n := by
  have hv : q[0] ∈ q := List.getElem_mem _
  have hr := (h.ready _).1 hv
  have hf := freeb_iff.1 hr.2
  have := acc_le (n := n) (acc := q[0] :: acc) (List.nodup_cons.2 ⟨hf.1, h.nodup⟩) fun v hv => by
    rcases List.mem_cons.1 hv with rfl | hv
    · exact hr.1
    · exact h.lt v hv
  simp at this
  omega
/-- Midway: m is taken, the successors in l are done. -/
structure TopoMid (E : Nat → Nat → Bool) (n : Nat) (acc : List Nat) (m : Nat) (l q : List Nat) : Prop where
  qnodup : q.Nodup
  ready : ∀ v, v ∈ q ↔ (v < n ∧ freeb E n acc v = true ∧ v ≠ m) ∨ (v ∈ l ∧ cnt E n (acc ++ [m]) v = 0)
theorem topo_pop {E : Nat → Nat → Bool} {n : Nat} {acc q q' : List Nat} {m : Nat} (h : TopoAt E n acc q) (hp : (m :: q').Perm q) : TopoMid E n acc m [] q' := by
  have hn : (m :: q').Nodup := hp.nodup_iff.2 h.qnodup
  have hn' := List.nodup_cons.1 hn
  refine ⟨hn'.2, fun v => ?_⟩
  have e : v ∈ m :: q' ↔ v ∈ q := hp.mem_iff
  have r := h.ready v
  constructor
  · intro hv
    have := r.1 (e.1 (by simp [hv]))
    exact .inl ⟨this.1, this.2, fun e1 => hn'.1 (e1 ▸ hv)⟩
  · rintro (⟨h1, h2, h3⟩ | ⟨h1, _⟩)
    · have := e.2 (r.2 ⟨h1, h2⟩)
      rcases List.mem_cons.1 this with h4 | h4
      · exact absurd h4 h3
      · exact h4
    · simp at h1
theorem topo_taken {E : Nat → Nat → Bool} {n : Nat} {acc q q' : List Nat} {m : Nat} (h : TopoAt E n acc q) (hp : (m :: q').Perm q) (hmin : ∀ x, x ∈ q → m ≤ x) : m < n ∧ freeb E n acc m = true ∧ nextOf E n acc = some m := by
  have hm : m ∈ q := hp.mem_iff.1 (by simp)
  have hr := (h.ready m).1 hm
  exact ⟨hr.1, hr.2, nextOf_least hr.1 hr.2 fun v hv hf => hmin v ((h.ready v).2 ⟨hv, hf⟩)⟩
theorem mid_skip {E : Nat → Nat → Bool} {n : Nat} {acc l q : List Nat} {m w : Nat} (h : TopoMid E n acc m l q) (hc : cnt E n (acc ++ [m]) w ≠ 0) : TopoMid E n acc m (l ++ [w]) q := by
  refine ⟨h.qnodup, fun v => (h.ready v).trans ?_⟩
  constructor
  · rintro (h1 | ⟨h1, h2⟩)
    · exact .inl h1
    · exact .inr ⟨by simp [h1], h2⟩
  · rintro (h1 | ⟨h1, h2⟩)
    · exact .inl h1
    · rcases List.mem_append.1 h1 with h3 | h3
      · exact .inr ⟨h3, h2⟩
      · simp at h3; subst h3; exact absurd h2 hc
theorem mid_push {E : Nat → Nat → Bool} {n : Nat} {acc l q q' : List Nat} {m w : Nat} (h : TopoMid E n acc m l q) (hm : m < n) (hmacc : m ∉ acc) (hE : E m w = true) (hw : w ∉ l) (hc : cnt E n (acc ++ [m]) w = 0) (hp : q'.Perm (q ++ [w])) : TopoMid E n acc m (l ++ [w]) q' := by
  have hnew : w ∉ q := by
    intro hwq
    rcases (h.ready w).1 hwq with ⟨_, h2, _⟩ | ⟨h1, _⟩
    · exact hmacc ((freeb_iff.1 h2).2 m hm hE)
    · exact hw h1
  refine ⟨hp.nodup_iff.2 (List.nodup_append.2 ⟨h.qnodup, by simp, fun a ha b hb => by simp at hb; subst hb; exact fun e => hnew (e ▸ ha)⟩), fun v => hp.mem_iff.trans ?_⟩
  rw [List.mem_append, h.ready v]
  simp only [List.mem_append, List.mem_singleton]
  constructor
  · rintro ((h1 | ⟨h1, h2⟩) | rfl)
    · exact .inl h1
    · exact .inr ⟨.inl h1, h2⟩
    · exact .inr ⟨.inr rfl, hc⟩
  · rintro (h1 | ⟨h1 | h1, h2⟩)
    · exact .inl (.inl h1)
    · exact .inl (.inr ⟨h1, h2⟩)
    · exact .inr h1
theorem topo_next {E : Nat → Nat → Bool} {n : Nat} {acc q q' : List Nat} {m : Nat} (h : TopoAt E n acc q) (hm : m < n) (hf : freeb E n acc m = true) (hn : nextOf E n acc = some m) (hlen : acc.length < n) (k : TopoMid E n acc m (adj E n m) q') : TopoAt E n (acc ++ [m]) q' := by
  have hf' := freeb_iff.1 hf
  refine ⟨List.nodup_append.2 ⟨h.nodup, by simp, fun a ha b hb => by simp at hb; subst hb; exact fun e => hf'.1 (e ▸ ha)⟩, fun v hv => ?_, fun v hv p hp he => ?_, k.qnodup, fun v => (k.ready v).trans ?_, ?_⟩
  · rcases List.mem_append.1 hv with hv | hv
    · exact h.lt v hv
    · simp at hv; subst hv; exact hm
  · rcases List.mem_append.1 hv with hv | hv
    · exact List.mem_append_left _ (h.preds v hv p hp he)
    · simp at hv; subst hv
      exact List.mem_append_left _ (hf'.2 p hp he)
  · rw [freeb_iff (acc := acc ++ [m])]
    constructor
    · rintro (⟨h1, h2, h3⟩ | ⟨h1, h2⟩)
      · have h2' := freeb_iff.1 h2
        exact ⟨h1, fun h4 => by
          rcases List.mem_append.1 h4 with h5 | h5
          · exact h2'.1 h5
          · simp at h5; exact h3 h5, fun p hp he => List.mem_append_left _ (h2'.2 p hp he)⟩
      · have h3 := adj_mem.1 h1
        refine ⟨h3.1, fun h4 => ?_, cnt_zero.1 h2⟩
        rcases List.mem_append.1 h4 with h5 | h5
        · exact hf'.1 (h.preds v h5 m hm h3.2)
        · simp at h5; subst h5
          exact hf'.1 (hf'.2 v hm h3.2)
    · rintro ⟨h1, h2, h3⟩
      cases he : E m v with
      | true => exact .inr ⟨adj_mem.2 ⟨h1, he⟩, cnt_zero.2 h3⟩
      | false =>
        refine .inl ⟨h1, freeb_iff.2 ⟨fun h4 => h2 (List.mem_append_left _ h4), fun p hp hpe => ?_⟩, fun e => h2 (by simp [e])⟩
        rcases List.mem_append.1 (h3 p hp hpe) with h5 | h5
        · exact h5
        · simp at h5; subst h5; rw [he] at hpe; cases hpe
  · have e : n - acc.length = (n - (acc ++ [m]).length) + 1 := by simp; omega
    have := h.run
    rw [e, topoRun, hn] at this
    exact this
theorem topo_done {E : Nat → Nat → Bool} {n : Nat} {acc : List Nat} (h : TopoAt E n acc []) : topo E n = if acc.length < n then none else some acc := by
  rw [← h.run]
  split
  · rename_i hl
    have e : n - acc.length = (n - acc.length - 1) + 1 := by omega
    rw [e, topoRun, nextOf_none fun v hv => ?_]
    cases hf : freeb E n acc v with
    | false => rfl
    | true => have := (h.ready v).2 ⟨hv, hf⟩; simp at this
  · have e : n - acc.length = 0 := by omega
    rw [e, topoRun]
/-- The first queue: the nodes below i that have no predecessor. -/
structure TopoFirst (E : Nat → Nat → Bool) (n i : Nat) (q : List Nat) : Prop where
  qnodup : q.Nodup
  ready : ∀ v, v ∈ q ↔ v < i ∧ cnt E n [] v = 0
theorem first_skip {E : Nat → Nat → Bool} {n i : Nat} {q : List Nat} (h : TopoFirst E n i q) (hc : cnt E n [] i ≠ 0) : TopoFirst E n (i + 1) q :=
  ⟨h.qnodup, fun v => (h.ready v).trans ⟨fun h1 => ⟨by omega, h1.2⟩, fun h1 => ⟨by
    have : v ≠ i := fun e => hc (e ▸ h1.2)
    omega, h1.2⟩⟩⟩
theorem first_push {E : Nat → Nat → Bool} {n i : Nat} {q q' : List Nat} (h : TopoFirst E n i q) (hc : cnt E n [] i = 0) (hp : q'.Perm (q ++ [i])) : TopoFirst E n (i + 1) q' := by
  have hnew : i ∉ q := fun hi => by have := (h.ready i).1 hi; omega
  refine ⟨hp.nodup_iff.2 (List.nodup_append.2 ⟨h.qnodup, by simp, fun a ha b hb => by simp at hb; subst hb; exact fun e => hnew (e ▸ ha)⟩), fun v => hp.mem_iff.trans ?_⟩
  rw [List.mem_append, h.ready v, List.mem_singleton]
  constructor
  · rintro (h1 | rfl)
    · exact ⟨by omega, h1.2⟩
    · exact ⟨by omega, hc⟩
  · rintro ⟨h1, h2⟩
    by_cases e : v = i
    · exact .inr e
    · exact .inl ⟨by omega, h2⟩
theorem first_done {E : Nat → Nat → Bool} {n : Nat} {q : List Nat} (h : TopoFirst E n n q) : TopoAt E n [] q :=
  ⟨List.nodup_nil, fun v h => by simp at h, fun v h => by simp at h, h.qnodup, fun v => (h.ready v).trans (and_congr_right fun _ => by
    rw [cnt_zero, freeb_iff]; simp), by simp [topo]⟩
/-- How many of the first i nodes have a link to w. -/
def pc (E : Nat → Nat → Bool) (i w : Nat) : Nat := ((List.range i).filter fun p => E p w).length
theorem pc_zero (E : Nat → Nat → Bool) (w : Nat) : pc E 0 w = 0 := by simp [pc]
theorem pc_succ (E : Nat → Nat → Bool) (i w : Nat) : pc E (i + 1) w = pc E i w + if E i w then 1 else 0 := by
  unfold pc
  rw [List.range_succ, List.filter_append, List.length_append]
  by_cases h : E i w <;> simp [h]
theorem pc_le (E : Nat → Nat → Bool) (i w : Nat) : pc E i w ≤ i := by
  unfold pc
  have := List.length_filter_le (fun p => E p w) (List.range i)
  simpa using this
theorem pc_cnt (E : Nat → Nat → Bool) (n w : Nat) : pc E n w = cnt E n [] w := by
  unfold pc cnt
  congr 1
  exact List.filter_congr fun x _ => by simp
theorem cnt_le (E : Nat → Nat → Bool) (n : Nat) (acc : List Nat) (w : Nat) : cnt E n acc w ≤ n := by
  unfold cnt
  have := List.length_filter_le (fun p => E p w && !(acc.contains p)) (List.range n)
  simpa using this
theorem adj_nodup (E : Nat → Nat → Bool) (n a : Nat) : (adj E n a).Nodup := by
  unfold adj
  exact List.nodup_range.filter _
theorem at0_adj {E : Nat → Nat → Bool} {n a k : Nat} (h : k < (adj E n a).length) : at0 (adj E n a) k < n ∧ E a (at0 (adj E n a) k) = true := by
  rw [at0_eq h]
  exact adj_mem.1 (List.getElem_mem h)
theorem take_at0 {l : List Nat} {k : Nat} (h : k < l.length) : l.take (k + 1) = l.take k ++ [at0 l k] := by
  rw [List.take_succ_eq_append_getElem h, at0_eq h]
theorem at0_not_take {l : List Nat} {k : Nat} (hn : l.Nodup) (h : k < l.length) : at0 l k ∉ l.take k := by
  intro hm
  obtain ⟨j, hj, e⟩ := List.mem_iff_getElem.1 hm
  simp only [List.getElem_take] at e
  have hjk : j < k := by simp at hj; omega
  rw [at0_eq h] at e
  exact List.pairwise_iff_getElem.1 hn j k (by omega) h hjk e
end Go.Proofs.Ytaiddgndjiaoaaa
