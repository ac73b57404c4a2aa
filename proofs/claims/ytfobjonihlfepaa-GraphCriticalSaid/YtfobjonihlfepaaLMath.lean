/- Plain mathematics of greatest weights of paths over a topological order. Nothing of the program stands here. -/
import Derived.Test.YtfobjonihlfepaaTMath
namespace Go.Proofs.Ytfobjonihlfepaa

/-- A list in which every node stands behind its predecessors. -/
def Tord (E : Nat → Nat → Bool) (n : Nat) (l : List Nat) : Prop := ∀ a v b, l = a ++ v :: b → v ∉ a ∧ v < n ∧ ∀ p, p < n → E p v = true → p ∈ a
theorem tord_nil (E : Nat → Nat → Bool) (n : Nat) : Tord E n [] := fun a v b h => by simp at h
theorem tord_snoc {E : Nat → Nat → Bool} {n : Nat} {l : List Nat} {v : Nat} (h : Tord E n l) (hv : v < n) (hf : freeb E n l v = true) : Tord E n (l ++ [v]) := by
  intro a u b e
  rcases List.eq_nil_or_concat b with rfl | ⟨b', x, rfl⟩
  · have e2 : l ++ [v] = a ++ [u] := e
    have := List.append_inj' e2 rfl
    obtain ⟨rfl, h2⟩ := this
    injection h2 with h2 _
    subst h2
    have hf' := freeb_iff.1 hf
    exact ⟨hf'.1, hv, hf'.2⟩
  · have e2 : l ++ [v] = (a ++ u :: b') ++ [x] := by rw [e]; simp
    have := List.append_inj' e2 rfl
    exact h a u b' this.1
theorem topoRun_tord {E : Nat → Nat → Bool} {n : Nat} : ∀ (k : Nat) (acc : List Nat), Tord E n acc → ∀ l, topoRun E n k acc = some l → Tord E n l := by
  intro k
  induction k with
  | zero => intro acc h l e; rw [topoRun] at e; injection e with e; subst e; exact h
  | succ k ih =>
    intro acc h l e
    rw [topoRun] at e
    rcases hn : nextOf E n acc with _ | v
    · rw [hn] at e; cases e
    · rw [hn] at e
      have hf : freeb E n acc v = true := List.find?_some hn
      have hv : v < n := by have := List.mem_of_find?_eq_some hn; simpa using this
      exact ih _ (tord_snoc h hv hf) l e
theorem topo_tord {E : Nat → Nat → Bool} {n : Nat} {l : List Nat} (h : topo E n = some l) : Tord E n l := topoRun_tord n [] (tord_nil E n) l h
theorem tord_at {E : Nat → Nat → Bool} {n : Nat} {l : List Nat} (h : Tord E n l) {k : Nat} (hk : k < l.length) : at0 l k ∉ l.take k ∧ at0 l k < n ∧ ∀ p, p < n → E p (at0 l k) = true → p ∈ l.take k := by
  refine h (l.take k) (at0 l k) (l.drop (k + 1)) ?_
  rw [at0_eq hk, ← List.drop_eq_getElem_cons hk, List.take_append_drop]
theorem tord_mem {E : Nat → Nat → Bool} {n : Nat} {l : List Nat} (h : Tord E n l) {v : Nat} (hv : v ∈ l) : v < n ∧ ∀ p, p < n → E p v = true → p ∈ l := by
  obtain ⟨a, b, rfl⟩ := List.append_of_mem hv
  have := h a v b rfl
  exact ⟨this.2.1, fun p hp he => List.mem_append_left _ (this.2.2 p hp he)⟩
theorem tord_take {E : Nat → Nat → Bool} {n : Nat} {l : List Nat} (h : Tord E n l) (k : Nat) : Tord E n (l.take k) := by
  intro a v b e
  refine h a v (b ++ l.drop k) ?_
  have h1 := List.take_append_drop k l
  rw [e, List.append_assoc, List.cons_append] at h1
  exact h1.symm

/-- The greatest of 0 and what stands at the predecessors of w. -/
def bst (E : Nat → Nat → Bool) (n : Nat) (f : Nat → Int) (w : Nat) : Int := (List.range n).foldl (fun b p => if E p w then max b (f p) else b) 0
/-- The same as far as the first k nodes. -/
def bstTo (E : Nat → Nat → Bool) (k : Nat) (f : Nat → Int) (w : Nat) : Int := (List.range k).foldl (fun b p => if E p w then max b (f p) else b) 0
theorem bstTo_succ (E : Nat → Nat → Bool) (k : Nat) (f : Nat → Int) (w : Nat) : bstTo E (k + 1) f w = if E k w then max (bstTo E k f w) (f k) else bstTo E k f w := by
  unfold bstTo
  rw [List.range_succ, List.foldl_append]
  rfl
structure IsBest (E : Nat → Nat → Bool) (n : Nat) (f : Nat → Int) (w : Nat) (b : Int) : Prop where
  pos : 0 ≤ b
  le : ∀ p, p < n → E p w = true → f p ≤ b
  at_p : b = 0 ∨ ∃ p, p < n ∧ E p w = true ∧ b = f p
theorem bstTo_best (E : Nat → Nat → Bool) (f : Nat → Int) (w : Nat) : ∀ k, IsBest E k f w (bstTo E k f w) := by
  intro k
  induction k with
  | zero => exact ⟨by simp [bstTo], fun p h => by omega, .inl (by simp [bstTo])⟩
  | succ k ih =>
    rw [bstTo_succ]
    by_cases he : E k w = true
    · rw [if_pos he]
      refine ⟨by have := ih.pos; omega, fun p hp h => ?_, ?_⟩
      · by_cases e : p = k
        · subst e; omega
        · have := ih.le p (by omega) h; omega
      · by_cases hm : bstTo E k f w ≤ f k
        · exact .inr ⟨k, by omega, he, by omega⟩
        · rcases ih.at_p with h | ⟨p, hp, h1, h2⟩
          · exact .inl (by omega)
          · exact .inr ⟨p, by omega, h1, by omega⟩
    · rw [if_neg he]
      refine ⟨ih.pos, fun p hp h => ?_, ?_⟩
      · by_cases e : p = k
        · subst e; exact absurd h he
        · exact ih.le p (by omega) h
      · rcases ih.at_p with h | ⟨p, hp, h1, h2⟩
        · exact .inl h
        · exact .inr ⟨p, by omega, h1, h2⟩
theorem bst_best (E : Nat → Nat → Bool) (n : Nat) (f : Nat → Int) (w : Nat) : IsBest E n f w (bst E n f w) := bstTo_best E f w n
theorem best_unique {E : Nat → Nat → Bool} {n : Nat} {f : Nat → Int} {w : Nat} {b c : Int} (h : IsBest E n f w b) (k : IsBest E n f w c) : b = c := by
  have h1 : b ≤ c := by
    rcases h.at_p with e | ⟨p, hp, he, e⟩
    · rw [e]; exact k.pos
    · rw [e]; exact k.le p hp he
  have h2 : c ≤ b := by
    rcases k.at_p with e | ⟨p, hp, he, e⟩
    · rw [e]; exact h.pos
    · rw [e]; exact h.le p hp he
  omega
/-- The greatest weights after the nodes of a list, in their order. -/
def lgStep (E : Nat → Nat → Bool) (n : Nat) (wt : Nat → Int) (f : Nat → Int) (v u : Nat) : Int := if u = v then bst E n f v + wt v else f u
def lg (E : Nat → Nat → Bool) (n : Nat) (wt : Nat → Int) (l : List Nat) : Nat → Int := l.foldl (lgStep E n wt) (fun _ => 0)
theorem lg_snoc (E : Nat → Nat → Bool) (n : Nat) (wt : Nat → Int) (l : List Nat) (v : Nat) : lg E n wt (l ++ [v]) = lgStep E n wt (lg E n wt l) v := by simp [lg, List.foldl_append]
theorem lg_out' {E : Nat → Nat → Bool} {n : Nat} {wt : Nat → Int} {u : Nat} : ∀ (k : Nat) (l : List Nat), l.length = k → u ∉ l → lg E n wt l u = 0 := by
  intro k
  induction k with
  | zero =>
    intro l hl _
    have : l = [] := List.eq_nil_of_length_eq_zero hl
    subst this
    rfl
  | succ k ih =>
    intro l hl h
    rcases List.eq_nil_or_concat l with rfl | ⟨l', v, rfl⟩
    · rfl
    · have e : l'.concat v = l' ++ [v] := by simp
      rw [e] at h hl ⊢
      rw [lg_snoc]
      unfold lgStep
      have h1 : u ≠ v := fun e => h (by simp [e])
      rw [if_neg h1]
      exact ih l' (by simp at hl; omega) (fun e => h (by simp [e]))
theorem lg_out {E : Nat → Nat → Bool} {n : Nat} {wt : Nat → Int} {u : Nat} (l : List Nat) (h : u ∉ l) : lg E n wt l u = 0 := lg_out' l.length l rfl h
/-- One more node has its value: what can come before w. -/
theorem bst_step {E : Nat → Nat → Bool} {n : Nat} {wt : Nat → Int} {l : List Nat} {v w : Nat} (hv : v < n) (hl : v ∉ l) : bst E n (lg E n wt (l ++ [v])) w = if E v w then max (bst E n (lg E n wt l) w) (lg E n wt (l ++ [v]) v) else bst E n (lg E n wt l) w := by
  have h1 := bst_best E n (lg E n wt l) w
  have hz : lg E n wt l v = 0 := lg_out l hl
  have hoth : ∀ p, p ≠ v → lg E n wt (l ++ [v]) p = lg E n wt l p := fun p hp => by rw [lg_snoc]; unfold lgStep; rw [if_neg hp]
  refine best_unique (bst_best _ _ _ _) ?_
  by_cases he : E v w = true
  · rw [if_pos he]
    refine ⟨by have := h1.pos; omega, fun p hp h => ?_, ?_⟩
    · by_cases e : p = v
      · subst e; omega
      · rw [hoth p e]; have := h1.le p hp h; omega
    · by_cases hm : bst E n (lg E n wt l) w ≤ lg E n wt (l ++ [v]) v
      · exact .inr ⟨v, hv, he, by omega⟩
      · rcases h1.at_p with h | ⟨p, hp, h2, h3⟩
        · exact .inl (by omega)
        · by_cases e : p = v
          · subst e; exact .inl (by have := h1.pos; omega)
          · exact .inr ⟨p, hp, h2, by rw [hoth p e]; omega⟩
  · rw [if_neg he]
    refine ⟨h1.pos, fun p hp h => ?_, ?_⟩
    · by_cases e : p = v
      · subst e; exact absurd h he
      · rw [hoth p e]; exact h1.le p hp h
    · rcases h1.at_p with h | ⟨p, hp, h2, h3⟩
      · exact .inl h
      · by_cases e : p = v
        · subst e; exact absurd h2 he
        · exact .inr ⟨p, hp, h2, by rw [hoth p e]; exact h3⟩
/-- Bounds. -/
theorem lg_bound {E : Nat → Nat → Bool} {n : Nat} {wt : Nat → Int} (hw : ∀ v, -1073741824 ≤ wt v ∧ wt v ≤ 1073741824) : ∀ (k : Nat) (l : List Nat), l.length = k → ∀ u, -1073741824 ≤ lg E n wt l u ∧ lg E n wt l u ≤ 1073741824 * (k : Int) := by
  intro k
  induction k with
  | zero =>
    intro l hl u
    have : l = [] := List.eq_nil_of_length_eq_zero hl
    subst this
    simp only [lg, List.foldl_nil]; omega
  | succ k ih =>
    intro l hl u
    rcases List.eq_nil_or_concat l with rfl | ⟨l', v, rfl⟩
    · simp at hl
    · have e : l'.concat v = l' ++ [v] := by simp
      rw [e] at hl ⊢
      have hl' : l'.length = k := by simp at hl; omega
      have h := ih l' hl'
      rw [lg_snoc]
      unfold lgStep
      by_cases hu : u = v
      · rw [if_pos hu]
        have hb := bst_best E n (lg E n wt l') v
        have := hw v
        have h0 := hb.pos
        rcases hb.at_p with h1 | ⟨p, _, _, h1⟩
        · omega
        · have := h p; omega
      · rw [if_neg hu]
        have := h u; omega
theorem bst_bound {E : Nat → Nat → Bool} {n : Nat} {f : Nat → Int} {w : Nat} {c : Int} (h0 : 0 ≤ c) (h : ∀ p, f p ≤ c) : 0 ≤ bst E n f w ∧ bst E n f w ≤ c := by
  have hb := bst_best E n f w
  refine ⟨hb.pos, ?_⟩
  rcases hb.at_p with h1 | ⟨p, _, _, h1⟩
  · omega
  · have := h p; omega
/-- What the code's list of weights holds in the midst: the nodes of acc have theirs, the others what can come before them. -/
def cur (E : Nat → Nat → Bool) (n : Nat) (wt : Nat → Int) (acc : List Nat) (u : Nat) : Int := if u ∈ acc then lg E n wt acc u else bst E n (lg E n wt acc) u
/-- In the midst of v's successors: v has its weight, the first k successors know it. -/
def curMid (E : Nat → Nat → Bool) (n : Nat) (wt : Nat → Int) (acc : List Nat) (v k u : Nat) : Int :=
  if u = v then lg E n wt (acc ++ [v]) v else if u ∈ (adj E n v).take k then max (cur E n wt acc u) (lg E n wt (acc ++ [v]) v) else cur E n wt acc u
theorem curMid_end {E : Nat → Nat → Bool} {n : Nat} {wt : Nat → Int} {acc : List Nat} {v u : Nat} (hv : v < n) (hacc : v ∉ acc) (hpre : ∀ x, x ∈ acc → ∀ p, p < n → E p x = true → p ∈ acc) (hu : u < n) :
    curMid E n wt acc v (adj E n v).length u = cur E n wt (acc ++ [v]) u := by
  unfold curMid
  rw [List.take_length]
  by_cases e : u = v
  · subst e
    rw [if_pos rfl]
    unfold cur
    rw [if_pos (by simp)]
  · rw [if_neg e]
    by_cases hm : u ∈ acc
    · have hne : u ∉ adj E n v := fun h => hacc (hpre u hm v hv (adj_mem.1 h).2)
      rw [if_neg hne]
      unfold cur
      rw [if_pos hm, if_pos (by simp [hm]), lg_snoc]
      unfold lgStep
      rw [if_neg e]
    · have c1 : cur E n wt acc u = bst E n (lg E n wt acc) u := by unfold cur; rw [if_neg hm]
      have c2 : cur E n wt (acc ++ [v]) u = bst E n (lg E n wt (acc ++ [v])) u := by unfold cur; rw [if_neg (by simp [hm, e])]
      rw [c1, c2, bst_step hv hacc]
      by_cases h : E v u = true
      · rw [if_pos (adj_mem.2 ⟨hu, h⟩), if_pos h]
      · rw [if_neg (fun h1 => h (adj_mem.1 h1).2), if_neg h]
theorem curMid_step {E : Nat → Nat → Bool} {n : Nat} {wt : Nat → Int} {acc : List Nat} {v k u : Nat} (hk : k < (adj E n v).length) (hself : at0 (adj E n v) k ≠ v) :
    curMid E n wt acc v (k + 1) u = if u = at0 (adj E n v) k then max (curMid E n wt acc v k (at0 (adj E n v) k)) (lg E n wt (acc ++ [v]) v) else curMid E n wt acc v k u := by
  have h1 := at0_not_take (adj_nodup E n v) hk
  unfold curMid
  rw [take_at0 hk]
  by_cases e : u = at0 (adj E n v) k
  · rw [if_pos e, e, if_neg hself, if_pos (by simp), if_neg hself, if_neg h1]
  · rw [if_neg e]
    by_cases e2 : u = v
    · rw [if_pos e2, if_pos e2]
    · rw [if_neg e2, if_neg e2]
      simp [e]
theorem curMid_self (E : Nat → Nat → Bool) (n : Nat) (wt : Nat → Int) (acc : List Nat) (v k : Nat) : curMid E n wt acc v k v = lg E n wt (acc ++ [v]) v := by unfold curMid; rw [if_pos rfl]
theorem curMid_start {E : Nat → Nat → Bool} {n : Nat} {wt : Nat → Int} {acc : List Nat} {v u : Nat} (hacc : v ∉ acc) : curMid E n wt acc v 0 u = if u = v then cur E n wt acc v + wt v else cur E n wt acc u := by
  unfold curMid
  by_cases e : u = v
  · rw [if_pos e, if_pos e, lg_snoc]
    unfold lgStep cur
    rw [if_pos rfl, if_neg hacc]
  · rw [if_neg e, if_neg e]; simp

/-- Where the greatest weight before a node comes from: -1, or a predecessor. -/
def From (E : Nat → Nat → Bool) (f : Nat → Int) (acc : List Nat) (u : Nat) (c : Int) (b : Int) : Prop := (b = -1 ∧ c = 0) ∨ ∃ p, p ∈ acc ∧ b = (p : Int) ∧ E p u = true ∧ c = f p
theorem from_weaken {E : Nat → Nat → Bool} {n : Nat} {wt : Nat → Int} {acc : List Nat} {u v : Nat} {c b : Int} (hv : v ∉ acc) (h : From E (lg E n wt acc) acc u c b) : From E (lg E n wt (acc ++ [v])) (acc ++ [v]) u c b := by
  rcases h with h | ⟨p, hp, h1, h2, h3⟩
  · exact .inl h
  · refine .inr ⟨p, by simp [hp], h1, h2, ?_⟩
    rw [h3, lg_snoc]
    unfold lgStep
    rw [if_neg (show ¬ p = v from fun e => hv (e ▸ hp))]
/-- What comes before a node's own weight. -/
def cpre (E : Nat → Nat → Bool) (n : Nat) (wt : Nat → Int) (acc : List Nat) (u : Nat) : Int := if u ∈ acc then lg E n wt acc u - wt u else bst E n (lg E n wt acc) u
def cmid (E : Nat → Nat → Bool) (n : Nat) (wt : Nat → Int) (acc : List Nat) (v k u : Nat) : Int := if u ∈ (adj E n v).take k then max (cpre E n wt acc u) (lg E n wt (acc ++ [v]) v) else cpre E n wt acc u
theorem cmid_zero (E : Nat → Nat → Bool) (n : Nat) (wt : Nat → Int) (acc : List Nat) (v u : Nat) : cmid E n wt acc v 0 u = cpre E n wt acc u := by simp [cmid]
theorem cmid_end {E : Nat → Nat → Bool} {n : Nat} {wt : Nat → Int} {acc : List Nat} {v u : Nat} (hv : v < n) (hacc : v ∉ acc) (hself : E v v = false) (hpre : ∀ x, x ∈ acc → ∀ p, p < n → E p x = true → p ∈ acc) (hu : u < n) :
    cmid E n wt acc v (adj E n v).length u = cpre E n wt (acc ++ [v]) u := by
  unfold cmid
  rw [List.take_length]
  by_cases hm : u ∈ acc
  · have hne : u ∉ adj E n v := fun h => hacc (hpre u hm v hv (adj_mem.1 h).2)
    rw [if_neg hne]
    unfold cpre
    rw [if_pos hm, if_pos (by simp [hm]), lg_snoc]
    unfold lgStep
    rw [if_neg (show ¬ u = v from fun e => hacc (e ▸ hm))]
  · have c1 : cpre E n wt acc u = bst E n (lg E n wt acc) u := by unfold cpre; rw [if_neg hm]
    rw [c1]
    by_cases e : u = v
    · subst e
      rw [if_neg (fun h => by have := (adj_mem.1 h).2; rw [hself] at this; cases this)]
      unfold cpre
      rw [if_pos (by simp), lg_snoc]
      unfold lgStep
      rw [if_pos rfl]; omega
    · have c2 : cpre E n wt (acc ++ [v]) u = bst E n (lg E n wt (acc ++ [v])) u := by unfold cpre; rw [if_neg (by simp [hm, e])]
      rw [c2, bst_step hv hacc]
      by_cases h : E v u = true
      · rw [if_pos (adj_mem.2 ⟨hu, h⟩), if_pos h]
      · rw [if_neg (fun h1 => h (adj_mem.1 h1).2), if_neg h]
theorem cmid_at {E : Nat → Nat → Bool} {n : Nat} {wt : Nat → Int} {acc : List Nat} {v k : Nat} (hk : k < (adj E n v).length) : cmid E n wt acc v k (at0 (adj E n v) k) = cpre E n wt acc (at0 (adj E n v) k) := by
  unfold cmid
  rw [if_neg (at0_not_take (adj_nodup E n v) hk)]
theorem cmid_step {E : Nat → Nat → Bool} {n : Nat} {wt : Nat → Int} {acc : List Nat} {v k u : Nat} (hk : k < (adj E n v).length) :
    cmid E n wt acc v (k + 1) u = if u = at0 (adj E n v) k then max (cpre E n wt acc u) (lg E n wt (acc ++ [v]) v) else cmid E n wt acc v k u := by
  unfold cmid
  rw [take_at0 hk]
  by_cases e : u = at0 (adj E n v) k
  · rw [if_pos e, if_pos (by simp [e])]
  · rw [if_neg e]; simp [e]
theorem cur_pre {E : Nat → Nat → Bool} {n : Nat} {wt : Nat → Int} {acc : List Nat} {u : Nat} (h : u ∉ acc) : cur E n wt acc u = cpre E n wt acc u := by
  unfold cur cpre
  rw [if_neg h, if_neg h]
/-- The successor takes v as what comes before it. -/
theorem from_take {E : Nat → Nat → Bool} {n : Nat} {wt : Nat → Int} {acc : List Nat} {v k : Nat} {bf : Nat → Int} (hk : k < (adj E n v).length) (h : ∀ u, u < n → From E (lg E n wt (acc ++ [v])) (acc ++ [v]) u (cmid E n wt acc v k u) (bf u))
    (hgt : cpre E n wt acc (at0 (adj E n v) k) < lg E n wt (acc ++ [v]) v) : ∀ u, u < n → From E (lg E n wt (acc ++ [v])) (acc ++ [v]) u (cmid E n wt acc v (k + 1) u) (if u = at0 (adj E n v) k then (v : Int) else bf u) := by
  intro u hu
  rw [cmid_step hk]
  by_cases e : u = at0 (adj E n v) k
  · rw [if_pos e, if_pos e]
    refine .inr ⟨v, by simp, rfl, by rw [e]; exact (at0_adj hk).2, ?_⟩
    rw [e]; omega
  · rw [if_neg e, if_neg e]
    exact h u hu
theorem from_keep {E : Nat → Nat → Bool} {n : Nat} {wt : Nat → Int} {acc : List Nat} {v k : Nat} {bf : Nat → Int} (hk : k < (adj E n v).length) (h : ∀ u, u < n → From E (lg E n wt (acc ++ [v])) (acc ++ [v]) u (cmid E n wt acc v k u) (bf u))
    (hle : lg E n wt (acc ++ [v]) v ≤ cpre E n wt acc (at0 (adj E n v) k)) : ∀ u, u < n → From E (lg E n wt (acc ++ [v])) (acc ++ [v]) u (cmid E n wt acc v (k + 1) u) (bf u) := by
  intro u hu
  rw [cmid_step hk]
  by_cases e : u = at0 (adj E n v) k
  · rw [if_pos e]
    have := h u hu
    rw [e, cmid_at hk] at this
    rw [e]
    have e2 : max (cpre E n wt acc (at0 (adj E n v) k)) (lg E n wt (acc ++ [v]) v) = cpre E n wt acc (at0 (adj E n v) k) := by omega
    rw [e2]
    exact this
  · rw [if_neg e]
    exact h u hu
theorem cpre_nil (E : Nat → Nat → Bool) (n : Nat) (wt : Nat → Int) (u : Nat) : cpre E n wt [] u = 0 := by
  unfold cpre
  rw [if_neg (by simp)]
  have hb := bst_best E n (lg E n wt []) u
  rcases hb.at_p with h | ⟨p, _, _, h⟩
  · exact h
  · rw [h]; rfl
theorem cur_nil (E : Nat → Nat → Bool) (n : Nat) (wt : Nat → Int) (u : Nat) : cur E n wt [] u = 0 := by rw [cur_pre (by simp), cpre_nil]
end Go.Proofs.Ytfobjonihlfepaa
