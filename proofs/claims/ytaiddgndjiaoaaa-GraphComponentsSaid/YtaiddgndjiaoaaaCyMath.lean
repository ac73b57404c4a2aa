/- Plain mathematics of cycles: what a depth-first search that keeps its path knows. Nothing of the program stands here. -/
import Derived.Test.YtaiddgndjiaoaaaTMath
namespace Go.Proofs.Ytaiddgndjiaoaaa

/-- Finished nodes: all successors of each are earlier. -/
inductive Fin (E : Nat → Nat → Bool) (n : Nat) : List Nat → Prop where
  | nil : Fin E n []
  | snoc {F : List Nat} {v : Nat} : Fin E n F → v < n → v ∉ F → (∀ w, w < n → E v w = true → w ∈ F) → Fin E n (F ++ [v])
/-- A path: each node leads to the next one. -/
def Chain' (E : Nat → Nat → Bool) (P : List Nat) : Prop := ∀ i, i + 1 < P.length → E (at0 P i) (at0 P (i + 1)) = true
/-- A cycle without repetition. -/
structure IsCyc (E : Nat → Nat → Bool) (n : Nat) (C : List Nat) : Prop where
  pos : 0 < C.length
  nodup : C.Nodup
  lt : ∀ v, v ∈ C → v < n
  chain : Chain' E C
  close : E (at0 C (C.length - 1)) (at0 C 0) = true
/-- The state of the search: the path and the finished nodes. -/
structure Srch (E : Nat → Nat → Bool) (n : Nat) (P F : List Nat) : Prop where
  nodup : P.Nodup
  lt : ∀ v, v ∈ P → v < n
  apart : ∀ v, v ∈ P → v ∉ F
  chain : Chain' E P
  fin : Fin E n F

theorem fin_lt {E : Nat → Nat → Bool} {n : Nat} {F : List Nat} (h : Fin E n F) : ∀ v, v ∈ F → v < n := by
  induction h with
  | nil => intro v hv; simp at hv
  | snoc _ hv _ _ ih =>
    intro u hu
    rcases List.mem_append.1 hu with hu | hu
    · exact ih u hu
    · rw [List.mem_singleton.1 hu]; exact hv
theorem fin_succ_mem {E : Nat → Nat → Bool} {n : Nat} {F : List Nat} (h : Fin E n F) {p v : Nat} (hp : p ∈ F) (hv : v < n) (hE : E p v = true) : v ∈ F := by
  induction h with
  | nil => simp at hp
  | @snoc F u hF hu hnu hs ih =>
    rcases List.mem_append.1 hp with h | h
    · exact List.mem_append_left _ (ih h)
    · rw [List.mem_singleton.1 h] at hE
      exact List.mem_append_left _ (hs v hv hE)
/-- Among the finished nodes that are not listed, one has all its predecessors listed. -/
theorem fin_free {E : Nat → Nat → Bool} {n : Nat} {F : List Nat} (h : Fin E n F) (acc : List Nat) (hall : ∀ p, p < n → p ∉ F → p ∈ acc) : (∃ v, v ∈ F ∧ v ∉ acc) → ∃ v, v < n ∧ freeb E n acc v = true := by
  induction h with
  | nil => rintro ⟨v, hv, _⟩; simp at hv
  | @snoc F v hF hv hnv hs ih =>
    rintro ⟨u, hu, hua⟩
    by_cases hva : v ∈ acc
    · refine ih (fun p hp hpF => ?_) ⟨u, ?_, hua⟩
      · by_cases e : p = v
        · subst e; exact hva
        · exact hall p hp (by simp [hpF, e])
      · rcases List.mem_append.1 hu with h | h
        · exact h
        · rw [List.mem_singleton.1 h] at hua; exact absurd hva hua
    · refine ⟨v, hv, freeb_iff.2 ⟨hva, fun p hp hE => ?_⟩⟩
      refine Classical.byContradiction fun hpa => ?_
      have hpF : p ∈ F ++ [v] := Classical.byContradiction fun h => hpa (hall p hp h)
      rcases List.mem_append.1 hpF with h | h
      · exact hnv (fin_succ_mem hF h hv hE)
      · rw [List.mem_singleton.1 h] at hE
        exact hnv (hs v hv hE)
/-- Of n nodes, a shorter list lacks one. -/
theorem lacks {n : Nat} {acc : List Nat} (h : acc.length < n) : ∃ v, v < n ∧ v ∉ acc := by
  refine Classical.byContradiction fun hc => ?_
  have hall : ∀ v, v < n → v ∈ acc := fun v hv => Classical.byContradiction fun h => hc ⟨v, hv, h⟩
  have := (List.nodup_range (n := n)).length_le_of_subset (l₂ := acc) (fun v hv => hall v (List.mem_range.1 hv))
  simp at this
  omega
theorem topoRun_some {E : Nat → Nat → Bool} {n : Nat} {F : List Nat} (hF : Fin E n F) (hall : ∀ v, v < n → v ∈ F) : ∀ (k : Nat) (acc : List Nat), acc.length + k ≤ n → (topoRun E n k acc).isSome = true := by
  intro k
  induction k with
  | zero => intro acc _; rfl
  | succ k ih =>
    intro acc hl
    obtain ⟨u, hu, hua⟩ := lacks (n := n) (acc := acc) (by omega)
    obtain ⟨v, hv, hf⟩ := fin_free hF acc (fun p hp h => absurd (hall p hp) h) ⟨u, hall u hu, hua⟩
    rw [topoRun]
    cases hx : nextOf E n acc with
    | none =>
      rw [nextOf, List.find?_eq_none] at hx
      exact absurd hf (hx v (List.mem_range.2 hv))
    | some m => exact ih _ (by simp; omega)
/-- All nodes are finished: there is an order. -/
theorem topo_some {E : Nat → Nat → Bool} {n : Nat} {F : List Nat} (hF : Fin E n F) (hall : ∀ v, v < n → v ∈ F) : (topo E n).isSome = true := topoRun_some hF hall n [] (by simp)

/-- A node of a cycle has a predecessor on it. -/
theorem cyc_pred {E : Nat → Nat → Bool} {n : Nat} {C : List Nat} (h : IsCyc E n C) {v : Nat} (hv : v ∈ C) : ∃ p, p ∈ C ∧ E p v = true := by
  obtain ⟨i, hi, rfl⟩ := List.getElem_of_mem hv
  have h0 := h.pos
  rcases Nat.eq_zero_or_pos i with rfl | hp
  · refine ⟨at0 C (C.length - 1), ?_, ?_⟩
    · rw [at0_eq (by omega)]; exact List.getElem_mem _
    · have := h.close; rw [at0_eq (q := C) (k := 0) h0] at this; exact this
  · have := h.chain (i - 1) (by omega)
    rw [show i - 1 + 1 = i by omega, at0_eq hi] at this
    exact ⟨at0 C (i - 1), by rw [at0_eq (by omega)]; exact List.getElem_mem _, this⟩
theorem topoRun_cyc {E : Nat → Nat → Bool} {n : Nat} {C : List Nat} (h : IsCyc E n C) : ∀ (k : Nat) (acc l : List Nat), (∀ v, v ∈ C → v ∉ acc) → topoRun E n k acc = some l → l.length = acc.length + k ∧ ∀ v, v ∈ C → v ∉ l := by
  intro k
  induction k with
  | zero => intro acc l ha hl; rw [topoRun] at hl; cases hl; exact ⟨rfl, ha⟩
  | succ k ih =>
    intro acc l ha hl
    rw [topoRun] at hl
    cases hx : nextOf E n acc with
    | none => rw [hx] at hl; cases hl
    | some m =>
      rw [hx] at hl
      have hf := freeb_iff.1 (List.find?_some hx)
      have hm : m ∉ C := by
        intro hmC
        obtain ⟨p, hp, hE⟩ := cyc_pred h hmC
        exact ha p hp (hf.2 p (h.lt p hp) hE)
      obtain ⟨h1, h2⟩ := ih (acc ++ [m]) l (fun v hv => by
        have hne : v ≠ m := fun e => hm (e ▸ hv)
        simp [ha v hv, hne]) hl
      exact ⟨by simp at h1; omega, h2⟩
/-- The listed nodes of a run are nodes, each once. -/
theorem topoRun_ok {E : Nat → Nat → Bool} {n : Nat} : ∀ (k : Nat) (acc l : List Nat), acc.Nodup → (∀ a, a ∈ acc → a < n) → topoRun E n k acc = some l → l.Nodup ∧ ∀ a, a ∈ l → a < n := by
  intro k
  induction k with
  | zero => intro acc l ha hb hl; rw [topoRun] at hl; cases hl; exact ⟨ha, hb⟩
  | succ k ih =>
    intro acc l ha hb hl
    rw [topoRun] at hl
    cases hx : nextOf E n acc with
    | none => rw [hx] at hl; cases hl
    | some m =>
      rw [hx] at hl
      have hf := freeb_iff.1 (List.find?_some hx)
      refine ih (acc ++ [m]) l ?_ (fun a h => ?_) hl
      · rw [List.nodup_append]
        exact ⟨ha, by simp, fun a h1 b h2 e => hf.1 (by rw [List.mem_singleton.1 h2] at e; exact e ▸ h1)⟩
      · rcases List.mem_append.1 h with h | h
        · exact hb a h
        · rw [List.mem_singleton.1 h]; exact List.mem_range.1 (List.mem_of_find?_eq_some hx)
/-- A cycle: there is no order. -/
theorem topo_cyc {E : Nat → Nat → Bool} {n : Nat} {C : List Nat} (h : IsCyc E n C) : topo E n = none := by
  cases ht : topo E n with
  | none => rfl
  | some l =>
    obtain ⟨h1, h2⟩ := topoRun_cyc h n [] l (fun v _ => by simp) ht
    obtain ⟨hnd, hlt⟩ := topoRun_ok n [] l (by simp) (fun a h => by simp at h) ht
    have hv : at0 C 0 ∈ C := by rw [at0_eq h.pos]; exact List.getElem_mem _
    have := acc_le (n := n) (acc := at0 C 0 :: l) (List.nodup_cons.2 ⟨h2 _ hv, hnd⟩) (fun v hm => by
      rcases List.mem_cons.1 hm with rfl | hm
      · exact h.lt _ hv
      · exact hlt v hm)
    simp at this h1
    omega

theorem at0_snoc_lt {P : List Nat} {v i : Nat} (h : i < P.length) : at0 (P ++ [v]) i = at0 P i := by
  rw [at0_eq (by simp; omega), at0_eq h, List.getElem_append_left h]
theorem at0_snoc_last (P : List Nat) (v : Nat) : at0 (P ++ [v]) P.length = v := by
  rw [at0_eq (by simp)]; simp
/-- A node is entered. -/
theorem srch_push {E : Nat → Nat → Bool} {n : Nat} {P F : List Nat} {v : Nat} (h : Srch E n P F) (hv : v < n) (h1 : v ∉ P) (h2 : v ∉ F) (hE : 0 < P.length → E (at0 P (P.length - 1)) v = true) : Srch E n (P ++ [v]) F := by
  refine ⟨?_, ?_, ?_, ?_, h.fin⟩
  · rw [List.nodup_append]
    exact ⟨h.nodup, by simp, fun a ha b hb e => h1 (by rw [List.mem_singleton.1 hb] at e; exact e ▸ ha)⟩
  · intro u hu
    rcases List.mem_append.1 hu with hu | hu
    · exact h.lt u hu
    · rw [List.mem_singleton.1 hu]; exact hv
  · intro u hu
    rcases List.mem_append.1 hu with hu | hu
    · exact h.apart u hu
    · rw [List.mem_singleton.1 hu]; exact h2
  · intro i hi
    have hi' : i < P.length := by simp at hi; omega
    by_cases e : i + 1 < P.length
    · rw [at0_snoc_lt hi', at0_snoc_lt e]; exact h.chain i e
    · have e2 : i + 1 = P.length := by omega
      rw [at0_snoc_lt hi', e2, at0_snoc_last, show i = P.length - 1 by omega]
      exact hE (by omega)
/-- A node is left, all its successors being finished. -/
theorem srch_pop {E : Nat → Nat → Bool} {n : Nat} {P F : List Nat} {v : Nat} (h : Srch E n (P ++ [v]) F) (hs : ∀ w, w < n → E v w = true → w ∈ F) : Srch E n P (F ++ [v]) := by
  have hnd := List.nodup_append.1 h.nodup
  refine ⟨hnd.1, fun u hu => h.lt u (List.mem_append_left _ hu), fun u hu hm => ?_, fun i hi => ?_, .snoc h.fin (h.lt v (by simp)) (h.apart v (by simp)) hs⟩
  · rcases List.mem_append.1 hm with hm | hm
    · exact h.apart u (List.mem_append_left _ hu) hm
    · exact hnd.2.2 u hu v (by simp) (List.mem_singleton.1 hm)
  · have := h.chain i (by simp; omega)
    rw [at0_snoc_lt (by omega), at0_snoc_lt hi] at this
    exact this
theorem at0_drop (P : List Nat) (j i : Nat) : at0 (P.drop j) i = at0 P (j + i) := by simp [at0, List.getD]
/-- The path's end leads back to the path: a cycle. -/
theorem srch_cyc {E : Nat → Nat → Bool} {n : Nat} {P F : List Nat} (h : Srch E n P F) {j : Nat} (hj : j < P.length) (hE : E (at0 P (P.length - 1)) (at0 P j) = true) : IsCyc E n (P.drop j) := by
  refine ⟨by simp; omega, h.nodup.sublist (List.drop_sublist _ _), fun v hv => h.lt v (List.mem_of_mem_drop hv), fun i hi => ?_, ?_⟩
  · simp at hi
    rw [at0_drop, at0_drop]
    have := h.chain (j + i) (by omega)
    rw [← Nat.add_assoc]
    exact this
  · rw [at0_drop, at0_drop, List.length_drop, show j + (P.length - j - 1) = P.length - 1 by omega]
    exact hE
end Go.Proofs.Ytaiddgndjiaoaaa
