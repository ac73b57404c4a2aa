/- Plain mathematics of components: the turned graph has the same ones. -/
import Derived.Test.YtaiddgndjiaoaaaGRComp
import Derived.Test.YtaiddgndjiaoaaaGTurn
namespace Go.Proofs.Ytaiddgndjiaoaaa

theorem path_opp {E : Nat → Nat → Bool} {a b : Nat} (h : Path E a b) : Path (opp E) b a := by
  induction h with
  | one h => exact .one h
  | more h k ih => exact Path.head (E := opp E) k ih
theorem path_opp' {E : Nat → Nat → Bool} {a b : Nat} (h : Path (opp E) a b) : Path E b a := path_opp (E := opp E) h
theorem wars_opp {E : Nat → Nat → Bool} {n : Nat} (hE : ∀ a b, E a b = true → a < n ∧ b < n) (a b : Nat) : wars (opp E) n a b = wars E n b a := by
  rw [Bool.eq_iff_iff, wars_path (M := opp E) (fun a b h => (hE b a h).symm), wars_path hE]
  exact ⟨path_opp', path_opp⟩
theorem comp_opp {E : Nat → Nat → Bool} {n : Nat} (hE : ∀ a b, E a b = true → a < n ∧ b < n) (v : Nat) : compB (wars (opp E) n) v = compB (wars E n) v := by
  have h : bothB (wars (opp E) n) v = bothB (wars E n) v := by
    funext u
    unfold bothB
    rw [wars_opp hE, wars_opp hE, Bool.and_comm]
  unfold compB
  rw [h]
theorem turnTo_mem' {L : Nat → List Nat} {i b a : Nat} (hb : b < i) (ha : a ∈ L b) : (b, a) ∈ turnTo L i := by
  unfold turnTo
  exact List.mem_flatMap.2 ⟨b, List.mem_range.2 hb, List.mem_map.2 ⟨a, ha, rfl⟩⟩
theorem edge_turn {ls : List (Int × Int)} {n : Nat} : edge ((turnTo (adj (opp (edge ls n)) n) n).map fun p => ((p.1 : Int), (p.2 : Int))) n = opp (edge ls n) := by
  funext a b
  rw [Bool.eq_iff_iff]
  constructor
  · intro h
    have h' := h
    unfold edge at h'
    simp only [Bool.and_eq_true, decide_eq_true_eq, List.any_eq_true, List.mem_map] at h'
    obtain ⟨_, q, ⟨p, hp, rfl⟩, h1, h2⟩ := h'
    have h3 : p.1 = a := Int.ofNat.inj h1
    have h4 : p.2 = b := Int.ofNat.inj h2
    have := (turnTo_mem hp).2
    rw [h3, h4] at this
    exact (adj_mem.1 this).2
  · intro h
    have hl := edge_lt (ls := ls) (n := n) (a := b) (b := a) h
    unfold edge
    simp only [Bool.and_eq_true, decide_eq_true_eq, List.any_eq_true, List.mem_map]
    exact ⟨⟨hl.2, hl.1⟩, _, ⟨(a, b), turnTo_mem' hl.2 (adj_mem.2 ⟨hl.1, h⟩), rfl⟩, rfl, rfl⟩
/-- Components, said by paths: the least node u that v shares its component with. -/
theorem compB_spec {E : Nat → Nat → Bool} {n : Nat} (hE : ∀ a b, E a b = true → a < n ∧ b < n) {v u : Nat} (h1 : u = v ∨ (Path E v u ∧ Path E u v)) (h2 : ∀ y, Path E v y → Path E y v → u ≤ y) (h3 : u ≤ v) : compB (wars E n) v = u := by
  refine compB_eq h3 (fun y hy => ?_) ?_
  · cases hb : bothB (wars E n) v y with
    | false => rfl
    | true =>
      unfold bothB at hb
      rw [Bool.and_eq_true, wars_path hE, wars_path hE] at hb
      have := h2 y hb.1 hb.2
      omega
  · rcases h1 with h | ⟨h, k⟩
    · exact .inl h
    · refine .inr ?_
      unfold bothB
      rw [Bool.and_eq_true, wars_path hE, wars_path hE]
      exact ⟨h, k⟩
end Go.Proofs.Ytaiddgndjiaoaaa
