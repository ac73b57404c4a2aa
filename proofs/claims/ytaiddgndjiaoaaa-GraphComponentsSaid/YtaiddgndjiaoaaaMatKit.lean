/- Matrices of booleans that the code makes: a slice of slices. Nothing of the program stands here. -/
import Derived.Test.YtaiddgndjiaoaaaTabKit
import Derived.Test.YtaiddgndjiaoaaaGMath
namespace Go.Proofs.Ytaiddgndjiaoaaa
open Go.RowKit
set_option linter.unusedVariables false

/-- The first n cells of block g are the booleans of f. -/
def BRow (w : World) (e g n : Nat) (f : Nat → Bool) : Prop := ∃ m F, n ≤ m ∧ w.rowIs g e m F ∧ ∀ b, b < n → F b = .bool (f b)
theorem brow_of {w : World} {e g n : Nat} {f : Nat → Bool} (h : w.rowIs g e n (fun b => .bool (f b))) : BRow w e g n f := ⟨n, _, Nat.le_refl _, h, fun _ _ => rfl⟩
theorem BRow.cell {w : World} {e g n : Nat} {f : Nat → Bool} (h : BRow w e g n f) {b : Nat} (hb : b < n) : w.cell? ⟨g, b, none⟩ = some (.bool (f b)) := by
  obtain ⟨m, F, hm, hr, hF⟩ := h
  rw [hr.cell (by omega), hF b hb]
theorem BRow.frozen {w : World} {e g n : Nat} {f : Nat → Bool} (h : BRow w e g n f) (b : Nat) : w.frozen? ⟨g, b, none⟩ = false := by
  obtain ⟨m, F, hm, hr, hF⟩ := h
  exact hr.frozen b
theorem BRow.lt {w : World} {e g n : Nat} {f : Nat → Bool} (h : BRow w e g n f) : g < w.heap.size := by
  obtain ⟨m, F, hm, hr, hF⟩ := h
  exact hr.lt
theorem BRow.of_block {w w' : World} {e g n : Nat} {f : Nat → Bool} (h : BRow w e g n f) (hb : w'.heap[g]? = w.heap[g]?) : BRow w' e g n f := by
  obtain ⟨m, F, hm, hr, hF⟩ := h
  exact ⟨m, F, hm, hr.of_block hb, hF⟩
theorem BRow.congr {w : World} {e g n : Nat} {f f' : Nat → Bool} (h : BRow w e g n f) (hf : ∀ b, b < n → f b = f' b) : BRow w e g n f' := by
  obtain ⟨m, F, hm, hr, hF⟩ := h
  exact ⟨m, F, hm, hr, fun b hb => by rw [hF b hb, hf b hb]⟩
theorem BRow.set {w : World} {e g n : Nat} {f f' : Nat → Bool} (h : BRow w e g n f) (x : Nat) (y : Bool) (hf : ∀ b, b < n → f' b = if b = x then y else f b) : BRow (w.setCell ⟨g, x, none⟩ (.bool y)) e g n f' := by
  obtain ⟨m, F, hm, hr, hF⟩ := h
  refine ⟨m, _, hm, hr.set x _, fun b hb => ?_⟩
  rw [hf b hb]
  by_cases e : b = x
  · simp [e]
  · simp [e, hF b hb]

/-- A matrix for reading. -/
def MatAt (w : World) (x : Option Addr) (n : Nat) (M : Nat → Nat → Bool) : Prop :=
  n = 0 ∨ ∃ B, x = some ⟨B, 0, none⟩ ∧ B < w.heap.size ∧ ∀ a, a < n → ∃ g c, w.cell? ⟨B, a, none⟩ = some (.slice (some ⟨g, 0, none⟩) n c) ∧ g < w.heap.size ∧ ∀ b, b < n → w.cell? ⟨g, b, none⟩ = some (.bool (M a b))
theorem matAt_below {w w' : World} {C n : Nat} {x : Option Addr} {M : Nat → Nat → Bool} (h : MatAt w x n M) (hb : Below C w w') (hC : w.heap.size ≤ C) : MatAt w' x n M := by
  rcases h with h | ⟨B, hx, hB, hr⟩
  · exact .inl h
  · refine .inr ⟨B, hx, Nat.lt_of_lt_of_le hB hb.size, fun a ha => ?_⟩
    obtain ⟨g, c, h1, h2, h3⟩ := hr a ha
    exact ⟨g, c, by rw [hb.cell (by show B < C; omega)]; exact h1, Nat.lt_of_lt_of_le h2 hb.size, fun b hbn => by rw [hb.cell (by show g < C; omega)]; exact h3 b hbn⟩
theorem matAt_congr {w : World} {n : Nat} {x : Option Addr} {M M' : Nat → Nat → Bool} (h : MatAt w x n M) (hM : ∀ a b, a < n → b < n → M a b = M' a b) : MatAt w x n M' := by
  rcases h with h | ⟨B, hx, hB, hr⟩
  · exact .inl h
  · refine .inr ⟨B, hx, hB, fun a ha => ?_⟩
    obtain ⟨g, c, h1, h2, h3⟩ := hr a ha
    exact ⟨g, c, h1, h2, fun b hb => by rw [h3 b hb, hM a b ha hb]⟩

def rowsV (G C : Nat → Nat) (n k : Nat) : List Value := (List.range k).map fun a => .slice (some ⟨G a, 0, none⟩) n (C a)
theorem rowsV_length (G C : Nat → Nat) (n k : Nat) : (rowsV G C n k).length = k := by simp [rowsV]
theorem rowsV_get {G C : Nat → Nat} {n k a : Nat} (h : a < k) : (rowsV G C n k)[a]? = some (.slice (some ⟨G a, 0, none⟩) n (C a)) := by simp [rowsV, h]
theorem rowsV_snoc (G C : Nat → Nat) (n k g c : Nat) : rowsV G C n k ++ [.slice (some ⟨g, 0, none⟩) n c] = rowsV (fun a => if a = k then g else G a) (fun a => if a = k then c else C a) n (k + 1) := by
  unfold rowsV
  rw [List.range_succ, List.map_append]
  congr 1
  · refine List.map_congr_left fun a ha => ?_
    have : a ≠ k := by have := List.mem_range.1 ha; omega
    simp [this]
  · simp
/-- A matrix in the making: k rows of n cells. -/
def Mat (w : World) (base : Nat) (t e : TypeId) (vo : Value) (k n : Nat) (M : Nat → Nat → Bool) : Prop :=
  ∃ G C : Nat → Nat, w.ownsRow base t 1 vo k (rowsV G C n k) ∧ (∀ a, a < k → base ≤ G a ∧ some (G a) ≠ vo.ownBlock ∧ BRow w e (G a) n (M a)) ∧ ∀ a b, a < k → b < k → a ≠ b → G a ≠ G b
theorem mat_nil (w : World) (base : Nat) (t e : TypeId) (n : Nat) (M : Nat → Nat → Bool) : Mat w base t e (.slice none 0 0) 0 n M :=
  ⟨fun _ => 0, fun _ => 0, World.ownsRow_nil _ _ _ _, fun a h => by omega, fun a b h => by omega⟩
theorem mat_congr {w : World} {base : Nat} {t e : TypeId} {vo : Value} {k n : Nat} {M M' : Nat → Nat → Bool} (h : Mat w base t e vo k n M) (hM : ∀ a b, a < k → b < n → M a b = M' a b) : Mat w base t e vo k n M' := by
  obtain ⟨G, C, h1, h2, h3⟩ := h
  exact ⟨G, C, h1, fun a ha => ⟨(h2 a ha).1, (h2 a ha).2.1, (h2 a ha).2.2.congr fun b hb => hM a b ha hb⟩, h3⟩
theorem mat_below {w w' : World} {base : Nat} {t e : TypeId} {vo : Value} {k n : Nat} {M : Nat → Nat → Bool} (h : Mat w base t e vo k n M) (hb : Below w.heap.size w w') : Mat w' base t e vo k n M := by
  obtain ⟨G, C, h1, h2, h3⟩ := h
  exact ⟨G, C, own_below h1 hb (Nat.le_refl _), fun a ha => ⟨(h2 a ha).1, (h2 a ha).2.1, (h2 a ha).2.2.of_block (hb.block _ (h2 a ha).2.2.lt)⟩, h3⟩
/-- A row has been made in a new block and is appended. -/
theorem mat_push {w0 w w' : World} {base : Nat} {t e : TypeId} {vo vo' : Value} {k n g c : Nat} {M : Nat → Nat → Bool} {f : Nat → Bool} {G0 C0 : Nat → Nat} (k1 : w0.ownsRow base t 1 vo k (rowsV G0 C0 n k))
    (k2 : ∀ a, a < k → base ≤ G0 a ∧ some (G0 a) ≠ vo.ownBlock ∧ BRow w0 e (G0 a) n (M a)) (k3 : ∀ a b, a < k → b < k → a ≠ b → G0 a ≠ G0 b) (hb : Below w0.heap.size w0 w) (hg0 : w0.heap.size ≤ g) (hbase : base ≤ w0.heap.size) (hr : BRow w e g n f)
    (hg : w.grownBy w' vo.ownBlock) (hl : vo'.ownBlock = vo.ownBlock ∨ ∀ q, vo'.ownBlock = some q → w.heap.size ≤ q)
    (o2 : w'.ownsRow base t 1 vo' (k + 1) (rowsV G0 C0 n k ++ [.slice (some ⟨g, 0, none⟩) n c])) :
    Mat w' base t e vo' (k + 1) n (fun a => if a = k then f else M a) := by
  rw [rowsV_snoc] at o2
  have hvo : ∀ q, vo.ownBlock = some q → q < w0.heap.size := fun q hq => (k1.lt q hq).2
  have hgv : some g ≠ vo.ownBlock := fun e => by have := hvo g e.symm; omega
  have hout : ∀ q, q < w.heap.size → some q ≠ vo.ownBlock → some q ≠ vo'.ownBlock := by
    intro q hq hne
    rcases hl with hl | hl
    · rw [hl]; exact hne
    · intro e; have := hl q e.symm; omega
  refine ⟨_, _, o2, fun a ha => ?_, fun a b ha hb' hab => ?_⟩
  · by_cases hak : a = k
    · subst hak
      simp only [if_pos]
      exact ⟨by omega, hout g hr.lt hgv, hr.of_block (hg.block g hr.lt hgv)⟩
    · simp only [if_neg hak]
      have hh := k2 a (by omega)
      have hlt := hh.2.2.lt
      have hr2 : BRow w e (G0 a) n (M a) := hh.2.2.of_block (hb.block _ hlt)
      exact ⟨hh.1, hout _ hr2.lt hh.2.1, hr2.of_block (hg.block _ hr2.lt hh.2.1)⟩
  · by_cases hak : a = k
    · by_cases hbk : b = k
      · exact absurd (hak.trans hbk.symm) hab
      · simp only [if_pos hak, if_neg hbk]
        have := (k2 b (by omega)).2.2.lt
        omega
    · by_cases hbk : b = k
      · simp only [if_neg hak, if_pos hbk]
        have := (k2 a (by omega)).2.2.lt
        omega
      · simp only [if_neg hak, if_neg hbk]
        exact k3 a b (by omega) (by omega) hab
/-- What a store into row a, column b needs, and what it leaves. -/
theorem mat_set {w : World} {base : Nat} {t e : TypeId} {vo : Value} {k n : Nat} {M : Nat → Nat → Bool} (h : Mat w base t e vo k n M) {a b : Nat} (ha : a < k) (hb : b < n) :
    ∃ g c, (∀ B cap, vo = .slice (some ⟨B, 0, none⟩) k cap → w.cell? ⟨B, a, none⟩ = some (.slice (some ⟨g, 0, none⟩) n c)) ∧ w.cell? ⟨g, b, none⟩ = some (.bool (M a b)) ∧ w.frozen? ⟨g, b, none⟩ = false ∧ base ≤ g ∧ g < w.heap.size ∧
      ∀ (y : Bool) (M' : Nat → Nat → Bool), (∀ i j, i < k → j < n → M' i j = if i = a ∧ j = b then y else M i j) → Mat (w.setCell ⟨g, b, none⟩ (.bool y)) base t e vo k n M' := by
  obtain ⟨G, C, h1, h2, h3⟩ := h
  have hh := h2 a ha
  refine ⟨G a, C a, fun B cap hv => ?_, hh.2.2.cell hb, hh.2.2.frozen b, hh.1, hh.2.2.lt, fun y M' hM => ?_⟩
  · subst hv
    rw [h1.cellAt a (by omega)]
    exact rowsV_get ha
  · refine ⟨G, C, h1.kept (row := some (G a)) ⟨rfl, rfl, rfl, by simp [World.setCell], fun q _ hq => Below.heap_setCell _ _ _ _ (fun e => hq (by rw [e]))⟩ (.inr fun e => hh.2.1 e.symm), fun i hi => ?_, h3⟩
    have hi2 := h2 i hi
    by_cases hia : i = a
    · subst hia
      exact ⟨hi2.1, hi2.2.1, hi2.2.2.set b y fun j hj => by rw [hM i j hi hj]; simp⟩
    · refine ⟨hi2.1, hi2.2.1, (hi2.2.2.of_block ?_).congr fun j hj => by rw [hM i j hi hj, if_neg (fun h => hia h.1)]⟩
      exact Below.heap_setCell _ _ _ _ (h3 i a hi ha hia)
theorem mat_val {w : World} {base : Nat} {t e : TypeId} {vo : Value} {k n : Nat} {M : Nat → Nat → Bool} (h : Mat w base t e vo k n M) : (k = 0 ∧ vo = .slice none 0 0) ∨ (0 < k ∨ k = 0) ∧ ∃ B cap, vo = .slice (some ⟨B, 0, none⟩) k cap ∧ base ≤ B ∧ B < w.heap.size := by
  obtain ⟨G, C, h1, h2, h3⟩ := h
  rcases h1.2 with ⟨hv, h0⟩ | ⟨g, cap, cur, hv, hg, hh, _⟩
  · exact .inl ⟨h0, hv⟩
  · exact .inr ⟨by omega, g, cap, hv, hg, (Array.getElem?_eq_some_iff.1 hh).1⟩
theorem mat_shape {w : World} {base : Nat} {t e : TypeId} {vo : Value} {k n : Nat} {M : Nat → Nat → Bool} (h : Mat w base t e vo k n M) : ∃ y c, vo = .slice y k c ∧ (0 < k → ∃ B, y = some ⟨B, 0, none⟩ ∧ base ≤ B ∧ B < w.heap.size) := by
  rcases mat_val h with ⟨h0, hv⟩ | ⟨_, B, cap, hv, h1, h2⟩
  · exact ⟨none, 0, by rw [hv, h0], fun h => by omega⟩
  · exact ⟨_, cap, hv, fun _ => ⟨B, rfl, h1, h2⟩⟩
theorem mat_at {w : World} {base : Nat} {t e : TypeId} {vo : Value} {n : Nat} {M : Nat → Nat → Bool} (h : Mat w base t e vo n n M) : ∃ x c, vo = .slice x n c ∧ MatAt w x n M := by
  have hv := mat_val h
  obtain ⟨G, C, h1, h2, h3⟩ := h
  rcases hv with ⟨h0, hv⟩ | ⟨_, B, cap, hv, _, hB⟩
  · exact ⟨none, 0, by rw [hv, h0], .inl h0⟩
  · refine ⟨_, cap, hv, .inr ⟨B, rfl, hB, fun a ha => ?_⟩⟩
    subst hv
    exact ⟨G a, C a, by rw [h1.cellAt a (by omega)]; exact rowsV_get ha, (h2 a ha).2.2.lt, fun b hb => (h2 a ha).2.2.cell hb⟩
end Go.Proofs.Ytaiddgndjiaoaaa
