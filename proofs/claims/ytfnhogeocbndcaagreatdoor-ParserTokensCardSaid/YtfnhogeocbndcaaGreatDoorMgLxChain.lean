/- Tokens in memory. -/
import Derived.Test.YtfnhogeocbndcaaGreatDoorMgLxVars
import Derived.Test.YtfnhogeocbndcaaGreatDoorMgLxTk0
import Derived.Test.YtfnhogeocbndcaaGreatDoorMgLxLex
namespace Go.Proofs.YtfnhogeocbndcaaGreatDoor
open Go Go.RowKit
set_option linter.unusedVariables false

theorem toks_own {w : World} {base : Nat} {e : TypeId} {v : Value} {ts : List Tok} (h : w.ownsRow base e 5 v ts.length (tcells ts)) : (ts = [] ∧ v = .slice none 0 0) ∨ ∃ g c, v = .slice (some ⟨g, 0, none⟩) ts.length c ∧ base ≤ g ∧ TkIn w g ts := by
  rcases h.2 with ⟨hv, h0⟩ | ⟨g, cap, cur, hv, hb, hh, r⟩
  · exact .inl ⟨List.eq_nil_of_length_eq_zero h0, hv⟩
  · refine .inr ⟨g, cap, hv, hb, (Array.getElem?_eq_some_iff.1 hh).1, fun i hi => ?_⟩
    have hl := tcells_length ts
    subst hv
    have c : ∀ j, j < 5 → w.cell? ⟨g, i * 5 + j, none⟩ = (tcell ts[i])[j]? := fun j hj => by
      rw [← tcells_get ts i j hi hj]
      exact h.cellAt (i * 5 + j) (by omega)
    rw [tat_get hi]
    exact ⟨c 0 (by omega), c 1 (by omega), c 2 (by omega), c 3 (by omega), c 4 (by omega)⟩
end Go.Proofs.YtfnhogeocbndcaaGreatDoor
/- The tokens of a source, one behind the other. -/
namespace Go.Proofs.YtfnhogeocbndcaaGreatDoor
open Go

/-- The tokens from an offset on, and nothing but blanks and comments between them. -/
def Chain (l : List UInt8) : Nat → Nat → List Tok → Prop
  | d, _, [] => l.length ≤ d + skipM false (l.drop d)
  | d, line, t :: ts => ¬ l.length ≤ d + skipM false (l.drop d) ∧ tokErr (l.drop (d + skipM false (l.drop d))) = 0 ∧ t = tokAt l (d + skipM false (l.drop d)) (line + lineFeeds ((l.drop d).take (skipM false (l.drop d)))) ∧
      Chain l (d + skipM false (l.drop d) + tokLen (l.drop (d + skipM false (l.drop d)))) (line + lineFeeds ((l.drop d).take (skipM false (l.drop d)))) ts
theorem lexR_chain (l : List UInt8) : ∀ (f d line : Nat) (acc : List Tok), l.length < f + d →
    ((lexR l f d line acc).2.2 = 0 ∧ ∃ ts, (lexR l f d line acc).1 = acc ++ ts ∧ (lexR l f d line acc).2.1 = l.length ∧ Chain l d line ts) ∨ ((lexR l f d line acc).2.2 ≠ 0 ∧ (lexR l f d line acc).1 = [] ∧ (lexR l f d line acc).2.1 ≤ l.length) := by
  intro f
  induction f with
  | zero =>
    intro d line acc h
    left
    rw [lexR]
    exact ⟨rfl, [], by simp, rfl, by unfold Chain; omega⟩
  | succ f ih =>
    intro d line acc h
    by_cases hend : l.length ≤ d + skipM false (l.drop d)
    · left
      rw [lexR_end (by omega) hend]
      exact ⟨rfl, [], by simp, rfl, by unfold Chain; exact hend⟩
    · by_cases he : tokErr (l.drop (d + skipM false (l.drop d))) = 0
      · rw [lexR_tok hend he]
        have hp := tokLen_pos he
        rcases ih _ (line + lineFeeds ((l.drop d).take (skipM false (l.drop d)))) (acc ++ [tokAt l (d + skipM false (l.drop d)) (line + lineFeeds ((l.drop d).take (skipM false (l.drop d))))]) (show l.length < f + (d + skipM false (l.drop d) + tokLen (l.drop (d + skipM false (l.drop d)))) by omega) with ⟨h1, ts, h2, h3, h4⟩ | h
        · left
          refine ⟨h1, tokAt l (d + skipM false (l.drop d)) (line + lineFeeds ((l.drop d).take (skipM false (l.drop d)))) :: ts, ?_, h3, ?_⟩
          · rw [h2, List.append_assoc]; rfl
          · unfold Chain; exact ⟨hend, he, rfl, h4⟩
        · exact .inr h
      · right
        rw [lexR_err (by omega) hend he]
        exact ⟨he, rfl, by show d + skipM false (l.drop d) ≤ l.length; omega⟩
theorem lexAll_cases (l : List UInt8) : ((lexAll l).2.2 = 0 ∧ (lexAll l).2.1 = l.length ∧ l.length ≤ 65536 ∧ Chain l 0 1 (lexAll l).1) ∨ ((lexAll l).2.2 ≠ 0 ∧ (lexAll l).1 = [] ∧ (l.length ≤ 65536 → (lexAll l).2.1 ≤ l.length)) := by
  unfold lexAll
  by_cases h : 65536 < l.length
  · rw [if_pos h]
    exact .inr ⟨by simp, rfl, fun h2 => by omega⟩
  · rw [if_neg h]
    rcases lexR_chain l (l.length + 1) 0 1 [] (by omega) with ⟨h1, ts, h2, h3, h4⟩ | ⟨h1, h2, h3⟩
    · rw [List.nil_append] at h2
      exact .inl ⟨h1, h3, by omega, by rw [h2]; exact h4⟩
    · exact .inr ⟨h1, h2, fun _ => h3⟩
/-- What a chain says of its first token. -/
theorem Chain.step {l : List UInt8} {d line : Nat} {t : Tok} {ts : List Tok} (h : Chain l d line (t :: ts)) :
    t.pos = d + skipM false (l.drop d) ∧ t.pos < l.length ∧ 0 < tokLen (l.drop t.pos) ∧ t.pos + tokLen (l.drop t.pos) ≤ l.length ∧ t.text = (l.drop t.pos).take (tokLen (l.drop t.pos)) ∧ t.text.length = tokLen (l.drop t.pos) ∧
    t.line = line + lineFeeds ((l.drop d).take (t.pos - d)) ∧ tokErr (l.drop t.pos) = 0 ∧ t.kind = tokKind (l.drop t.pos) ∧ t.num = tokNum (l.drop t.pos) ∧ Chain l (t.pos + tokLen (l.drop t.pos)) t.line ts := by
  unfold Chain at h
  obtain ⟨h1, h2, h3, h4⟩ := h
  obtain ⟨k, hk⟩ : ∃ k, k = skipM false (l.drop d) := ⟨_, rfl⟩
  rw [← hk] at h1 h2 h3 h4 ⊢
  obtain ⟨a, ha⟩ : ∃ a, a = d + k := ⟨_, rfl⟩
  rw [← ha] at h1 h2 h3 h4 ⊢
  have hkd : k = a - d := by omega
  rw [hkd] at h3 h4
  have hp := tokLen_pos h2
  have hl := tokLen_le (l.drop a)
  rw [List.length_drop] at hl
  have e1 : t.pos = a := by rw [h3]; rfl
  have e2 : t.text = (l.drop a).take (tokLen (l.drop a)) := by rw [h3]; rfl
  have e3 : t.line = line + lineFeeds ((l.drop d).take (a - d)) := by rw [h3]; rfl
  have e4 : t.kind = tokKind (l.drop a) := by rw [h3]; rfl
  have e5 : t.num = tokNum (l.drop a) := by rw [h3]; rfl
  rw [e1]
  refine ⟨rfl, by omega, hp, by omega, e2, ?_, e3, h2, e4, e5, by rw [e3]; exact h4⟩
  rw [e2, List.length_take, List.length_drop]
  omega
theorem Chain.len {l : List UInt8} : ∀ (ts : List Tok) (d line : Nat), d ≤ l.length → Chain l d line ts → d + ts.length ≤ l.length := by
  intro ts
  induction ts with
  | nil => intro d line h _; simpa using h
  | cons t ts ih =>
    intro d line h hc
    obtain ⟨e1, e2, e3, e4, _, _, _, _, _, _, e11⟩ := hc.step
    have := ih _ _ e4 e11
    rw [List.length_cons]
    omega
theorem drop_tat {ts : List Tok} {i : Nat} (h : i < ts.length) : ts.drop i = ts[i] :: ts.drop (i + 1) := List.drop_eq_getElem_cons h
/-- Line feeds up to an offset. -/
theorem lf_step {l : List UInt8} {j a : Nat} {c : UInt8} (h : l[j]? = some c) (hj : j < a) : lineFeeds ((l.drop j).take (a - j)) = (if c.toNat = 10 then 1 else 0) + lineFeeds ((l.drop (j + 1)).take (a - (j + 1))) := by
  obtain ⟨hi, hv⟩ := List.getElem?_eq_some_iff.1 h
  have e : a - j = (a - (j + 1)) + 1 := by omega
  rw [List.drop_eq_getElem_cons hi, hv, e, List.take_succ_cons]
  unfold lineFeeds
  rw [List.count_cons]
  by_cases hc : c.toNat = 10
  · have : c = 10 := UInt8.toNat_inj.1 hc
    subst this
    simp
    omega
  · have : ¬ c = 10 := fun h => hc (by rw [h]; rfl)
    rw [if_neg hc]
    simp [this]
end Go.Proofs.YtfnhogeocbndcaaGreatDoor
