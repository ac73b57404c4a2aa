/- Blanks behind a text: its error stays. -/
import Derived.Test.YtgglmcjclbaceaaDoorLxChain
namespace Go.Proofs.YtgglmcjclbaceaaDoor
open Go Go.RowKit
set_option linter.unusedVariables false

theorem skip_sp : ∀ (n : Nat) (m : Bool), skipM m (List.replicate n 32) = n := by
  intro n
  induction n with
  | zero => intro m; cases m <;> rfl
  | succ n ih =>
    intro m
    rw [List.replicate_succ]
    cases m with
    | true => simp only [skipM]; rw [show (decide ((32 : UInt8).toNat ≠ 10)) = true from rfl, ih true]; omega
    | false => simp only [skipM]; rw [if_pos (show isBlank 32 = true from by decide), ih false]; omega
theorem skipT (c : UInt8) (r : List UInt8) : skipM true (c :: r) = 1 + skipM (decide (c.toNat ≠ 10)) r := rfl
theorem skipF (c : UInt8) (r : List UInt8) : skipM false (c :: r) = if isBlank c = true then 1 + skipM false r else if c = 47 ∧ r.head? = some 47 then 1 + skipM true r else 0 := rfl
theorem skip_app (n : Nat) : ∀ (M : List UInt8) (m : Bool), skipM m (M ++ List.replicate n 32) = if skipM m M < M.length then skipM m M else M.length + n := by
  intro M
  induction M with
  | nil =>
    intro m
    rw [List.nil_append, skip_sp]
    cases m <;> simp [skipM]
  | cons c r ih =>
    intro m
    rw [List.cons_append]
    cases m with
    | true =>
      rw [skipT, skipT, List.length_cons, ih]
      split <;> rename_i h
      · rw [if_pos (by omega)]
      · rw [if_neg (by omega)]; omega
    | false =>
      rw [skipF, skipF, List.length_cons]
      have hh : ((r ++ List.replicate n 32).head? = some 47) ↔ (r.head? = some 47) := by
        cases r with
        | nil =>
          cases n with
          | zero => simp
          | succ n => rw [List.nil_append, List.replicate_succ]; simp
        | cons a b => simp
      by_cases hb : isBlank c = true
      · simp only [if_pos hb]
        rw [ih]
        split <;> rename_i h
        · rw [if_pos (by omega)]
        · rw [if_neg (by omega)]; omega
      · simp only [if_neg hb]
        by_cases hc : c = 47 ∧ r.head? = some 47
        · have hc2 : c = 47 ∧ (r ++ List.replicate n (32 : UInt8)).head? = some 47 := ⟨hc.1, hh.2 hc.2⟩
          simp only [if_pos hc, if_pos hc2]
          rw [ih]
          split <;> rename_i h
          · rw [if_pos (by omega)]
          · rw [if_neg (by omega)]; omega
        · have hc2 : ¬ (c = 47 ∧ (r ++ List.replicate n (32 : UInt8)).head? = some 47) := fun h => hc ⟨h.1, hh.1 h.2⟩
          simp only [if_neg hc, if_neg hc2]
          rw [if_pos (by omega)]
theorem run_app (n : Nat) : ∀ (N : List UInt8), run (N ++ List.replicate n 32) = run N := by
  intro N
  induction N with
  | nil =>
    cases n with
    | zero => rfl
    | succ n =>
      rw [List.nil_append, List.replicate_succ]
      unfold run
      rw [List.takeWhile_cons, if_neg (by decide)]
      rfl
  | cons c r ih =>
    unfold run at ih ⊢
    rw [List.cons_append, List.takeWhile_cons, List.takeWhile_cons, ih]
theorem no_pair_sp (c : UInt8) : pairs.contains [c, 32] = false := by
  have := all_u8 (fun c => !(pairs.contains [c, 32])) (by decide +kernel) c
  simpa using this
theorem punct_app (n : Nat) {N : List UInt8} (h : N ≠ []) : punctLen (N ++ List.replicate n 32) = punctLen N := by
  cases N with
  | nil => exact absurd rfl h
  | cons a N =>
    cases N with
    | nil =>
      have h1 : ¬ (1 < [a].length ∧ pairs.contains ([a].take 2) = true) := by simp
      have h2 : ¬ (1 < ([a] ++ List.replicate n 32).length ∧ pairs.contains (([a] ++ List.replicate n 32).take 2) = true) := by
        rintro ⟨q1, q2⟩
        cases n with
        | zero => simp at q1
        | succ n =>
          rw [List.replicate_succ] at q2
          have : pairs.contains [a, 32] = true := q2
          rw [no_pair_sp] at this
          cases this
      unfold punctLen
      rw [if_neg h1, if_neg h2]
      rfl
    | cons b N =>
      unfold punctLen
      have h3 : 1 < (a :: b :: N ++ List.replicate n 32).length := by simp
      have h4 : 1 < (a :: b :: N).length := by simp
      have h5 : (a :: b :: N ++ List.replicate n 32).take 2 = (a :: b :: N).take 2 := rfl
      rw [h5]
      by_cases hp : pairs.contains ((a :: b :: N).take 2) = true
      · rw [if_pos ⟨h3, hp⟩, if_pos ⟨h4, hp⟩]
      · rw [if_neg (fun h => hp h.2), if_neg (fun h => hp h.2)]
        rfl
theorem tok_app (n : Nat) {N : List UInt8} (h : N ≠ []) : tokErr (N ++ List.replicate n 32) = tokErr N ∧ tokLen (N ++ List.replicate n 32) = tokLen N := by
  unfold tokErr tokLen
  rw [run_app, punct_app n h]
  exact ⟨rfl, rfl⟩
theorem lexR_app (l : List UInt8) (n : Nat) : ∀ (f d f' line line' : Nat) (acc acc' : List Tok), d ≤ l.length → l.length < f + d → l.length + n < f' + d →
    (lexR (l ++ List.replicate n 32) f' d line' acc').2.2 = (lexR l f d line acc).2.2 := by
  intro f
  induction f with
  | zero => intro d f' line line' acc acc' h1 h2; omega
  | succ f ih =>
    intro d f' line line' acc acc' h1 h2 h3
    have hlen : (l ++ List.replicate n 32).length = l.length + n := by simp
    have hd : (l ++ List.replicate n 32).drop d = l.drop d ++ List.replicate n 32 := List.drop_append_of_le_length h1
    have hk := skip_app n (l.drop d) false
    rw [List.length_drop] at hk
    by_cases he : l.length ≤ d + skipM false (l.drop d)
    · rw [if_neg (by omega)] at hk
      rw [lexR_end (by omega) he, lexR_end (by omega) (by rw [hd, hk, hlen]; omega)]
    · rw [if_pos (by omega)] at hk
      have hd2 : (l ++ List.replicate n 32).drop (d + skipM false (l.drop d)) = l.drop (d + skipM false (l.drop d)) ++ List.replicate n 32 := List.drop_append_of_le_length (by omega)
      have hne : l.drop (d + skipM false (l.drop d)) ≠ [] := by
        intro h
        have := congrArg List.length h
        rw [List.length_drop] at this
        simp at this
        omega
      obtain ⟨t1, t2⟩ := tok_app n hne
      have he2 : ¬ (l ++ List.replicate n 32).length ≤ d + skipM false ((l ++ List.replicate n 32).drop d) := by rw [hd, hk, hlen]; omega
      have e1 : tokErr ((l ++ List.replicate n 32).drop (d + skipM false ((l ++ List.replicate n 32).drop d))) = tokErr (l.drop (d + skipM false (l.drop d))) := by rw [hd, hk, hd2, t1]
      have e2 : tokLen ((l ++ List.replicate n 32).drop (d + skipM false ((l ++ List.replicate n 32).drop d))) = tokLen (l.drop (d + skipM false (l.drop d))) := by rw [hd, hk, hd2, t2]
      by_cases hz : tokErr (l.drop (d + skipM false (l.drop d))) = 0
      · obtain ⟨g, rfl⟩ : ∃ g, f' = g + 1 := ⟨f' - 1, by omega⟩
        have hp := tokLen_pos hz
        have hq := tokLen_le (l.drop (d + skipM false (l.drop d)))
        rw [List.length_drop] at hq
        rw [lexR_tok he hz, lexR_tok he2 (by rw [e1]; exact hz), e2, hd, hk]
        exact ih _ _ _ _ _ _ (by omega) (by omega) (by omega)
      · rw [lexR_err (by omega) he hz, lexR_err (by omega) he2 (by rw [e1]; exact hz)]
        exact e1
theorem lexAll_app (l : List UInt8) (n : Nat) (h : l.length + n ≤ 65536) : (lexAll (l ++ List.replicate n 32)).2.2 = (lexAll l).2.2 := by
  unfold lexAll
  rw [if_neg (by simp; omega), if_neg (by omega)]
  exact lexR_app l n _ _ _ _ _ _ _ (by omega) (by omega) (by simp)
end Go.Proofs.YtgglmcjclbaceaaDoor
