/- A word between blanks: its tokens. -/
import Derived.Test.YtgglmcjclbaceaaDoorLxLex
namespace Go.Proofs.YtgglmcjclbaceaaDoor
open Go

theorem letter_facts (b : UInt8) (h : isLetter b = true) : isBlank b = false ∧ b ≠ 47 ∧ inW b = true ∧ isDec b = false := by
  have := all_u8 (fun b => !isLetter b || (!isBlank b && b != 47 && inW b && !isDec b)) (by decide +kernel) b
  rw [h] at this
  simpa [and_assoc] using this
theorem skip_letter {c : UInt8} {r : List UInt8} (h : isLetter c = true) : skipM false (c :: r) = 0 := by
  obtain ⟨h1, h2, _, _⟩ := letter_facts c h
  simp only [skipM]
  rw [h1, if_neg (by simp), if_neg (fun h => h2 h.1)]
theorem skip_blank_cons {c : UInt8} {r : List UInt8} (h : isBlank c = true) : skipM false (c :: r) = 1 + skipM false r := by
  simp only [skipM]
  rw [if_pos h]
theorem run_word {l r : List UInt8} (h : ∀ b ∈ l, inW b = true) (hr : run r = []) : run (l ++ r) = l := by
  unfold run at hr ⊢
  induction l with
  | nil => simpa using hr
  | cons c l ih =>
    rw [List.cons_append, List.takeWhile_cons, if_pos (h c (by simp)), ih (fun b hb => h b (List.mem_cons_of_mem _ hb))]
/-- A word: letters, digits and underscores, the first of them no digit. -/
def IsWord (l : List UInt8) : Prop := (∀ b ∈ l, inW b = true) ∧ ∃ c r, l = c :: r ∧ isLetter c = true
theorem word_run {l : List UInt8} (h : IsWord l) : run (l ++ [32]) = l := run_word h.1 (by decide)
theorem word_err {l : List UInt8} (h : IsWord l) : tokErr (l ++ [32]) = (if 64 < l.length then 5 else 0) ∧ tokKind (l ++ [32]) = (if isKey l = true then 2 else 1) ∧ tokLen (l ++ [32]) = l.length ∧ tokNum (l ++ [32]) = 0 := by
  obtain ⟨c, r, hl, hc⟩ := h.2
  have hr := word_run h
  have hne : run (l ++ [32]) ≠ [] := by rw [hr, hl]; simp
  have hd : (run (l ++ [32])).head?.any isDec = false := by rw [hr, hl]; simp [(letter_facts c hc).2.2.2]
  unfold tokErr tokKind tokLen tokNum
  rw [if_neg hne, if_neg hne, if_neg hne, hd, hr]
  refine ⟨rfl, rfl, rfl, if_neg (by simp)⟩
theorem word_skip {l : List UInt8} (h : IsWord l) : skipM false (32 :: (l ++ [32])) = 1 := by
  obtain ⟨c, r, hl, hc⟩ := h.2
  rw [skip_blank_cons (by decide), hl, List.cons_append, skip_letter hc]
theorem word_long {l : List UInt8} (h : IsWord l) (hlen : 64 < l.length) (hm : l.length ≤ 100) : lexAll (32 :: (l ++ [32])) = ([], 1, 5) := by
  unfold lexAll
  rw [if_neg (by simp; omega)]
  have hs : skipM false ((32 :: (l ++ [32])).drop 0) = 1 := word_skip h
  have he := (word_err h).1
  rw [if_pos hlen] at he
  have hd : (32 :: (l ++ [32])).drop (0 + 1) = l ++ [32] := rfl
  rw [lexR_err (by omega) (by rw [hs]; simp) (by rw [hs, hd, he]; omega), hs, hd, he]
theorem word_short {l : List UInt8} (h : IsWord l) (hlen : ¬ 64 < l.length) : lexAll (32 :: (l ++ [32])) = ([⟨if isKey l = true then 2 else 1, l, 0, 1, 1⟩], l.length + 2, 0) := by
  unfold lexAll
  rw [if_neg (by simp; omega)]
  obtain ⟨e1, e2, e3, e4⟩ := word_err h
  rw [if_neg hlen] at e1
  have hs : skipM false ((32 :: (l ++ [32])).drop 0) = 1 := word_skip h
  have hd : (32 :: (l ++ [32])).drop (0 + 1) = l ++ [32] := rfl
  have hl : (32 :: (l ++ [32])).length = l.length + 2 := by simp
  rw [hl, lexR_tok (by rw [hs, hl]; omega) (by rw [hs, hd]; exact e1), hs, hd, e3]
  have hd2 : (32 :: (l ++ [32])).drop (0 + 1 + l.length) = [32] := by
    rw [Nat.zero_add, Nat.add_comm 1, List.drop_succ_cons, List.drop_left]
  have hs2 : skipM false ((32 :: (l ++ [32])).drop (0 + 1 + l.length)) = 1 := by rw [hd2]; decide
  rw [lexR_end (by omega) (by rw [hs2, hl]; omega), hl]
  refine Prod.ext ?_ rfl
  show [] ++ [tokAt _ (0 + 1) _] = _
  unfold tokAt
  rw [hd, e2, e3, e4, List.take_left]
  rfl
end Go.Proofs.YtgglmcjclbaceaaDoor
