/- What parseM makes of two sources with the same tokens, but for their places. -/
import Derived.Test.YtfnhogeocbndcaaGreatDoorMgPsEr
import Derived.Test.YtfnhogeocbndcaaGreatDoorMgPsParse
import Derived.Test.YtfnhogeocbndcaaGreatDoorMgLxChain
import Derived.Test.YtfnhogeocbndcaaGreatDoorMgLxLex
namespace Go.Proofs.YtfnhogeocbndcaaGreatDoor
open Go
set_option linter.unusedSimpArgs false
set_option linter.unusedVariables false

/-- Are too many brackets open somewhere? -/
def over : Nat → List Tok → Bool
  | _, [] => false
  | o, t :: r => decide (200 < opens o t) || over (opens o t) r
theorem crowd_over : ∀ (ts : List Tok) (o : Nat), (∀ t ∈ ts, 0 < t.line) → (0 < crowd o ts ↔ over o ts = true) := by
  intro ts
  induction ts with
  | nil => intro o _; simp [crowd, over]
  | cons t r ih =>
    intro o h
    rw [crowd, over]
    by_cases hc : 200 < opens o t
    · simp [hc, h t (by simp)]
    · simp only [hc, if_false, decide_false, Bool.false_or]
      exact ih _ fun u hu => h u (by simp [hu])
theorem over_zz : ∀ (ts : List Tok) (o : Nat), over o (ts.map zz) = over o ts := by
  intro ts
  induction ts with
  | nil => intro o; rfl
  | cons t r ih =>
    intro o
    have e : opens o (zz t) = opens o t := rfl
    rw [List.map_cons, over, over, e, ih]
mutual
theorem count_er : ∀ (t : Tree), count (er t) = count t
  | .node l ks => by rw [er, count, count, counts_ers ks]
theorem counts_ers : ∀ (l : List Tree), counts (ers l) = counts l
  | [] => rfl
  | t :: r => by rw [ers, counts, counts, count_er t, counts_ers r]
end
mutual
theorem depth_er : ∀ (t : Tree), depth (er t) = depth t
  | .node l ks => by rw [er, depth, depth, depths_ers ks]
theorem depths_ers : ∀ (l : List Tree), depths (ers l) = depths l
  | [] => rfl
  | t :: r => by rw [ers, depths, depths, depth_er t, depths_ers r]
end
theorem parseM_ok {l : List UInt8} (he : (lexAll l).2.2 = 0) : parseM l = (if 0 < crowd 0 (lexAll l).1 then (tree0, crowd 0 (lexAll l).1, 5) else if (progT (lexAll l).1).2.bad then (tree0, (tat (lexAll l).1 (min (progT (lexAll l).1).2.i ((lexAll l).1.length - 1))).line, 4)
      else if 20000 < count (progT (lexAll l).1).1 ∨ 200 < depth (progT (lexAll l).1).1 then (tree0, 1, 5) else ((progT (lexAll l).1).1, 0, 0)) := by
  unfold parseM
  dsimp only
  rw [if_neg (by simp [he])]
theorem parse_same {l l' : List UInt8} (he : (lexAll l).2.2 = 0) (he' : (lexAll l').2.2 = 0) (hz : (lexAll l).1.map zz = (lexAll l').1.map zz) :
    (parseM l).2.2 = (parseM l').2.2 ∧ er (parseM l).1 = er (parseM l').1 := by
  obtain ⟨_, _, hc⟩ := lexAll_ctx l he
  obtain ⟨_, _, hc'⟩ := lexAll_ctx l' he'
  have h1 := crowd_over (lexAll l).1 0 fun t ht => (hc t ht).1.1
  have h2 := crowd_over (lexAll l').1 0 fun t ht => (hc' t ht).1.1
  have ho : over 0 (lexAll l).1 = over 0 (lexAll l').1 := by rw [← over_zz, hz, over_zz]
  obtain ⟨p1, q1⟩ := prog_zz (lexAll l).1
  obtain ⟨p2, q2⟩ := prog_zz (lexAll l').1
  rw [hz] at p1 q1
  have hs : (progT (lexAll l).1).2 = (progT (lexAll l').1).2 := p1.symm.trans p2
  have ht : er (progT (lexAll l).1).1 = er (progT (lexAll l').1).1 := q1.symm.trans q2
  have hn : count (progT (lexAll l).1).1 = count (progT (lexAll l').1).1 := by rw [← count_er, ht, count_er]
  have hd : depth (progT (lexAll l).1).1 = depth (progT (lexAll l').1).1 := by rw [← depth_er, ht, depth_er]
  have hcr : (0 < crowd 0 (lexAll l).1) ↔ 0 < crowd 0 (lexAll l').1 := by rw [h1, h2, ho]
  rw [parseM_ok he, parseM_ok he', hs, hn, hd]
  by_cases a : 0 < crowd 0 (lexAll l).1
  · rw [if_pos a, if_pos (hcr.1 a)]
    exact ⟨rfl, rfl⟩
  · rw [if_neg a, if_neg (fun h => a (hcr.2 h))]
    split
    · exact ⟨rfl, rfl⟩
    · split
      · exact ⟨rfl, rfl⟩
      · exact ⟨rfl, ht⟩
/-- The line of an error, for a source whose tokens all stand in line 1. -/
theorem parse_line {l : List UInt8} (he : (lexAll l).2.2 = 0) (h1 : ∀ t ∈ (lexAll l).1, t.line = 1) (hne : (progT (lexAll l).1).2.bad = true → (lexAll l).1 ≠ []) : (parseM l).2.1 = if (parseM l).2.2 = 0 then 0 else 1 := by
  have hcl : ∀ (ts : List Tok) (o : Nat), (∀ t ∈ ts, t.line = 1) → 0 < crowd o ts → crowd o ts = 1 := by
    intro ts
    induction ts with
    | nil => intro o _ h; simp [crowd] at h
    | cons t r ih =>
      intro o h h2
      rw [crowd] at h2 ⊢
      split
      · exact h t (by simp)
      · rename_i hc
        rw [if_neg hc] at h2
        exact ih _ (fun u hu => h u (by simp [hu])) h2
  unfold parseM
  dsimp only
  rw [if_neg (by simp [he])]
  by_cases a : 0 < crowd 0 (lexAll l).1
  · rw [if_pos a]
    exact hcl _ _ h1 a
  · rw [if_neg a]
    by_cases b : (progT (lexAll l).1).2.bad = true
    · rw [if_pos b]
      have hn := hne b
      have hlt : min (progT (lexAll l).1).2.i ((lexAll l).1.length - 1) < (lexAll l).1.length := by
        have := List.length_pos_iff.2 hn
        omega
      show (tat _ _).line = 1
      rw [tat_get hlt]
      exact h1 _ (List.getElem_mem hlt)
    · rw [if_neg b]
      split
      · rfl
      · rfl
end Go.Proofs.YtfnhogeocbndcaaGreatDoor
/- Blanks behind a text: its error stays. -/
namespace Go.Proofs.YtfnhogeocbndcaaGreatDoor
open Go Go.RowKit
set_option linter.unusedVariables false

theorem skip_sp : ∀ (n : Nat) (m : Bool), skipM m (List.replicate n 32) = n := by
  intro n
  induction n with
  | zero => intro m; cases m <;> rfl
  | succ n ih =>
    intro m
    rw [List.replicate_succ]
    cases m with
    | true => simp only [skipM]; rw [show (decide ((32 : UInt8).toNat ≠ 10)) = true from rfl, ih true]; omega
    | false => simp only [skipM]; rw [if_pos (show isBlank 32 = true from by decide), ih false]; omega
theorem skipT (c : UInt8) (r : List UInt8) : skipM true (c :: r) = 1 + skipM (decide (c.toNat ≠ 10)) r := rfl
theorem skipF (c : UInt8) (r : List UInt8) : skipM false (c :: r) = if isBlank c = true then 1 + skipM false r else if c = 47 ∧ r.head? = some 47 then 1 + skipM true r else 0 := rfl
theorem skip_app (n : Nat) : ∀ (M : List UInt8) (m : Bool), skipM m (M ++ List.replicate n 32) = if skipM m M < M.length then skipM m M else M.length + n := by
  intro M
  induction M with
  | nil =>
    intro m
    rw [List.nil_append, skip_sp]
    cases m <;> simp [skipM]
  | cons c r ih =>
    intro m
    rw [List.cons_append]
    cases m with
    | true =>
      rw [skipT, skipT, List.length_cons, ih]
      split <;> rename_i h
      · rw [if_pos (by omega)]
      · rw [if_neg (by omega)]; omega
    | false =>
      rw [skipF, skipF, List.length_cons]
      have hh : ((r ++ List.replicate n 32).head? = some 47) ↔ (r.head? = some 47) := by
        cases r with
        | nil =>
          cases n with
          | zero => simp
          | succ n => rw [List.nil_append, List.replicate_succ]; simp
        | cons a b => simp
      by_cases hb : isBlank c = true
      · simp only [if_pos hb]
        rw [ih]
        split <;> rename_i h
        · rw [if_pos (by omega)]
        · rw [if_neg (by omega)]; omega
      · simp only [if_neg hb]
        by_cases hc : c = 47 ∧ r.head? = some 47
        · have hc2 : c = 47 ∧ (r ++ List.replicate n (32 : UInt8)).head? = some 47 := ⟨hc.1, hh.2 hc.2⟩
          simp only [if_pos hc, if_pos hc2]
          rw [ih]
          split <;> rename_i h
          · rw [if_pos (by omega)]
          · rw [if_neg (by omega)]; omega
        · have hc2 : ¬ (c = 47 ∧ (r ++ List.replicate n (32 : UInt8)).head? = some 47) := fun h => hc ⟨h.1, hh.1 h.2⟩
          simp only [if_neg hc, if_neg hc2]
          rw [if_pos (by omega)]
theorem run_app (n : Nat) : ∀ (N : List UInt8), run (N ++ List.replicate n 32) = run N := by
  intro N
  induction N with
  | nil =>
    cases n with
    | zero => rfl
    | succ n =>
      rw [List.nil_append, List.replicate_succ]
      unfold run
      rw [List.takeWhile_cons, if_neg (by decide)]
      rfl
  | cons c r ih =>
    unfold run at ih ⊢
    rw [List.cons_append, List.takeWhile_cons, List.takeWhile_cons, ih]
theorem no_pair_sp (c : UInt8) : pairs.contains [c, 32] = false := by
  have := all_u8 (fun c => !(pairs.contains [c, 32])) (by decide +kernel) c
  simpa using this
theorem punct_app (n : Nat) {N : List UInt8} (h : N ≠ []) : punctLen (N ++ List.replicate n 32) = punctLen N := by
  cases N with
  | nil => exact absurd rfl h
  | cons a N =>
    cases N with
    | nil =>
      have h1 : ¬ (1 < [a].length ∧ pairs.contains ([a].take 2) = true) := by simp
      have h2 : ¬ (1 < ([a] ++ List.replicate n 32).length ∧ pairs.contains (([a] ++ List.replicate n 32).take 2) = true) := by
        rintro ⟨q1, q2⟩
        cases n with
        | zero => simp at q1
        | succ n =>
          rw [List.replicate_succ] at q2
          have : pairs.contains [a, 32] = true := q2
          rw [no_pair_sp] at this
          cases this
      unfold punctLen
      rw [if_neg h1, if_neg h2]
      rfl
    | cons b N =>
      unfold punctLen
      have h3 : 1 < (a :: b :: N ++ List.replicate n 32).length := by simp
      have h4 : 1 < (a :: b :: N).length := by simp
      have h5 : (a :: b :: N ++ List.replicate n 32).take 2 = (a :: b :: N).take 2 := rfl
      rw [h5]
      by_cases hp : pairs.contains ((a :: b :: N).take 2) = true
      · rw [if_pos ⟨h3, hp⟩, if_pos ⟨h4, hp⟩]
      · rw [if_neg (fun h => hp h.2), if_neg (fun h => hp h.2)]
        rfl
theorem tok_app (n : Nat) {N : List UInt8} (h : N ≠ []) : tokErr (N ++ List.replicate n 32) = tokErr N ∧ tokLen (N ++ List.replicate n 32) = tokLen N := by
  unfold tokErr tokLen
  rw [run_app, punct_app n h]
  exact ⟨rfl, rfl⟩
theorem lexR_app (l : List UInt8) (n : Nat) : ∀ (f d f' line line' : Nat) (acc acc' : List Tok), d ≤ l.length → l.length < f + d → l.length + n < f' + d →
    (lexR (l ++ List.replicate n 32) f' d line' acc').2.2 = (lexR l f d line acc).2.2 := by
  intro f
  induction f with
  | zero => intro d f' line line' acc acc' h1 h2; omega
  | succ f ih =>
    intro d f' line line' acc acc' h1 h2 h3
    have hlen : (l ++ List.replicate n 32).length = l.length + n := by simp
    have hd : (l ++ List.replicate n 32).drop d = l.drop d ++ List.replicate n 32 := List.drop_append_of_le_length h1
    have hk := skip_app n (l.drop d) false
    rw [List.length_drop] at hk
    by_cases he : l.length ≤ d + skipM false (l.drop d)
    · rw [if_neg (by omega)] at hk
      rw [lexR_end (by omega) he, lexR_end (by omega) (by rw [hd, hk, hlen]; omega)]
    · rw [if_pos (by omega)] at hk
      have hd2 : (l ++ List.replicate n 32).drop (d + skipM false (l.drop d)) = l.drop (d + skipM false (l.drop d)) ++ List.replicate n 32 := List.drop_append_of_le_length (by omega)
      have hne : l.drop (d + skipM false (l.drop d)) ≠ [] := by
        intro h
        have := congrArg List.length h
        rw [List.length_drop] at this
        simp at this
        omega
      obtain ⟨t1, t2⟩ := tok_app n hne
      have he2 : ¬ (l ++ List.replicate n 32).length ≤ d + skipM false ((l ++ List.replicate n 32).drop d) := by rw [hd, hk, hlen]; omega
      have e1 : tokErr ((l ++ List.replicate n 32).drop (d + skipM false ((l ++ List.replicate n 32).drop d))) = tokErr (l.drop (d + skipM false (l.drop d))) := by rw [hd, hk, hd2, t1]
      have e2 : tokLen ((l ++ List.replicate n 32).drop (d + skipM false ((l ++ List.replicate n 32).drop d))) = tokLen (l.drop (d + skipM false (l.drop d))) := by rw [hd, hk, hd2, t2]
      by_cases hz : tokErr (l.drop (d + skipM false (l.drop d))) = 0
      · obtain ⟨g, rfl⟩ : ∃ g, f' = g + 1 := ⟨f' - 1, by omega⟩
        have hp := tokLen_pos hz
        have hq := tokLen_le (l.drop (d + skipM false (l.drop d)))
        rw [List.length_drop] at hq
        rw [lexR_tok he hz, lexR_tok he2 (by rw [e1]; exact hz), e2, hd, hk]
        exact ih _ _ _ _ _ _ (by omega) (by omega) (by omega)
      · rw [lexR_err (by omega) he hz, lexR_err (by omega) he2 (by rw [e1]; exact hz)]
        exact e1
theorem lexAll_app (l : List UInt8) (n : Nat) (h : l.length + n ≤ 65536) : (lexAll (l ++ List.replicate n 32)).2.2 = (lexAll l).2.2 := by
  unfold lexAll
  rw [if_neg (by simp; omega), if_neg (by omega)]
  exact lexR_app l n _ _ _ _ _ _ _ (by omega) (by omega) (by simp)
end Go.Proofs.YtfnhogeocbndcaaGreatDoor
/- A word between blanks: its tokens. -/
namespace Go.Proofs.YtfnhogeocbndcaaGreatDoor
open Go

theorem letter_facts (b : UInt8) (h : isLetter b = true) : isBlank b = false ∧ b ≠ 47 ∧ inW b = true ∧ isDec b = false := by
  have := all_u8 (fun b => !isLetter b || (!isBlank b && b != 47 && inW b && !isDec b)) (by decide +kernel) b
  rw [h] at this
  simpa [and_assoc] using this
theorem skip_letter {c : UInt8} {r : List UInt8} (h : isLetter c = true) : skipM false (c :: r) = 0 := by
  obtain ⟨h1, h2, _, _⟩ := letter_facts c h
  simp only [skipM]
  rw [h1, if_neg (by simp), if_neg (fun h => h2 h.1)]
theorem skip_blank_cons {c : UInt8} {r : List UInt8} (h : isBlank c = true) : skipM false (c :: r) = 1 + skipM false r := by
  simp only [skipM]
  rw [if_pos h]
theorem run_word {l r : List UInt8} (h : ∀ b ∈ l, inW b = true) (hr : run r = []) : run (l ++ r) = l := by
  unfold run at hr ⊢
  induction l with
  | nil => simpa using hr
  | cons c l ih =>
    rw [List.cons_append, List.takeWhile_cons, if_pos (h c (by simp)), ih (fun b hb => h b (List.mem_cons_of_mem _ hb))]
/-- A word: letters, digits and underscores, the first of them no digit. -/
def IsWord (l : List UInt8) : Prop := (∀ b ∈ l, inW b = true) ∧ ∃ c r, l = c :: r ∧ isLetter c = true
theorem word_run {l : List UInt8} (h : IsWord l) : run (l ++ [32]) = l := run_word h.1 (by decide)
theorem word_err {l : List UInt8} (h : IsWord l) : tokErr (l ++ [32]) = (if 64 < l.length then 5 else 0) ∧ tokKind (l ++ [32]) = (if isKey l = true then 2 else 1) ∧ tokLen (l ++ [32]) = l.length ∧ tokNum (l ++ [32]) = 0 := by
  obtain ⟨c, r, hl, hc⟩ := h.2
  have hr := word_run h
  have hne : run (l ++ [32]) ≠ [] := by rw [hr, hl]; simp
  have hd : (run (l ++ [32])).head?.any isDec = false := by rw [hr, hl]; simp [(letter_facts c hc).2.2.2]
  unfold tokErr tokKind tokLen tokNum
  rw [if_neg hne, if_neg hne, if_neg hne, hd, hr]
  refine ⟨rfl, rfl, rfl, if_neg (by simp)⟩
theorem word_skip {l : List UInt8} (h : IsWord l) : skipM false (32 :: (l ++ [32])) = 1 := by
  obtain ⟨c, r, hl, hc⟩ := h.2
  rw [skip_blank_cons (by decide), hl, List.cons_append, skip_letter hc]
theorem word_long {l : List UInt8} (h : IsWord l) (hlen : 64 < l.length) (hm : l.length ≤ 100) : lexAll (32 :: (l ++ [32])) = ([], 1, 5) := by
  unfold lexAll
  rw [if_neg (by simp; omega)]
  have hs : skipM false ((32 :: (l ++ [32])).drop 0) = 1 := word_skip h
  have he := (word_err h).1
  rw [if_pos hlen] at he
  have hd : (32 :: (l ++ [32])).drop (0 + 1) = l ++ [32] := rfl
  rw [lexR_err (by omega) (by rw [hs]; simp) (by rw [hs, hd, he]; omega), hs, hd, he]
theorem word_short {l : List UInt8} (h : IsWord l) (hlen : ¬ 64 < l.length) : lexAll (32 :: (l ++ [32])) = ([⟨if isKey l = true then 2 else 1, l, 0, 1, 1⟩], l.length + 2, 0) := by
  unfold lexAll
  rw [if_neg (by simp; omega)]
  obtain ⟨e1, e2, e3, e4⟩ := word_err h
  rw [if_neg hlen] at e1
  have hs : skipM false ((32 :: (l ++ [32])).drop 0) = 1 := word_skip h
  have hd : (32 :: (l ++ [32])).drop (0 + 1) = l ++ [32] := rfl
  have hl : (32 :: (l ++ [32])).length = l.length + 2 := by simp
  rw [hl, lexR_tok (by rw [hs, hl]; omega) (by rw [hs, hd]; exact e1), hs, hd, e3]
  have hd2 : (32 :: (l ++ [32])).drop (0 + 1 + l.length) = [32] := by
    rw [Nat.zero_add, Nat.add_comm 1, List.drop_succ_cons, List.drop_left]
  have hs2 : skipM false ((32 :: (l ++ [32])).drop (0 + 1 + l.length)) = 1 := by rw [hd2]; decide
  rw [lexR_end (by omega) (by rw [hs2, hl]; omega), hl]
  refine Prod.ext ?_ rfl
  show [] ++ [tokAt _ (0 + 1) _] = _
  unfold tokAt
  rw [hd, e2, e3, e4, List.take_left]
  rfl
end Go.Proofs.YtfnhogeocbndcaaGreatDoor
/- Texts of tokens with blanks between them: their tokens. -/
namespace Go.Proofs.YtfnhogeocbndcaaGreatDoor
open Go Go.RowKit
set_option linter.unusedVariables false

/-- What may follow a token's text: nothing, or a blank. -/
def brk (r : List UInt8) : Prop := r = [] ∨ ∃ c r', r = c :: r' ∧ isBlank c = true
/-- A token's text behind which a blank may be put. -/
def Good (t : Tok) : Prop := t.text ≠ [] ∧ ∀ r, brk r → skipM false (t.text ++ r) = 0 ∧ tokErr (t.text ++ r) = 0 ∧ tokKind (t.text ++ r) = t.kind ∧ tokLen (t.text ++ r) = t.text.length ∧ tokNum (t.text ++ r) = t.num
theorem inW_facts (b : UInt8) (h : inW b = true) : isBlank b = false ∧ b ≠ 47 := by
  have := all_u8 (fun b => !inW b || (!isBlank b && b != 47)) (by decide +kernel) b
  rw [h] at this
  simpa [and_assoc] using this
theorem blank_facts (b : UInt8) (h : isBlank b = true) : inW b = false ∧ b ≠ 47 := by
  have := all_u8 (fun b => !isBlank b || (!inW b && b != 47)) (by decide +kernel) b
  rw [h] at this
  simpa [and_assoc] using this
theorem run_brk {r : List UInt8} (h : brk r) : run r = [] := by
  rcases h with rfl | ⟨c, r', rfl, hc⟩
  · rfl
  · unfold run
    rw [List.takeWhile_cons, if_neg (by rw [(blank_facts c hc).1]; simp)]
theorem no_pair_blank (c b : UInt8) (h : isBlank b = true) : pairs.contains [c, b] = false := by
  have h4 : b = 32 ∨ b = 9 ∨ b = 13 ∨ b = 10 := by
    have := all_u8 (fun b => !isBlank b || (b == 32 || b == 9 || b == 13 || b == 10)) (by decide +kernel) b
    rw [h] at this
    simpa [or_assoc] using this
  rcases h4 with rfl | rfl | rfl | rfl
  · exact no_pair_sp c
  · have := all_u8 (fun c => !(pairs.contains [c, 9])) (by decide +kernel) c
    simpa using this
  · have := all_u8 (fun c => !(pairs.contains [c, 13])) (by decide +kernel) c
    simpa using this
  · have := all_u8 (fun c => !(pairs.contains [c, 10])) (by decide +kernel) c
    simpa using this
theorem run_mem {L : List UInt8} {x : UInt8} (h : x ∈ run L) : inW x = true := by
  induction L with
  | nil => simp [run] at h
  | cons c r ih =>
    unfold run at h ih
    rw [List.takeWhile_cons] at h
    by_cases hc : inW c = true
    · rw [if_pos hc] at h
      rcases List.mem_cons.1 h with rfl | h
      · exact hc
      · exact ih h
    · rw [if_neg hc] at h; cases h
theorem skip_idem : ∀ (M : List UInt8) (m : Bool), skipM false (M.drop (skipM m M)) = 0 := by
  intro M
  induction M with
  | nil => intro m; cases m <;> rfl
  | cons c r ih =>
    intro m
    have hd : ∀ k, (c :: r).drop (1 + k) = r.drop k := fun k => by rw [Nat.add_comm]; rfl
    cases m with
    | true => rw [skipT, hd]; exact ih _
    | false =>
      by_cases hb : isBlank c = true
      · have e : skipM false (c :: r) = 1 + skipM false r := by rw [skipF, if_pos hb]
        rw [e, hd]; exact ih _
      · by_cases hc : c = 47 ∧ r.head? = some 47
        · have e : skipM false (c :: r) = 1 + skipM true r := by rw [skipF, if_neg hb, if_pos hc]
          rw [e, hd]; exact ih _
        · have e : skipM false (c :: r) = 0 := by rw [skipF, if_neg hb, if_neg hc]
          rw [e, List.drop_zero, e]
theorem skip_zero {c : UInt8} {r : List UInt8} (h1 : isBlank c = false) (h2 : ¬ (c = 47 ∧ r.head? = some 47)) : skipM false (c :: r) = 0 := by
  rw [skipF, if_neg (by rw [h1]; simp), if_neg h2]
theorem skip_zero_inv {c : UInt8} {r : List UInt8} (h : skipM false (c :: r) = 0) : isBlank c = false ∧ ¬ (c = 47 ∧ r.head? = some 47) := by
  rw [skipF] at h
  by_cases hb : isBlank c = true
  · rw [if_pos hb] at h; omega
  · rw [if_neg hb] at h
    refine ⟨by simpa using hb, fun hc => ?_⟩
    rw [if_pos hc] at h
    omega
theorem good_of {M : List UInt8} (hs : skipM false M = 0) (he : tokErr M = 0) (t : Tok) (hk : t.kind = tokKind M) (hn : t.num = tokNum M) (ht : t.text = M.take (tokLen M)) : Good t := by
  have hp := tokLen_pos he
  have hle := tokLen_le M
  have hne : t.text ≠ [] := by
    rw [ht]
    intro h
    have := congrArg List.length h
    rw [List.length_take, List.length_nil] at this
    omega
  refine ⟨hne, fun r hr => ?_⟩
  by_cases hrun : run M = []
  · have hl : tokLen M = punctLen M := by unfold tokLen; rw [if_pos hrun]
    obtain ⟨e1, e2, e3, e4⟩ := run_nil_first hrun
    rw [hk, hn, e2, e4]
    cases M with
    | nil => simp at hle; omega
    | cons a M =>
      have haw : inW a = false := by
        cases h : inW a with
        | false => rfl
        | true => unfold run at hrun; rw [List.takeWhile_cons, if_pos h] at hrun; cases hrun
      have hrn : ∀ X, run (a :: X) = [] := fun X => by unfold run; rw [List.takeWhile_cons, if_neg (by rw [haw]; simp)]
      obtain ⟨hb, hc⟩ := skip_zero_inv hs
      have hfin : ∀ X k, punctLen (a :: X) = k → 0 < k → ¬ (a = 47 ∧ X.head? = some 47) → skipM false (a :: X) = 0 ∧ tokErr (a :: X) = 0 ∧ tokKind (a :: X) = 4 ∧ tokLen (a :: X) = k ∧ tokNum (a :: X) = 0 := fun X k h1 h2 h3 => by
        obtain ⟨q1, q2, q3, q4⟩ := run_nil_first (hrn X)
        refine ⟨skip_zero hb h3, by rw [q1, h1, if_neg (by omega)], q2, by unfold tokLen; rw [if_pos (hrn X)]; exact h1, q4⟩
      by_cases h2 : 1 < (a :: M).length ∧ pairs.contains ((a :: M).take 2) = true
      · have hp2 : punctLen (a :: M) = 2 := by unfold punctLen; rw [if_pos h2]
        cases M with
        | nil => simp at h2
        | cons b M =>
          have htx : t.text = [a, b] := by rw [ht, hl, hp2]; rfl
          rw [htx]
          have h3 : pairs.contains [a, b] = true := h2.2
          refine hfin (b :: r) 2 ?_ (by omega) hc
          unfold punctLen
          rw [if_pos ⟨by simp, h3⟩]
      · have hp1 : punctLen (a :: M) = if isPunct a = true then 1 else 0 := by unfold punctLen; rw [if_neg h2]
        cases hia : isPunct a with
        | false => rw [hia] at hp1; simp at hp1; omega
        | true =>
          rw [hia, if_pos rfl] at hp1
          have htx : t.text = [a] := by rw [ht, hl, hp1]; rfl
          rw [htx]
          have h5 : ¬ (1 < (a :: r).length ∧ pairs.contains ((a :: r).take 2) = true) := by
            rcases hr with rfl | ⟨c, r', rfl, hcb⟩
            · simp
            · rintro ⟨_, q⟩
              have : pairs.contains [a, c] = true := q
              rw [no_pair_blank a c hcb] at this
              cases this
          refine hfin r 1 ?_ (by omega) ?_
          · unfold punctLen; rw [if_neg h5]; simp [hia]
          · rintro ⟨_, q⟩
            rcases hr with rfl | ⟨c, r', rfl, hcb⟩
            · cases q
            · exact (blank_facts c hcb).2 (by simpa using q)
  · have hl : tokLen M = (run M).length := by unfold tokLen; rw [if_neg hrun]
    have htx : t.text = run M := by rw [ht, hl]; exact (run_eq_take M).symm
    have hrr : run (run M ++ r) = run M := run_word (fun b hb => run_mem hb) (run_brk hr)
    rw [htx, hk, hn]
    refine ⟨?_, ?_, ?_, ?_, ?_⟩
    · cases hM : run M with
      | nil => exact absurd hM hrun
      | cons c R =>
        have hcw : inW c = true := run_mem (L := M) (by rw [hM]; simp)
        exact skip_zero (inW_facts c hcw).1 (fun h => (inW_facts c hcw).2 h.1)
    · have := he
      unfold tokErr at this ⊢
      rw [hrr]
      rw [if_neg hrun] at this ⊢
      exact this
    · unfold tokKind
      rw [hrr, if_neg hrun]
    · unfold tokLen
      rw [hrr, if_neg hrun]
    · unfold tokNum
      rw [hrr]
theorem chain_good {l : List UInt8} : ∀ (ts : List Tok) (d line : Nat), Chain l d line ts → ∀ t ∈ ts, Good t := by
  intro ts
  induction ts with
  | nil => intro d line _ t h; cases h
  | cons u ts ih =>
    intro d line hc t ht
    obtain ⟨e1, e2, e3, e4, e5, e6, e7, e8, e9, e10, e11⟩ := hc.step
    rcases List.mem_cons.1 ht with rfl | ht
    · refine good_of (M := l.drop t.pos) ?_ e8 t e9 e10 e5
      have := skip_idem (l.drop d) false
      rw [List.drop_drop] at this
      rw [e1]
      exact this
    · exact ih _ _ e11 t ht
/-- The texts with what stands before each. -/
def sepL : List (List UInt8 × Tok) → List UInt8
  | [] => []
  | (b, t) :: ps => b ++ (t.text ++ sepL ps)
/-- Each gap is skipped, and a blank stands behind each text or nothing. -/
def SepOK (tl : List UInt8) : List (List UInt8 × Tok) → Prop
  | [] => skipM false tl = tl.length
  | (b, t) :: ps => (∀ X, skipM false (b ++ X) = b.length + skipM false X) ∧ Good t ∧ brk (sepL ps ++ tl) ∧ SepOK tl ps
def ktn (t : Tok) : Nat × List UInt8 × Nat := (t.kind, t.text, t.num)
theorem lexR_sep (l tl : List UInt8) : ∀ (ps : List (List UInt8 × Tok)) (f d line : Nat) (acc : List Tok), SepOK tl ps → d ≤ l.length → l.length < f + d → l.drop d = sepL ps ++ tl →
    ∃ ts, lexR l f d line acc = (acc ++ ts, l.length, 0) ∧ ts.map ktn = ps.map fun p => ktn p.2 := by
  intro ps
  induction ps with
  | nil =>
    intro f d line acc hok hd hf hl
    have h1 : skipM false tl = tl.length := hok
    rw [show sepL [] = [] from rfl, List.nil_append] at hl
    refine ⟨[], ?_, rfl⟩
    rw [lexR_end (by omega) (by rw [hl, h1, ← hl, List.length_drop]; omega), List.append_nil]
  | cons p ps ih =>
    intro f d line acc hok hd hf hl
    obtain ⟨b, t⟩ := p
    obtain ⟨hb, hg, hbr, hok2⟩ := hok
    have hl2 : l.drop d = b ++ (t.text ++ (sepL ps ++ tl)) := by rw [hl]; simp [sepL]
    obtain ⟨hne, hg2⟩ := hg
    obtain ⟨g1, g2, g3, g4, g5⟩ := hg2 _ hbr
    have hk : skipM false (l.drop d) = b.length := by rw [hl2, hb, g1]; rfl
    have hlen := congrArg List.length hl2
    rw [List.length_drop] at hlen
    simp only [List.length_append] at hlen
    have htp : 0 < t.text.length := List.length_pos_iff.2 hne
    have hda : l.drop (d + b.length) = t.text ++ (sepL ps ++ tl) := by
      rw [← List.drop_drop, hl2, List.drop_left]
    have hdb : l.drop (d + b.length + t.text.length) = sepL ps ++ tl := by
      rw [← List.drop_drop, hda, List.drop_left]
    have hend : ¬ l.length ≤ d + skipM false (l.drop d) := by rw [hk]; omega
    have he : tokErr (l.drop (d + skipM false (l.drop d))) = 0 := by rw [hk, hda]; exact g2
    obtain ⟨g, rfl⟩ : ∃ g, f = g + 1 := ⟨f - 1, by omega⟩
    rw [lexR_tok hend he, hk]
    obtain ⟨ts, h1, h2⟩ := ih g (d + b.length + tokLen (l.drop (d + b.length))) (line + lineFeeds ((l.drop d).take b.length)) (acc ++ [tokAt l (d + b.length) (line + lineFeeds ((l.drop d).take b.length))]) hok2
      (by rw [hda, g4]; omega) (by rw [hda, g4]; omega) (by rw [hda, g4, hdb])
    refine ⟨tokAt l (d + b.length) (line + lineFeeds ((l.drop d).take b.length)) :: ts, ?_, ?_⟩
    · rw [h1, List.append_assoc]; rfl
    · rw [List.map_cons, List.map_cons, h2]
      congr 1
      unfold ktn tokAt
      rw [hda, g3, g5, g4, List.take_left]
theorem lexAll_sep (tl : List UInt8) (ps : List (List UInt8 × Tok)) (hok : SepOK tl ps) (hlen : (sepL ps ++ tl).length ≤ 65536) :
    ∃ ts, lexAll (sepL ps ++ tl) = (ts, (sepL ps ++ tl).length, 0) ∧ ts.map ktn = ps.map fun p => ktn p.2 := by
  unfold lexAll
  rw [if_neg (by omega)]
  obtain ⟨ts, h1, h2⟩ := lexR_sep (sepL ps ++ tl) tl ps ((sepL ps ++ tl).length + 1) 0 1 [] hok (by omega) (by omega) rfl
  exact ⟨ts, by rw [h1, List.nil_append], h2⟩
end Go.Proofs.YtfnhogeocbndcaaGreatDoor
/- Lists of tokens in memory, and the text that joins them. -/
namespace Go.Proofs.YtfnhogeocbndcaaGreatDoor
open Go Go.RowKit
set_option linter.unusedVariables false

/-- A list of tokens in memory, or none. -/
def TkV (w : World) (v : Value) (ts : List Tok) : Prop := (ts = [] ∧ v = .slice none 0 0) ∨ ∃ g c, v = .slice (some ⟨g, 0, none⟩) ts.length c ∧ TkIn w g ts
theorem TkV.own {w : World} {base : Nat} {e : TypeId} {v : Value} {ts : List Tok} (h : w.ownsRow base e 5 v ts.length (tcells ts)) : TkV w v ts := by
  rcases toks_own h with h | ⟨g, c, h, _, h2⟩
  · exact .inl h
  · exact .inr ⟨g, c, h, h2⟩
theorem TkV.below {w w' : World} {v : Value} {ts : List Tok} (h : TkV w v ts) (hb : Below w.heap.size w w') : TkV w' v ts := by
  rcases h with h | ⟨g, c, h, h2⟩
  · exact .inl h
  · exact .inr ⟨g, c, h, h2.below hb h2.1⟩
/-- The texts of the first k tokens, with single blanks between them. -/
def joinP (i : Nat) (t : Tok) : List UInt8 × Tok := (if i = 0 then [] else [32], t)
def J (ts : List Tok) (k : Nat) : List UInt8 := sepL ((ts.take k).mapIdx joinP)
theorem sepL_append (ps qs : List (List UInt8 × Tok)) : sepL (ps ++ qs) = sepL ps ++ sepL qs := by
  induction ps with
  | nil => rfl
  | cons p ps ih => obtain ⟨b, t⟩ := p; simp [sepL, ih]
theorem J_zero (ts : List Tok) : J ts 0 = [] := by simp [J, sepL]
theorem J_succ {ts : List Tok} {k : Nat} (h : k < ts.length) : J ts (k + 1) = J ts k ++ ((if k = 0 then [] else [32]) ++ (tat ts k).text) := by
  unfold J
  rw [List.take_succ_eq_append_getElem h, List.mapIdx_concat, sepL_append, tat_get h]
  have hl : (ts.take k).length = k := by rw [List.length_take]; omega
  rw [hl]
  simp [sepL, joinP]
def tsum (ts : List Tok) : Nat := (ts.map fun t => t.text.length).sum
theorem J_len {ts : List Tok} : ∀ k, k ≤ ts.length → (J ts k).length + tsum (ts.drop k) ≤ tsum ts + k := by
  intro k
  induction k with
  | zero => intro _; rw [J_zero]; simp
  | succ k ih =>
    intro h
    have := ih (by omega)
    rw [J_succ (by omega)]
    rw [List.drop_eq_getElem_cons (show k < ts.length by omega)] at this
    have e : tsum (ts[k] :: ts.drop (k + 1)) = ts[k].text.length + tsum (ts.drop (k + 1)) := rfl
    rw [e] at this
    rw [tat_get (show k < ts.length by omega)]
    simp only [List.length_append]
    split <;> simp <;> omega

end Go.Proofs.YtfnhogeocbndcaaGreatDoor
/- The tokens of the text that joins a text's tokens. -/
namespace Go.Proofs.YtfnhogeocbndcaaGreatDoor
open Go Go.RowKit
set_option linter.unusedVariables false

theorem Chain.sum {l : List UInt8} : ∀ (ts : List Tok) (d line : Nat), d ≤ l.length → Chain l d line ts → d + tsum ts ≤ l.length := by
  intro ts
  induction ts with
  | nil => intro d line h _; exact h
  | cons t ts ih =>
    intro d line h hc
    obtain ⟨e1, e2, e3, e4, _, e6, _, _, _, _, e11⟩ := hc.step
    have := ih _ _ e4 e11
    have e : tsum (t :: ts) = t.text.length + tsum ts := rfl
    rw [e]
    omega
theorem sep_sp : ∀ (ts : List Tok), (∀ t ∈ ts, Good t) → ∀ f : Nat → Tok → List UInt8 × Tok, (∀ i t, f i t = ([32], t)) → SepOK [] (ts.mapIdx f) ∧ brk (sepL (ts.mapIdx f) ++ []) := by
  intro ts
  induction ts with
  | nil => intro _ f _; exact ⟨rfl, .inl rfl⟩
  | cons t ts ih =>
    intro hg f hf
    obtain ⟨h1, h2⟩ := ih (fun u hu => hg u (List.mem_cons_of_mem _ hu)) (fun i => f (i + 1)) (fun i t => hf (i + 1) t)
    rw [List.mapIdx_cons, hf]
    refine ⟨⟨fun X => ?_, hg t (by simp), h2, h1⟩, .inr ⟨32, _, rfl, by decide⟩⟩
    exact skip_blank_cons (by decide)
theorem sep_join {ts : List Tok} (hg : ∀ t ∈ ts, Good t) : SepOK [] (ts.mapIdx joinP) := by
  cases ts with
  | nil => rfl
  | cons t ts =>
    obtain ⟨h1, h2⟩ := sep_sp ts (fun u hu => hg u (List.mem_cons_of_mem _ hu)) (fun i => joinP (i + 1)) (fun i t => rfl)
    rw [List.mapIdx_cons]
    exact ⟨fun X => by simp, hg t (by simp), h2, h1⟩
theorem ktn_join (ts : List Tok) : ((ts.mapIdx joinP).map fun p => ktn p.2) = ts.map ktn := by
  apply List.ext_getElem?
  intro i
  rw [List.getElem?_map, List.getElem?_mapIdx, List.getElem?_map]
  cases ts[i]? <;> rfl
theorem lexAll_join {l : List UInt8} {ts : List Tok} {line : Nat} (hl : l.length ≤ 3000) (hc : Chain l 0 line ts) :
    ∃ us, lexAll (J ts ts.length) = (us, (J ts ts.length).length, 0) ∧ us.map ktn = ts.map ktn := by
  have h1 := hc.len _ _ _ (by omega)
  have h2 := Chain.sum _ _ _ (by omega) hc
  have h3 := J_len (ts := ts) ts.length (Nat.le_refl _)
  have e : J ts ts.length = sepL (ts.mapIdx joinP) ++ [] := by unfold J; rw [List.take_length, List.append_nil]
  rw [e] at h3 ⊢
  obtain ⟨us, q1, q2⟩ := lexAll_sep [] (ts.mapIdx joinP) (sep_join (chain_good ts 0 line hc)) (by omega)
  exact ⟨us, q1, q2.trans (ktn_join ts)⟩

/-- A token's text holds no line feed. -/
theorem text_no10 {t : Tok} (hg : Good t) : ∀ b ∈ t.text, b ≠ 10 := by
  obtain ⟨_, h⟩ := hg
  obtain ⟨_, _, _, h4, _⟩ := h [] (.inl rfl)
  rw [List.append_nil] at h4
  intro b hb e
  subst e
  unfold tokLen at h4
  split at h4
  · unfold punctLen at h4
    split at h4
    · rename_i h2
      have hp : t.text.take 2 = t.text := List.take_of_length_le (by omega)
      have h3 := h2.2
      rw [hp] at h3
      have h5 : t.text ∈ pairs := by simpa using h3
      unfold pairs at h5
      simp only [List.mem_cons, List.not_mem_nil, or_false] at h5
      rcases h5 with h5 | h5 | h5 | h5 | h5 | h5 | h5 | h5 | h5 | h5 <;> rw [h5] at hb <;> revert hb <;> decide
    · cases ht : t.text with
      | nil => rw [ht] at hb; simp at hb
      | cons c r =>
        rw [ht] at h4 hb
        simp only at h4
        split at h4
        · have hr : r = [] := List.eq_nil_of_length_eq_zero (by rw [List.length_cons] at h4; omega)
          subst hr
          simp only [List.mem_singleton] at hb
          subst hb
          rename_i hc
          revert hc
          decide
        · simp at h4
  · have hr : run t.text = t.text := by
      have := run_eq_take t.text
      rw [h4, List.take_length] at this
      exact this
    rw [← hr] at hb
    have := run_mem hb
    revert this
    decide
theorem J_no10 {ts : List Tok} (hg : ∀ t ∈ ts, Good t) : ∀ k, k ≤ ts.length → ∀ b ∈ J ts k, b ≠ 10 := by
  intro k
  induction k with
  | zero => intro _ b hb; rw [J_zero] at hb; simp at hb
  | succ k ih =>
    intro h b hb
    rw [J_succ (by omega)] at hb
    simp only [List.mem_append] at hb
    rcases hb with hb | hb | hb
    · exact ih (by omega) b hb
    · split at hb
      · simp at hb
      · simp only [List.mem_singleton] at hb
        subst hb
        decide
    · rw [tat_get (show k < ts.length by omega)] at hb
      exact text_no10 (hg _ (List.getElem_mem _)) b hb
theorem Chain.lines {l : List UInt8} (h : ∀ b ∈ l, b ≠ 10) : ∀ (ts : List Tok) (d line : Nat), Chain l d line ts → ∀ t ∈ ts, t.line = line := by
  intro ts
  induction ts with
  | nil => intro d line _ t ht; simp at ht
  | cons a ts ih =>
    intro d line hc t ht
    obtain ⟨_, _, _, _, _, _, e7, _, _, _, e11⟩ := hc.step
    have h0 : lineFeeds ((l.drop d).take (a.pos - d)) = 0 := by
      unfold lineFeeds
      rw [List.count_eq_zero]
      intro hm
      exact h 10 (List.mem_of_mem_drop (List.mem_of_mem_take hm)) rfl
    rw [h0, Nat.add_zero] at e7
    rcases List.mem_cons.1 ht with rfl | ht
    · exact e7
    · rw [ih _ _ e11 t ht, e7]
/-- The tokens of a source's tokens, joined: the same, and in line 1. -/
theorem lex_join {l : List UInt8} (hl : l.length ≤ 3000) (he : (lexAll l).2.2 = 0) :
    (lexAll (J (lexAll l).1 (lexAll l).1.length)).2.2 = 0 ∧ (lexAll (J (lexAll l).1 (lexAll l).1.length)).1.map ktn = (lexAll l).1.map ktn ∧ (∀ t ∈ (lexAll (J (lexAll l).1 (lexAll l).1.length)).1, t.line = 1) ∧
      (lexAll l).1.length ≤ 3000 ∧ tsum (lexAll l).1 ≤ 3000 := by
  rcases lexAll_cases l with ⟨_, _, _, hc⟩ | ⟨h, _⟩
  · obtain ⟨us, h1, h2⟩ := lexAll_join hl hc
    have hn := hc.len _ _ _ (by omega)
    have hs := Chain.sum _ _ _ (by omega) hc
    refine ⟨by rw [h1], by rw [h1]; exact h2, ?_, by omega, by omega⟩
    rcases lexAll_cases (J (lexAll l).1 (lexAll l).1.length) with ⟨_, _, _, hc2⟩ | ⟨h, _⟩
    · exact Chain.lines (J_no10 (chain_good _ _ _ hc) _ (Nat.le_refl _)) _ _ _ hc2
    · rw [h1] at h; exact absurd rfl h
  · exact absurd he h
end Go.Proofs.YtfnhogeocbndcaaGreatDoor
