/- Texts of tokens with blanks between them: their tokens. -/
import Derived.Test.YtgglmcjclbaceaaDoorLxLim
import Derived.Test.YtgglmcjclbaceaaDoorLxWd
namespace Go.Proofs.YtgglmcjclbaceaaDoor
open Go Go.RowKit
set_option linter.unusedVariables false

/-- What may follow a token's text: nothing, or a blank. -/
def brk (r : List UInt8) : Prop := r = [] ∨ ∃ c r', r = c :: r' ∧ isBlank c = true
/-- A token's text behind which a blank may be put. -/
def Good (t : Tok) : Prop := t.text ≠ [] ∧ ∀ r, brk r → skipM false (t.text ++ r) = 0 ∧ tokErr (t.text ++ r) = 0 ∧ tokKind (t.text ++ r) = t.kind ∧ tokLen (t.text ++ r) = t.text.length ∧ tokNum (t.text ++ r) = t.num
theorem inW_facts (b : UInt8) (h : inW b = true) : isBlank b = false ∧ b ≠ 47 := by
  have := all_u8 (fun b => !inW b || (!isBlank b && b != 47)) (by decide +kernel) b
  rw [h] at this
  simpa [and_assoc] using this
theorem blank_facts (b : UInt8) (h : isBlank b = true) : inW b = false ∧ b ≠ 47 := by
  have := all_u8 (fun b => !isBlank b || (!inW b && b != 47)) (by decide +kernel) b
  rw [h] at this
  simpa [and_assoc] using this
theorem run_brk {r : List UInt8} (h : brk r) : run r = [] := by
  rcases h with rfl | ⟨c, r', rfl, hc⟩
  · rfl
  · unfold run
    rw [List.takeWhile_cons, if_neg (by rw [(blank_facts c hc).1]; simp)]
theorem no_pair_blank (c b : UInt8) (h : isBlank b = true) : pairs.contains [c, b] = false := by
  have h4 : b = 32 ∨ b = 9 ∨ b = 13 ∨ b = 10 := by
    have := all_u8 (fun b => !isBlank b || (b == 32 || b == 9 || b == 13 || b == 10)) (by decide +kernel) b
    rw [h] at this
    simpa [or_assoc] using this
  rcases h4 with rfl | rfl | rfl | rfl
  · exact no_pair_sp c
  · have := all_u8 (fun c => !(pairs.contains [c, 9])) (by decide +kernel) c
    simpa using this
  · have := all_u8 (fun c => !(pairs.contains [c, 13])) (by decide +kernel) c
    simpa using this
  · have := all_u8 (fun c => !(pairs.contains [c, 10])) (by decide +kernel) c
    simpa using this
theorem run_mem {L : List UInt8} {x : UInt8} (h : x ∈ run L) : inW x = true := by
  induction L with
  | nil => simp [run] at h
  | cons c r ih =>
    unfold run at h ih
    rw [List.takeWhile_cons] at h
    by_cases hc : inW c = true
    · rw [if_pos hc] at h
      rcases List.mem_cons.1 h with rfl | h
      · exact hc
      · exact ih h
    · rw [if_neg hc] at h; cases h
theorem skip_idem : ∀ (M : List UInt8) (m : Bool), skipM false (M.drop (skipM m M)) = 0 := by
  intro M
  induction M with
  | nil => intro m; cases m <;> rfl
  | cons c r ih =>
    intro m
    have hd : ∀ k, (c :: r).drop (1 + k) = r.drop k := fun k => by rw [Nat.add_comm]; rfl
    cases m with
    | true => rw [skipT, hd]; exact ih _
    | false =>
      by_cases hb : isBlank c = true
      · have e : skipM false (c :: r) = 1 + skipM false r := by rw [skipF, if_pos hb]
        rw [e, hd]; exact ih _
      · by_cases hc : c = 47 ∧ r.head? = some 47
        · have e : skipM false (c :: r) = 1 + skipM true r := by rw [skipF, if_neg hb, if_pos hc]
          rw [e, hd]; exact ih _
        · have e : skipM false (c :: r) = 0 := by rw [skipF, if_neg hb, if_neg hc]
          rw [e, List.drop_zero, e]
theorem skip_zero {c : UInt8} {r : List UInt8} (h1 : isBlank c = false) (h2 : ¬ (c = 47 ∧ r.head? = some 47)) : skipM false (c :: r) = 0 := by
  rw [skipF, if_neg (by rw [h1]; simp), if_neg h2]
theorem skip_zero_inv {c : UInt8} {r : List UInt8} (h : skipM false (c :: r) = 0) : isBlank c = false ∧ ¬ (c = 47 ∧ r.head? = some 47) := by
  rw [skipF] at h
  by_cases hb : isBlank c = true
  · rw [if_pos hb] at h; omega
  · rw [if_neg hb] at h
    refine ⟨by simpa using hb, fun hc => ?_⟩
    rw [if_pos hc] at h
    omega
theorem good_of {M : List UInt8} (hs : skipM false M = 0) (he : tokErr M = 0) (t : Tok) (hk : t.kind = tokKind M) (hn : t.num = tokNum M) (ht : t.text = M.take (tokLen M)) : Good t := by
  have hp := tokLen_pos he
  have hle := tokLen_le M
  have hne : t.text ≠ [] := by
    rw [ht]
    intro h
    have := congrArg List.length h
    rw [List.length_take, List.length_nil] at this
    omega
  refine ⟨hne, fun r hr => ?_⟩
  by_cases hrun : run M = []
  · have hl : tokLen M = punctLen M := by unfold tokLen; rw [if_pos hrun]
    obtain ⟨e1, e2, e3, e4⟩ := run_nil_first hrun
    rw [hk, hn, e2, e4]
    cases M with
    | nil => simp at hle; omega
    | cons a M =>
      have haw : inW a = false := by
        cases h : inW a with
        | false => rfl
        | true => unfold run at hrun; rw [List.takeWhile_cons, if_pos h] at hrun; cases hrun
      have hrn : ∀ X, run (a :: X) = [] := fun X => by unfold run; rw [List.takeWhile_cons, if_neg (by rw [haw]; simp)]
      obtain ⟨hb, hc⟩ := skip_zero_inv hs
      have hfin : ∀ X k, punctLen (a :: X) = k → 0 < k → ¬ (a = 47 ∧ X.head? = some 47) → skipM false (a :: X) = 0 ∧ tokErr (a :: X) = 0 ∧ tokKind (a :: X) = 4 ∧ tokLen (a :: X) = k ∧ tokNum (a :: X) = 0 := fun X k h1 h2 h3 => by
        obtain ⟨q1, q2, q3, q4⟩ := run_nil_first (hrn X)
        refine ⟨skip_zero hb h3, by rw [q1, h1, if_neg (by omega)], q2, by unfold tokLen; rw [if_pos (hrn X)]; exact h1, q4⟩
      by_cases h2 : 1 < (a :: M).length ∧ pairs.contains ((a :: M).take 2) = true
      · have hp2 : punctLen (a :: M) = 2 := by unfold punctLen; rw [if_pos h2]
        cases M with
        | nil => simp at h2
        | cons b M =>
          have htx : t.text = [a, b] := by rw [ht, hl, hp2]; rfl
          rw [htx]
          have h3 : pairs.contains [a, b] = true := h2.2
          refine hfin (b :: r) 2 ?_ (by omega) hc
          unfold punctLen
          rw [if_pos ⟨by simp, h3⟩]
      · have hp1 : punctLen (a :: M) = if isPunct a = true then 1 else 0 := by unfold punctLen; rw [if_neg h2]
        cases hia : isPunct a with
        | false => rw [hia] at hp1; simp at hp1; omega
        | true =>
          rw [hia, if_pos rfl] at hp1
          have htx : t.text = [a] := by rw [ht, hl, hp1]; rfl
          rw [htx]
          have h5 : ¬ (1 < (a :: r).length ∧ pairs.contains ((a :: r).take 2) = true) := by
            rcases hr with rfl | ⟨c, r', rfl, hcb⟩
            · simp
            · rintro ⟨_, q⟩
              have : pairs.contains [a, c] = true := q
              rw [no_pair_blank a c hcb] at this
              cases this
          refine hfin r 1 ?_ (by omega) ?_
          · unfold punctLen; rw [if_neg h5]; simp [hia]
          · rintro ⟨_, q⟩
            rcases hr with rfl | ⟨c, r', rfl, hcb⟩
            · cases q
            · exact (blank_facts c hcb).2 (by simpa using q)
  · have hl : tokLen M = (run M).length := by unfold tokLen; rw [if_neg hrun]
    have htx : t.text = run M := by rw [ht, hl]; exact (run_eq_take M).symm
    have hrr : run (run M ++ r) = run M := run_word (fun b hb => run_mem hb) (run_brk hr)
    rw [htx, hk, hn]
    refine ⟨?_, ?_, ?_, ?_, ?_⟩
    · cases hM : run M with
      | nil => exact absurd hM hrun
      | cons c R =>
        have hcw : inW c = true := run_mem (L := M) (by rw [hM]; simp)
        exact skip_zero (inW_facts c hcw).1 (fun h => (inW_facts c hcw).2 h.1)
    · have := he
      unfold tokErr at this ⊢
      rw [hrr]
      rw [if_neg hrun] at this ⊢
      exact this
    · unfold tokKind
      rw [hrr, if_neg hrun]
    · unfold tokLen
      rw [hrr, if_neg hrun]
    · unfold tokNum
      rw [hrr]
theorem chain_good {l : List UInt8} : ∀ (ts : List Tok) (d line : Nat), Chain l d line ts → ∀ t ∈ ts, Good t := by
  intro ts
  induction ts with
  | nil => intro d line _ t h; cases h
  | cons u ts ih =>
    intro d line hc t ht
    obtain ⟨e1, e2, e3, e4, e5, e6, e7, e8, e9, e10, e11⟩ := hc.step
    rcases List.mem_cons.1 ht with rfl | ht
    · refine good_of (M := l.drop t.pos) ?_ e8 t e9 e10 e5
      have := skip_idem (l.drop d) false
      rw [List.drop_drop] at this
      rw [e1]
      exact this
    · exact ih _ _ e11 t ht
/-- The texts with what stands before each. -/
def sepL : List (List UInt8 × Tok) → List UInt8
  | [] => []
  | (b, t) :: ps => b ++ (t.text ++ sepL ps)
/-- Each gap is skipped, and a blank stands behind each text or nothing. -/
def SepOK (tl : List UInt8) : List (List UInt8 × Tok) → Prop
  | [] => skipM false tl = tl.length
  | (b, t) :: ps => (∀ X, skipM false (b ++ X) = b.length + skipM false X) ∧ Good t ∧ brk (sepL ps ++ tl) ∧ SepOK tl ps
def ktn (t : Tok) : Nat × List UInt8 × Nat := (t.kind, t.text, t.num)
theorem lexR_sep (l tl : List UInt8) : ∀ (ps : List (List UInt8 × Tok)) (f d line : Nat) (acc : List Tok), SepOK tl ps → d ≤ l.length → l.length < f + d → l.drop d = sepL ps ++ tl →
    ∃ ts, lexR l f d line acc = (acc ++ ts, l.length, 0) ∧ ts.map ktn = ps.map fun p => ktn p.2 := by
  intro ps
  induction ps with
  | nil =>
    intro f d line acc hok hd hf hl
    have h1 : skipM false tl = tl.length := hok
    rw [show sepL [] = [] from rfl, List.nil_append] at hl
    refine ⟨[], ?_, rfl⟩
    rw [lexR_end (by omega) (by rw [hl, h1, ← hl, List.length_drop]; omega), List.append_nil]
  | cons p ps ih =>
    intro f d line acc hok hd hf hl
    obtain ⟨b, t⟩ := p
    obtain ⟨hb, hg, hbr, hok2⟩ := hok
    have hl2 : l.drop d = b ++ (t.text ++ (sepL ps ++ tl)) := by rw [hl]; simp [sepL]
    obtain ⟨hne, hg2⟩ := hg
    obtain ⟨g1, g2, g3, g4, g5⟩ := hg2 _ hbr
    have hk : skipM false (l.drop d) = b.length := by rw [hl2, hb, g1]; rfl
    have hlen := congrArg List.length hl2
    rw [List.length_drop] at hlen
    simp only [List.length_append] at hlen
    have htp : 0 < t.text.length := List.length_pos_iff.2 hne
    have hda : l.drop (d + b.length) = t.text ++ (sepL ps ++ tl) := by
      rw [← List.drop_drop, hl2, List.drop_left]
    have hdb : l.drop (d + b.length + t.text.length) = sepL ps ++ tl := by
      rw [← List.drop_drop, hda, List.drop_left]
    have hend : ¬ l.length ≤ d + skipM false (l.drop d) := by rw [hk]; omega
    have he : tokErr (l.drop (d + skipM false (l.drop d))) = 0 := by rw [hk, hda]; exact g2
    obtain ⟨g, rfl⟩ : ∃ g, f = g + 1 := ⟨f - 1, by omega⟩
    rw [lexR_tok hend he, hk]
    obtain ⟨ts, h1, h2⟩ := ih g (d + b.length + tokLen (l.drop (d + b.length))) (line + lineFeeds ((l.drop d).take b.length)) (acc ++ [tokAt l (d + b.length) (line + lineFeeds ((l.drop d).take b.length))]) hok2
      (by rw [hda, g4]; omega) (by rw [hda, g4]; omega) (by rw [hda, g4, hdb])
    refine ⟨tokAt l (d + b.length) (line + lineFeeds ((l.drop d).take b.length)) :: ts, ?_, ?_⟩
    · rw [h1, List.append_assoc]; rfl
    · rw [List.map_cons, List.map_cons, h2]
      congr 1
      unfold ktn tokAt
      rw [hda, g3, g5, g4, List.take_left]
theorem lexAll_sep (tl : List UInt8) (ps : List (List UInt8 × Tok)) (hok : SepOK tl ps) (hlen : (sepL ps ++ tl).length ≤ 65536) :
    ∃ ts, lexAll (sepL ps ++ tl) = (ts, (sepL ps ++ tl).length, 0) ∧ ts.map ktn = ps.map fun p => ktn p.2 := by
  unfold lexAll
  rw [if_neg (by omega)]
  obtain ⟨ts, h1, h2⟩ := lexR_sep (sepL ps ++ tl) tl ps ((sepL ps ++ tl).length + 1) 0 1 [] hok (by omega) (by omega) rfl
  exact ⟨ts, by rw [h1, List.nil_append], h2⟩
end Go.Proofs.YtgglmcjclbaceaaDoor
