/- Texts whose tokens are known, and the trees of a kernel with one declaration. Nothing of the program stands here. -/
import Derived.Test.YtfnhogeocbndcaaGreatDoorMgLxTk0
import Derived.Test.YtfnhogeocbndcaaGreatDoorMgLxJn1
namespace Go.Proofs.YtfnhogeocbndcaaGreatDoor
open Go Go.RowKit
set_option linter.unusedVariables false

abbrev Sp := Nat × List UInt8 × Nat × Nat
def key (t : Tok) : Sp := (t.kind, t.text, t.num, t.line)
def sp0 : Sp := (0, [], 0, 0)
/-- The tokens of a rest of a text, from a line on. -/
inductive LX : List UInt8 → Nat → List Sp → Prop
  | nil {r : List UInt8} {line : Nat} (h : skipM false r = r.length) : LX r line []
  | cons {r v : List UInt8} {line : Nat} {sp : List Sp} (g t : List UInt8) (k num ln : Nat) (hr : r = g ++ (t ++ v)) (hs : skipM false r = g.length) (hne : t ≠ []) (he : tokErr (t ++ v) = 0) (hl : tokLen (t ++ v) = t.length)
      (hk : tokKind (t ++ v) = k) (hn : tokNum (t ++ v) = num) (hln : line + lineFeeds g = ln) (h : LX v ln sp) : LX r line ((k, t, num, ln) :: sp)
theorem lx_lexR (l : List UInt8) {r : List UInt8} {line : Nat} {sp : List Sp} (h : LX r line sp) : ∀ (f d : Nat) (acc : List Tok), l.drop d = r → d ≤ l.length → l.length < f + d →
    ∃ ts, lexR l f d line acc = (acc ++ ts, l.length, 0) ∧ ts.map key = sp := by
  induction h with
  | @nil r line h =>
    intro f d acc hd hdl hf
    obtain ⟨f, rfl⟩ : ∃ g, f = g + 1 := ⟨f - 1, by omega⟩
    refine ⟨[], ?_, rfl⟩
    have hlen : r.length = l.length - d := by rw [← hd, List.length_drop]
    rw [lexR_end (by omega) (by rw [hd, h]; omega), List.append_nil]
  | @cons r v line sp g t k num ln hr hs hne he hl hk hn hln h ih =>
    intro f d acc hd hdl hf
    obtain ⟨f, rfl⟩ : ∃ g, f = g + 1 := ⟨f - 1, by omega⟩
    have hlen : r.length = l.length - d := by rw [← hd, List.length_drop]
    have hlr : r.length = g.length + (t.length + v.length) := by rw [hr, List.length_append, List.length_append]
    have htl := List.length_pos_iff.2 hne
    have hdg : l.drop (d + g.length) = t ++ v := by rw [← List.drop_drop, hd, hr, List.drop_left]
    have hdt : l.drop (d + g.length + t.length) = v := by rw [← List.drop_drop, hdg, List.drop_left]
    have htk : r.take g.length = g := by rw [hr, List.take_left]
    have htt : (t ++ v).take t.length = t := List.take_left
    have hend : ¬ l.length ≤ d + skipM false (l.drop d) := by rw [hd, hs]; omega
    obtain ⟨ts, e1, e2⟩ := ih f (d + g.length + t.length) (acc ++ [tokAt l (d + g.length) ln]) hdt (by omega) (by omega)
    refine ⟨tokAt l (d + g.length) ln :: ts, ?_, ?_⟩
    · rw [lexR_tok hend (by rw [hd, hs, hdg]; exact he), hd, hs, hdg, hl, htk, hln, e1, List.append_assoc]
      rfl
    · rw [List.map_cons, e2]
      unfold key tokAt
      simp only
      rw [hdg, hl, hk, hn, htt]
theorem lx_all {l : List UInt8} {sp : List Sp} (h : LX l 1 sp) (hl : l.length ≤ 65536) : (lexAll l).2.2 = 0 ∧ (lexAll l).1.map key = sp := by
  obtain ⟨ts, e1, e2⟩ := lx_lexR l h (l.length + 1) 0 [] rfl (by omega) (by omega)
  unfold lexAll
  rw [if_neg (by omega), e1]
  exact ⟨rfl, e2⟩
theorem punct_len1 {c : UInt8} {r : List UInt8} (h1 : isPunct c = true) (h2 : ∀ x r', r = x :: r' → pairs.contains [c, x] = false) : punctLen (c :: r) = 1 := by
  unfold punctLen
  rw [if_neg]
  · simp only
    rw [if_pos h1]
  · intro h
    match r, h, h2 with
    | [], h, _ => simp at h
    | x :: r', h, h2 =>
      have := h2 x r' rfl
      have h3 : pairs.contains [c, x] = true := h.2
      rw [this] at h3
      cases h3
theorem punct_tok {c : UInt8} {r : List UInt8} (hw : inW c = false) (h1 : isPunct c = true) (h2 : ∀ x r', r = x :: r' → pairs.contains [c, x] = false) : tokErr ([c] ++ r) = 0 ∧ tokLen ([c] ++ r) = 1 ∧ tokKind ([c] ++ r) = 4 ∧ tokNum ([c] ++ r) = 0 := by
  have hrun : run (c :: r) = [] := by unfold run; rw [List.takeWhile_cons, if_neg (by rw [hw]; simp)]
  have hp := punct_len1 h1 h2
  refine ⟨?_, ?_, ?_, ?_⟩
  · show tokErr (c :: r) = 0
    unfold tokErr
    rw [if_pos hrun, hp, if_neg (by omega)]
  · show tokLen (c :: r) = 1
    unfold tokLen
    rw [if_pos hrun, hp]
  · show tokKind (c :: r) = 4
    unfold tokKind
    rw [if_pos hrun]
  · show tokNum (c :: r) = 0
    unfold tokNum
    rw [if_neg (by rw [hrun]; simp)]
/-- A token of one byte of punctuation. -/
theorem LX.punct {c : UInt8} {v g : List UInt8} {line : Nat} {sp : List Sp} (hs : skipM false (g ++ ([c] ++ v)) = g.length) (hw : inW c = false) (h1 : isPunct c = true) (h2 : ∀ x r', v = x :: r' → pairs.contains [c, x] = false)
    (h : LX v (line + lineFeeds g) sp) : LX (g ++ ([c] ++ v)) line ((4, [c], 0, line + lineFeeds g) :: sp) := by
  obtain ⟨e1, e2, e3, e4⟩ := punct_tok hw h1 h2
  exact .cons g [c] 4 0 _ rfl hs (by simp) e1 e2 e3 e4 rfl h

theorem tat_key {ts : List Tok} {sp : List Sp} (h : ts.map key = sp) (i : Nat) : key (tat ts i) = sp.getD i sp0 := by
  rw [← h]
  unfold tat
  rw [List.getD_eq_getElem?_getD, List.getD_eq_getElem?_getD, List.getElem?_map]
  cases ts[i]? <;> rfl
/-- What a state sees. -/
theorem see {ts : List Tok} {sp : List Sp} (h : ts.map key = sp) {i k num ln : Nat} {t : List UInt8} (hi : sp.getD i sp0 = (k, t, num, ln)) : kd ts ⟨i, false⟩ = k ∧ tx ts ⟨i, false⟩ = t ∧ (nxt ts ⟨i, false⟩).num = num ∧ Go.Proofs.YtfnhogeocbndcaaGreatDoor.ln ts ⟨i, false⟩ = ln := by
  have hk := tat_key h i
  rw [hi] at hk
  unfold key at hk
  have e : nxt ts ⟨i, false⟩ = tat ts i := rfl
  injection hk with a1 a2
  injection a2 with a2 a3
  injection a3 with a3 a4
  exact ⟨by unfold kd; rw [e]; exact a1, by unfold tx; rw [e]; exact a2, by rw [e]; exact a3, by unfold Go.Proofs.YtfnhogeocbndcaaGreatDoor.ln; rw [e]; exact a4⟩
theorem has_of {ts : List Tok} {s : Sg} {t : List UInt8} (h : tx ts s = t) (u : List UInt8) : hasT ts s u = decide (t = u) := by unfold hasT; rw [h]
theorem opV_of {ts : List Tok} {s : Sg} {t : List UInt8} (h : tx ts s = t) (l : Nat) : opV ts s l = (((levelOps l).find? fun p => decide (t = p.1)).map (·.2)).getD 0 := by unfold opV; rw [h]
theorem exc_of {ts : List Tok} {i : Nat} {t : List UInt8} (h : tx ts ⟨i, false⟩ = t) : exc ts ⟨i, false⟩ t = ⟨i + 1, false⟩ := by
  unfold exc
  rw [if_pos (by rw [has_of h]; simp)]
  rfl
theorem nmS_of {ts : List Tok} {i : Nat} (h : kd ts ⟨i, false⟩ = 1) : nmS ts ⟨i, false⟩ = ⟨i + 1, false⟩ := by unfold nmS; rw [if_pos h]; rfl
theorem nmV_of {ts : List Tok} {i : Nat} (h : kd ts ⟨i, false⟩ = 1) : nmV ts ⟨i, false⟩ = tx ts ⟨i, false⟩ := by unfold nmV; rw [if_pos h]

/-- An operand behind which a bracket or a semicolon stands is an expression. -/
theorem pass_up {ts : List Tok} {f : Nat} {s s' : Sg} {t : Tree} (hn : tx ts s' = [41] ∨ tx ts s' = [59]) (hf : 0 < f) (h : E ts f .un s = (t, s')) : E ts (f + 12) .ex s = (t, s') := by
  have hop : ∀ l, l < 9 → opV ts s' l = 0 := by
    intro l hl
    rcases hn with h | h
    · rw [opV_of h]
      exact (show ∀ l, l < 9 → (((levelOps l).find? fun p => decide (([41] : List UInt8) = p.1)).map (·.2)).getD 0 = 0 by decide) l hl
    · rw [opV_of h]
      exact (show ∀ l, l < 9 → (((levelOps l).find? fun p => decide (([59] : List UInt8) = p.1)).map (·.2)).getD 0 = 0 by decide) l hl
  have has : hasT ts s' [97, 115] = false := by rcases hn with h | h <;> rw [has_of h] <;> decide
  have hq : hasT ts s' [63] = false := by rcases hn with h | h <;> rw [has_of h] <;> decide
  obtain ⟨f, rfl⟩ : ∃ g, f = g + 1 := ⟨f - 1, by omega⟩
  have hca : E ts (f + 1 + 1) .ca s = (t, s') := by
    rw [E, h]
    simp only
    rw [E, has]
    rfl
  have hb9 : E ts (f + 1 + 2) (.bn 9) s = (t, s') := by
    rw [show f + 1 + 2 = (f + 1 + 1) + 1 from rfl, E, if_pos rfl, hca]
  have step : ∀ l q, l < 9 → 0 < q → E ts q (.bn (l + 1)) s = (t, s') → E ts (q + 1) (.bn l) s = (t, s') := by
    intro l q hl hq2 h2
    obtain ⟨q, rfl⟩ : ∃ g, q = g + 1 := ⟨q - 1, by omega⟩
    rw [E, if_neg (by omega), h2]
    simp only
    rw [E, if_pos (hop l hl)]
  have hb0 : E ts (f + 1 + 2 + 9) (.bn 0) s = (t, s') :=
    step 0 _ (by omega) (by omega) (step 1 _ (by omega) (by omega) (step 2 _ (by omega) (by omega) (step 3 _ (by omega) (by omega) (step 4 _ (by omega) (by omega) (step 5 _ (by omega) (by omega) (step 6 _ (by omega) (by omega) (step 7 _ (by omega) (by omega) (step 8 _ (by omega) (by omega) hb9))))))))
  rw [show f + 1 + 12 = (f + 1 + 2 + 9) + 1 from rfl, E, hb0]
  simp only
  rw [hq]
  rfl
/-- The tree of a kernel with one declaration. -/
def oneT (L L2 : Nat) (t : Tree) : Tree := .node (labK 1 L) [.node { labK 3 L with name := [107] } [.node (labK 8 L) [.node { labK 10 L2 with name := [97] } [t]]]]
def preS (L L2 : Nat) : List Sp := [(2, [107, 101, 114, 110, 101, 108], 0, L), (1, [107], 0, L), (4, [40], 0, L), (4, [41], 0, L), (4, [123], 0, L), (2, [108, 101, 116], 0, L2), (1, [97], 0, L2), (4, [61], 0, L2)]
theorem one_prog {ts : List Tok} {L L2 m : Nat} {X : List Sp} {t : Tree} (hL : 1 ≤ L) (h : ts.map key = preS L L2 ++ X) (hx : xpr ts ⟨8, false⟩ = (t, ⟨m, false⟩)) (h1 : (preS L L2 ++ X).getD m sp0 = (4, [59], 0, L2)) (h2 : (preS L L2 ++ X).getD (m + 1) sp0 = (4, [125], 0, L2))
    (hlen : ts.length = m + 2) : progT ts = (oneT L L2 t, ⟨m + 2, false⟩) := by
  obtain ⟨a0, b0, c0, d0⟩ := see h (show (preS L L2 ++ X).getD 0 sp0 = (2, [107, 101, 114, 110, 101, 108], 0, L) from rfl)
  obtain ⟨a1, b1, c1, d1⟩ := see h (show (preS L L2 ++ X).getD 1 sp0 = (1, [107], 0, L) from rfl)
  obtain ⟨a2, b2, c2, d2⟩ := see h (show (preS L L2 ++ X).getD 2 sp0 = (4, [40], 0, L) from rfl)
  obtain ⟨a3, b3, c3, d3⟩ := see h (show (preS L L2 ++ X).getD 3 sp0 = (4, [41], 0, L) from rfl)
  obtain ⟨a4, b4, c4, d4⟩ := see h (show (preS L L2 ++ X).getD 4 sp0 = (4, [123], 0, L) from rfl)
  obtain ⟨a5, b5, c5, d5⟩ := see h (show (preS L L2 ++ X).getD 5 sp0 = (2, [108, 101, 116], 0, L2) from rfl)
  obtain ⟨a6, b6, c6, d6⟩ := see h (show (preS L L2 ++ X).getD 6 sp0 = (1, [97], 0, L2) from rfl)
  obtain ⟨a7, b7, c7, d7⟩ := see h (show (preS L L2 ++ X).getD 7 sp0 = (4, [61], 0, L2) from rfl)
  obtain ⟨am, bm, cm, dm⟩ := see h h1
  obtain ⟨an, bn, cn, dn⟩ := see h h2
  have hdecl : declL ts ⟨5, false⟩ = (.node { labK 10 L2 with name := [97] } [t], ⟨m + 1, false⟩) := by
    unfold declL
    have e1 : adv ⟨5, false⟩ = ⟨6, false⟩ := rfl
    have e2 := nmS_of a6
    have e4 := exc_of b7
    have e5 := exc_of bm
    have e6 := nmV_of a6
    dsimp only
    have e7 : hasT ts ⟨7, false⟩ [58] = false := by rw [has_of b7]; decide
    rw [e1, e2, e7]
    simp only [Bool.false_eq_true, if_false]
    rw [e4, hx, e6, b6, d5]
    simp only
    rw [e5]
    rfl
  have hst : ∀ f, S ts (f + 1) .st ⟨5, false⟩ = ([.node { labK 10 L2 with name := [97] } [t]], ⟨m + 1, false⟩) := by
    intro f
    have e1 : hasT ts ⟨5, false⟩ [118, 97, 114] = false := by rw [has_of b5]; decide
    have e2 : hasT ts ⟨5, false⟩ [108, 101, 116] = true := by rw [has_of b5]; decide
    rw [S, e1, e2]
    simp only [Bool.false_eq_true, if_false, if_true]
    rw [hdecl]
  have hbk : ∀ f, S ts (f + 4) .bk ⟨4, false⟩ = ([.node (labK 8 L) [.node { labK 10 L2 with name := [97] } [t]]], ⟨m + 2, false⟩) := by
    intro f
    have e4 := exc_of b4
    have e2 : S ts (f + 3) (.bs []) ⟨5, false⟩ = ([.node { labK 10 L2 with name := [97] } [t]], ⟨m + 1, false⟩) := by
      rw [S, if_pos ⟨rfl, by show 5 < ts.length; have := congrArg List.length h; rw [List.length_map, List.length_append] at this; simp [preS] at this; omega, by rw [has_of b5]; decide⟩, hst]
      simp only
      rw [S, if_neg (by rw [has_of bn]; simp)]
      rfl
    rw [S, e4, e2, d4]
    simp only
    rw [exc_of bn]
  have hblk : blk ts ⟨4, false⟩ = (.node (labK 8 L) [.node { labK 10 L2 with name := [97] } [t]], ⟨m + 2, false⟩) := by
    unfold blk
    have : ∃ f, big ts = f + 4 := ⟨big ts - 4, by unfold big; omega⟩
    obtain ⟨f, hf⟩ := this
    rw [hf, hbk f]
    rfl
  have hlist : listM ts (prm ts) (big ts) ⟨2, false⟩ = ([], ⟨4, false⟩) := by
    unfold listM
    rw [exc_of b2, if_pos (by rw [has_of b3]; decide)]
    rfl
  have hk : kern ts ⟨0, false⟩ = (.node { labK 3 L with name := [107] } [.node (labK 8 L) [.node { labK 10 L2 with name := [97] } [t]]], ⟨m + 2, false⟩) := by
    unfold kern
    dsimp only
    have e4 : hasT ts ⟨4, false⟩ [45, 62] = false := by rw [has_of b4]; decide
    rw [exc_of b0, nmS_of a1, hlist]
    dsimp only
    rw [e4]
    simp only [Bool.false_eq_true, if_false]
    rw [hblk, nmV_of a1, b1, d0]
    rfl
  unfold progT
  have hu : units ts (ts.length + 1) [] ⟨0, false⟩ = ([.node { labK 3 L with name := [107] } [.node (labK 8 L) [.node { labK 10 L2 with name := [97] } [t]]]], ⟨m + 2, false⟩) := by
    have e0 : hasT ts ⟨0, false⟩ [102, 110] = false := by rw [has_of b0]; decide
    rw [units, if_pos ⟨rfl, by show 0 < ts.length; omega⟩, e0]
    simp only [Bool.false_eq_true, if_false]
    rw [hk]
    rw [hlen, units, if_neg (by rw [hlen]; simp)]
    rfl
  dsimp only
  rw [hu, d0, show max L 1 = L by omega]
  rfl
end Go.Proofs.YtfnhogeocbndcaaGreatDoor
