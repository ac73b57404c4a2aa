/- The reference's rules of statements lead to the same states, and to the same trees where no token could not follow. Nothing of the program stands here. -/
import Derived.Test.YtkliclihpobmiaaGreatDoorMgPqE
namespace Go.Proofs.YtkliclihpobmiaaGreatDoor
open Go
set_option linter.unusedVariables false
set_option linter.unusedSimpArgs false

def KW (ts : List Tok) : Prop := ∀ s, kd ts s = 1 → ∀ k ∈ [[118, 97, 114], [108, 101, 116], [105, 102], [35], [102, 111, 114], [119, 104, 105, 108, 101], [115, 101, 110, 100], [114, 101, 116, 117, 114, 110]], hasT ts s k = false
theorem exc_bad {ts : List Tok} {s : Sg} (h : s.bad = true) (c : UInt8) (t : List UInt8) : exc ts s (c :: t) = s := (exc_on (ts := ts) (c := c) (t := t)).2.2 h
theorem xpr_bad {ts : List Tok} {s : Sg} (h : s.bad = true) : (xpr ts s).2 = s := (xpr_on ts s).2.2 h
theorem nmS_bad {ts : List Tok} {s : Sg} (h : s.bad = true) : nmS ts s = s := (nmS_on ts s).2.2 h
theorem tyS_bad {ts : List Tok} {s : Sg} (h : s.bad = true) : tyS ts s = s := (tyS_on ts s).2.2 h
theorem bk_bad {ts : List Tok} {f : Nat} {s : Sg} (h : s.bad = true) : (S ts f .bk s).2 = s := (S_on ts f .bk s trivial).2.2 h
theorem change_bad {ts : List Tok} {s : Sg} (hk : ¬ kd ts s = 1) : (change ts s).2 = stop s := by
 have e : nmS ts s = stop s := if_neg hk
 have hb : (stop s).bad = true := rfl
 unfold change
 simp only [e]
 rw [if_neg (by rw [hasT_bad hb]; simp)]
 show exc ts (xpr ts (exc ts (stop s) [61])).2 [59] = stop s
 rw [exc_bad hb, xpr_bad hb, exc_bad hb]
theorem declLQ_st (ts : List Tok) (s : Sg) : (declLQ ts s).2 = (declL ts s).2 := by unfold declLQ declL; simp only [xprQ_st]
theorem declVQ_st (ts : List Tok) (s : Sg) : (declVQ ts s).2 = (declV ts s).2 := by unfold declVQ declV; simp only [xprQ_st]; split <;> rfl
theorem changeQ_st (ts : List Tok) (s : Sg) : (changeQ ts s).2 = (change ts s).2 := by unfold changeQ change; simp only [xprQ_st]; split <;> rfl
theorem sendQ_st (ts : List Tok) (s : Sg) : (sendQ ts s).2 = (sendM ts s).2 := by unfold sendQ sendM; simp only [xprQ_st]
theorem resQ_st (ts : List Tok) (s : Sg) : (resQ ts s).2 = (resM ts s).2 := by unfold resQ resM; simp only [xprQ_st]
theorem declLQ_tr (ts : List Tok) (s : Sg) (hin : s.bad = false ∧ s.i < ts.length) (h : (declL ts s).2.bad = false) : (declLQ ts s).1 = (declL ts s).1 := by
 unfold declL at h; unfold declLQ declL
 simp only at h ⊢
 rw [ln_eq hin.1 hin.2, xprQ_tr _ _ (exc_good h).1]
theorem declVQ_tr (ts : List Tok) (s : Sg) (hin : s.bad = false ∧ s.i < ts.length) (h : (declV ts s).2.bad = false) : (declVQ ts s).1 = (declV ts s).1 := by
 unfold declV at h; unfold declVQ declV
 simp only at h ⊢
 split
 ·rename_i hc
  rw [if_pos hc] at h
  rw [ln_eq hin.1 hin.2, xprQ_tr _ _ (exc_good h).1]
 ·rw [ln_eq hin.1 hin.2]
theorem changeQ_tr (ts : List Tok) (s : Sg) (h : (change ts s).2.bad = false) : (changeQ ts s).1 = (change ts s).1 := by
 have hk : kd ts s = 1 := by
  by_cases hk : kd ts s = 1
  ·exact hk
  ·rw [change_bad hk] at h; cases h
 have hin := kd_in hk (by decide)
 unfold change at h; unfold changeQ change
 simp only [xprQ_st] at h ⊢
 split
 ·rename_i hc
  rw [if_pos hc] at h
  have g1 := (exc_good h).1
  have g2 := (exc_good (exc_good ((xpr_on ts _).good g1)).1).1
  rw [ln_eq hin.1 hin.2, xprQ_tr _ _ g1, xprQ_tr _ _ g2]
 ·rename_i hc
  rw [if_neg hc] at h
  rw [ln_eq hin.1 hin.2, xprQ_tr _ _ (exc_good h).1]
theorem sendQ_tr (ts : List Tok) (s : Sg) (hin : s.bad = false ∧ s.i < ts.length) (h : (sendM ts s).2.bad = false) : (sendQ ts s).1 = (sendM ts s).1 := by
 unfold sendM at h; unfold sendQ sendM
 simp only at h ⊢
 rw [ln_eq hin.1 hin.2, xprQ_tr _ _ (exc_good (exc_good h).1).1]
theorem resQ_tr (ts : List Tok) (s : Sg) (hin : s.bad = false ∧ s.i < ts.length) (h : (resM ts s).2.bad = false) : (resQ ts s).1 = (resM ts s).1 := by
 unfold resM at h; unfold resQ resM
 rw [ln_eq hin.1 hin.2, xprQ_tr _ _ (exc_good h).1]

def zs (p u : Nat) : Nat := (if p = 0 then 1 else 0) + (if u = 0 then 1 else 0)
theorem am_good {ts : List Tok} {s : Sg} {k : Nat} (hk : 1 ≤ k) (h : (amS ts s k).bad = false) : amV ts s k ≠ 0 := by
 unfold amS at h; unfold amV
 split
 ·rename_i hc
  rw [if_pos hc] at h
  unfold nuS at h; unfold nuV
  split
  ·rename_i ho
   unfold okN at ho
   simp at ho
   omega
  ·rename_i ho
   rw [if_neg ho] at h
   cases h
 ·decide
theorem dir_dec {ts : List Tok} {p u : Nat} {s : Sg} (hz : ¬ (0 < p ∧ 0 < u)) (h : (dir ts p u s).2.2.bad = false) : zs (dir ts p u s).1 (dir ts p u s).2.1 + 1 = zs p u := by
 unfold dir at h ⊢
 split
 ·rename_i hc
  rw [if_pos hc] at h
  have := am_good (by omega) h
  simp only [zs, hc.1, if_true, if_neg this]
  omega
 ·rename_i hc
  rw [if_neg hc] at h
  split
  ·rename_i hc2
   rw [if_pos hc2] at h
   have := am_good (by omega) h
   simp only [zs, hc2.1, if_true, if_neg this]
  ·rename_i hc2
   rw [if_neg hc2] at h
   cases h
theorem dirs_bad {ts : List Tok} {s : Sg} (h : s.bad = true) : ∀ f p u, dirs ts f p u s = (p, u, s) ∧ dirsQ ts f p u s = (p, u, s, false) := by
 intro f p u
 cases f with
 | zero => exact ⟨rfl, rfl⟩
 | succ f =>
  have hh := hasT_bad (ts := ts) h 35 []
  constructor
  ·rw [dirs, hh]; simp
  ·rw [dirsQ, hh]; simp
theorem dirs_eq (ts : List Tok) : ∀ f p u s, zs p u < f → (∃ p' u' t, dirs ts f p u s = (p', u', t) ∧ hasT ts t [35] = true ∧ dirsQ ts f p u s = (p', u', stop t, true)) ∨ (∃ p' u' t, dirs ts f p u s = (p', u', t) ∧ dirsQ ts f p u s = (p', u', t, false)) := by
 intro f
 induction f with
 | zero => intro p u s h; omega
 | succ f ih =>
  intro p u s h
  rw [dirs, dirsQ]
  cases hh : hasT ts s [35] with
  | false => right; exact ⟨p, u, s, by simp, by simp⟩
  | true =>
   by_cases hz : 0 < p ∧ 0 < u
   ·left
    refine ⟨p, u, s, ?_, hh, ?_⟩
    ·rw [if_neg (by omega)]
    ·simp [hz]
   ·rw [if_pos ⟨by omega, rfl⟩, if_pos rfl, if_neg hz]
    cases hb : (dir ts p u (adv s)).2.2.bad with
    | true =>
     obtain ⟨e1, e2⟩ := dirs_bad (ts := ts) hb f (dir ts p u (adv s)).1 (dir ts p u (adv s)).2.1
     right; exact ⟨_, _, _, e1, e2⟩
    | false =>
     have := dir_dec hz hb
     exact ih _ _ _ (by omega)

theorem SQ_st {ts : List Tok} (K : KW ts) : ∀ f, (∀ s, (SQ ts f .bk s).2 = (S ts f .bk s).2) ∧ (∀ a b s, (SQ ts f (.bs a) s).2 = exc ts (S ts f (.bs b) s).2 [125]) ∧ (∀ s, (SQ ts f .st s).2 = (S ts f .st s).2) ∧ (∀ s, (SQ ts f .br s).2 = (S ts f .br s).2) ∧ (∀ s, (SQ ts f .lp s).2 = (S ts f .lp s).2) := by
 intro f
 induction f with
 | zero =>
  refine ⟨fun s => ?_, fun a b s => ?_, fun s => ?_, fun s => ?_, fun s => ?_⟩
  all_goals rw [SQ, S]
 | succ f ih =>
  obtain ⟨bk, bs, st, br, lp⟩ := ih
  refine ⟨fun s => ?_, fun a b s => ?_, fun s => ?_, fun s => ?_, fun s => ?_⟩
  ·rw [SQ, S]
   exact bs _ _ _
  ·rw [SQ, S]
   cases hb : s.bad with
   | true =>
    rw [if_pos rfl, if_neg (by simp)]
    exact (exc_bad hb _ _).symm
   | false =>
    rw [if_neg (by simp)]
    cases hh : hasT ts s [125] with
    | true =>
     rw [if_pos rfl, if_neg (by simp)]
     show adv s = exc ts s [125]
     unfold exc; rw [hh]; rfl
    | false =>
     rw [if_neg (by simp)]
     by_cases hi : s.i < ts.length
     ·rw [if_pos ⟨rfl, hi, rfl⟩, st]
      exact bs _ _ _
     ·rw [if_neg (by omega)]
      have hk : ¬ kd ts s = 1 := fun hk => hi (kd_in hk (by decide)).2
      have hn : ∀ (c : UInt8) t, hasT ts s (c :: t) = false := fun c t => by
       cases h : hasT ts s (c :: t) with
       | false => rfl
       | true => exact absurd (hasT_in h).2 hi
      have e : exc ts s [125] = stop s := by unfold exc; rw [hn]; rfl
      show _ = exc ts s [125]
      rw [e]
      cases f with
      | zero => rw [SQ, SQ]; exact e
      | succ f =>
       have h1 : (SQ ts (f + 1) .st s).2 = stop s := by
        rw [SQ, if_neg hk]
        simp [hn]
       rw [h1, SQ]
       simp [stop_bad]
  ·rw [SQ, S]
   by_cases hk : kd ts s = 1
   ·have k := K s hk
    rw [if_pos hk]
    rw [k [118, 97, 114] (by simp), k [108, 101, 116] (by simp), k [105, 102] (by simp), k [35] (by simp), k [102, 111, 114] (by simp), k [119, 104, 105, 108, 101] (by simp), k [115, 101, 110, 100] (by simp), k [114, 101, 116, 117, 114, 110] (by simp)]
    simp [changeQ_st]
   ·rw [if_neg hk]
    split
    ·exact declVQ_st ts s
    split
    ·exact declLQ_st ts s
    split
    ·exact br s
    split
    ·exact lp s
    split
    ·exact sendQ_st ts s
    split
    ·exact resQ_st ts s
    ·exact (change_bad hk).symm
  ·rw [SQ, S]
   simp only [xprQ_st, bk, br]
   split
   ·split <;> rfl
   ·rfl
  ·rw [SQ, S]
   rcases dirs_eq ts 3 0 0 s (by decide) with ⟨p, u, t, e1, hh, e2⟩ | ⟨p, u, t, e1, e2⟩
   ·rw [e1, e2]
    simp only [if_true]
    rw [hasT_two (b := [102, 111, 114]) (by decide) hh]
    have e3 : exc ts t [119, 104, 105, 108, 101] = stop t := by
     unfold exc; rw [hasT_two (b := [119, 104, 105, 108, 101]) (by decide) hh]; rfl
    simp only [Bool.false_eq_true, if_false, e3]
    rw [xpr_bad rfl, bk_bad rfl]
   ·rw [e1, e2]
    simp only [Bool.false_eq_true, if_false, xprQ_st, bk]
    cases h1 : hasT ts t [119, 104, 105, 108, 101] with
    | true =>
     rw [hasT_two (b := [102, 111, 114]) (by decide) h1]
     have e3 : exc ts t [119, 104, 105, 108, 101] = adv t := by unfold exc; rw [h1]; rfl
     simp [e3, bk, xprQ_st]
    | false =>
     have e3 : exc ts t [119, 104, 105, 108, 101] = stop t := by unfold exc; rw [h1]; rfl
     cases h2 : hasT ts t [102, 111, 114] with
     | true =>
      have e4 : exc ts t [102, 111, 114] = adv t := by unfold exc; rw [h2]; rfl
      simp [e4, bk, xprQ_st]
     | false =>
      have e4 : exc ts t [102, 111, 114] = stop t := by unfold exc; rw [h2]; rfl
      simp only [e3, e4, Bool.false_eq_true, if_false]
      have hb : (stop t).bad = true := rfl
      rw [nmS_bad hb, exc_bad hb, tyS_bad hb, exc_bad hb, xpr_bad hb, exc_bad hb, xpr_bad hb]
end Go.Proofs.YtkliclihpobmiaaGreatDoor
/- The reference's rules of statements and programs lead to the same trees where no token could not follow. Nothing of the program stands here. -/
namespace Go.Proofs.YtkliclihpobmiaaGreatDoor
open Go
set_option linter.unusedVariables false
set_option linter.unusedSimpArgs false

theorem S_good {ts : List Tok} {f : Nat} {n : NS} {s : Sg} (hn : match n with | .br => s.bad = false ∧ s.i < ts.length | _ => True) (h : (S ts f n s).2.bad = false) : s.bad = false := (S_on ts f n s hn).good h
theorem SQ_tr {ts : List Tok} (K : KW ts) : ∀ f, (∀ s, (S ts f .bk s).2.bad = false → (SQ ts f .bk s).1 = (S ts f .bk s).1) ∧ (∀ a s, (exc ts (S ts f (.bs a) s).2 [125]).bad = false → (SQ ts f (.bs a) s).1 = (S ts f (.bs a) s).1) ∧ (∀ s, s.bad = false → s.i < ts.length → (S ts f .st s).2.bad = false → (SQ ts f .st s).1 = (S ts f .st s).1) ∧
    (∀ s, s.bad = false → s.i < ts.length → (S ts f .br s).2.bad = false → (SQ ts f .br s).1 = (S ts f .br s).1) ∧ (∀ s, s.bad = false → s.i < ts.length → (S ts f .lp s).2.bad = false → (SQ ts f .lp s).1 = (S ts f .lp s).1) := by
  intro f
  induction f with
  | zero =>
    refine ⟨fun s _ => ?_, fun a s _ => ?_, fun s _ _ _ => ?_, fun s _ _ _ => ?_, fun s _ _ _ => ?_⟩
    all_goals rw [SQ, S]
  | succ f ih =>
    obtain ⟨bk, bs, st, br, lp⟩ := ih
    obtain ⟨bk2, bs2, st2, br2, lp2⟩ := SQ_st K f
    refine ⟨fun s hg => ?_, fun a s hg => ?_, fun s hb hi hg => ?_, fun s hb hi hg => ?_, fun s hb hi hg => ?_⟩
    · rw [S] at hg ⊢
      rw [SQ]
      have g1 := (exc_good ((S_on ts f (.bs []) _ trivial).good (exc_good hg).1))
      rw [ln_eq g1.1 g1.2.1, bs _ _ hg]
    · rw [S] at hg ⊢
      rw [SQ]
      cases hb : s.bad with
      | true =>
        rw [if_pos rfl, if_neg (by simp)]
      | false =>
        rw [if_neg (by simp)]
        cases hh : hasT ts s [125] with
        | true => rw [if_pos rfl, if_neg (by simp)]
        | false =>
          rw [if_neg (by simp)]
          rw [hb, hh] at hg
          by_cases hi : s.i < ts.length
          · rw [if_pos ⟨rfl, hi, rfl⟩] at hg ⊢
            have g1 := (exc_good hg).1
            have g2 := S_good (n := .bs _) trivial g1
            rw [st2, st s hb hi g2]
            exact bs _ _ hg
          · rw [if_neg (by omega)] at hg
            have h3 : s.i < ts.length := (exc_good hg).2.1
            exact absurd h3 hi
    · rw [S] at hg ⊢
      rw [SQ]
      by_cases hk : kd ts s = 1
      · have k := K s hk
        rw [if_pos hk]
        rw [k [118, 97, 114] (by simp), k [108, 101, 116] (by simp), k [105, 102] (by simp), k [35] (by simp), k [102, 111, 114] (by simp), k [119, 104, 105, 108, 101] (by simp), k [115, 101, 110, 100] (by simp), k [114, 101, 116, 117, 114, 110] (by simp)] at hg ⊢
        simp only [Bool.or_self, Bool.false_eq_true, if_false] at hg ⊢
        rw [changeQ_tr _ _ hg]
      · rw [if_neg hk]
        split
        · rename_i h; rw [if_pos h] at hg; rw [declVQ_tr _ _ ⟨hb, hi⟩ hg]
        rename_i n1; rw [if_neg n1] at hg
        split
        · rename_i h; rw [if_pos h] at hg; rw [declLQ_tr _ _ ⟨hb, hi⟩ hg]
        rename_i n2; rw [if_neg n2] at hg
        split
        · rename_i h; rw [if_pos h] at hg; exact br s hb hi hg
        rename_i n3; rw [if_neg n3] at hg
        split
        · rename_i h; rw [if_pos h] at hg; exact lp s hb hi hg
        rename_i n4; rw [if_neg n4] at hg
        split
        · rename_i h; rw [if_pos h] at hg; rw [sendQ_tr _ _ ⟨hb, hi⟩ hg]
        rename_i n5; rw [if_neg n5] at hg
        split
        · rename_i h; rw [if_pos h] at hg; rw [resQ_tr _ _ ⟨hb, hi⟩ hg]
        rename_i n6; rw [if_neg n6] at hg
        rw [change_bad hk] at hg
        cases hg
    · rw [S] at hg ⊢
      rw [SQ]
      simp only [xprQ_st, bk2, br2]
      split
      · rename_i h1
        rw [if_pos h1] at hg
        split
        · rename_i h2
          rw [if_pos h2] at hg
          have g1 := hasT_in h1
          have g3 := hasT_in h2
          have g2 := S_good (n := .bk) trivial g1.1
          rw [ln_eq hb hi, bk _ g1.1, xprQ_tr _ _ g2, br _ g3.1 g3.2 hg]
        · rename_i h2
          rw [if_neg h2] at hg
          have g1 := hasT_in h1
          have g2 := S_good (n := .bk) trivial g1.1
          rw [ln_eq hb hi, bk _ g1.1, xprQ_tr _ _ g2, bk _ hg]
      · rename_i h1
        rw [if_neg h1] at hg
        have g2 := S_good (n := .bk) trivial hg
        rw [ln_eq hb hi, bk _ hg, xprQ_tr _ _ g2]
    · rw [S] at hg ⊢
      rw [SQ]
      rcases dirs_eq ts 3 0 0 s (by decide) with ⟨p, u, t, e1, hh, e2⟩ | ⟨p, u, t, e1, e2⟩
      · rw [e1] at hg
        have h2 := hasT_two (b := [102, 111, 114]) (by decide) hh
        have e3 : exc ts t [119, 104, 105, 108, 101] = stop t := by
          unfold exc; rw [hasT_two (b := [119, 104, 105, 108, 101]) (by decide) hh]; rfl
        simp only [h2, Bool.false_eq_true, if_false, e3] at hg
        rw [xpr_bad rfl, bk_bad rfl] at hg
        cases hg
      · rw [e1] at hg ⊢
        rw [e2]
        simp only [Bool.false_eq_true, if_false, xprQ_st, bk2] at hg ⊢
        cases h1 : hasT ts t [119, 104, 105, 108, 101] with
        | true =>
          have h2 := hasT_two (b := [102, 111, 114]) (by decide) h1
          have e3 : exc ts t [119, 104, 105, 108, 101] = adv t := by unfold exc; rw [h1]; rfl
          simp only [h2, e3, Bool.false_eq_true, if_false, if_true] at hg ⊢
          have g2 := S_good (n := .bk) trivial hg
          rw [ln_eq hb hi, bk _ hg, xprQ_tr _ _ g2]
        | false =>
          have e3 : exc ts t [119, 104, 105, 108, 101] = stop t := by unfold exc; rw [h1]; rfl
          cases h2 : hasT ts t [102, 111, 114] with
          | true =>
            have e4 : exc ts t [102, 111, 114] = adv t := by unfold exc; rw [h2]; rfl
            simp only [h2, e4, Bool.false_eq_true, if_false, if_true] at hg ⊢
            have g2 := S_good (n := .bk) trivial hg
            have g3 := (exc_good ((xpr_on ts _).good g2)).1
            rw [ln_eq hb hi, bk _ hg, xprQ_tr _ _ g2, xprQ_tr _ _ g3]
          | false =>
            simp only [h2, e3, Bool.false_eq_true, if_false] at hg
            rw [xpr_bad rfl, bk_bad rfl] at hg
            cases hg
theorem blkQ_st {ts : List Tok} (K : KW ts) (s : Sg) : (blkQ ts s).2 = (blk ts s).2 := by unfold blkQ blk; exact (SQ_st K _).1 s
theorem blkQ_tr {ts : List Tok} (K : KW ts) (s : Sg) (h : (blk ts s).2.bad = false) : (blkQ ts s).1 = (blk ts s).1 := by
  unfold blk at h; unfold blkQ blk
  show (SQ ts (big ts) .bk s).1.headD tree0 = (S ts (big ts) .bk s).1.headD tree0
  rw [(SQ_tr K _).1 s h]
theorem scalQ_st (ts : List Tok) (s : Sg) : (scalQ ts s).2 = (scal ts s).2 := rfl
theorem scalQ_tr (ts : List Tok) (s : Sg) (h : (scal ts s).2.bad = false) : (scalQ ts s).1 = (scal ts s).1 := by
  unfold scal at h; unfold scalQ scal
  have g := nmS_good (exc_good (tyS_good h)).1
  rw [ln_eq g.1 g.2.1]
theorem prmQ_st (ts : List Tok) (s : Sg) : (prmQ ts s).2 = (prm ts s).2 := by unfold prmQ prm; simp only; split <;> rfl
theorem prm_ln (ts : List Tok) (s : Sg) (h : (prm ts s).2.bad = false) : lnR ts s = ln ts s := by
  unfold prm at h
  simp only at h
  generalize hs2 : exc ts (nmS ts s) [58] = s2 at h
  generalize hs3 : tyS ts (prmS ts s2) = s3 at h
  have h3 : s3.bad = false := by
    split at h
    · have a := (divS_on ts (exc ts (nuS ts (adv s3) 0) [93])).good h
      have b := (exc_good a).1
      exact (nuS_on ts (adv s3) 0).good b
    · exact h
  rw [← hs3] at h3
  have h2 := (prmS_on ts s2).good (tyS_good h3)
  rw [← hs2] at h2
  have g := nmS_good (exc_good h2).1
  exact ln_eq g.1 g.2.1
theorem prmQ_tr (ts : List Tok) (s : Sg) (h : (prm ts s).2.bad = false) : (prmQ ts s).1 = (prm ts s).1 := by
  have e := prm_ln ts s h
  unfold prmQ prm
  simp only [e]
theorem funcQ_st {ts : List Tok} (K : KW ts) (s : Sg) : (funcQ ts s).2 = (func ts s).2 := by
  unfold funcQ func
  simp only [blkQ_st K]
  rw [listM_st (scalQ_st ts)]
theorem funcQ_tr {ts : List Tok} (K : KW ts) (s : Sg) (hb : s.bad = false) (hi : s.i < ts.length) (h : (func ts s).2.bad = false) : (funcQ ts s).1 = (func ts s).1 := by
  unfold func at h; unfold funcQ func
  simp only at h ⊢
  have g1 := tyS_good ((blk_on ts _).good h)
  have g2 := (exc_good g1).1
  rw [ln_eq hb hi, listM_st (scalQ_st ts), listM_tr (scal_on ts) (scalQ_st ts) (scalQ_tr ts) _ _ g2, blkQ_tr K _ h]
theorem kernQ_st {ts : List Tok} (K : KW ts) (s : Sg) (hh : hasT ts s [107, 101, 114, 110, 101, 108] = true) : (kernQ ts s).2 = (kern ts s).2 := by
  have e : exc ts s [107, 101, 114, 110, 101, 108] = adv s := by unfold exc; rw [hh]; rfl
  unfold kernQ kern
  simp only [blkQ_st K, e]
  rw [listM_st (prmQ_st ts)]
  split <;> rfl
theorem kernQ_tr {ts : List Tok} (K : KW ts) (s : Sg) (hh : hasT ts s [107, 101, 114, 110, 101, 108] = true) (h : (kern ts s).2.bad = false) : (kernQ ts s).1 = (kern ts s).1 := by
  have e : exc ts s [107, 101, 114, 110, 101, 108] = adv s := by unfold exc; rw [hh]; rfl
  have hin := hasT_in hh
  unfold kern at h; unfold kernQ kern
  simp only [e] at h ⊢
  rw [listM_st (prmQ_st ts)]
  split
  · rename_i hc
    rw [if_pos hc] at h
    rw [ln_eq hin.1 hin.2, listM_tr (prm_on ts) (prmQ_st ts) (prmQ_tr ts) _ _ (hasT_in hc).1, blkQ_tr K _ h]
  · rename_i hc
    rw [if_neg hc] at h
    rw [ln_eq hin.1 hin.2, listM_tr (prm_on ts) (prmQ_st ts) (prmQ_tr ts) _ _ ((blk_on ts _).good h), blkQ_tr K _ h]
theorem kern_bad {ts : List Tok} {s : Sg} (hh : hasT ts s [107, 101, 114, 110, 101, 108] = false) : (kern ts s).2 = stop s := by
  have e : exc ts s [107, 101, 114, 110, 101, 108] = stop s := by unfold exc; rw [hh]; rfl
  have hb : (stop s).bad = true := rfl
  have hl : (listM ts (prm ts) (big ts) (stop s)).2 = stop s := (listM_on (prm_on ts) _ _).2.2 hb
  unfold kern
  simp only [e, nmS_bad hb, hl]
  rw [if_neg (by rw [hasT_bad hb]; simp)]
  exact (blk_on ts _).2.2 hb
theorem units_bad {ts : List Tok} {f : Nat} {acc : List Tree} {s : Sg} (h : s.bad = true) : (units ts f acc s).2 = s ∧ (unitsQ ts f acc s).2 = s := by
  cases f with
  | zero => exact ⟨rfl, rfl⟩
  | succ f => constructor
              · rw [units, if_neg (by simp [h])]
              · rw [unitsQ, if_neg (by simp [h])]
theorem units_on (ts : List Tok) : ∀ f acc s, (units ts f acc s).2.bad = false → s.bad = false := by
  intro f acc s h
  cases hb : s.bad with
  | false => rfl
  | true => rw [(units_bad hb).1, hb] at h; cases h
theorem unitsQ_eq {ts : List Tok} (K : KW ts) : ∀ f a b s, (unitsQ ts f a s).2 = (units ts f b s).2 ∧ ((units ts f b s).2.bad = false → a = b → (unitsQ ts f a s).1 = (units ts f b s).1) := by
  intro f
  induction f with
  | zero => intro a b s; exact ⟨rfl, fun _ h => h⟩
  | succ f ih =>
    intro a b s
    rw [unitsQ, units]
    by_cases hc : s.bad = false ∧ s.i < ts.length
    · rw [if_pos hc, if_pos hc]
      cases h1 : hasT ts s [102, 110] with
      | true =>
        simp only [if_true]
        rw [funcQ_st K]
        refine ⟨(ih _ _ _).1, fun hg e => ?_⟩
        subst e
        rw [funcQ_tr K s hc.1 hc.2 (units_on ts _ _ _ hg)]
        exact (ih _ _ _).2 hg rfl
      | false =>
        simp only [Bool.false_eq_true, if_false]
        cases h2 : hasT ts s [107, 101, 114, 110, 101, 108] with
        | true =>
          simp only [if_true]
          rw [kernQ_st K s h2]
          refine ⟨(ih _ _ _).1, fun hg e => ?_⟩
          subst e
          rw [kernQ_tr K s h2 (units_on ts _ _ _ hg)]
          exact (ih _ _ _).2 hg rfl
        | false =>
          simp only [Bool.false_eq_true, if_false]
          rw [kern_bad h2, (units_bad rfl).1, (units_bad rfl).2]
          exact ⟨rfl, fun hg => by cases hg⟩
    · rw [if_neg hc, if_neg hc]
      exact ⟨rfl, fun _ h => h⟩
theorem progQ_eq {ts : List Tok} (K : KW ts) (hl : ∀ t ∈ ts, 0 < t.line) : (progQ ts).2 = (progT ts).2 ∧ ((progT ts).2.bad = false → (progQ ts).1 = (progT ts).1) := by
  have h := unitsQ_eq K (ts.length + 1) [] [] ⟨0, false⟩
  have e : lnR ts ⟨0, false⟩ = max (ln ts ⟨0, false⟩) 1 := by
    unfold lnR ln nxt
    simp only [Bool.false_eq_true, if_false]
    by_cases hi : 0 < ts.length
    · rw [if_pos hi, tat_get hi]
      have := hl _ (List.getElem_mem hi)
      omega
    · rw [if_neg hi, tat_out (by omega)]
      rfl
  unfold progQ progT
  simp only [e]
  exact ⟨h.1, fun hg => by rw [h.2 hg rfl]⟩
end Go.Proofs.YtkliclihpobmiaaGreatDoor
