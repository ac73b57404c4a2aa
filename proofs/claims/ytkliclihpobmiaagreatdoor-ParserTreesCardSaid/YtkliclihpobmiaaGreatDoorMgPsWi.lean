/- How many nodes the reference's parser makes: mathematics. -/
import Derived.Test.YtkliclihpobmiaaGreatDoorMgPqT
import Derived.Test.YtkliclihpobmiaaGreatDoorMgPqPr
import Derived.Deep.Slices
namespace Go.Proofs.YtkliclihpobmiaaGreatDoor
open Go
set_option linter.unusedVariables false
set_option linter.unusedSimpArgs false

theorem rem_stop (ts : List Tok) (s : Sg) : rem ts (stop s) = 0 := rfl
theorem rem_exc' {ts : List Tok} {s : Sg} {c : UInt8} {t : List UInt8} : rem ts (exc ts s (c :: t)) ≤ rem ts s - 1 := by
 unfold exc
 cases h : hasT ts s (c :: t) with
 | true => have := rem_adv (hasT_in h); simp; omega
 | false => show 0 ≤ _; omega
theorem rem_nm (ts : List Tok) (s : Sg) : rem ts (nmS ts s) ≤ rem ts s - 1 := by
 unfold nmS
 by_cases h : kd ts s = 1
 ·rw [if_pos h]; have := rem_adv (kd_in h (by decide)); omega
 ·rw [if_neg h]; show 0 ≤ _; omega
theorem rem_has {ts : List Tok} {s : Sg} {c : UInt8} {t : List UInt8} (h : hasT ts s (c :: t) = true) : rem ts (adv s) + 1 = rem ts s := rem_adv (hasT_in h)
theorem counts_two (a b : List Tree) : counts (a ++ b) = counts a + counts b := by
 induction a with
 | nil => simp [counts]
 | cons t r ih => rw [List.cons_append, counts, counts, ih]; omega
theorem counts_one (t : Tree) : counts [t] = count t := by simp [counts]
theorem count_node (l : Lab) (ks : List Tree) : count (.node l ks) = 1 + counts ks := by rw [count]
theorem count_pos (t : Tree) : 1 ≤ count t := by obtain ⟨l, ks⟩ := t; rw [count]; omega
theorem more_ct {ts : List Tok} {item : Sg → Tree × Sg} (h : ∀ s, count (item s).1 + 8 * rem ts (item s).2 ≤ 8 * rem ts s + 1) : ∀ f acc s, counts (more ts item f acc s).1 + 8 * rem ts (more ts item f acc s).2 ≤ counts acc + 8 * rem ts s := by
 intro f
 induction f with
 | zero => intro acc s; exact Nat.le_refl _
 | succ f ih =>
  intro acc s
  rw [more]
  cases hh : hasT ts s [44] with
  | false => simp
  | true =>
   simp only [if_true]
   have h1 := ih (acc ++ [(item (adv s)).1]) (item (adv s)).2
   rw [counts_two, counts_one] at h1
   have h2 := h (adv s)
   have h3 := rem_has hh
   omega
theorem listM_ct {ts : List Tok} {item : Sg → Tree × Sg} (h : ∀ s, count (item s).1 + 8 * rem ts (item s).2 ≤ 8 * rem ts s + 1) (f : Nat) (s : Sg) : counts (listM ts item f s).1 + 8 * rem ts (listM ts item f s).2 ≤ 8 * rem ts s + 1 := by
 have h0 := rem_exc' (ts := ts) (s := s) (c := 40) (t := [])
 unfold listM
 cases hh : hasT ts (exc ts s [40]) [41] with
 | true =>
  simp only [if_true]
  have := rem_has hh
  simp [counts]
  omega
 | false =>
  simp only [Bool.false_eq_true, if_false]
  have h1 := h (exc ts s [40])
  have h2 := more_ct h f [(item (exc ts s [40])).1] (item (exc ts s [40])).2
  rw [counts_one] at h2
  have h3 := rem_exc' (ts := ts) (s := (more ts item f [(item (exc ts s [40])).1] (item (exc ts s [40])).2).2) (c := 41) (t := [])
  omega
def slk : NT → Nat
 | .bl _ _ t => count t
 | .cl _ t => count t
 | _ => 1
theorem slk_pos (n : NT) : 1 ≤ slk n := by cases n <;> first | exact count_pos _ | exact Nat.le_refl _
theorem EQ_ct (ts : List Tok) : ∀ f nt s, count (EQ ts f nt s).1 + 8 * rem ts (EQ ts f nt s).2 ≤ 8 * rem ts s + slk nt := by
 intro f
 induction f with
 | zero => intro nt s; have := slk_pos nt; simp only [EQ, tree0, count_node, counts]; omega
 | succ f ih =>
  intro nt s
  cases nt with
  | ex =>
   rw [EQ]
   have h1 := ih (.bn 0) s
   cases hh : hasT ts (EQ ts f (.bn 0) s).2 [63] with
   | false => simp only [Bool.false_eq_true, if_false]; exact h1
   | true =>
    simp only [if_true, count_node, counts, slk] at *
    have h2 := ih .ex (adv (EQ ts f (.bn 0) s).2)
    have h3 := ih .ex (exc ts (EQ ts f .ex (adv (EQ ts f (.bn 0) s).2)).2 [58])
    have h4 := rem_exc' (ts := ts) (s := (EQ ts f .ex (adv (EQ ts f (.bn 0) s).2)).2) (c := 58) (t := [])
    have h5 := rem_has hh
    simp only [slk] at h2 h3
    omega
  | bn l =>
   rw [EQ]
   split
   ·exact ih .ca s
   ·have h1 := ih (.bn (l + 1)) s
    have h2 := ih (.bl l (lnR ts s) (EQ ts f (.bn (l + 1)) s).1) (EQ ts f (.bn (l + 1)) s).2
    simp only [slk] at *
    omega
  | bl l line left =>
   rw [EQ]
   by_cases ho : opV ts s l = 0
   ·rw [if_pos ho]; simp only [slk]; omega
   ·rw [if_neg ho]
    have h1 := ih (.bn (l + 1)) (adv s)
    have h5 := rem_adv (opV_in ho)
    split
    ·simp only [count_node, counts, slk] at *; omega
    ·have h2 := ih (.bl l line (.node { labK 22 line with op := opV ts s l } [left, (EQ ts f (.bn (l + 1)) (adv s)).1])) (EQ ts f (.bn (l + 1)) (adv s)).2
     simp only [slk, count_node, counts] at *
     omega
  | ca =>
   rw [EQ]
   have h1 := ih .un s
   have h2 := ih (.cl (lnR ts s) (EQ ts f .un s).1) (EQ ts f .un s).2
   simp only [slk] at *
   omega
  | cl line t =>
   rw [EQ]
   cases hh : hasT ts s [97, 115] with
   | false => simp only [Bool.false_eq_true, if_false, slk]; omega
   | true =>
    simp only [if_true]
    have h2 := ih (.cl line (.node { labK 24 line with wd := (tyV' ts (adv s)).1, sg := (tyV' ts (adv s)).2 } [t])) (tyS ts (adv s))
    have h3 := rem_on (tyS_on ts (adv s))
    have h5 := rem_has hh
    simp only [slk, count_node, counts] at *
    omega
  | un =>
   rw [EQ]
   by_cases ho : opV ts s 10 = 0
   ·rw [if_pos ho]; exact ih .pr s
   ·rw [if_neg ho]
    have h1 := ih .un (adv s)
    have h5 := rem_adv (opV_in ho)
    simp only [count_node, counts, slk] at *
    omega
  | pr =>
   rw [EQ]
   by_cases h3 : kd ts s = 3
   ·rw [if_pos h3]
    have h5 := rem_adv (kd_in h3 (by decide))
    simp only [count_node, counts, slk]; omega
   rw [if_neg h3]
   cases g0 : hasT ts s [116, 114, 117, 101] with
   | true =>
    have h5 := rem_has g0
    simp only [if_true, count_node, counts, slk]; omega
   | false =>
   cases g1 : hasT ts s [102, 97, 108, 115, 101] with
   | true =>
    have h5 := rem_has g1
    simp only [Bool.false_eq_true, if_false, if_true, count_node, counts, slk]; omega
   | false =>
   cases g2 : hasT ts s [114, 101, 99, 118] with
   | true =>
    have h5 := rem_has g2
    have h6 := rem_exc' (ts := ts) (s := adv s) (c := 40) (t := [])
    have h7 := rem_nm ts (exc ts (adv s) [40])
    have h8 := rem_exc' (ts := ts) (s := nmS ts (exc ts (adv s) [40])) (c := 41) (t := [])
    simp only [Bool.false_eq_true, if_false, if_true, count_node, counts, slk]; omega
   | false =>
   cases g3 : hasT ts s [40] with
   | true =>
    have h5 := rem_has g3
    have h1 := ih .ex (adv s)
    have h6 := rem_exc' (ts := ts) (s := (EQ ts f .ex (adv s)).2) (c := 41) (t := [])
    simp only [Bool.false_eq_true, if_false, if_true, slk] at *; omega
   | false =>
   simp only [Bool.false_eq_true, if_false]
   split
   ·exact ih .us s
   ·split
    ·simp only [tree0, count_node, counts, slk]; omega
    ·simp only [count_node, counts, slk, rem_stop]; omega
  | us =>
   rw [EQ]
   have h0 := rem_nm ts s
   cases g0 : hasT ts (nmS ts s) [91] with
   | true =>
    have h5 := rem_has g0
    have h1 := ih .ex (adv (nmS ts s))
    have h6 := rem_exc' (ts := ts) (s := (EQ ts f .ex (adv (nmS ts s))).2) (c := 93) (t := [])
    simp only [if_true, count_node, counts, slk] at *; omega
   | false =>
   cases g1 : hasT ts (nmS ts s) [40] with
   | true =>
    have h5 := rem_has g1
    have h1 := listM_ct (ts := ts) (item := fun q => EQ ts f .ex q) (fun q => ih .ex q) f (nmS ts s)
    simp only [Bool.false_eq_true, if_false, if_true, count_node, slk] at *; omega
   | false => simp only [Bool.false_eq_true, if_false, count_node, counts, slk]; omega
theorem xprQ_ct (ts : List Tok) (s : Sg) : count (xprQ ts s).1 + 8 * rem ts (xprQ ts s).2 ≤ 8 * rem ts s + 1 := by unfold xprQ; exact EQ_ct ts _ .ex s
theorem rem_ty (ts : List Tok) (s : Sg) : rem ts (tyS ts s) ≤ rem ts s := rem_on (tyS_on ts s)
theorem declLQ_ct (ts : List Tok) (s : Sg) (h : rem ts (adv s) + 1 = rem ts s) : count (declLQ ts s).1 + 8 * rem ts (declLQ ts s).2 ≤ 8 * rem ts s := by
 unfold declLQ
 simp only [count_node, counts]
 generalize e3 : (if hasT ts (nmS ts (adv s)) [58] = true then tyS ts (adv (nmS ts (adv s))) else nmS ts (adv s)) = s3
 have h0 := rem_nm ts (adv s)
 have h3 : rem ts s3 ≤ rem ts (nmS ts (adv s)) := by
  rw [← e3]
  cases g : hasT ts (nmS ts (adv s)) [58] with
  | true => have := rem_has g; have := rem_ty ts (adv (nmS ts (adv s))); simp only [if_true]; omega
  | false => simp
 have h4 := rem_exc' (ts := ts) (s := s3) (c := 61) (t := [])
 have h5 := xprQ_ct ts (exc ts s3 [61])
 have h6 := rem_exc' (ts := ts) (s := (xprQ ts (exc ts s3 [61])).2) (c := 59) (t := [])
 omega
theorem declVQ_ct (ts : List Tok) (s : Sg) (h : rem ts (adv s) + 1 = rem ts s) : count (declVQ ts s).1 + 8 * rem ts (declVQ ts s).2 ≤ 8 * rem ts s := by
 unfold declVQ
 simp only
 have h0 := rem_nm ts (adv s)
 have h1 := rem_exc' (ts := ts) (s := nmS ts (adv s)) (c := 58) (t := [])
 have h2 := rem_ty ts (exc ts (nmS ts (adv s)) [58])
 generalize tyS ts (exc ts (nmS ts (adv s)) [58]) = s3 at *
 cases g : hasT ts s3 [61] with
 | true =>
  have h3 := rem_has g
  have h5 := xprQ_ct ts (adv s3)
  have h6 := rem_exc' (ts := ts) (s := (xprQ ts (adv s3)).2) (c := 59) (t := [])
  simp only [if_true, count_node, counts]; omega
 | false =>
  have h6 := rem_exc' (ts := ts) (s := s3) (c := 59) (t := [])
  simp only [Bool.false_eq_true, if_false, count_node, counts]; omega
theorem changeQ_ct (ts : List Tok) (s : Sg) (hk : kd ts s = 1) : count (changeQ ts s).1 + 8 * rem ts (changeQ ts s).2 ≤ 8 * rem ts s := by
 have hs := rem_adv (kd_in hk (by decide))
 have hn : nmS ts s = adv s := if_pos hk
 unfold changeQ
 simp only [hn]
 cases g : hasT ts (adv s) [91] with
 | true =>
  have h3 := rem_has g
  have h5 := xprQ_ct ts (adv (adv s))
  have h6 := rem_exc' (ts := ts) (s := (xprQ ts (adv (adv s))).2) (c := 93) (t := [])
  have h7 := rem_exc' (ts := ts) (s := exc ts (xprQ ts (adv (adv s))).2 [93]) (c := 61) (t := [])
  have h8 := xprQ_ct ts (exc ts (exc ts (xprQ ts (adv (adv s))).2 [93]) [61])
  have h9 := rem_exc' (ts := ts) (s := (xprQ ts (exc ts (exc ts (xprQ ts (adv (adv s))).2 [93]) [61])).2) (c := 59) (t := [])
  simp only [if_true, count_node, counts]; omega
 | false =>
  have h6 := rem_exc' (ts := ts) (s := adv s) (c := 61) (t := [])
  have h8 := xprQ_ct ts (exc ts (adv s) [61])
  have h9 := rem_exc' (ts := ts) (s := (xprQ ts (exc ts (adv s) [61])).2) (c := 59) (t := [])
  simp only [Bool.false_eq_true, if_false, count_node, counts]; omega
theorem sendQ_ct (ts : List Tok) (s : Sg) (h : rem ts (adv s) + 1 = rem ts s) : count (sendQ ts s).1 + 8 * rem ts (sendQ ts s).2 ≤ 8 * rem ts s := by
 unfold sendQ
 simp only [count_node, counts]
 have h0 := rem_nm ts (adv s)
 have h1 := rem_exc' (ts := ts) (s := nmS ts (adv s)) (c := 40) (t := [])
 have h5 := xprQ_ct ts (exc ts (nmS ts (adv s)) [40])
 have h6 := rem_exc' (ts := ts) (s := (xprQ ts (exc ts (nmS ts (adv s)) [40])).2) (c := 41) (t := [])
 have h7 := rem_exc' (ts := ts) (s := exc ts (xprQ ts (exc ts (nmS ts (adv s)) [40])).2 [41]) (c := 59) (t := [])
 omega
theorem resQ_ct (ts : List Tok) (s : Sg) (h : rem ts (adv s) + 1 = rem ts s) : count (resQ ts s).1 + 8 * rem ts (resQ ts s).2 ≤ 8 * rem ts s := by
 unfold resQ
 simp only [count_node, counts]
 have h5 := xprQ_ct ts (adv s)
 have h6 := rem_exc' (ts := ts) (s := (xprQ ts (adv s)).2) (c := 59) (t := [])
 omega
theorem dirsQ_on (ts : List Tok) : ∀ f p u s, rem ts (dirsQ ts f p u s).2.2.1 ≤ rem ts s ∧ ((dirsQ ts f p u s).2.2.2 = true → (dirsQ ts f p u s).2.2.1.bad = true) := by
 intro f
 induction f with
 | zero => intro p u s; exact ⟨Nat.le_refl _, fun h => by cases h⟩
 | succ f ih =>
  intro p u s
  rw [dirsQ]
  cases hh : hasT ts s [35] with
  | false => simp
  | true =>
   simp only [if_true]
   split
   ·exact ⟨Nat.zero_le _, fun _ => rfl⟩
   ·have h1 := ih (dir ts p u (adv s)).1 (dir ts p u (adv s)).2.1 (dir ts p u (adv s)).2.2
    have h2 := rem_on (dir_on ts p u (adv s))
    have h3 := rem_has hh
    exact ⟨by omega, h1.2⟩
structure SB (ts : List Tok) (f : Nat) : Prop where
 bk : ∀ s, counts (SQ ts f .bk s).1 + 8 * rem ts (SQ ts f .bk s).2 ≤ 8 * rem ts s + 2
 bs : ∀ acc s, counts (SQ ts f (.bs acc) s).1 + 8 * rem ts (SQ ts f (.bs acc) s).2 ≤ counts acc + 8 * rem ts s + 1
 st : ∀ s, counts (SQ ts f .st s).1 + 8 * rem ts (SQ ts f .st s).2 ≤ 8 * rem ts s + 1
 st2 : 2 ≤ f → ∀ s, (SQ ts f .st s).2.bad = false → counts (SQ ts f .st s).1 + 8 * rem ts (SQ ts f .st s).2 ≤ 8 * rem ts s
 br : ∀ s, hasT ts s [105, 102] = true → counts (SQ ts f .br s).1 + 8 * rem ts (SQ ts f .br s).2 ≤ 8 * rem ts s + 1
 br2 : 1 ≤ f → ∀ s, hasT ts s [105, 102] = true → counts (SQ ts f .br s).1 + 8 * rem ts (SQ ts f .br s).2 ≤ 8 * rem ts s
 lp : ∀ s, 1 ≤ rem ts s → counts (SQ ts f .lp s).1 + 8 * rem ts (SQ ts f .lp s).2 ≤ 8 * rem ts s + 1
 lp2 : 1 ≤ f → ∀ s, 1 ≤ rem ts s → counts (SQ ts f .lp s).1 + 8 * rem ts (SQ ts f .lp s).2 ≤ 8 * rem ts s
theorem bs_bad {ts : List Tok} {f : Nat} {acc : List Tree} {s : Sg} (h : s.bad = true) : (SQ ts f (.bs acc) s).2.bad = true ∧ counts (SQ ts f (.bs acc) s).1 ≤ counts acc + 1 ∧ (1 ≤ f → (SQ ts f (.bs acc) s).1 = acc) := by
 cases f with
 | zero => rw [SQ]; exact ⟨by rw [exc_bad h]; exact h, by simp [tree0, count_node, counts], fun h => by omega⟩
 | succ f => rw [SQ, if_pos h]; exact ⟨h, by simp, fun _ => rfl⟩
theorem rem_bad {ts : List Tok} {s : Sg} (h : s.bad = true) : rem ts s = 0 := by unfold rem; rw [h]; rfl
theorem sb_step {ts : List Tok} {f : Nat} (H : SB ts f) : SB ts (f + 1) := by
 have hbr : ∀ s, hasT ts s [105, 102] = true → counts (SQ ts (f + 1) .br s).1 + 8 * rem ts (SQ ts (f + 1) .br s).2 ≤ 8 * rem ts s := by
  intro s hs
  rw [SQ]
  have h1 := rem_has hs
  have h2 := xprQ_ct ts (adv s)
  have h3 := H.bk (xprQ ts (adv s)).2
  generalize SQ ts f .bk (xprQ ts (adv s)).2 = B at *
  cases g : hasT ts B.2 [101, 108, 115, 101] with
  | false => simp only [Bool.false_eq_true, if_false, counts_one, count_node, counts_two]; omega
  | true =>
   have h4 := rem_has g
   cases g2 : hasT ts (adv B.2) [105, 102] with
   | true =>
    have h5 := H.br (adv B.2) g2
    simp only [if_true, counts_one, count_node, counts_two]; omega
   | false =>
    have h5 := H.bk (adv B.2)
    simp only [if_true, Bool.false_eq_true, if_false, counts_one, count_node, counts_two]; omega
 have hlp : ∀ s, 1 ≤ rem ts s → counts (SQ ts (f + 1) .lp s).1 + 8 * rem ts (SQ ts (f + 1) .lp s).2 ≤ 8 * rem ts s := by
  intro s hs
  rw [SQ]
  have h1 := dirsQ_on ts 3 0 0 s
  generalize dirsQ ts 3 0 0 s = D at *
  obtain ⟨p, u, t, b⟩ := D
  simp only at h1 ⊢
  cases b with
  | true =>
   have := rem_bad (ts := ts) (h1.2 rfl)
   simp only [if_true, counts_one, count_node, counts]; omega
  | false =>
   simp only [Bool.false_eq_true, if_false]
   cases g : hasT ts t [119, 104, 105, 108, 101] with
   | true =>
    have h4 := rem_has g
    have h2 := xprQ_ct ts (adv t)
    have h3 := H.bk (xprQ ts (adv t)).2
    simp only [if_true, counts_one, count_node, counts_two]; omega
   | false =>
    simp only [Bool.false_eq_true, if_false]
    have e0 := rem_exc' (ts := ts) (s := t) (c := 102) (t := [111, 114])
    generalize exc ts t [102, 111, 114] = s0 at *
    have e1 := rem_nm ts s0
    generalize nmS ts s0 = s1 at *
    have e2 := rem_exc' (ts := ts) (s := s1) (c := 58) (t := [])
    generalize exc ts s1 [58] = s2 at *
    have e3 := rem_ty ts s2
    have e4 := rem_exc' (ts := ts) (s := tyS ts s2) (c := 105) (t := [110])
    generalize exc ts (tyS ts s2) [105, 110] = s3 at *
    have e5 := xprQ_ct ts s3
    have e6 := rem_exc' (ts := ts) (s := (xprQ ts s3).2) (c := 46) (t := [46])
    generalize exc ts (xprQ ts s3).2 [46, 46] = s4 at *
    have e7 := xprQ_ct ts s4
    have e8 := H.bk (xprQ ts s4).2
    simp only [counts_one, count_node, counts_two, counts]; omega
 have hst : ∀ s, counts (SQ ts (f + 1) .st s).1 + 8 * rem ts (SQ ts (f + 1) .st s).2 ≤ 8 * rem ts s + 1 ∧ (1 ≤ f → (SQ ts (f + 1) .st s).2.bad = false → counts (SQ ts (f + 1) .st s).1 + 8 * rem ts (SQ ts (f + 1) .st s).2 ≤ 8 * rem ts s) := by
  intro s
  rw [SQ]
  by_cases hk : kd ts s = 1
  ·rw [if_pos hk]
   have := changeQ_ct ts s hk
   simp only [counts_one]
   exact ⟨by omega, fun _ _ => by omega⟩
  rw [if_neg hk]
  cases g0 : hasT ts s [118, 97, 114] with
  | true =>
   have := declVQ_ct ts s (rem_has g0)
   simp only [if_true, counts_one]
   exact ⟨by omega, fun _ _ => by omega⟩
  | false =>
  cases g1 : hasT ts s [108, 101, 116] with
  | true =>
   have := declLQ_ct ts s (rem_has g1)
   simp only [if_true, Bool.false_eq_true, if_false, counts_one]
   exact ⟨by omega, fun _ _ => by omega⟩
  | false =>
  cases g2 : hasT ts s [105, 102] with
  | true =>
   simp only [if_true, Bool.false_eq_true, if_false]
   exact ⟨H.br s g2, fun hf _ => H.br2 hf s g2⟩
  | false =>
  cases g3 : (hasT ts s [35] || hasT ts s [102, 111, 114] || hasT ts s [119, 104, 105, 108, 101]) with
  | true =>
   simp only [if_true, Bool.false_eq_true, if_false]
   have hi : s.bad = false ∧ s.i < ts.length := by
    simp only [Bool.or_eq_true] at g3
    rcases g3 with (h | h) | h <;> exact hasT_in h
   have hr := rem_adv hi
   exact ⟨H.lp s (by omega), fun hf _ => H.lp2 hf s (by omega)⟩
  | false =>
  cases g4 : hasT ts s [115, 101, 110, 100] with
  | true =>
   have := sendQ_ct ts s (rem_has g4)
   simp only [if_true, Bool.false_eq_true, if_false, counts_one]
   exact ⟨by omega, fun _ _ => by omega⟩
  | false =>
  cases g5 : hasT ts s [114, 101, 116, 117, 114, 110] with
  | true =>
   have := resQ_ct ts s (rem_has g5)
   simp only [if_true, Bool.false_eq_true, if_false, counts_one]
   exact ⟨by omega, fun _ _ => by omega⟩
  | false =>
   simp only [Bool.false_eq_true, if_false, counts_one, count_node, counts, rem_stop]
   exact ⟨by omega, fun _ h => by cases h⟩
 refine ⟨fun s => ?_, fun acc s => ?_, fun s => (hst s).1, fun hf s => (hst s).2 (by omega), fun s h => by have := hbr s h; omega, fun _ s h => hbr s h, fun s h => by have := hlp s h; omega, fun _ s h => hlp s h⟩
 ·rw [SQ]
  have h1 := rem_exc' (ts := ts) (s := s) (c := 123) (t := [])
  have h2 := H.bs [] (exc ts s [123])
  simp only [counts] at h2
  simp only [counts_one, count_node]; omega
 ·rw [SQ]
  cases hb : s.bad with
  | true => simp only [if_true]; omega
  | false =>
   simp only [Bool.false_eq_true, if_false]
   cases hc : hasT ts s [125] with
   | true => have := rem_has hc; simp only [if_true]; omega
   | false =>
    simp only [Bool.false_eq_true, if_false]
    have h1 := H.st s
    generalize hB : SQ ts f .st s = B at *
    cases hb2 : B.2.bad with
    | true =>
     obtain ⟨e1, e2, e3⟩ := bs_bad (ts := ts) (f := f) (acc := acc ++ B.1) hb2
     have e4 := rem_bad (ts := ts) e1
     have e5 := rem_bad (ts := ts) hb2
     by_cases hf : 1 ≤ f
     ·rw [e3 hf, counts_two]; omega
     ·obtain rfl : f = 0 := by omega
      rw [SQ] at e4 ⊢
      simp only [tree0, counts_one, count_node, counts] at *
      omega
    | false =>
     by_cases hf : 2 ≤ f
     ·have h2 := H.st2 hf s (by rw [hB]; exact hb2)
      rw [hB] at h2
      have h3 := H.bs (acc ++ B.1) B.2
      rw [counts_two] at h3
      omega
     ·have hz : ∀ acc s, counts (SQ ts 0 (.bs acc) s).1 + 8 * rem ts (SQ ts 0 (.bs acc) s).2 ≤ 1 + 8 * rem ts s := by
       intro acc s
       have := rem_exc' (ts := ts) (s := s) (c := 125) (t := [])
       rw [SQ]
       simp only [tree0, counts_one, count_node, counts]
       omega
      have hpos : 8 * rem ts B.2 ≤ 8 * rem ts s := by omega
      by_cases hf0 : f = 0
      ·subst hf0
       have := hz (acc ++ B.1) B.2
       omega
      ·obtain rfl : f = 1 := by omega
       rw [SQ]
       simp only [hb2, Bool.false_eq_true, if_false]
       cases hd : hasT ts B.2 [125] with
       | true => have := rem_has hd; simp only [if_true, counts_two]; omega
       | false =>
        simp only [Bool.false_eq_true, if_false]
        have h5 : (SQ ts 0 .st B.2).2 = B.2 := rfl
        have h6 := hz (acc ++ B.1 ++ (SQ ts 0 .st B.2).1) (SQ ts 0 .st B.2).2
        rw [h5] at h6 ⊢
        omega
theorem sb_all (ts : List Tok) : ∀ f, SB ts f := by
 intro f
 induction f with
 | zero =>
  refine ⟨fun s => ?_, fun acc s => ?_, fun s => ?_, fun h => by omega, fun s _ => ?_, fun h => by omega, fun s _ => ?_, fun h => by omega⟩
  all_goals
   have := rem_exc' (ts := ts) (s := s) (c := 125) (t := [])
   rw [SQ]
   simp only [tree0, counts_one, count_node, counts]
   omega
 | succ f ih => exact sb_step ih
theorem SQ_one' (ts : List Tok) (f : Nat) (s : Sg) : (SQ ts f .bk s).1 = [((SQ ts f .bk s).1.headD tree0)] := by cases f <;> rfl
theorem blkQ_ct (ts : List Tok) (s : Sg) : count (blkQ ts s).1 + 8 * rem ts (blkQ ts s).2 ≤ 8 * rem ts s + 2 := by
 have h := (sb_all ts (big ts)).bk s
 unfold blkQ
 rw [SQ_one', counts_one] at h
 exact h
theorem scalQ_ct (ts : List Tok) (s : Sg) : count (scalQ ts s).1 + 8 * rem ts (scalQ ts s).2 ≤ 8 * rem ts s + 1 := by
 have h := rem_on (scal_on ts s)
 rw [← scalQ_st] at h
 unfold scalQ at h ⊢
 simp only [count_node, counts] at h ⊢
 omega
theorem prmQ_ct (ts : List Tok) (s : Sg) : count (prmQ ts s).1 + 8 * rem ts (prmQ ts s).2 ≤ 8 * rem ts s + 1 := by
 have h := rem_on (prm_on ts s)
 rw [← prmQ_st] at h
 have h1 : count (prmQ ts s).1 = 1 := by
  unfold prmQ
  simp only
  split <;> simp [count_node, counts]
 omega
theorem funcQ_ct (ts : List Tok) (s : Sg) (hs : rem ts (adv s) + 1 = rem ts s) : count (funcQ ts s).1 + 8 * rem ts (funcQ ts s).2 ≤ 8 * rem ts s := by
 unfold funcQ
 have h0 := rem_nm ts (adv s)
 have h1 := listM_ct (scalQ_ct ts) (big ts) (nmS ts (adv s))
 simp only
 generalize listM ts (scalQ ts) (big ts) (nmS ts (adv s)) = P at *
 have h2 := rem_exc' (ts := ts) (s := P.2) (c := 45) (t := [62])
 have h3 := rem_ty ts (exc ts P.2 [45, 62])
 have h4 := blkQ_ct ts (tyS ts (exc ts P.2 [45, 62]))
 simp only [count_node, counts_two, counts_one]
 omega
theorem kernQ_ct (ts : List Tok) (s : Sg) (hs : rem ts (adv s) + 1 = rem ts s) : count (kernQ ts s).1 + 8 * rem ts (kernQ ts s).2 ≤ 8 * rem ts s := by
 unfold kernQ
 have h0 := rem_nm ts (adv s)
 have h1 := listM_ct (prmQ_ct ts) (big ts) (nmS ts (adv s))
 simp only
 generalize listM ts (prmQ ts) (big ts) (nmS ts (adv s)) = P at *
 cases g : hasT ts P.2 [45, 62] with
 | true =>
  have h2 := rem_has g
  have h3 := rem_ty ts (adv P.2)
  have h4 := blkQ_ct ts (tyS ts (adv P.2))
  simp only [if_true, count_node, counts_two, counts_one]
  omega
 | false =>
  have h4 := blkQ_ct ts P.2
  simp only [Bool.false_eq_true, if_false, count_node, counts_two, counts_one]
  omega
theorem unitsQ_ct (ts : List Tok) : ∀ f acc s, counts (unitsQ ts f acc s).1 + 8 * rem ts (unitsQ ts f acc s).2 ≤ counts acc + 8 * rem ts s := by
 intro f
 induction f with
 | zero => intro acc s; exact Nat.le_refl _
 | succ f ih =>
  intro acc s
  rw [unitsQ]
  split
  ·cases g : hasT ts s [102, 110] with
   | true =>
    simp only [if_true]
    have h1 := funcQ_ct ts s (rem_has g)
    have h2 := ih (acc ++ [(funcQ ts s).1]) (funcQ ts s).2
    rw [counts_two, counts_one] at h2
    omega
   | false =>
    simp only [Bool.false_eq_true, if_false]
    cases g2 : hasT ts s [107, 101, 114, 110, 101, 108] with
    | true =>
     simp only [if_true]
     have h1 := kernQ_ct ts s (rem_has g2)
     have h2 := ih (acc ++ [(kernQ ts s).1]) (kernQ ts s).2
     rw [counts_two, counts_one] at h2
     omega
    | false =>
     simp only [Bool.false_eq_true, if_false]
     have h2 := ih acc (stop s)
     rw [rem_stop] at h2
     omega
  ·exact Nat.le_refl _
theorem progQ_ct (ts : List Tok) : count (progQ ts).1 ≤ 1 + 8 * ts.length := by
 unfold progQ
 have h := unitsQ_ct ts (ts.length + 1) [] ⟨0, false⟩
 have h2 : rem ts ⟨0, false⟩ ≤ ts.length := by unfold rem; simp
 simp only [counts] at h
 simp only [count_node]
 omega
mutual
theorem depth_ct : ∀ t : Tree, depth t ≤ count t
 | .node l ks => by rw [depth, count]; have := depths_ct ks; omega
theorem depths_ct : ∀ ks : List Tree, depths ks ≤ counts ks
 | [] => by rw [depths, counts]; omega
 | t :: r => by rw [depths, counts]; have := depth_ct t; have := depths_ct r; omega
end
end Go.Proofs.YtkliclihpobmiaaGreatDoor
/- The kids of a tree in memory, for reading. -/
namespace Go.Proofs.YtkliclihpobmiaaGreatDoor
open Go Go.RowKit
set_option linter.unusedVariables false

def KidAt (w : World) (P : Nat → Prop) (a : Addr) (i : Nat) (t : Tree) : Prop := ∃ (l : Lab) (x : Option Addr) (n k : Nat),
 (w.cell? (a.add (i * 11)) = some (.int .i64 l.kind) ∧ w.cell? ⟨(a.add (i * 11)).block, (a.add (i * 11)).off + 1, none⟩ = some (.string (str l.name)) ∧ w.cell? ⟨(a.add (i * 11)).block, (a.add (i * 11)).off + 2, none⟩ = some (.int .u64 l.num) ∧
  w.cell? ⟨(a.add (i * 11)).block, (a.add (i * 11)).off + 3, none⟩ = some (.int .i64 l.wd) ∧ w.cell? ⟨(a.add (i * 11)).block, (a.add (i * 11)).off + 4, none⟩ = some (.bool l.sg) ∧ w.cell? ⟨(a.add (i * 11)).block, (a.add (i * 11)).off + 5, none⟩ = some (.int .i64 l.op) ∧
  w.cell? ⟨(a.add (i * 11)).block, (a.add (i * 11)).off + 6, none⟩ = some (.int .i64 l.fac) ∧ w.cell? ⟨(a.add (i * 11)).block, (a.add (i * 11)).off + 7, none⟩ = some (.int .i64 l.pip) ∧ w.cell? ⟨(a.add (i * 11)).block, (a.add (i * 11)).off + 8, none⟩ = some (.int .i64 l.unr) ∧
  w.cell? ⟨(a.add (i * 11)).block, (a.add (i * 11)).off + 9, none⟩ = some (.int .i64 l.line) ∧ w.cell? ⟨(a.add (i * 11)).block, (a.add (i * 11)).off + 10, none⟩ = some (.slice x n k)) ∧
 TreeAt w P [.int .i64 l.kind, .string (str l.name), .int .u64 l.num, .int .i64 l.wd, .bool l.sg, .int .i64 l.op, .int .i64 l.fac, .int .i64 l.pip, .int .i64 l.unr, .int .i64 l.line, .slice x n k] t
theorem KidAt.keep {w w' : World} {P Q : Nat → Prop} {a : Addr} {i : Nat} {t : Tree} (h : KidAt w P a i t) (ha : P a.block) (hs : ∀ g, P g → g < w.heap.size → w'.heap[g]? = w.heap[g]?) (hq : ∀ g, P g → g < w.heap.size → Q g) : KidAt w' Q a i t := by
 obtain ⟨l, x, n, k, ⟨e0, e1, e2, e3, e4, e5, e6, e7, e8, e9, e10⟩, hT⟩ := h
 have hbb : (a.add (i * 11)).block = a.block := add_block _ _
 have hlt : a.block < w.heap.size := by have := cell_block_lt e0; rw [hbb] at this; exact this
 have hblk := hs a.block ha hlt
 have same : ∀ (q : Addr) (v : Value), q.block = a.block → w.cell? q = some v → w'.cell? q = some v := fun q v hq hv => (cell_same (w := w) (w' := w') (by rw [hq]; exact hblk)).trans hv
 exact ⟨l, x, n, k, ⟨same _ _ hbb e0, same _ _ hbb e1, same _ _ hbb e2, same _ _ hbb e3, same _ _ hbb e4, same _ _ hbb e5, same _ _ hbb e6, same _ _ hbb e7, same _ _ hbb e8, same _ _ hbb e9, same _ _ hbb e10⟩, hT.keep hs hq⟩
theorem add_off (a : Addr) (i j : Nat) : a.add (i + (j + 1)) = ⟨(a.add i).block, (a.add i).off + (j + 1), none⟩ := by
 rw [← Go.Deep.add_add]
 unfold Addr.add
 rw [if_neg (by omega)]
def kat (ks : List Tree) (i : Nat) : Tree := ks.getD i tree0
theorem kat_get {ks : List Tree} {i : Nat} (h : i < ks.length) : kat ks i = ks[i] := by simp [kat, List.getD, h]
theorem drop_kat {ks : List Tree} {i : Nat} (h : i < ks.length) : ks.drop i = kat ks i :: ks.drop (i + 1) := by rw [kat_get h]; exact List.drop_eq_getElem_cons h
theorem TreeAt.kids {w : World} {P : Nat → Prop} {cs : List Value} {l : Lab} {ks : List Tree} (h : TreeAt w P cs (.node l ks)) :
  ∃ (x : Option Addr) (k : Nat), cs = lcells l (.slice x ks.length k) ∧ ks.length ≤ k ∧ k ≤ maxLen ∧ ∀ i (hi : i < ks.length), ∃ a, x = some a ∧ P a.block ∧ KidAt w P a i (kat ks i) := by
 cases h with
 | nil => exact ⟨none, 0, rfl, by simp, by unfold maxLen; omega, fun i hi => by simp at hi⟩
 | mk _ a n cap C _ hn hc hm hP hcell hk =>
  subst hn
  refine ⟨some a, cap, rfl, hc, hm, fun i hi => ⟨a, rfl, hP (by omega), ?_⟩⟩
  have hT := hk i hi
  rw [← kat_get hi] at hT
  obtain ⟨l2, x2, n2, k2, hf⟩ := hT.form
  rw [hf] at hT
  have hcs := hcell i hi
  rw [hf] at hcs
  refine ⟨l2, x2, n2, k2, ⟨hcs 0 (by omega), ?_, ?_, ?_, ?_, ?_, ?_, ?_, ?_, ?_, ?_⟩, hT⟩
  ·exact add_off a (i * 11) 0 ▸ hcs 1 (by omega)
  ·exact add_off a (i * 11) 1 ▸ hcs 2 (by omega)
  ·exact add_off a (i * 11) 2 ▸ hcs 3 (by omega)
  ·exact add_off a (i * 11) 3 ▸ hcs 4 (by omega)
  ·exact add_off a (i * 11) 4 ▸ hcs 5 (by omega)
  ·exact add_off a (i * 11) 5 ▸ hcs 6 (by omega)
  ·exact add_off a (i * 11) 6 ▸ hcs 7 (by omega)
  ·exact add_off a (i * 11) 7 ▸ hcs 8 (by omega)
  ·exact add_off a (i * 11) 8 ▸ hcs 9 (by omega)
  ·exact add_off a (i * 11) 9 ▸ hcs 10 (by omega)



mutual
def wIn (left lv : Nat) : Tree → Bool × Nat
 | .node _ ks => if left = 0 ∨ lv = 0 then (false, left) else wIns (left - 1) (lv - 1) ks
def wIns (left lv : Nat) : List Tree → Bool × Nat
 | [] => (true, left)
 | t :: r => if (wIn left lv t).1 then wIns (wIn left lv t).2 lv r else (false, (wIn left lv t).2)
end
end Go.Proofs.YtkliclihpobmiaaGreatDoor
/- within: contract. -/
namespace Go.Proofs.YtkliclihpobmiaaGreatDoor
open Go Go.RowKit
set_option linter.unusedVariables false

theorem wIns_nil (left lv : Nat) : wIns left lv [] = (true, left) := by rw [wIns]
theorem wIns_cons (left lv : Nat) (t : Tree) (r : List Tree) : wIns left lv (t :: r) = if (wIn left lv t).1 then wIns (wIn left lv t).2 lv r else (false, (wIn left lv t).2) := by rw [wIns]
theorem wIn_node (left lv : Nat) (l : Lab) (ks : List Tree) : wIn left lv (.node l ks) = if left = 0 ∨ lv = 0 then (false, left) else wIns (left - 1) (lv - 1) ks := by rw [wIn]
mutual
theorem wIn_le (left lv : Nat) : ∀ t, (wIn left lv t).2 ≤ left
 | .node l ks => by
  rw [wIn_node]
  split
  ·exact Nat.le_refl _
  ·exact Nat.le_trans (wIns_le (left - 1) (lv - 1) ks) (Nat.sub_le _ _)
theorem wIns_le (left lv : Nat) : ∀ ks, (wIns left lv ks).2 ≤ left
 | [] => by rw [wIns_nil]; exact Nat.le_refl _
 | t :: r => by
  rw [wIns_cons]
  split
  ·exact Nat.le_trans (wIns_le _ lv r) (wIn_le left lv t)
  ·exact wIn_le left lv t
end
mutual
theorem wIn_iff (left lv : Nat) : ∀ t, ((wIn left lv t).1 = true ↔ count t ≤ left ∧ depth t ≤ lv) ∧ ((wIn left lv t).1 = true → (wIn left lv t).2 + count t = left)
 | .node l ks => by
  rw [wIn_node, count, depth]
  by_cases h : left = 0 ∨ lv = 0
  ·rw [if_pos h]
   simp
   omega
  ·rw [if_neg h]
   obtain ⟨h1, h2⟩ := wIns_iff (left - 1) (lv - 1) ks
   refine ⟨?_, fun ht => by have := h2 ht; omega⟩
   rw [h1]
   omega
theorem wIns_iff (left lv : Nat) : ∀ ks, ((wIns left lv ks).1 = true ↔ counts ks ≤ left ∧ depths ks ≤ lv) ∧ ((wIns left lv ks).1 = true → (wIns left lv ks).2 + counts ks = left)
 | [] => by rw [wIns_nil, counts, depths]; simp
 | t :: r => by
  rw [wIns_cons, counts, depths]
  obtain ⟨h1, h2⟩ := wIn_iff left lv t
  by_cases ht : (wIn left lv t).1 = true
  ·rw [if_pos ht]
   obtain ⟨h3, h4⟩ := wIns_iff (wIn left lv t).2 lv r
   have h5 := h2 ht
   have h6 := h1.1 ht
   refine ⟨?_, fun hr => by have := h4 hr; omega⟩
   rw [h3]
   omega
  ·rw [if_neg ht]
   refine ⟨⟨fun h => by simp at h, fun h => absurd (h1.2 ⟨by omega, by omega⟩) ht⟩, fun h => by simp at h⟩
end

structure WS (w : World) (Lf Lw left : Nat) : Prop where
 cf : w.cell? ⟨Lf, 0, none⟩ = some (.int .i64 (left : Int))
 ff : w.frozen? ⟨Lf, 0, none⟩ = false
 cw : w.cell? ⟨Lw, 0, none⟩ = some (.func (Fn.func 59) #[] #[.pointer (some ⟨Lf, 0, none⟩), .pointer (some ⟨Lw, 0, none⟩)])
 lf : Lf < w.heap.size
 lw : Lw < w.heap.size
theorem WS.alloc {w : World} {Lf Lw left : Nat} (h : WS w Lf Lw left) (o : Obj) : WS (w.alloc o) Lf Lw left := by
 have hb := (Below.refl w.heap.size w).alloc (Nat.le_refl _) o
 exact ⟨by rw [hb.cell (p := ⟨Lf, 0, none⟩) h.lf]; exact h.cf, by rw [hb.frozen (p := ⟨Lf, 0, none⟩) h.lf]; exact h.ff, by rw [hb.cell (p := ⟨Lw, 0, none⟩) h.lw]; exact h.cw, Nat.lt_of_lt_of_le h.lf hb.size, Nat.lt_of_lt_of_le h.lw hb.size⟩
theorem WS.dec {w : World} {Lf Lw left : Nat} (h : WS w Lf Lw left) (hne : Lf ≠ Lw) (v : Nat) : WS (w.setCell ⟨Lf, 0, none⟩ (.int .i64 (v : Int))) Lf Lw v := by
 have hob : (w.setCell ⟨Lf, 0, none⟩ (.int .i64 (v : Int))).heap[Lw]? = w.heap[Lw]? := Below.heap_setCell _ _ _ _ (fun e => hne e.symm)
 exact ⟨World.cell?_setCell_same' _ _ _ (by rw [h.cf]; rfl), (World.frozen?_setCell _ _ _ _).trans h.ff, by rw [cell_same (a := ⟨Lw, 0, none⟩) hob]; exact h.cw, by rw [size_setCell]; exact h.lf, by rw [size_setCell]; exact h.lw⟩
def TW (w : World) (Lf : Nat) (cs : List Value) (t : Tree) : Prop := TreeAt w (· < Lf) cs t
theorem TW.st {w w' : World} {Lf : Nat} {cs : List Value} {t : Tree} (h : TW w Lf cs t) (hs : St w w' Lf) : TW w' Lf cs t :=
 h.keep (fun k hk hl => World.grownBy.block hs k hl (fun e => by injection e with e; omega)) fun _ hk _ => hk
def WalkOK (Lf Lw lv : Nat) : Prop := ∀ (left : Nat) (t : Tree) (l : Lab) (x : Option Addr) (n k : Nat) (w : World), left ≤ 20000 → TW w Lf [.int .i64 l.kind, .string (str l.name), .int .u64 l.num, .int .i64 l.wd, .bool l.sg, .int .i64 l.op, .int .i64 l.fac, .int .i64 l.pip, .int .i64 l.unr, .int .i64 l.line, .slice x n k] t → WS w Lf Lw left →
 Calls Tryz.prog 59 #[.agg #[.int .i64 l.kind, .string (str l.name), .int .u64 l.num, .int .i64 l.wd, .bool l.sg, .int .i64 l.op, .int .i64 l.fac, .int .i64 l.pip, .int .i64 l.unr, .int .i64 l.line, .slice x n k], .int .i64 (lv : Int), .pointer (some ⟨Lf, 0, none⟩), .pointer (some ⟨Lw, 0, none⟩)] w fun e w' => e = .returned (.bool (wIn left lv t).1) ∧ WS w' Lf Lw (wIn left lv t).2 ∧ St w w' Lf

set_option maxHeartbeats 1000000 in
set_option maxRecDepth 100000 in
theorem inner_any {Lf Lw lv : Nat} (H : WalkOK Lf Lw lv) (hlv : lv < 200) (left : Nat) (hleft : left ≤ 20000) (t : Tree) (l : Lab) (x : Option Addr) (n k : Nat) (L5 : Nat) (w : World) (hT : TW w Lf [.int .i64 l.kind, .string (str l.name), .int .u64 l.num, .int .i64 l.wd, .bool l.sg, .int .i64 l.op, .int .i64 l.fac, .int .i64 l.pip, .int .i64 l.unr, .int .i64 l.line, .slice x n k] t) (hS : WS w Lf Lw left) (h5 : w.cell? ⟨L5, 0, none⟩ = some (.int .i64 ((lv : Int) + 1))) (hl5 : L5 < w.heap.size) :
  Calls Tryz.prog 61 #[.agg #[.int .i64 l.kind, .string (str l.name), .int .u64 l.num, .int .i64 l.wd, .bool l.sg, .int .i64 l.op, .int .i64 l.fac, .int .i64 l.pip, .int .i64 l.unr, .int .i64 l.line, .slice x n k], .pointer (some ⟨Lw, 0, none⟩), .pointer (some ⟨L5, 0, none⟩)] w fun e w' => e = .returned (.bool !(wIn left lv t).1) ∧ WS w' Lf Lw (wIn left lv t).2 ∧ St w w' Lf := by
 have hcw := hS.cw
 have hlw := hS.lw
 have HS := Hd (hS.alloc (.cells #[.int .i64 l.kind, .string (str l.name), .int .u64 l.num, .int .i64 l.wd, .bool l.sg, .int .i64 l.op, .int .i64 l.fac, .int .i64 l.pip, .int .i64 l.unr, .int .i64 l.line, .slice x n k] 28))
 have HT : Hid (TW (w.alloc (.cells #[.int .i64 l.kind, .string (str l.name), .int .u64 l.num, .int .i64 l.wd, .bool l.sg, .int .i64 l.op, .int .i64 l.fac, .int .i64 l.pip, .int .i64 l.unr, .int .i64 l.line, .slice x n k] 28)) Lf [.int .i64 l.kind, .string (str l.name), .int .u64 l.num, .int .i64 l.wd, .bool l.sg, .int .i64 l.op, .int .i64 l.fac, .int .i64 l.pip, .int .i64 l.unr, .int .i64 l.line, .slice x n k] t) := Hd (hT.st ((St.refl w Lf).alloc _))
 have HC := Hd H
 have hc5 := h5
 have HST := Hd ((St.refl w Lf).alloc (.cells #[.int .i64 l.kind, .string (str l.name), .int .u64 l.num, .int .i64 l.wd, .bool l.sg, .int .i64 l.op, .int .i64 l.fac, .int .i64 l.pip, .int .i64 l.unr, .int .i64 l.line, .slice x n k] 28))
 have HC2 := Hd (HC.out left t l x n k _ hleft HT.out HS.out)
 clear hS hT H h5 HC HT HS
 generalize wIn left lv t = W2 at *
 obtain ⟨b, l3⟩ := W2
 go_enter Tryz.func61, Tryz.ntmps61
 go_wp2_with fail
 refine HC2.out.mono ?_
 rintro e w1 ⟨rfl, hs, hst⟩
 have H1 := Hd (And.intro hs (St.trans HST.out hst))
 clear hs hst
 go_wp2
 go_ret
 exact ⟨rfl, H1.out.1, H1.out.2⟩

structure IxSt (Lf Lw lv L5 : Nat) (ks : List Tree) (Z : Bool × Nat) (w wr : World) (i left : Nat) : Prop where
 ws : WS wr Lf Lw left
 st : St w wr Lf
 le : left ≤ 20000
 eq : Z = wIns left lv (ks.drop i)

set_option maxHeartbeats 1000000 in
set_option maxRecDepth 100000 in
theorem index_any {Lf Lw lv : Nat} (H : WalkOK Lf Lw lv) (hlv : lv < 200) (left : Nat) (hleft : left ≤ 20000) (ks : List Tree) (x : Option Addr) (k : Nat) (hk : ks.length ≤ maxLen) (L5 : Nat) (w : World)
  (hT : ∀ i (hi : i < ks.length), ∃ a, x = some a ∧ a.block < Lf ∧ KidAt w (· < Lf) a i (kat ks i)) (hS : WS w Lf Lw left) (h5 : w.cell? ⟨L5, 0, none⟩ = some (.int .i64 ((lv : Int) + 1))) (hl5 : Lf < L5 ∧ L5 < w.heap.size) :
  Calls Tryz.prog 101 #[.slice x ks.length k, .func (Fn.func 61) #[] #[.pointer (some ⟨Lw, 0, none⟩), .pointer (some ⟨L5, 0, none⟩)]] w fun e w' => (∃ r : Int, e = .returned (.int .i64 r) ∧ decide (0 ≤ r) = !(wIns left lv ks).1) ∧ WS w' Lf Lw (wIns left lv ks).2 ∧ St w w' Lf := by
 have h0 : Hid (IxSt Lf Lw lv L5 ks (wIns left lv ks) w w 0 left) := ⟨hS, St.refl _ _, hleft, rfl⟩
 obtain ⟨Z, hZ⟩ : ∃ Z, Z = wIns left lv ks := ⟨_, rfl⟩
 rw [← hZ] at h0 ⊢
 have HIN := Hd fun left hleft t l x n k W hT hS h5 hl5 => inner_any H hlv left hleft t l x n k L5 W hT hS h5 hl5
 have HT := Hd hT
 have H5 := Hd h5
 unfold maxLen at hk
 clear hS hT h5 H hZ hleft
 generalize hN : ks.length = N at *
 have HN := Hd hN
 clear hN
 go_enter Tryz.func101, Tryz.ntmps101
 go_wp2
 go_loopw [8] (fun i wr => ∃ j left : Nat, j ≤ N ∧ i = .int .i64 (j : Int) ∧ Hid (IxSt Lf Lw lv L5 ks Z w wr j left)) (fun i _ => N - (intOf i).toNat)
 case atStart => exact ⟨0, left, by omega, rfl, h0⟩
 case round =>
  clear h0
  obtain ⟨j, lf, hj, rfl, hX⟩ := hrel
  by_cases hjn : j < N
  ·have hjk : j < ks.length := by rw [HN.out]; exact hjn
   obtain ⟨a, hxa, hab, hkid⟩ := HT.out j hjn
   subst hxa
   obtain ⟨l2, x2, n2, k2, ⟨e0, e1, e2, e3, e4, e5, e6, e7, e8, e9, e10⟩, hT3⟩ := hkid.keep (w' := wr) (Q := (· < Lf)) hab (fun g hg hl => World.grownBy.block hX.out.st g hl (fun e => by injection e with e; omega)) fun _ hg _ => hg
   have h5r : wr.cell? ⟨L5, 0, none⟩ = some (.int .i64 ((lv : Int) + 1)) := (cell_same (w := w) (w' := wr) (a := ⟨L5, 0, none⟩) (World.grownBy.block hX.out.st L5 hl5.2 (fun e => by injection e with e; omega))).trans H5.out
   have HC := Hd (HIN.out lf hX.out.le (kat ks j) l2 x2 n2 k2 wr hT3 hX.out.ws h5r (Nat.lt_of_lt_of_le hl5.2 (St.size hX.out.st)))
   have hdr : ks.drop j = (kat ks j) :: ks.drop (j + 1) := drop_kat hjk
   have HZ : Hid (Z = if (wIn lf lv (kat ks j)).1 then wIns (wIn lf lv (kat ks j)).2 lv (ks.drop (j + 1)) else (false, (wIn lf lv (kat ks j)).2)) := Hd (by rw [hX.out.eq, hdr, wIns_cons])
   have HLE := Hd (Nat.le_trans (wIn_le lf lv (kat ks j)) hX.out.le)
   clear hT3 h5r hdr hkid
   generalize hW : wIn lf lv (kat ks j) = W2 at *
   obtain ⟨b, l3⟩ := W2
   clear hW
   cases b with
   | true =>
    go_wp2_with fail
    refine HC.out.mono ?_
    rintro e w2 ⟨rfl, hs, hst⟩
    have HX : Hid (IxSt Lf Lw lv L5 ks Z w w2 (j + 1) l3) := ⟨hs, St.trans hX.out.st hst, HLE.out, HZ.out⟩
    clear hs hst HC e0 e1 e2 e3 e4 e5 e6 e7 e8 e9 e10
    go_wp2
    go_roundw
    case rel => exact ⟨j + 1, l3, by omega, by go_num, HX⟩
    case measure => simp [intOf]; omega
   | false =>
    go_wp2_with fail
    refine HC.out.mono ?_
    rintro e w2 ⟨rfl, hs, hst⟩
    have HX := Hd (And.intro hs (St.trans hX.out.st hst))
    have hz : Z = (false, l3) := HZ.out
    subst hz
    clear hs hst HC e0 e1 e2 e3 e4 e5 e6 e7 e8 e9 e10
    go_wp2
    go_ret
    exact ⟨⟨_, rfl, by simp⟩, HX.out.1, HX.out.2⟩
  ·have hz : Z = (true, lf) := by rw [hX.out.eq, List.drop_of_length_le (by rw [HN.out]; omega), wIns_nil]
   subst hz
   go_wp2
   go_ret
   exact ⟨⟨_, rfl, by simp⟩, hX.out.ws, hX.out.st⟩
end Go.Proofs.YtkliclihpobmiaaGreatDoor
