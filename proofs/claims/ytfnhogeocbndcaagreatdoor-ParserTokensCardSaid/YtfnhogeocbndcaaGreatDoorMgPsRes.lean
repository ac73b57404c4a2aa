/- What the parser makes of nested brackets and of many operators of one operand. Nothing of the program stands here. -/
import Derived.Test.YtfnhogeocbndcaaGreatDoorMgPsLx
import Derived.Test.YtfnhogeocbndcaaGreatDoorMgPsSame
namespace Go.Proofs.YtfnhogeocbndcaaGreatDoor
open Go Go.RowKit
set_option linter.unusedVariables false

theorem skip_lf : ∀ (q : Nat) (w : List UInt8), skipM false (List.replicate q 10 ++ w) = q + skipM false w := by
  intro q
  induction q with
  | zero => intro w; simp
  | succ q ih =>
    intro w
    rw [List.replicate_succ, List.cons_append, skipF, if_pos (by decide), ih]
    omega
theorem skip_tok {c : UInt8} {v : List UInt8} (hb : isBlank c = false) (h : c ≠ 47) : skipM false (c :: v) = 0 := by
  rw [skipF, if_neg (by rw [hb]; simp), if_neg (fun h2 => h h2.1)]
theorem skip_sptok {c : UInt8} {v : List UInt8} (hb : isBlank c = false) (h : c ≠ 47) : skipM false (32 :: c :: v) = 1 := by
  rw [skipF, if_pos (by decide), skip_tok hb h]
theorem skip_lftok {c : UInt8} {v : List UInt8} (hb : isBlank c = false) (h : c ≠ 47) : skipM false (10 :: c :: v) = 1 := by
  rw [skipF, if_pos (by decide), skip_tok hb h]
/-- A token of letters before a byte that belongs to no word. -/
theorem word_tok {t : List UInt8} {c : UInt8} {v : List UInt8} (ha : t.all inW = true) (hc : inW c = false) : run (t ++ c :: v) = t := by
  unfold run
  rw [List.takeWhile_append_of_pos (fun x hx => List.all_eq_true.1 ha x hx), List.takeWhile_cons, if_neg (by rw [hc]; simp), List.append_nil]
theorem LX.word {t : List UInt8} {c : UInt8} {v g : List UInt8} {k line ln : Nat} {sp : List Sp} (hs : skipM false (g ++ (t ++ c :: v)) = g.length) (ha : t.all inW = true) (hne : t ≠ []) (hc : inW c = false) (hd : t.head?.any isDec = false) (hl : t.length ≤ 64) (hk : (if isKey t = true then 2 else 1) = k)
    (hln : line + lineFeeds g = ln) (h : LX (c :: v) ln sp) : LX (g ++ (t ++ c :: v)) line ((k, t, 0, ln) :: sp) := by
  have hr := word_tok (v := v) ha hc
  refine .cons g t k 0 ln rfl hs hne ?_ ?_ ?_ ?_ hln h
  · unfold tokErr
    rw [hr, if_neg hne, hd]
    simp only [Bool.false_eq_true, if_false]
    rw [if_neg (by omega)]
  · unfold tokLen
    rw [hr, if_neg hne]
  · unfold tokKind
    rw [hr, if_neg hne, hd]
    simp only [Bool.false_eq_true, if_false]
    exact hk
  · unfold tokNum
    rw [hr, hd, if_neg (by simp)]
theorem LX.num1 {c : UInt8} {v g : List UInt8} {line ln : Nat} {sp : List Sp} (hs : skipM false (g ++ ([49] ++ c :: v)) = g.length) (hc : inW c = false) (hln : line + lineFeeds g = ln) (h : LX (c :: v) ln sp) : LX (g ++ ([49] ++ c :: v)) line ((3, [49], 1, ln) :: sp) := by
  have hr := word_tok (t := [49]) (v := v) (by decide) hc
  refine .cons g [49] 3 1 ln rfl hs (by simp) ?_ ?_ ?_ ?_ hln h
  · unfold tokErr
    rw [hr, if_neg (by simp)]
    decide
  · unfold tokLen
    rw [hr]
    rfl
  · unfold tokKind
    rw [hr]
    decide
  · unfold tokNum
    rw [hr]
    decide
def noPair (c : UInt8) : Bool := (List.range 256).all fun n => !pairs.contains [c, UInt8.ofNat n]
theorem noPair_all {c : UInt8} (h : noPair c = true) (v : List UInt8) : ∀ x r', v = x :: r' → pairs.contains [c, x] = false := by
  intro x r' _
  have := all_u8 (fun x => !pairs.contains [c, x]) h x
  simpa using this
theorem pair_head {c x : UInt8} {v : List UInt8} (h : pairs.contains [c, x] = false) : ∀ y r', x :: v = y :: r' → pairs.contains [c, y] = false := by
  intro y r' he
  injection he with he _
  rw [← he]
  exact h
def kwKernel : List UInt8 := [107, 101, 114, 110, 101, 108]
/-- The beginning of the text: blanks g, then a kernel up to the sign of equality; b is a blank. -/
theorem lx_pre {g : List UInt8} {b : UInt8} {v : List UInt8} {L L2 : Nat} {sp : List Sp} (hg : skipM false (g ++ (kwKernel ++ 32 :: ([107] ++ 40 :: 41 :: 32 :: 123 :: b :: ([108, 101, 116] ++ 32 :: ([97] ++ 32 :: 61 :: 32 :: v))))) = g.length) (hL : 1 + lineFeeds g = L) (hb : b = 32 ∨ b = 10) (hb2 : L + lineFeeds [b] = L2)
    (h : LX (32 :: v) L2 sp) : LX (g ++ (kwKernel ++ 32 :: ([107] ++ 40 :: 41 :: 32 :: 123 :: b :: ([108, 101, 116] ++ 32 :: ([97] ++ 32 :: 61 :: 32 :: v))))) 1 (preS L L2 ++ sp) := by
  have lf32 : lineFeeds [32] = 0 := by decide
  have lf0 : lineFeeds [] = 0 := rfl
  have s61 : LX ([32] ++ ([61] ++ 32 :: v)) L2 ((4, [61], 0, L2 + lineFeeds [32]) :: sp) := LX.punct (skip_sptok (by decide) (by decide)) (by decide) (by decide) (pair_head (by decide)) (by rw [lf32]; exact h)
  rw [lf32, Nat.add_zero] at s61
  have sa : LX ([32] ++ ([97] ++ 32 :: 61 :: 32 :: v)) L2 _ := LX.word (k := 1) (ln := L2) (skip_sptok (by decide) (by decide)) (by decide) (by simp) (by decide) (by decide) (by decide) (by decide +kernel) (by rw [lf32]; rfl) s61
  have slet : LX ([b] ++ ([108, 101, 116] ++ 32 :: ([97] ++ 32 :: 61 :: 32 :: v))) L _ := LX.word (k := 2) (ln := L2) (by rcases hb with rfl | rfl; exact skip_sptok (by decide) (by decide); exact skip_lftok (by decide) (by decide)) (by decide) (by simp) (by decide) (by decide) (by decide) (by decide +kernel) hb2 sa
  have sbr : LX ([32] ++ ([123] ++ b :: ([108, 101, 116] ++ 32 :: ([97] ++ 32 :: 61 :: 32 :: v)))) L _ := LX.punct (skip_sptok (by decide) (by decide)) (by decide) (by decide) (noPair_all (by decide +kernel) _) (by rw [lf32, Nat.add_zero]; exact slet)
  rw [lf32, Nat.add_zero] at sbr
  have s41 : LX ([] ++ ([41] ++ 32 :: 123 :: b :: ([108, 101, 116] ++ 32 :: ([97] ++ 32 :: 61 :: 32 :: v)))) L _ := LX.punct (skip_tok (by decide) (by decide)) (by decide) (by decide) (noPair_all (by decide +kernel) _) (by rw [lf0, Nat.add_zero]; exact sbr)
  rw [lf0, Nat.add_zero] at s41
  have s40 : LX ([] ++ ([40] ++ 41 :: 32 :: 123 :: b :: ([108, 101, 116] ++ 32 :: ([97] ++ 32 :: 61 :: 32 :: v)))) L _ := LX.punct (skip_tok (by decide) (by decide)) (by decide) (by decide) (noPair_all (by decide +kernel) _) (by rw [lf0, Nat.add_zero]; exact s41)
  rw [lf0, Nat.add_zero] at s40
  have sk : LX ([32] ++ ([107] ++ 40 :: 41 :: 32 :: 123 :: b :: ([108, 101, 116] ++ 32 :: ([97] ++ 32 :: 61 :: 32 :: v)))) L _ := LX.word (k := 1) (ln := L) (skip_sptok (by decide) (by decide)) (by decide) (by simp) (by decide) (by decide) (by decide) (by decide +kernel) (by rw [lf32]; rfl) s40
  exact LX.word (k := 2) (ln := L) hg (by decide) (by simp [kwKernel]) (by decide) (by decide) (by decide) (by decide +kernel) hL sk
/-- The end of the text. -/
theorem lx_end (L2 : Nat) : LX (59 :: 32 :: 125 :: []) L2 [(4, [59], 0, L2), (4, [125], 0, L2)] := by
  have lf32 : lineFeeds [32] = 0 := by decide
  have lf0 : lineFeeds [] = 0 := rfl
  have s2 : LX ([32] ++ ([125] ++ [])) L2 _ := LX.punct (skip_sptok (by decide) (by decide)) (by decide) (by decide) (noPair_all (by decide +kernel) _) (LX.nil (line := L2 + lineFeeds [32]) rfl)
  rw [lf32, Nat.add_zero] at s2
  have s1 : LX ([] ++ ([59] ++ 32 :: 125 :: [])) L2 _ := LX.punct (skip_tok (by decide) (by decide)) (by decide) (by decide) (noPair_all (by decide +kernel) _) (by rw [lf0, Nat.add_zero]; exact s2)
  rw [lf0, Nat.add_zero] at s1
  exact s1
theorem lx_many {c : UInt8} (hw : inW c = false) (h1 : isPunct c = true) (hb : isBlank c = false) (h47 : c ≠ 47) (hp : noPair c = true) (L2 : Nat) {v : List UInt8} {sp : List Sp} (h : LX v L2 sp) : ∀ n, LX (List.replicate n c ++ v) L2 (List.replicate n (4, [c], 0, L2) ++ sp) := by
  have lf0 : lineFeeds [] = 0 := rfl
  intro n
  induction n with
  | zero => exact h
  | succ n ih =>
    have s1 : LX ([] ++ ([c] ++ (List.replicate n c ++ v))) L2 _ := LX.punct (skip_tok hb h47) hw h1 (noPair_all hp _) (by rw [lf0, Nat.add_zero]; exact ih)
    rw [lf0, Nat.add_zero] at s1
    rw [List.replicate_succ, List.replicate_succ]
    exact s1
theorem LX.sp {c : UInt8} {v : List UInt8} {L : Nat} {x : Sp} {sp : List Sp} (hb : isBlank c = false) (h47 : c ≠ 47) (h : LX (c :: v) L (x :: sp)) : LX (32 :: c :: v) L (x :: sp) := by
  cases h with
  | cons g t k num ln hr hs hne he hl hk hn hln h =>
    have h0 : skipM false (c :: v) = 0 := skip_tok hb h47
    rw [h0] at hs
    have hg : g = [] := List.length_eq_zero_iff.1 hs.symm
    subst hg
    have lf : lineFeeds [32] = 0 := by decide
    exact .cons [32] t k num _ (by rw [hr]; rfl) (skip_sptok hb h47) hne he hl hk hn (by rw [lf]; exact hln) h
def brText (n q : Nat) : List UInt8 := List.replicate q 10 ++ (kwKernel ++ 32 :: ([107] ++ 40 :: 41 :: 32 :: 123 :: 32 :: ([108, 101, 116] ++ 32 :: ([97] ++ 32 :: 61 :: 32 :: (List.replicate n 40 ++ ([49] ++ (List.replicate n 41 ++ [59, 32, 125])))))))
def brS (n L : Nat) : List Sp := List.replicate n (4, [40], 0, L) ++ ((3, [49], 1, L) :: (List.replicate n (4, [41], 0, L) ++ [(4, [59], 0, L), (4, [125], 0, L)]))
theorem br_lx (n q : Nat) : LX (brText n q) 1 (preS (1 + q) (1 + q) ++ brS n (1 + q)) := by
  have lf32 : lineFeeds [32] = 0 := by decide
  have lf0 : lineFeeds [] = 0 := rfl
  have hlf : lineFeeds (List.replicate q 10) = q := by unfold lineFeeds; rw [List.count_replicate]; simp
  have s1 := lx_many (c := 41) (by decide) (by decide) (by decide) (by decide) (by decide +kernel) (1 + q) (lx_end (1 + q)) n
  have hhd : ∃ c v, List.replicate n 41 ++ [59, 32, 125] = c :: v ∧ inW c = false := by
    cases n with
    | zero => exact ⟨59, _, rfl, by decide⟩
    | succ n => exact ⟨41, _, by rw [List.replicate_succ]; rfl, by decide⟩
  have s2 : LX ([] ++ ([49] ++ (List.replicate n 41 ++ [59, 32, 125]))) (1 + q) ((3, [49], 1, 1 + q) :: (List.replicate n (4, [41], 0, 1 + q) ++ [(4, [59], 0, 1 + q), (4, [125], 0, 1 + q)])) := by
    obtain ⟨c, v, hv, hc⟩ := hhd
    rw [hv] at s1 ⊢
    exact LX.num1 (skip_tok (by decide) (by decide)) hc (by rw [lf0]; rfl) s1
  have s3 := lx_many (c := 40) (by decide) (by decide) (by decide) (by decide) (by decide +kernel) (1 + q) s2 n
  have s4 : LX (32 :: (List.replicate n 40 ++ ([] ++ ([49] ++ (List.replicate n 41 ++ [59, 32, 125]))))) (1 + q) (brS n (1 + q)) := by
    unfold brS
    cases n with
    | zero => exact LX.sp (by decide) (by decide) s3
    | succ n => exact LX.sp (c := 40) (by decide) (by decide) s3
  exact lx_pre (by rw [skip_lf]; unfold kwKernel; rw [List.length_replicate]; show q + skipM false (107 :: _) = q; rw [skip_tok (by decide) (by decide)]; rfl) (by rw [hlf]) (.inl rfl) (by rw [lf32]; rfl) s4
end Go.Proofs.YtfnhogeocbndcaaGreatDoor
/- The trees of nested brackets and of many operators of one operand. Nothing of the program stands here. -/
namespace Go.Proofs.YtfnhogeocbndcaaGreatDoor
open Go Go.RowKit
set_option linter.unusedVariables false

def numT (L : Nat) : Tree := .node { labK 18 L with num := 1 } []
def nameT (L : Nat) : Tree := .node { labK 19 L with name := [120] } []
def chainT (L o : Nat) : Nat → Tree
  | 0 => nameT L
  | n + 1 => .node { labK 21 L with op := o } [chainT L o n]
theorem par_expr {ts : List Tok} {L : Nat} : ∀ (n i k : Nat), (∀ j, j < n → kd ts ⟨i + j, false⟩ = 4 ∧ tx ts ⟨i + j, false⟩ = [40]) → kd ts ⟨i + n, false⟩ = 3 → tx ts ⟨i + n, false⟩ = [49] → (nxt ts ⟨i + n, false⟩).num = 1 → ln ts ⟨i + n, false⟩ = L →
    (∀ j, j < n → tx ts ⟨i + n + 1 + j, false⟩ = [41]) → (tx ts ⟨i + 2 * n + 1, false⟩ = [41] ∨ tx ts ⟨i + 2 * n + 1, false⟩ = [59]) → E ts (14 * (n + 1) + k) .ex ⟨i, false⟩ = (numT L, ⟨i + 2 * n + 1, false⟩) := by
  intro n
  induction n with
  | zero =>
    intro i k _ h1 h2 h3 h4 _ h5
    rw [Nat.add_zero] at h1 h2 h3 h4
    have hp : E ts (k + 1) .pr ⟨i, false⟩ = (numT L, ⟨i + 1, false⟩) := by rw [E, if_pos h1, h3, h4]; rfl
    have hu : E ts (k + 2) .un ⟨i, false⟩ = (numT L, ⟨i + 1, false⟩) := by
      rw [E, if_pos (by rw [opV_of h2]; decide)]
      exact hp
    have := pass_up (s' := ⟨i + 1, false⟩) h5 (by omega) hu
    rw [show 14 * (0 + 1) + k = k + 2 + 12 by omega]
    exact this
  | succ n ih =>
    intro i k h0 h1 h2 h3 h4 h5 h6
    have e1 : i + (n + 1) = i + 1 + n := by omega
    have e2 : i + 2 * (n + 1) + 1 = (i + 1 + 2 * n + 1) + 1 := by omega
    rw [e1] at h1 h2 h3 h4
    have hin := ih (i + 1) k (fun j hj => by have := h0 (j + 1) (by omega); rwa [show i + (j + 1) = i + 1 + j by omega] at this) h1 h2 h3 h4
      (fun j hj => by have := h5 j (by omega); rwa [e1] at this) (.inl (by have := h5 n (by omega); rwa [show i + (n + 1) + 1 + n = i + 1 + 2 * n + 1 by omega] at this))
    have hsh : tx ts ⟨i + 1 + 2 * n + 1, false⟩ = [41] := by have := h5 n (by omega); rwa [show i + (n + 1) + 1 + n = i + 1 + 2 * n + 1 by omega] at this
    obtain ⟨hk, ht⟩ := h0 0 (by omega)
    rw [Nat.add_zero] at hk ht
    have hp : E ts (14 * (n + 1) + k + 1) .pr ⟨i, false⟩ = (numT L, ⟨i + 1 + 2 * n + 1 + 1, false⟩) := by
      have q1 : hasT ts ⟨i, false⟩ [116, 114, 117, 101] = false := by rw [has_of ht]; decide
      have q2 : hasT ts ⟨i, false⟩ [102, 97, 108, 115, 101] = false := by rw [has_of ht]; decide
      have q3 : hasT ts ⟨i, false⟩ [114, 101, 99, 118] = false := by rw [has_of ht]; decide
      have q4 : hasT ts ⟨i, false⟩ [40] = true := by rw [has_of ht]; decide
      have e : adv ⟨i, false⟩ = ⟨i + 1, false⟩ := rfl
      rw [E, if_neg (by omega), q1, q2, q3, q4, e, hin]
      simp only [Bool.false_eq_true, if_false, if_true]
      rw [exc_of hsh]
    have hu : E ts (14 * (n + 1) + k + 2) .un ⟨i, false⟩ = (numT L, ⟨i + 1 + 2 * n + 1 + 1, false⟩) := by
      rw [E, if_pos (by rw [opV_of ht]; decide)]
      exact hp
    rw [e2] at h6 ⊢
    have := pass_up (s' := ⟨i + 1 + 2 * n + 1 + 1, false⟩) h6 (by omega) hu
    rw [show 14 * (n + 1 + 1) + k = 14 * (n + 1) + k + 2 + 12 by omega]
    exact this
theorem un_expr {ts : List Tok} {L o : Nat} {c : UInt8} (ho : o ≠ 0) (hop : (((levelOps 10).find? fun p => decide ([c] = p.1)).map (·.2)).getD 0 = o) : ∀ (n i k : Nat), (∀ j, j < n → tx ts ⟨i + j, false⟩ = [c] ∧ ln ts ⟨i + j, false⟩ = L) → kd ts ⟨i + n, false⟩ = 1 → tx ts ⟨i + n, false⟩ = [120] → ln ts ⟨i + n, false⟩ = L →
    tx ts ⟨i + n + 1, false⟩ = [59] → E ts (n + 3 + k) .un ⟨i, false⟩ = (chainT L o n, ⟨i + n + 1, false⟩) := by
  intro n
  induction n with
  | zero =>
    intro i k _ h1 h2 h3 h4
    rw [Nat.add_zero] at h1 h2 h3 h4
    have q1 : hasT ts ⟨i, false⟩ [116, 114, 117, 101] = false := by rw [has_of h2]; decide
    have q2 : hasT ts ⟨i, false⟩ [102, 97, 108, 115, 101] = false := by rw [has_of h2]; decide
    have q3 : hasT ts ⟨i, false⟩ [114, 101, 99, 118] = false := by rw [has_of h2]; decide
    have q4 : hasT ts ⟨i, false⟩ [40] = false := by rw [has_of h2]; decide
    have q5 : hasT ts ⟨i + 1, false⟩ [40] = false := by rw [has_of h4]; decide
    have q6 : hasT ts ⟨i + 1, false⟩ [91] = false := by rw [has_of h4]; decide
    have hs : E ts (k + 1) .us ⟨i, false⟩ = (nameT L, ⟨i + 1, false⟩) := by
      rw [E, nmS_of h1, q5, q6]
      simp only [Bool.false_eq_true, if_false]
      rw [nmV_of h1, h2, h3]
      rfl
    have hp : E ts (k + 2) .pr ⟨i, false⟩ = (nameT L, ⟨i + 1, false⟩) := by
      rw [E, if_neg (by omega), q1, q2, q3, q4]
      simp only [Bool.false_eq_true, if_false]
      exact hs
    rw [show 0 + 3 + k = (k + 2) + 1 by omega, E, if_pos (by rw [opV_of h2]; decide)]
    exact hp
  | succ n ih =>
    intro i k h0 h1 h2 h3 h4
    have e1 : i + (n + 1) = i + 1 + n := by omega
    rw [e1] at h1 h2 h3 h4
    have hin := ih (i + 1) k (fun j hj => by have := h0 (j + 1) (by omega); rwa [show i + (j + 1) = i + 1 + j by omega] at this) h1 h2 h3 h4
    obtain ⟨ht, hl⟩ := h0 0 (by omega)
    rw [Nat.add_zero] at ht hl
    have hv : opV ts ⟨i, false⟩ 10 = o := by rw [opV_of ht]; exact hop
    rw [show n + 1 + 3 + k = (n + 3 + k) + 1 by omega, E, if_neg (by rw [hv]; exact ho)]
    rw [hv, show adv ⟨i, false⟩ = ⟨i + 1, false⟩ from rfl, hin, hl, e1]
    rfl
/-- The first line at which too many brackets are open, from what a list of tokens shows. -/
def crowdS : Nat → List Sp → Nat
  | _, [] => 0
  | o, t :: r => if 200 < (if isOpen t.2.1 then o + 1 else if isShut t.2.1 then o - 1 else o) then t.2.2.2 else crowdS (if isOpen t.2.1 then o + 1 else if isShut t.2.1 then o - 1 else o) r
theorem crowd_key : ∀ (ts : List Tok) (o : Nat), crowd o ts = crowdS o (ts.map key) := by
  intro ts
  induction ts with
  | nil => intro o; rw [crowd]; rfl
  | cons t r ih =>
    intro o
    rw [crowd, List.map_cons, crowdS, ih]
    rfl
theorem crowdS_open {x : Sp} (h : isOpen x.2.1 = true) (R : List Sp) : ∀ n o, o ≤ 200 → crowdS o (List.replicate n x ++ R) = if 200 < o + n then x.2.2.2 else crowdS (o + n) R := by
  intro n
  induction n with
  | zero => intro o ho; rw [if_neg (by omega)]; rfl
  | succ n ih =>
    intro o ho
    rw [List.replicate_succ, List.cons_append, crowdS, h]
    simp only [if_true]
    by_cases h2 : 200 < o + 1
    · rw [if_pos h2, if_pos (by omega)]
    · rw [if_neg h2, ih _ (by omega), show o + 1 + n = o + (n + 1) by omega]
theorem crowdS_shut {x : Sp} (h0 : isOpen x.2.1 = false) (h : isShut x.2.1 = true) (R : List Sp) : ∀ n o, o ≤ 200 → crowdS o (List.replicate n x ++ R) = crowdS (o - n) R := by
  intro n
  induction n with
  | zero => intro o ho; rfl
  | succ n ih =>
    intro o ho
    rw [List.replicate_succ, List.cons_append, crowdS, h0, h]
    simp only [Bool.false_eq_true, if_true, if_false]
    rw [if_neg (by omega), ih _ (by omega), show o - 1 - n = o - (n + 1) by omega]
theorem crowdS_other {x : Sp} (h0 : isOpen x.2.1 = false) (h : isShut x.2.1 = false) (R : List Sp) : ∀ n o, o ≤ 200 → crowdS o (List.replicate n x ++ R) = crowdS o R := by
  intro n
  induction n with
  | zero => intro o ho; rfl
  | succ n ih =>
    intro o ho
    rw [List.replicate_succ, List.cons_append, crowdS, h0, h]
    simp only [Bool.false_eq_true, if_false]
    rw [if_neg (by omega), ih _ (by omega)]
theorem crowdS_pre (L L2 : Nat) (R : List Sp) : crowdS 0 (preS L L2 ++ R) = crowdS 1 R := by
  unfold preS
  simp only [List.cons_append, List.nil_append, crowdS]
  simp [isOpen, isShut]
theorem crowdS_end (o L : Nat) (h : o ≤ 200) : crowdS o [(4, [59], 0, L), (4, [125], 0, L)] = 0 := by
  simp only [crowdS]
  simp [isOpen, isShut]
  rw [if_neg (by omega), if_neg (by omega)]
theorem getD_pre {L L2 : Nat} (X : List Sp) (i : Nat) : (preS L L2 ++ X).getD (8 + i) sp0 = X.getD i sp0 := by
  simp only [List.getD_eq_getElem?_getD]
  rw [List.getElem?_append_right (by simp [preS])]
  simp [preS]
theorem getD_rep {n : Nat} {x : Sp} (X : List Sp) {j : Nat} (h : j < n) : (List.replicate n x ++ X).getD j sp0 = x := by
  simp only [List.getD_eq_getElem?_getD]
  rw [List.getElem?_append_left (by simpa using h), List.getElem?_replicate, if_pos h]
  rfl
theorem getD_past {n : Nat} {x : Sp} (X : List Sp) (j : Nat) : (List.replicate n x ++ X).getD (n + j) sp0 = X.getD j sp0 := by
  simp only [List.getD_eq_getElem?_getD]
  rw [List.getElem?_append_right (by simp), List.length_replicate, Nat.add_sub_cancel_left]
theorem brS_get {n L : Nat} : (∀ j, j < n → (brS n L).getD j sp0 = (4, [40], 0, L)) ∧ (brS n L).getD n sp0 = (3, [49], 1, L) ∧ (∀ j, j < n → (brS n L).getD (n + 1 + j) sp0 = (4, [41], 0, L)) ∧ (brS n L).getD (2 * n + 1) sp0 = (4, [59], 0, L) ∧ (brS n L).getD (2 * n + 2) sp0 = (4, [125], 0, L) := by
  unfold brS
  refine ⟨fun j hj => getD_rep _ hj, getD_past _ 0, fun j hj => ?_, ?_, ?_⟩
  · rw [show n + 1 + j = n + (j + 1) by omega, getD_past]
    exact getD_rep _ hj
  · rw [show 2 * n + 1 = n + (n + 1) by omega, getD_past]
    exact getD_past (n := n) _ 0
  · rw [show 2 * n + 2 = n + (n + 1 + 1) by omega, getD_past]
    exact getD_past (n := n) _ 1
theorem brS_len (n L : Nat) : (brS n L).length = 2 * n + 3 := by unfold brS; simp; omega
theorem br_text_len (n q : Nat) : (brText n q).length = q + 25 + 2 * n := by unfold brText kwKernel; simp; omega
/-- What the parser makes of nested brackets. -/
theorem br_parse (n q : Nat) (hn : n ≤ 300) (hq : q ≤ 300) : (lexAll (brText n q)).2.2 = 0 ∧ (lexAll (brText n q)).1.map key = preS (1 + q) (1 + q) ++ brS n (1 + q) ∧
    parseM (brText n q) = if 200 < n + 1 then (tree0, 1 + q, 5) else (oneT (1 + q) (1 + q) (numT (1 + q)), 0, 0) := by
  obtain ⟨h1, h2⟩ := lx_all (br_lx n q) (by rw [br_text_len]; omega)
  refine ⟨h1, h2, ?_⟩
  obtain ⟨b1, b2, b3, b4, b5⟩ := brS_get (n := n) (L := 1 + q)
  obtain ⟨ts, hts⟩ : ∃ ts, ts = (lexAll (brText n q)).1 := ⟨_, rfl⟩
  rw [← hts] at h2
  have hcr : crowd 0 ts = if 200 < n + 1 then 1 + q else 0 := by
    rw [crowd_key, h2, crowdS_pre]
    unfold brS
    rw [crowdS_open (x := (4, [40], 0, 1 + q)) rfl _ n 1 (by omega), show 1 + n = n + 1 by omega]
    split
    · rfl
    · have e1 : ∀ R, crowdS (n + 1) ((3, [49], 1, 1 + q) :: R) = crowdS (n + 1) R := fun R => crowdS_other (x := (3, [49], 1, 1 + q)) rfl rfl R 1 (n + 1) (by omega)
      rw [e1, crowdS_shut (x := (4, [41], 0, 1 + q)) rfl rfl _ n (n + 1) (by omega), crowdS_end _ _ (by omega)]
  unfold parseM
  dsimp only
  rw [if_neg (by rw [h1]; simp), ← hts, hcr]
  by_cases hb : 200 < n + 1
  · rw [if_pos hb, if_pos (by omega), if_pos hb]
  · rw [if_neg hb, if_neg (by omega), if_neg hb]
    have g := fun i => getD_pre (L := 1 + q) (L2 := 1 + q) (brS n (1 + q)) i
    have hlen : ts.length = 8 + 2 * n + 1 + 2 := by have := congrArg List.length h2; rw [List.length_map, List.length_append, brS_len] at this; simp [preS] at this; omega
    have hx : xpr ts ⟨8, false⟩ = (numT (1 + q), ⟨8 + 2 * n + 1, false⟩) := by
      obtain ⟨a0, a1, a2, a3⟩ := see h2 ((g n).trans b2)
      obtain ⟨c0, c1, c2, c3⟩ := see h2 ((g (2 * n + 1)).trans b4)
      have := par_expr (ts := ts) (L := 1 + q) n 8 (big ts - 14 * (n + 1)) (fun j hj => by obtain ⟨d0, d1, _, _⟩ := see h2 ((g j).trans (b1 j hj)); exact ⟨d0, d1⟩) a0 a1 a2 a3
        (fun j hj => by obtain ⟨_, d1, _, _⟩ := see h2 ((g (n + 1 + j)).trans (b3 j hj)); rwa [← Nat.add_assoc, ← Nat.add_assoc] at d1) (.inr (by rwa [← Nat.add_assoc] at c1))
      unfold xpr
      rw [show big ts = 14 * (n + 1) + (big ts - 14 * (n + 1)) by unfold big; omega]
      exact this
    rw [one_prog (X := brS n (1 + q)) (by omega) h2 hx (by rw [show 8 + 2 * n + 1 = 8 + (2 * n + 1) by omega, g]; exact b4) (by rw [show 8 + 2 * n + 1 + 1 = 8 + (2 * n + 2) by omega, g]; exact b5) hlen]
    have hc : count (oneT (1 + q) (1 + q) (numT (1 + q))) = 5 := by simp [oneT, numT, count, counts]
    have hd : depth (oneT (1 + q) (1 + q) (numT (1 + q))) = 5 := by simp [oneT, numT, depth, depths]
    rw [hc, hd]
    simp
/-- Many operators of one operand: u is the operator and what stands behind it. -/
def repU (u : List UInt8) : Nat → List UInt8
  | 0 => []
  | n + 1 => u ++ repU u n
def lvText (u : List UInt8) (n : Nat) : List UInt8 := [] ++ (kwKernel ++ 32 :: ([107] ++ 40 :: 41 :: 32 :: 123 :: 10 :: ([108, 101, 116] ++ 32 :: ([97] ++ 32 :: 61 :: 32 :: (repU u n ++ [120, 59, 32, 125])))))
def lvS (c : UInt8) (n : Nat) : List Sp := List.replicate n (4, [c], 0, 2) ++ [(1, [120], 0, 2), (4, [59], 0, 2), (4, [125], 0, 2)]
/-- The operator and the blank behind it. -/
def OpU (c : UInt8) (gu : List UInt8) : Prop := inW c = false ∧ isPunct c = true ∧ isBlank c = false ∧ c ≠ 47 ∧ ((gu = [32] ∧ pairs.contains [c, 32] = false) ∨ (gu = [] ∧ pairs.contains [c, c] = false ∧ pairs.contains [c, 120] = false))
theorem lv_many {c : UInt8} {gu : List UInt8} (H : OpU c gu) : ∀ n g, (g = [] ∨ g = [32]) → LX (g ++ (repU (c :: gu) n ++ [120, 59, 32, 125])) 2 (lvS c n) := by
  obtain ⟨hw, h1, hb, h47, hp⟩ := H
  have lf32 : lineFeeds [32] = 0 := by decide
  have lf0 : lineFeeds [] = 0 := rfl
  have hlf : ∀ g : List UInt8, (g = [] ∨ g = [32]) → lineFeeds g = 0 := fun g hg => by rcases hg with rfl | rfl <;> assumption
  have hsk : ∀ (g : List UInt8) (x : UInt8) (v : List UInt8), (g = [] ∨ g = [32]) → isBlank x = false → x ≠ 47 → skipM false (g ++ x :: v) = g.length := fun g x v hg h2 h3 => by
    rcases hg with rfl | rfl
    · exact skip_tok h2 h3
    · exact skip_sptok h2 h3
  intro n
  induction n with
  | zero =>
    intro g hg
    exact LX.word (t := [120]) (c := 59) (k := 1) (ln := 2) (hsk g 120 _ hg (by decide) (by decide)) (by decide) (by simp) (by decide) (by decide) (by decide) (by decide +kernel) (by rw [hlf g hg]) (lx_end 2)
  | succ n ih =>
    intro g hg
    have hgu : gu = [] ∨ gu = [32] := by rcases hp with h | h; exact .inr h.1; exact .inl h.1
    have hv : ∀ x r', gu ++ (repU (c :: gu) n ++ [120, 59, 32, 125]) = x :: r' → pairs.contains [c, x] = false := by
      rcases hp with ⟨rfl, h⟩ | ⟨rfl, h, h2⟩
      · exact pair_head h
      · cases n with
        | zero => exact pair_head h2
        | succ n => exact pair_head h
    have s1 : LX (g ++ ([c] ++ (gu ++ (repU (c :: gu) n ++ [120, 59, 32, 125])))) 2 _ := LX.punct (hsk g c _ hg hb h47) hw h1 hv (by rw [hlf g hg]; exact ih gu hgu)
    rw [hlf g hg] at s1
    have e : g ++ (repU (c :: gu) (n + 1) ++ [120, 59, 32, 125]) = g ++ ([c] ++ (gu ++ (repU (c :: gu) n ++ [120, 59, 32, 125]))) := by rw [repU]; simp
    rw [e]
    exact s1
theorem lv_lx {c : UInt8} {gu : List UInt8} (H : OpU c gu) (n : Nat) : LX (lvText (c :: gu) n) 1 (preS 1 2 ++ lvS c n) := by
  have lf10 : lineFeeds [10] = 1 := by decide
  exact lx_pre (by unfold kwKernel; exact skip_tok (by decide) (by decide)) rfl (.inr rfl) (by rw [lf10]) (lv_many H n [32] (.inr rfl))
theorem repU_len (u : List UInt8) : ∀ n, (repU u n).length = n * u.length := by
  intro n
  induction n with
  | zero => simp [repU]
  | succ n ih => rw [repU, List.length_append, ih, Nat.succ_mul]; omega
theorem chain_size (L o : Nat) : ∀ n, count (chainT L o n) = n + 1 ∧ depth (chainT L o n) = n + 1 := by
  intro n
  induction n with
  | zero => exact ⟨by simp [chainT, nameT, count, counts], by simp [chainT, nameT, depth, depths]⟩
  | succ n ih =>
    rw [chainT, count, counts, counts, depth, depths, depths, ih.1, ih.2]
    omega
theorem lvS_get {c : UInt8} {n : Nat} : (∀ j, j < n → (lvS c n).getD j sp0 = (4, [c], 0, 2)) ∧ (lvS c n).getD n sp0 = (1, [120], 0, 2) ∧ (lvS c n).getD (n + 1) sp0 = (4, [59], 0, 2) ∧ (lvS c n).getD (n + 2) sp0 = (4, [125], 0, 2) := by
  unfold lvS
  exact ⟨fun j hj => getD_rep _ hj, getD_past _ 0, getD_past _ 1, getD_past _ 2⟩
/-- What the parser makes of many operators of one operand. -/
theorem lv_parse {c : UInt8} {gu : List UInt8} {o : Nat} (H : OpU c gu) (ho : o ≠ 0) (hop : (((levelOps 10).find? fun p => decide ([c] = p.1)).map (·.2)).getD 0 = o) (hio : isOpen [c] = false) (his : isShut [c] = false) (n : Nat) (hn : n ≤ 300) :
    (lexAll (lvText (c :: gu) n)).2.2 = 0 ∧ (lexAll (lvText (c :: gu) n)).1.map key = preS 1 2 ++ lvS c n ∧ ∃ t, parseM (lvText (c :: gu) n) = (if 200 < n + 5 then (tree0, 1, 5) else (t, 0, 0)) ∧ depth t = n + 5 ∧ count t = n + 5 := by
  have hgl : gu.length ≤ 1 := by rcases H.2.2.2.2 with h | h <;> rw [h.1] <;> simp
  have hul : n * (c :: gu).length ≤ 600 := by
    have : (c :: gu).length ≤ 2 := by simp; omega
    calc n * (c :: gu).length ≤ 300 * 2 := Nat.mul_le_mul hn this
      _ ≤ 600 := by omega
  obtain ⟨h1, h2⟩ := lx_all (lv_lx H n) (by unfold lvText kwKernel; simp only [List.length_append, List.length_cons, List.length_nil, repU_len]; simp only [List.length_cons] at hul; omega)
  refine ⟨h1, h2, oneT 1 2 (chainT 2 o n), ?_, ?_, ?_⟩
  · obtain ⟨b1, b2, b3, b4⟩ := lvS_get (c := c) (n := n)
    obtain ⟨ts, hts⟩ : ∃ ts, ts = (lexAll (lvText (c :: gu) n)).1 := ⟨_, rfl⟩
    rw [← hts] at h2
    have hcr : crowd 0 ts = 0 := by
      rw [crowd_key, h2, crowdS_pre]
      unfold lvS
      have e1 : ∀ R, crowdS 1 ((1, [120], 0, 2) :: R) = crowdS 1 R := fun R => crowdS_other (x := (1, [120], 0, 2)) rfl rfl R 1 1 (by omega)
      rw [crowdS_other (x := (4, [c], 0, 2)) hio his _ n 1 (by omega), e1, crowdS_end _ _ (by omega)]
    unfold parseM
    dsimp only
    rw [if_neg (by rw [h1]; simp), ← hts, hcr, if_neg (by omega)]
    have g := fun i => getD_pre (L := 1) (L2 := 2) (lvS c n) i
    have hlen : ts.length = 8 + n + 1 + 2 := by have := congrArg List.length h2; rw [List.length_map, List.length_append] at this; simp [preS, lvS] at this; omega
    have hx : xpr ts ⟨8, false⟩ = (chainT 2 o n, ⟨8 + n + 1, false⟩) := by
      obtain ⟨a0, a1, a2, a3⟩ := see h2 ((g n).trans b2)
      obtain ⟨c0, c1, c2, c3⟩ := see h2 ((g (n + 1)).trans b3)
      rw [← Nat.add_assoc] at c1
      have hu := un_expr (ts := ts) (L := 2) ho hop n 8 (big ts - 12 - (n + 3)) (fun j hj => by obtain ⟨_, d1, _, d3⟩ := see h2 ((g j).trans (b1 j hj)); exact ⟨d1, d3⟩) a0 a1 a3 c1
      have := pass_up (s' := ⟨8 + n + 1, false⟩) (.inr c1) (by omega) hu
      unfold xpr
      rw [show n + 3 + (big ts - 12 - (n + 3)) + 12 = big ts by unfold big; omega] at this
      exact this
    rw [one_prog (X := lvS c n) (by omega) h2 hx (by rw [show 8 + n + 1 = 8 + (n + 1) by omega, g]; exact b3) (by rw [show 8 + n + 1 + 1 = 8 + (n + 2) by omega, g]; exact b4) hlen]
    have hc : count (oneT 1 2 (chainT 2 o n)) = n + 5 := by simp [oneT, count, counts, (chain_size 2 o n).1]; omega
    have hd : depth (oneT 1 2 (chainT 2 o n)) = n + 5 := by simp [oneT, depth, depths, (chain_size 2 o n).2]; omega
    rw [hc, hd]
    by_cases hb : 200 < n + 5
    · rw [if_pos hb]
      simp [hb]
    · rw [if_neg hb]
      simp [hb]
      omega
  · simp [oneT, depth, depths, (chain_size 2 o n).2]; omega
  · simp [oneT, count, counts, (chain_size 2 o n).1]; omega
end Go.Proofs.YtfnhogeocbndcaaGreatDoor
