/- What the parser makes of nested brackets and of many operators of one operand. Nothing of the program stands here. -/
import Derived.Test.YthdbaligapdbeaaGreatDoorMgPsLx
import Derived.Test.YthdbaligapdbeaaGreatDoorMgPsWi
namespace Go.Proofs.YthdbaligapdbeaaGreatDoor
open Go Go.RowKit
set_option linter.unusedVariables false

theorem skip_tok {c : UInt8} {v : List UInt8} (hb : isBlank c = false) (h : c ≠ 47) : skipM false (c :: v) = 0 := by
 rw [skipF, if_neg (by rw [hb]; simp), if_neg (fun h2 => h h2.1)]
theorem skip_sptok {c : UInt8} {v : List UInt8} (hb : isBlank c = false) (h : c ≠ 47) : skipM false (32 :: c :: v) = 1 := by
 rw [skipF, if_pos (by decide), skip_tok hb h]
theorem word_tok {t : List UInt8} {c : UInt8} {v : List UInt8} (ha : t.all inW = true) (hc : inW c = false) : run (t ++ c :: v) = t := by
 unfold run
 rw [List.takeWhile_append_of_pos (fun x hx => List.all_eq_true.1 ha x hx), List.takeWhile_cons, if_neg (by rw [hc]; simp), List.append_nil]
theorem LX.word {t : List UInt8} {c : UInt8} {v g : List UInt8} {k line ln : Nat} {sp : List Sp} (hs : skipM false (g ++ (t ++ c :: v)) = g.length) (ha : t.all inW = true) (hne : t ≠ []) (hc : inW c = false) (hd : t.head?.any isDec = false) (hl : t.length ≤ 64) (hk : (if isKey t = true then 2 else 1) = k)
  (hln : line + lineFeeds g = ln) (h : LX (c :: v) ln sp) : LX (g ++ (t ++ c :: v)) line ((k, t, 0, ln) :: sp) := by
 have hr := word_tok (v := v) ha hc
 refine .cons g t k 0 ln rfl hs hne ?_ ?_ ?_ ?_ hln h
 ·unfold tokErr
  rw [hr, if_neg hne, hd]
  simp only [Bool.false_eq_true, if_false]
  rw [if_neg (by omega)]
 ·unfold tokLen
  rw [hr, if_neg hne]
 ·unfold tokKind
  rw [hr, if_neg hne, hd]
  simp only [Bool.false_eq_true, if_false]
  exact hk
 ·unfold tokNum
  rw [hr, hd, if_neg (by simp)]
theorem LX.sp {c : UInt8} {v : List UInt8} {L : Nat} {x : Sp} {sp : List Sp} (hb : isBlank c = false) (h47 : c ≠ 47) (h : LX (c :: v) L (x :: sp)) : LX (32 :: c :: v) L (x :: sp) := by
 cases h with
 | cons g t k num ln hr hs hne he hl hk hn hln h =>
  have h0 : skipM false (c :: v) = 0 := skip_tok hb h47
  rw [h0] at hs
  have hg : g = [] := List.length_eq_zero_iff.1 hs.symm
  subst hg
  have lf : lineFeeds [32] = 0 := by decide
  exact .cons [32] t k num _ (by rw [hr]; rfl) (skip_sptok hb h47) hne he hl hk hn (by rw [lf]; exact hln) h
end Go.Proofs.YthdbaligapdbeaaGreatDoor
/- The trees of nested brackets and of many operators of one operand. Nothing of the program stands here. -/
namespace Go.Proofs.YthdbaligapdbeaaGreatDoor
open Go Go.RowKit
set_option linter.unusedVariables false

end Go.Proofs.YthdbaligapdbeaaGreatDoor
