/- Plain mathematics of words: the low bits, the signed value, the word of an integer. Nothing of the program stands here. -/
import Derived.WalkKit
namespace Go.Proofs.YtcodfkeidbeooaaDoor
open Go.RowKit

/-- A width within its limits. -/
def wd (w : Int) : Nat := min w.toNat 64
/-- Two to the width. -/
def md (w : Int) : Nat := 2 ^ wd w
def mask (w : Int) : Nat := md w - 1
def fit (w : Int) (x : Nat) : Nat := x % md w
def sgn (w : Int) (x : Nat) : Int := if 2 * fit w x < md w then (fit w x : Int) else (fit w x : Int) - md w
def frm (w : Int) (n : Int) : Nat := (n % (md w : Int)).toNat

theorem wd_le (w : Int) : wd w ≤ 64 := by unfold wd; omega
theorem md_pos (w : Int) : 0 < md w := Nat.two_pow_pos _
theorem md_le (w : Int) : md w ≤ 18446744073709551616 := by
  have h : 2 ^ wd w ≤ 2 ^ 64 := Nat.pow_le_pow_right (by omega) (wd_le w)
  simpa [md] using h
theorem md_low {w : Int} (h : w ≤ 0) : md w = 1 := by
  have : wd w = 0 := by unfold wd; omega
  simp [md, this]
theorem md_high {w : Int} (h : 64 ≤ w) : md w = 18446744073709551616 := by
  have : wd w = 64 := by unfold wd; omega
  simp [md, this]
theorem md_mid {w : Int} (h1 : 0 ≤ w) (h2 : w ≤ 64) : md w = 2 ^ w.toNat := by
  have : wd w = w.toNat := by unfold wd; omega
  simp [md, this]
theorem md_even {w : Int} (h : 0 < w) : ∃ k, md w = 2 * k ∧ 0 < k := by
  refine ⟨2 ^ (wd w - 1), ?_, Nat.two_pow_pos _⟩
  have : wd w = (wd w - 1) + 1 := by unfold wd; omega
  unfold md
  rw [this, Nat.pow_succ]
  simp
  omega
theorem mask_lt (w : Int) : mask w < 18446744073709551616 := by have := md_le w; have := md_pos w; unfold mask; omega
theorem fit_md (w : Int) (x : Nat) : fit w x < md w := Nat.mod_lt _ (md_pos w)
theorem fit_lt (w : Int) (x : Nat) : fit w x < 18446744073709551616 := by have := md_le w; have := fit_md w x; omega
theorem fit_fit (w : Int) (x : Nat) : fit w (fit w x) = fit w x := Nat.mod_mod _ _
theorem fit_self {w : Int} {x : Nat} (h : x < md w) : fit w x = x := Nat.mod_eq_of_lt h
theorem frm_md (w : Int) (n : Int) : frm w n < md w := by
  have h := md_pos w
  have h1 := Int.emod_lt_of_pos n (show (0 : Int) < (md w : Int) by omega)
  have h2 := Int.emod_nonneg n (show (md w : Int) ≠ 0 by omega)
  unfold frm; omega
theorem frm_lt (w : Int) (n : Int) : frm w n < 18446744073709551616 := by have := md_le w; have := frm_md w n; omega
theorem frm_cast (w : Int) (n : Int) : ((frm w n : Nat) : Int) = n % (md w : Int) := by
  have h := md_pos w
  have h2 := Int.emod_nonneg n (show (md w : Int) ≠ 0 by omega)
  unfold frm; omega
theorem sgn_range (w : Int) (x : Nat) : -(md w : Int) ≤ 2 * sgn w x ∧ 2 * sgn w x < md w := by
  have h := fit_md w x
  have h0 := md_pos w
  unfold sgn
  split <;> omega
theorem sgn_lo (w : Int) (x : Nat) : -9223372036854775808 ≤ sgn w x := by have := sgn_range w x; have := md_le w; omega
theorem sgn_hi (w : Int) (x : Nat) : sgn w x ≤ 9223372036854775807 := by have := sgn_range w x; have := md_le w; omega
theorem sgn_emod (w : Int) (x : Nat) : sgn w x % (md w : Int) = fit w x := by
  have h := fit_md w x
  have e : ((fit w x : Nat) : Int) % (md w : Int) = fit w x := Int.emod_eq_of_lt (by omega) (by omega)
  unfold sgn
  split
  · exact e
  · rw [Int.sub_emod, Int.emod_self]; simpa using e
theorem frm_sgn (w : Int) (x : Nat) : frm w (sgn w x) = fit w x := by unfold frm; rw [sgn_emod]; simp
/-- two integers of the width's range that are one modulo two to the width are one -/
theorem range_eq {m a b : Int} (ha : -m ≤ 2 * a ∧ 2 * a < m) (hb : -m ≤ 2 * b ∧ 2 * b < m) (h : a % m = b % m) : a = b := by
  have h1 : (a - b) % m = 0 := by rw [Int.sub_emod, h]; simp
  obtain ⟨c, hc⟩ := Int.dvd_of_emod_eq_zero h1
  have hm : 0 < m := by omega
  rcases Int.lt_trichotomy c 0 with hn | hz | hp
  · have : m * c ≤ m * (-1) := Int.mul_le_mul_of_nonneg_left (by omega) (by omega)
    omega
  · subst hz; omega
  · have : m * 1 ≤ m * c := Int.mul_le_mul_of_nonneg_left (by omega) (by omega)
    omega
theorem sgn_frm (w : Int) (n : Int) (h : -(md w : Int) ≤ 2 * n ∧ 2 * n < md w) : sgn w (frm w n) = n := by
  refine range_eq (sgn_range w _) h ?_
  rw [sgn_emod, fit_self (frm_md w n), frm_cast]

theorem md_dvd (w : Int) : (md w : Int) ∣ 18446744073709551616 := by
  refine ⟨((2 ^ (64 - wd w) : Nat) : Int), ?_⟩
  rw [← Int.natCast_mul, md, ← Nat.pow_add, show wd w + (64 - wd w) = 64 from by have := wd_le w; omega]
  rfl
theorem frm_mod {w : Int} (x : Int) (y : Nat) (h : (y : Int) = x % 18446744073709551616) : fit w y = frm w x := by
  have e : ((fit w y : Nat) : Int) = x % (md w : Int) := by
    unfold fit
    rw [Int.natCast_emod, h, Int.emod_emod_of_dvd _ (md_dvd w)]
  have := frm_cast w x
  omega

/-! what the machine's operations come to -/
theorem u64_not (a : Nat) (ha : a < 18446744073709551616) : bits .xor .u64 18446744073709551615 (a : Int) = ((18446744073709551615 - a : Nat) : Int) := by
  show IntKind.u64.wrap ((BitVec.ofInt 64 18446744073709551615 ^^^ BitVec.ofInt 64 (a : Int)).toNat : Int) = _
  have h1 : BitVec.ofInt 64 18446744073709551615 = BitVec.allOnes 64 := by decide
  rw [h1, BitVec.allOnes_xor, BitVec.toNat_not, ofInt_u64 a (by omega), IntKind.wrap_u64]
  omega
theorem u64_max : IntKind.u64.max = 18446744073709551615 := by rfl
theorem and_mask (w : Int) (x : Nat) (hx : x < 18446744073709551616) : bits .and .u64 (x : Int) (mask w : Int) = (fit w x : Int) := by
  rw [u64_and_nat x (mask w) hx (mask_lt w)]
  unfold mask fit md
  rw [Nat.and_two_pow_sub_one_eq_mod]
theorem wrap64_eq (n : Int) : wrap64 n = (n + 9223372036854775808) % 18446744073709551616 - 9223372036854775808 := by unfold wrap64; rfl
theorem sgn_low {w : Int} {x : Nat} (h : ((fit w x : Nat) : Int) ≤ ((mask w : Nat) : Int) / 2) : ((fit w x : Nat) : Int) = sgn w x := by
  have h0 := md_pos w
  have h2 : 2 * fit w x < md w := by unfold mask at h; omega
  rw [sgn, if_pos h2]
theorem or_high (w : Int) (x : Nat) : bits .or .u64 ((fit w x : Nat) : Int) ((18446744073709551616 - md w : Nat) : Int) = ((fit w x + (18446744073709551616 - md w) : Nat) : Int) := by
  have h0 := md_pos w
  have h1 := md_le w
  have h2 := fit_md w x
  rw [u64_or_nat _ _ (fit_lt w x) (by omega)]
  congr 1
  rw [Nat.or_comm, Nat.add_comm]
  refine nat_join (wd w) _ _ ?_ h2
  have e : (18446744073709551616 : Nat) = 2 ^ wd w * 2 ^ (64 - wd w) := by
    rw [← Nat.pow_add, show wd w + (64 - wd w) = 64 from by have := wd_le w; omega]
  unfold md
  rw [e, ← Nat.mul_sub_one, Nat.mul_mod_right]
theorem sgn_high {w : Int} {x : Nat} (h : ((mask w : Nat) : Int) / 2 < ((fit w x : Nat) : Int)) : wrap64 (bits .or .u64 ((fit w x : Nat) : Int) (bits .xor .u64 IntKind.u64.max ((mask w : Nat) : Int))) = sgn w x := by
  have h0 := md_pos w
  rw [u64_max, u64_not _ (mask_lt w), show 18446744073709551615 - mask w = 18446744073709551616 - md w from by unfold mask; omega, or_high]
  have h1 := md_le w
  have h3 := fit_md w x
  have h2 : ¬ 2 * fit w x < md w := by unfold mask at h; omega
  rw [wrap64_eq, sgn, if_neg h2]
  omega

/-! the operators -/
def b2n (b : Bool) : Nat := if b then 1 else 0
def u64w (x : Int) : Nat := (x % 18446744073709551616).toNat
theorem u64w_lt (x : Int) : u64w x < 18446744073709551616 := by unfold u64w; omega
theorem wrap_u64w (x : Int) : IntKind.u64.wrap x = (u64w x : Int) := by rw [IntKind.wrap_u64]; unfold u64w; omega
theorem fit_u64w (w x : Int) : fit w (u64w x) = frm w x := frm_mod x _ (by unfold u64w; omega)
theorem b2n_le (b : Bool) : b2n b ≤ 1 := by cases b <;> decide
theorem b2n_md {w : Int} (h : 0 < w) (b : Bool) : b2n b < md w := by
  obtain ⟨k, hk, h0⟩ := md_even h
  have := b2n_le b
  omega
def quoN (w : Int) (a b : Nat) : Nat := if b = 0 then mask w else frm w (wrap64 ((sgn w a).tdiv (sgn w b)))
def remN (w : Int) (a b : Nat) : Nat := if b = 0 then a else frm w ((sgn w a).tmod (sgn w b))
def quo0 (w : Int) (a b : Nat) : Nat := if b = 0 then mask w else a / b
def rem0 (a b : Nat) : Nat := if b = 0 then a else a % b
theorem quo0_div (w : Int) {a b : Nat} (ha : a < 18446744073709551616) (hb : ¬ b = 0) : IntKind.u64.wrap ((a : Int) / (b : Int)) = (quo0 w a b : Int) := by
  have h := Nat.div_le_self a b
  rw [quo0, if_neg hb, IntKind.wrap_u64, ← Int.natCast_ediv]
  generalize a / b = q at *
  omega
theorem rem0_mod {a b : Nat} (hb : ¬ b = 0) : ((a : Int) % (b : Int)) = (rem0 a b : Int) := by rw [rem0, if_neg hb, Int.natCast_emod]
theorem b2n_eq (a b : Nat) : b2n ((a : Int) == (b : Int)) = b2n (decide (a = b)) := by
  congr 1
  rw [Bool.eq_iff_iff]; simp; omega
theorem b2n_ne (a b : Nat) : b2n ((a : Int) != (b : Int)) = b2n (!decide (a = b)) := by
  congr 1
  rw [Bool.eq_iff_iff]; simp; omega
/-- What compute returns, before it is cut to the width. -/
def raw (op w : Int) (a b : Nat) : Nat := match op.toNat with
  | 2 => u64w (a + b)
  | 3 => u64w (a - b)
  | 4 => u64w (a * b)
  | 5 => quo0 w a b
  | 6 => rem0 a b
  | 7 => quoN w a b
  | 8 => remN w a b
  | 9 => a &&& b
  | 10 => a ||| b
  | 11 => a ^^^ b
  | 12 => u64w (a * 2 ^ min b 64)
  | 13 => a / 2 ^ min b 64
  | 14 => u64w (sgn w a / 2 ^ min b 64)
  | 15 => b2n (decide (a = b))
  | 16 => b2n (!decide (a = b))
  | 17 => b2n (decide (a < b))
  | 18 => b2n (decide (a ≤ b))
  | 19 => b2n (decide (sgn w a < sgn w b))
  | 20 => b2n (decide (sgn w a ≤ sgn w b))
  | _ => 0
/-- The result of an operator for two words of the width. -/
def bin (op w : Int) (a b : Nat) : Nat := match op.toNat with
  | 2 => frm w (a + b)
  | 3 => frm w (a - b)
  | 4 => frm w (a * b)
  | 5 => if b = 0 then mask w else a / b
  | 6 => if b = 0 then a else a % b
  | 7 => if b = 0 then mask w else frm w ((sgn w a).tdiv (sgn w b))
  | 8 => if b = 0 then a else frm w ((sgn w a).tmod (sgn w b))
  | 9 => a &&& b
  | 10 => a ||| b
  | 11 => a ^^^ b
  | 12 => frm w (a * 2 ^ min b 64)
  | 13 => a / 2 ^ min b 64
  | 14 => frm w (sgn w a / 2 ^ min b 64)
  | 15 => b2n (decide (a = b))
  | 16 => b2n (!decide (a = b))
  | 17 => b2n (decide (a < b))
  | 18 => b2n (decide (a ≤ b))
  | 19 => b2n (decide (sgn w a < sgn w b))
  | 20 => b2n (decide (sgn w a ≤ sgn w b))
  | _ => 0
theorem mask_md (w : Int) : mask w < md w := by have := md_pos w; unfold mask; omega
theorem wrap64_lo (x : Int) : -9223372036854775808 ≤ wrap64 x := by rw [wrap64_eq]; omega
theorem wrap64_hi (x : Int) : wrap64 x ≤ 9223372036854775807 := by rw [wrap64_eq]; omega
theorem frm_wrap64 (w x : Int) : frm w (wrap64 x) = frm w x := by
  have h : wrap64 x % (md w : Int) = x % (md w : Int) := by
    rw [wrap64_eq]
    obtain ⟨c, hc⟩ := md_dvd w
    have e : (x + 9223372036854775808) % 18446744073709551616 = x + 9223372036854775808 - 18446744073709551616 * ((x + 9223372036854775808) / 18446744073709551616) := by
      have := Int.emod_add_mul_ediv (x + 9223372036854775808) 18446744073709551616
      omega
    rw [e]
    generalize (x + 9223372036854775808) / 18446744073709551616 = q
    rw [show x + 9223372036854775808 - 18446744073709551616 * q - 9223372036854775808 = x - 18446744073709551616 * q from by omega, hc, Int.mul_assoc, Int.sub_emod, Int.mul_emod_right]
    simp
  unfold frm
  rw [h]
theorem sgn_zero {w : Int} {b : Nat} (hb : b < md w) (h : b ≠ 0) : sgn w b ≠ 0 := by
  have h1 := fit_self hb
  unfold sgn
  rw [h1]
  split <;> omega
theorem or_md {w : Int} {a b : Nat} (ha : a < md w) (hb : b < md w) : a ||| b < md w := Nat.or_lt_two_pow ha hb
theorem xor_md {w : Int} {a b : Nat} (ha : a < md w) (hb : b < md w) : a ^^^ b < md w := Nat.xor_lt_two_pow ha hb
theorem and_md {w : Int} {a b : Nat} (ha : a < md w) : a &&& b < md w := Nat.lt_of_le_of_lt Nat.and_le_left ha
theorem op_cases {op : Int} (h : 2 ≤ op ∧ op ≤ 20) : op = 2 ∨ op = 3 ∨ op = 4 ∨ op = 5 ∨ op = 6 ∨ op = 7 ∨ op = 8 ∨ op = 9 ∨ op = 10 ∨ op = 11 ∨ op = 12 ∨ op = 13 ∨ op = 14 ∨ op = 15 ∨ op = 16 ∨ op = 17 ∨ op = 18 ∨ op = 19 ∨ op = 20 := by omega
theorem bin_md {op w : Int} {a b : Nat} (hw : 0 < w) (ha : a < md w) (hb : b < md w) : bin op w a b < md w := by
  have hm := mask_md w
  have h0 := md_pos w
  unfold bin
  split
  all_goals first
    | exact frm_md _ _
    | exact b2n_md hw _
    | exact or_md ha hb
    | exact xor_md ha hb
    | exact and_md ha
    | exact h0
    | exact Nat.lt_of_le_of_lt (Nat.div_le_self _ _) ha
    | (split
       · assumption
       · first
         | exact frm_md _ _
         | exact Nat.lt_of_le_of_lt (Nat.div_le_self _ _) ha
         | exact Nat.lt_of_le_of_lt (Nat.mod_le _ _) ha)
theorem fit_raw {op w : Int} {a b : Nat} (hop : 2 ≤ op ∧ op ≤ 20) (hw : 0 < w) (ha : a < md w) (hb : b < md w) : fit w (raw op w a b) = bin op w a b := by
  have hm := mask_md w
  have hbin := bin_md (op := op) hw ha hb
  rcases op_cases hop with rfl | rfl | rfl | rfl | rfl | rfl | rfl | rfl | rfl | rfl | rfl | rfl | rfl | rfl | rfl | rfl | rfl | rfl | rfl
  all_goals first
    | exact fit_u64w _ _
    | exact fit_self hbin
    | skip
  all_goals
    simp only [raw, bin, quoN, Int.reduceToNat]
    split
    · exact fit_self (by assumption)
    · rw [fit_self (frm_md _ _)]
      rw [frm_wrap64]
theorem raw_lt {op w : Int} {a b : Nat} (ha : a < md w) (hb : b < md w) : raw op w a b < 18446744073709551616 := by
  have hm := mask_lt w
  have h0 := md_le w
  have h1 : ∀ x : Bool, b2n x < 18446744073709551616 := fun x => by have := b2n_le x; omega
  have h2 : ∀ x, x < md w → x < 18446744073709551616 := fun x h => by omega
  unfold raw quoN remN quo0 rem0
  split
  all_goals first
    | exact u64w_lt _
    | exact h1 _
    | exact h2 _ (or_md ha hb)
    | exact h2 _ (xor_md ha hb)
    | exact h2 _ (and_md ha)
    | exact h2 _ (Nat.lt_of_le_of_lt (Nat.div_le_self _ _) ha)
    | (split
       · first | exact hm | exact h2 _ ha
       · first
         | exact frm_lt _ _
         | exact h2 _ (Nat.lt_of_le_of_lt (Nat.div_le_self _ _) ha)
         | exact h2 _ (Nat.lt_of_le_of_lt (Nat.mod_le _ _) ha))
    | omega
end Go.Proofs.YtcodfkeidbeooaaDoor
