/- Plain mathematics: the reference's results are those of the operators. -/
import Derived.Test.YtcodfkeidbeooaaDoorRefArith2
namespace Go.Proofs.YtcodfkeidbeooaaDoor
open Go.RowKit

def andBit (a b i : Nat) : Nat := (a / 2 ^ i % 2) * (b / 2 ^ i % 2)
def orBit (a b i : Nat) : Nat := max (a / 2 ^ i % 2) (b / 2 ^ i % 2)
def xorBit (a b i : Nat) : Nat := (a / 2 ^ i % 2 + b / 2 ^ i % 2) % 2
theorem andBit_le {a b i : Nat} : andBit a b i ≤ 1 := by
  have h : a / 2 ^ i % 2 = 0 ∨ a / 2 ^ i % 2 = 1 := by omega
  unfold andBit
  rcases h with h | h <;> rw [h] <;> omega
theorem orBit_le {a b i : Nat} : orBit a b i ≤ 1 := by unfold orBit; omega
theorem xorBit_le {a b i : Nat} : xorBit a b i ≤ 1 := by unfold xorBit; omega
theorem and_word {n : Int} {a b : Nat} (ha : a < md n) : ofBits ((List.range (wd n)).map (andBit a b)) = a &&& b :=
  ofBits_eq (bitsOf_ext fun i _ => (bit_and a b i).symm) (and_md ha)
theorem or_word {n : Int} {a b : Nat} (ha : a < md n) (hb : b < md n) : ofBits ((List.range (wd n)).map (orBit a b)) = a ||| b :=
  ofBits_eq (bitsOf_ext fun i _ => (bit_or a b i).symm) (or_md ha hb)
theorem xor_word {n : Int} {a b : Nat} (ha : a < md n) (hb : b < md n) : ofBits ((List.range (wd n)).map (xorBit a b)) = a ^^^ b :=
  ofBits_eq (bitsOf_ext fun i _ => (bit_xor a b i).symm) (xor_md ha hb)
theorem add_word (n : Int) (a b : Nat) : ofBits (bitsOf (wd n) (a + b + 0)) = bin 2 n a b := by
  rw [ofBits_bitsOf, Nat.add_zero]
  show fit n (a + b) = frm n ((a : Int) + (b : Int))
  rw [← frm_fit, Int.natCast_add]
theorem sub_word {n : Int} {a b : Nat} (hb : b < md n) : ofBits (bitsOf (wd n) (a + (mask n - b) + 1)) = bin 3 n a b := by
  rw [ofBits_bitsOf]
  show fit n (a + (mask n - b) + 1) = frm n ((a : Int) - (b : Int))
  rw [← frm_fit]
  apply frm_mod_congr
  have h0 := md_pos n
  rw [show ((a + (mask n - b) + 1 : Nat) : Int) = ((a : Int) - (b : Int)) + (md n : Int) from by unfold mask; omega]
  rw [Int.add_emod, Int.emod_self, Int.add_zero, Int.emod_emod]
theorem mul_word (n : Int) (a b : Nat) : fit n (a * b) = bin 4 n a b := by
  show fit n (a * b) = frm n ((a : Int) * (b : Int))
  rw [← frm_fit, Int.natCast_mul]
theorem shl_bin (n : Int) (a b : Nat) : fit n (a * 2 ^ min b (wd n)) = bin 12 n a b := by
  show _ = frm n ((a : Int) * 2 ^ min b 64)
  rw [show ((a : Int) * 2 ^ min b 64) = ((a * 2 ^ min b 64 : Nat) : Int) from by simp, frm_fit]
  have hw := wd_le n
  by_cases h : b < wd n
  · rw [Nat.min_eq_left (by omega), Nat.min_eq_left (by omega)]
  · have z : ∀ s, wd n ≤ s → fit n (a * 2 ^ s) = 0 := by
      intro s hs
      unfold fit md
      rw [show s = wd n + (s - wd n) from by omega, Nat.pow_add, ← Nat.mul_assoc, Nat.mul_comm a, Nat.mul_assoc, Nat.mul_mod_right]
    rw [z _ (by omega), z _ (by omega)]
theorem lshr_bin {n : Int} {a b : Nat} (ha : a < md n) : ofBits ((List.range (wd n)).map (shrBit (wd n) (min b (wd n)) 0 a)) = bin 13 n a b := by
  rw [shr_zero ha]
  show _ = a / 2 ^ min b 64
  have hw := wd_le n
  by_cases h : b < wd n
  · rw [Nat.min_eq_left (by omega), Nat.min_eq_left (by omega)]
  · have z : ∀ s, wd n ≤ s → a / 2 ^ s = 0 := by
      intro s hs
      have h2 : 2 ^ wd n ≤ 2 ^ s := Nat.pow_le_pow_right (by omega) hs
      have h3 : a < 2 ^ wd n := ha
      exact Nat.div_eq_of_lt (by omega)
    rw [z _ (by omega), z _ (by omega)]
theorem ashr_bin {n : Int} {a b : Nat} (ha : a < md n) : ofBits ((List.range (wd n)).map (shrBit (wd n) (min b (wd n)) (if neg n a then 1 else 0) a)) = bin 14 n a b := by
  have h := ashr_eq (w := n) (x := a) (n := min b (wd n)) (by omega)
  rw [fit_self ha] at h
  rw [h]
  show _ = frm n (sgn n a / 2 ^ min b 64)
  have hw := wd_le n
  by_cases hb : b < wd n
  · rw [Nat.min_eq_left (by omega), Nat.min_eq_left (by omega)]
  · rw [Nat.min_eq_right (by omega), ashr_far (show wd n ≤ min b 64 by omega)]
theorem udiv_bin {n : Int} {a b : Nat} (hb : ¬ b = 0) : bin 5 n a b = a / b := by show (if b = 0 then mask n else a / b) = _; rw [if_neg hb]
theorem urem_bin {n : Int} {a b : Nat} (hb : ¬ b = 0) : bin 6 n a b = a % b := by show (if b = 0 then a else a % b) = _; rw [if_neg hb]
theorem udiv_zero {n : Int} {a b : Nat} (hb : b = 0) : bin 5 n a b = mask n := by show (if b = 0 then mask n else a / b) = _; rw [if_pos hb]
theorem urem_zero {n : Int} {a b : Nat} (hb : b = 0) : bin 6 n a b = a := by show (if b = 0 then a else a % b) = _; rw [if_pos hb]
end Go.Proofs.YtcodfkeidbeooaaDoor
