/- Plain mathematics of lists of bits. -/
import Derived.Test.YtcodfkeidbeooaaDoorBitMath
namespace Go.Proofs.YtcodfkeidbeooaaDoor
open Go.RowKit

theorem frm_mod_congr {w x y : Int} (h : x % (md w : Int) = y % (md w : Int)) : frm w x = frm w y := by unfold frm; rw [h]
/-- The low k bits, the lowest first. -/
def bitsOf (k x : Nat) : List Nat := (List.range k).map fun i => x / 2 ^ i % 2
def ofBits : List Nat → Nat
  | [] => 0
  | b :: l => b + 2 * ofBits l
theorem bitsOf_length (k x : Nat) : (bitsOf k x).length = k := by simp [bitsOf]
theorem bitsOf_succ (k x : Nat) : bitsOf (k + 1) x = bitsOf k x ++ [x / 2 ^ k % 2] := by simp [bitsOf, List.range_succ]
theorem bitsOf_get {k i : Nat} (x : Nat) (h : i < k) : (bitsOf k x).getD i 0 = x / 2 ^ i % 2 := by simp [bitsOf, List.getD, h]
theorem bitsOf_zero (x : Nat) : bitsOf 0 x = [] := rfl
theorem bitsOf_cons (k x : Nat) : bitsOf (k + 1) x = x % 2 :: bitsOf k (x / 2) := by
  apply List.ext_getElem?
  intro i
  cases i with
  | zero => simp [bitsOf]
  | succ i =>
    by_cases hi : i < k
    · have e : x / 2 ^ (i + 1) = x / 2 / 2 ^ i := by rw [Nat.div_div_eq_div_mul, Nat.pow_succ, Nat.mul_comm]
      simp [bitsOf, hi, e]
    · simp [bitsOf, hi]
theorem bitsOf_le {k x b : Nat} (h : b ∈ bitsOf k x) : b ≤ 1 := by
  simp only [bitsOf, List.mem_map] at h
  obtain ⟨i, _, rfl⟩ := h
  omega
theorem ofBits_bitsOf (k : Nat) : ∀ x, ofBits (bitsOf k x) = x % 2 ^ k := by
  induction k with
  | zero => intro x; simp [bitsOf_zero, ofBits, Nat.mod_one]
  | succ k ih =>
    intro x
    rw [bitsOf_cons, ofBits, ih, Nat.pow_succ, Nat.mul_comm (2 ^ k) 2, Nat.mod_mul]
theorem ofBits_lt : ∀ l : List Nat, (∀ b ∈ l, b ≤ 1) → ofBits l < 2 ^ l.length := by
  intro l
  induction l with
  | nil => intro _; simp [ofBits]
  | cons b l ih =>
    intro h
    have h1 := ih fun c hc => h c (by simp [hc])
    have h2 := h b (by simp)
    rw [ofBits, List.length_cons, Nat.pow_succ]
    omega
theorem ofBits_drop {l : List Nat} {j : Nat} (h : j < l.length) : ofBits (l.drop j) = l.getD j 0 + 2 * ofBits (l.drop (j + 1)) := by
  rw [List.drop_eq_getElem_cons h, ofBits]
  simp [List.getD, h]
/-- A list that is a word's bits: its value is the word. -/
theorem ofBits_eq {k y : Nat} {l : List Nat} (hl : l = bitsOf k y) (hy : y < 2 ^ k) : ofBits l = y := by
  rw [hl, ofBits_bitsOf, Nat.mod_eq_of_lt hy]
theorem bitsOf_ext {k : Nat} {f : Nat → Nat} {y : Nat} (h : ∀ i, i < k → f i = y / 2 ^ i % 2) : (List.range k).map f = bitsOf k y := by
  unfold bitsOf
  apply List.map_congr_left
  intro i hi
  exact h i (List.mem_range.1 hi)
theorem bit_testBit (x i : Nat) : x / 2 ^ i % 2 = (x.testBit i).toNat := by
  rw [Nat.testBit_eq_decide_div_mod_eq]
  have : x / 2 ^ i % 2 = 0 ∨ x / 2 ^ i % 2 = 1 := by omega
  rcases this with h | h <;> simp [h]
theorem bit_and (x y i : Nat) : (x &&& y) / 2 ^ i % 2 = (x / 2 ^ i % 2) * (y / 2 ^ i % 2) := by
  rw [bit_testBit, bit_testBit, bit_testBit, Nat.testBit_and]
  cases x.testBit i <;> cases y.testBit i <;> rfl
theorem bit_or (x y i : Nat) : (x ||| y) / 2 ^ i % 2 = max (x / 2 ^ i % 2) (y / 2 ^ i % 2) := by
  rw [bit_testBit, bit_testBit, bit_testBit, Nat.testBit_or]
  cases x.testBit i <;> cases y.testBit i <;> rfl
theorem bit_xor (x y i : Nat) : (x ^^^ y) / 2 ^ i % 2 = (x / 2 ^ i % 2 + y / 2 ^ i % 2) % 2 := by
  rw [bit_testBit, bit_testBit, bit_testBit, Nat.testBit_xor]
  cases x.testBit i <;> cases y.testBit i <;> rfl
/-- The carry into place i of a sum. -/
def carry (a b c i : Nat) : Nat := (a % 2 ^ i + b % 2 ^ i + c) / 2 ^ i
theorem carry_zero (a b c : Nat) : carry a b c 0 = c := by simp [carry, Nat.mod_one]
theorem mod_succ (a i : Nat) : a % 2 ^ (i + 1) = a % 2 ^ i + 2 ^ i * (a / 2 ^ i % 2) := by rw [Nat.pow_succ, Nat.mod_mul]
theorem carry_succ (a b c i : Nat) : carry a b c (i + 1) = (a / 2 ^ i % 2 + b / 2 ^ i % 2 + carry a b c i) / 2 := by
  unfold carry
  rw [mod_succ, mod_succ, Nat.pow_succ, ← Nat.div_div_eq_div_mul]
  congr 1
  rw [show a % 2 ^ i + 2 ^ i * (a / 2 ^ i % 2) + (b % 2 ^ i + 2 ^ i * (b / 2 ^ i % 2)) + c = (a % 2 ^ i + b % 2 ^ i + c) + 2 ^ i * (a / 2 ^ i % 2 + b / 2 ^ i % 2) from by rw [Nat.mul_add]; omega]
  rw [Nat.add_mul_div_left _ _ (Nat.two_pow_pos i)]
  omega
theorem sum_bit (a b c i : Nat) : (a + b + c) / 2 ^ i % 2 = (a / 2 ^ i % 2 + b / 2 ^ i % 2 + carry a b c i) % 2 := by
  unfold carry
  have ha := Nat.div_add_mod a (2 ^ i)
  have hb := Nat.div_add_mod b (2 ^ i)
  have h2 : (a + b + c) / 2 ^ i = (a % 2 ^ i + b % 2 ^ i + c) / 2 ^ i + (a / 2 ^ i + b / 2 ^ i) := by
    rw [← Nat.add_mul_div_left _ _ (Nat.two_pow_pos i), Nat.mul_add]
    congr 1
    omega
  rw [h2]
  omega
theorem carry_le {a b c i : Nat} (hc : c ≤ 1) : carry a b c i ≤ 1 := by
  unfold carry
  have h1 := Nat.mod_lt a (Nat.two_pow_pos i)
  have h2 := Nat.mod_lt b (Nat.two_pow_pos i)
  have : (a % 2 ^ i + b % 2 ^ i + c) / 2 ^ i < 2 := Nat.div_lt_of_lt_mul (by omega)
  omega
end Go.Proofs.YtcodfkeidbeooaaDoor
