/- Plain mathematics: shifts, magnitudes and division by the reference's ways. -/
import Derived.Test.YtcodfkeidbeooaaDoorRefExt
namespace Go.Proofs.YtcodfkeidbeooaaDoor
open Go.RowKit

/-- Bit i of a shift to the left. -/
def shlBit (n x i : Nat) : Nat := if n ≤ i then x / 2 ^ (i - n) % 2 else 0
/-- Bit i of a shift to the right. -/
def shrBit (k n fill x i : Nat) : Nat := if i + n < k then x / 2 ^ (i + n) % 2 else fill
theorem shl_list (k n x : Nat) : (List.range k).map (shlBit n x) = bitsOf k (x * 2 ^ n) := by
  apply bitsOf_ext
  intro i _
  rw [bit_testBit, Nat.testBit_mul_two_pow]
  unfold shlBit
  by_cases h : n ≤ i
  · simp [h, bit_testBit]
  · simp [h]
theorem shl_word (k n x : Nat) : ofBits ((List.range k).map (shlBit n x)) = (x * 2 ^ n) % 2 ^ k := by rw [shl_list, ofBits_bitsOf]
theorem shlBit_le {n x i : Nat} : shlBit n x i ≤ 1 := by unfold shlBit; split <;> omega
theorem shrBit_le {k n fill x i : Nat} (h : fill ≤ 1) : shrBit k n fill x i ≤ 1 := by unfold shrBit; split <;> omega
theorem map_le {f : Nat → Nat} {k b : Nat} (hf : ∀ i, f i ≤ 1) (h : b ∈ (List.range k).map f) : b ≤ 1 := by
  simp only [List.mem_map] at h
  obtain ⟨i, _, rfl⟩ := h
  exact hf i
theorem map_step (f : Nat → Nat) (k : Nat) : (List.range k).map f ++ [f k] = (List.range (k + 1)).map f := by simp [List.range_succ]

theorem shr_zero {k n x : Nat} (hx : x < 2 ^ k) : ofBits ((List.range k).map (shrBit k n 0 x)) = x / 2 ^ n := by
  apply ofBits_eq (k := k)
  · apply bitsOf_ext
    intro i _
    rw [Nat.div_div_eq_div_mul, ← Nat.pow_add, Nat.add_comm n i]
    unfold shrBit
    split
    · rfl
    · rename_i h
      have h2 : 2 ^ k ≤ 2 ^ (i + n) := Nat.pow_le_pow_right (by omega) (by omega)
      rw [Nat.div_eq_of_lt (by omega)]
  · exact Nat.lt_of_le_of_lt (Nat.div_le_self _ _) hx
theorem shr_one {k n x : Nat} (hn : n ≤ k) (hx : x < 2 ^ k) : ofBits ((List.range k).map (shrBit k n 1 x)) = 2 ^ (k - n) * (2 ^ n - 1) + x / 2 ^ n := by
  have hp : 2 ^ k = 2 ^ (k - n) * 2 ^ n := by rw [← Nat.pow_add, show k - n + n = k from by omega]
  have ht : x / 2 ^ n < 2 ^ (k - n) := by
    rw [Nat.div_lt_iff_lt_mul (Nat.two_pow_pos n)]
    omega
  apply ofBits_eq (k := k)
  · apply bitsOf_ext
    intro i hi
    rw [bit_testBit, Nat.testBit_two_pow_mul_add _ ht]
    unfold shrBit
    by_cases h : i < k - n
    · rw [if_pos (by omega), if_pos h, ← bit_testBit, Nat.div_div_eq_div_mul, ← Nat.pow_add, Nat.add_comm n i]
    · rw [if_neg (by omega), if_neg h, Nat.testBit_two_pow_sub_one]
      have : i - (k - n) < n := by omega
      simp [this]
  · have h1 := Nat.two_pow_pos n
    rw [hp, Nat.mul_sub_one]
    have h3 : 2 ^ (k - n) ≤ 2 ^ (k - n) * 2 ^ n := Nat.le_mul_of_pos_right _ h1
    omega

/-- The shift to the right that copies the sign, for amounts up to the width. -/
theorem ashr_eq {w : Int} {n x : Nat} (hn : n ≤ wd w) : ofBits ((List.range (wd w)).map (shrBit (wd w) n (if neg w x then 1 else 0) (fit w x))) = frm w (sgn w x / 2 ^ n) := by
  have hf : fit w x < 2 ^ wd w := fit_md w x
  rcases h : neg w x with _ | _
  · have h1 := (sgn_pos h).1
    show ofBits ((List.range (wd w)).map (shrBit (wd w) n 0 (fit w x))) = _
    rw [shr_zero hf, ← h1]
    have e : ((fit w x : Nat) : Int) / 2 ^ n = ((fit w x / 2 ^ n : Nat) : Int) := by simp
    have h2 : fit w x / 2 ^ n < md w := Nat.lt_of_le_of_lt (Nat.div_le_self _ _) (fit_md w x)
    rw [e]
    unfold frm
    rw [← Int.natCast_emod, Nat.mod_eq_of_lt h2]
    rfl
  · have hnn : ¬ 2 * fit w x < md w := of_decide_eq_true h
    have hs : sgn w x = (fit w x : Int) - md w := by unfold sgn; rw [if_neg hnn]
    show ofBits ((List.range (wd w)).map (shrBit (wd w) n 1 (fit w x))) = _
    rw [shr_one hn hf, hs]
    have hp : md w = 2 ^ (wd w - n) * 2 ^ n := by unfold md; rw [← Nat.pow_add, show wd w - n + n = wd w from by omega]
    have ht : fit w x / 2 ^ n < 2 ^ (wd w - n) := by
      rw [Nat.div_lt_iff_lt_mul (Nat.two_pow_pos n)]
      have := fit_md w x
      omega
    have e1 : ((fit w x : Int) - (md w : Int)) / 2 ^ n = ((fit w x / 2 ^ n : Nat) : Int) - ((2 ^ (wd w - n) : Nat) : Int) := by
      rw [hp]
      have : ((2 ^ (wd w - n) * 2 ^ n : Nat) : Int) = 2 ^ n * ((2 ^ (wd w - n) : Nat) : Int) := by rw [Nat.mul_comm]; simp
      rw [this, Int.sub_mul_ediv_left _ _ (show (2 : Int) ^ n ≠ 0 from by have := Int.pow_pos (n := 2) (m := n) (by omega); omega)]
      simp
    rw [e1]
    have h0 := Nat.two_pow_pos n
    have h3 : 2 ^ (wd w - n) ≤ 2 ^ (wd w - n) * 2 ^ n := Nat.le_mul_of_pos_right _ h0
    have e2 : frm w (((fit w x / 2 ^ n : Nat) : Int) - ((2 ^ (wd w - n) : Nat) : Int)) = fit w x / 2 ^ n + (md w - 2 ^ (wd w - n)) := by
      unfold frm
      rw [show ((fit w x / 2 ^ n : Nat) : Int) - ((2 ^ (wd w - n) : Nat) : Int) = ((fit w x / 2 ^ n + (md w - 2 ^ (wd w - n)) : Nat) : Int) - (md w : Int) from by rw [hp]; omega]
      rw [Int.sub_emod, Int.emod_self, Int.sub_zero, Int.emod_emod, ← Int.natCast_emod, Nat.mod_eq_of_lt (by rw [hp]; omega)]
      rfl
    rw [e2, hp, Nat.mul_sub_one]
    omega
/-- A shift beyond the width is a shift by the width. -/
theorem ashr_far {w : Int} {x s : Nat} (h : wd w ≤ s) : sgn w x / 2 ^ s = sgn w x / 2 ^ wd w := by
  have hr := sgn_range w x
  have hm : md w ≤ 2 ^ s := Nat.pow_le_pow_right (by omega) h
  have h1 : ∀ t : Nat, md w ≤ 2 ^ t → sgn w x / 2 ^ t = if sgn w x < 0 then -1 else 0 := by
    intro t ht
    have hp : (0 : Int) < ((2 ^ t : Nat) : Int) := by have := Nat.two_pow_pos t; omega
    have e : ((2 : Int) ^ t) = ((2 ^ t : Nat) : Int) := by simp
    rw [e]
    split
    · rename_i hn
      refine Int.ediv_eq_iff_of_pos hp |>.2 ?_
      omega
    · exact Int.ediv_eq_zero_of_lt (by omega) (by omega)
  rw [h1 s hm, h1 (wd w) (Nat.le_refl _)]

/-- The absolute value of the signed value. -/
def mag (w : Int) (x : Nat) : Nat := (sgn w x).natAbs
theorem mag_neg {w : Int} {x : Nat} (h : neg w x = true) : frm w (-(x : Int)) = mag w x := by
  have h1 := minus_neg h
  unfold mag
  omega
theorem mag_pos {w : Int} {x : Nat} (h : neg w x = false) : fit w x = mag w x := by
  have h1 := (sgn_pos h).1
  unfold mag
  omega
theorem neg_sgn (w : Int) (x : Nat) : neg w x = decide (sgn w x < 0) := by
  have h0 := fit_md w x
  unfold neg sgn
  split
  · rename_i h
    rw [decide_eq_false (by omega), decide_eq_false (by omega)]
  · rename_i h
    rw [decide_eq_true h, decide_eq_true (by omega)]
theorem mag_lt (w : Int) (x : Nat) : mag w x ≤ 9223372036854775808 := by
  have h1 := sgn_lo w x
  have h2 := sgn_hi w x
  unfold mag; omega
theorem mag_zero {w : Int} {x : Nat} (hx : x < md w) (h : x ≠ 0) : mag w x ≠ 0 := by
  have := sgn_zero hx h
  unfold mag; omega
theorem div_quo (A B : Int) : A.tdiv B = if (decide (A < 0) != decide (B < 0)) then -((A.natAbs / B.natAbs : Nat) : Int) else ((A.natAbs / B.natAbs : Nat) : Int) := by
  rcases (show A < 0 ∨ 0 ≤ A by omega) with ha | ha <;> rcases (show B < 0 ∨ 0 ≤ B by omega) with hb | hb
  · obtain ⟨a, rfl⟩ : ∃ a : Nat, A = -(a : Int) := ⟨A.natAbs, by omega⟩
    obtain ⟨b, rfl⟩ : ∃ b : Nat, B = -(b : Int) := ⟨B.natAbs, by omega⟩
    rw [decide_eq_true ha, decide_eq_true hb, Int.neg_tdiv, Int.tdiv_neg]
    simp
  · obtain ⟨a, rfl⟩ : ∃ a : Nat, A = -(a : Int) := ⟨A.natAbs, by omega⟩
    obtain ⟨b, rfl⟩ : ∃ b : Nat, B = (b : Int) := ⟨B.natAbs, by omega⟩
    rw [decide_eq_true ha, decide_eq_false (by omega), Int.neg_tdiv]
    simp
  · obtain ⟨a, rfl⟩ : ∃ a : Nat, A = (a : Int) := ⟨A.natAbs, by omega⟩
    obtain ⟨b, rfl⟩ : ∃ b : Nat, B = -(b : Int) := ⟨B.natAbs, by omega⟩
    rw [decide_eq_false (by omega), decide_eq_true hb, Int.tdiv_neg]
    simp
  · obtain ⟨a, rfl⟩ : ∃ a : Nat, A = (a : Int) := ⟨A.natAbs, by omega⟩
    obtain ⟨b, rfl⟩ : ∃ b : Nat, B = (b : Int) := ⟨B.natAbs, by omega⟩
    rw [decide_eq_false (by omega), decide_eq_false (by omega)]
    simp
theorem div_rem (A B : Int) : A.tmod B = if decide (A < 0) then -((A.natAbs % B.natAbs : Nat) : Int) else ((A.natAbs % B.natAbs : Nat) : Int) := by
  rcases (show A < 0 ∨ 0 ≤ A by omega) with ha | ha <;> rcases (show B < 0 ∨ 0 ≤ B by omega) with hb | hb
  · obtain ⟨a, rfl⟩ : ∃ a : Nat, A = -(a : Int) := ⟨A.natAbs, by omega⟩
    obtain ⟨b, rfl⟩ : ∃ b : Nat, B = -(b : Int) := ⟨B.natAbs, by omega⟩
    rw [decide_eq_true ha, Int.neg_tmod, Int.tmod_neg]
    simp
    rfl
  · obtain ⟨a, rfl⟩ : ∃ a : Nat, A = -(a : Int) := ⟨A.natAbs, by omega⟩
    obtain ⟨b, rfl⟩ : ∃ b : Nat, B = (b : Int) := ⟨B.natAbs, by omega⟩
    rw [decide_eq_true ha, Int.neg_tmod]
    simp
    rfl
  · obtain ⟨a, rfl⟩ : ∃ a : Nat, A = (a : Int) := ⟨A.natAbs, by omega⟩
    obtain ⟨b, rfl⟩ : ∃ b : Nat, B = -(b : Int) := ⟨B.natAbs, by omega⟩
    rw [decide_eq_false (by omega), Int.tmod_neg]
    simp
    rfl
  · obtain ⟨a, rfl⟩ : ∃ a : Nat, A = (a : Int) := ⟨A.natAbs, by omega⟩
    obtain ⟨b, rfl⟩ : ∃ b : Nat, B = (b : Int) := ⟨B.natAbs, by omega⟩
    rw [decide_eq_false (by omega)]
    simp
    rfl
/-- A step of the multiplication by shifting and adding. -/
theorem mul_step (a b k M : Nat) : ((a * (b % 2 ^ k)) % M + (a * 2 ^ k) % M + 0) % M = (a * (b % 2 ^ k + 2 ^ k * 1)) % M := by
  rw [Nat.add_zero, ← Nat.add_mod, Nat.mul_add, Nat.mul_one]
end Go.Proofs.YtcodfkeidbeooaaDoor
