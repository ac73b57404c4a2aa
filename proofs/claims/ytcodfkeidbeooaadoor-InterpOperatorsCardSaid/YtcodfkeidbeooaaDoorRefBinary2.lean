/- What the reference's Binary computes: contracts (all operators but those bit by bit). -/
import Derived.Test.YtcodfkeidbeooaaDoorRefBinary
namespace Go.Proofs.YtcodfkeidbeooaaDoor
open Go.RowKit

theorem u64_div {a b : Nat} (ha : a < 18446744073709551616) (hb : ¬ b = 0) : IntKind.u64.wrap ((a : Int) / (b : Int)) = ((a / b : Nat) : Int) := by
  rw [quo0_div 0 ha hb, quo0, if_neg hb]

set_option maxHeartbeats 4000000 in
set_option maxRecDepth 100000 in
theorem rBinary_g0 (op n : Int) (hop : op = 2 ∨ op = 3 ∨ op = 4) (a b : Nat) (la : a < 18446744073709551616) (lb : b < 18446744073709551616) (w : World) :
    Calls Tryd.prog 12 #[.int .i64 op, .int .i64 n, .int .u64 a, .int .u64 b] w fun e w' => e = .returned (.int .u64 (bin op n (fit n a) (fit n b) : Nat)) ∧ Below w.heap.size w w' := by
  have q1 : (op == 9) = false := beq_eq_false_iff_ne.2 (by omega)
  have q2 : (op == 10) = false := beq_eq_false_iff_ne.2 (by omega)
  have q3 : (op == 11) = false := beq_eq_false_iff_ne.2 (by omega)
  have hwm := wd_le n
  go_enter Tryd.func12, Tryd.ntmps12
  have hbel : Below w.heap.size w w := Below.refl _ _
  go_wp2_with fail
  refine (rFit_any n a la _).mono ?_
  rintro e w1 ⟨rfl, hb1⟩
  replace hbel := hbel.trans (hb1.mono hbel.size)
  clear hb1
  go_wp2_with fail
  refine (rFit_any n b lb _).mono ?_
  rintro e w2 ⟨rfl, hb2⟩
  replace hbel := hbel.trans (hb2.mono hbel.size)
  clear hb2
  have mA := fit_md n a
  have mB := fit_md n b
  have la' := fit_lt n a
  have lb' := fit_lt n b
  clear la lb
  generalize hA : fit n a = A at *
  generalize hB : fit n b = B at *
  have HA := Lib.hid hA
  have HB := Lib.hid hB
  clear hA hB
  go_wp2_with fail
  refine (rBits_any n A la' _).mono ?_
  rintro e w3 ⟨v3, rfl, hown3, hb3⟩
  go_wp2_with fail
  refine (rBits_any n B lb' _).mono ?_
  rintro e w4 ⟨v4, rfl, hown4, hb4⟩
  replace hbel := hbel.trans (hb3.mono hbel.size)
  replace hbel := hbel.trans (hb4.mono hbel.size)
  have R1 := (bitsAt_of hown3).below hb4
  have R2 := bitsAt_of hown4
  clear hown3 hown4 hb3 hb4
  have R1c := R1
  have R2c := R2
  obtain ⟨a1, g1, c1, rfl, _⟩ := R1c
  obtain ⟨a2, g2, c2, rfl, _⟩ := R2c
  go_wp2
  go_loop [12] (fun i => ∃ k : Nat, k ≤ wd n ∧ i = .int .i64 k) (fun i => wd n - (intOf i).toNat)
  case atStart => exact ⟨0, by omega, rfl⟩
  case round =>
    obtain ⟨k, hk, rfl⟩ := hrel
    by_cases hlt : k < wd n
    · go_wp2
      go_round
      case rel => exact ⟨k + 1, by omega, by go_num⟩
      case measure => simp [intOf]; omega
    · have hmB : B ≤ mask n := by unfold mask; omega
      have hml := mask_lt n
      clear q1 q2 q3
      rcases ng : neg n A with _ | _
      · go_wp2_with fail
        refine (rNegative_any n A la' _).mono ?_
        rintro e w6 ⟨rfl, hb6⟩
        have R1' := R1.below hb6
        have R2' := R2.below hb6
        replace hbel := hbel.trans (hb6.mono hbel.size)
        clear hb6 hk hlt
        rcases hop with rfl | rfl | rfl
        · go_wp2_with fail
          refine (rAdd_any (wd n) A B 0 hwm (by omega) _ _ _ R1' R2').mono ?_
          rintro e y5 ⟨v5, rfl, hown5, hy5⟩
          replace hbel := hbel.trans (hy5.mono hbel.size)
          go_wp2_with fail
          refine (rWord_any (bitsOf (wd n) (A + B + 0)) (fun b hb => bitsOf_le hb) (by rw [bitsOf_length]; exact hwm) v5 _ _ (by rw [bitsOf_length]; exact hown5)).mono ?_
          rintro e w' ⟨rfl, rfl⟩
          go_wp2
          go_ret
          exact ⟨ret_int (by rw [HA.out, HB.out, ← add_word]; rfl), hbel⟩
        · have f1 : ((mask n : Nat) : Int) - (B : Int) = ((mask n - B : Nat) : Int) := by omega
          have f2 : mask n - B < 18446744073709551616 := by omega
          have SW := Lib.hid (sub_word (a := A) mB)
          go_wp2_with fail
          refine (rOnes_any n _).mono ?_
          rintro e w' ⟨rfl, rfl⟩
          go_wp2_with fail
          refine (rBits_any n (mask n - B) f2 _).mono ?_
          rintro e y4 ⟨v4', rfl, hown4, hy4⟩
          have R1'' := R1'.below hy4
          have R2'' := bitsAt_of hown4
          replace hbel := hbel.trans (hy4.mono hbel.size)
          go_wp2_with fail
          refine (rAdd_any (wd n) A (mask n - B) 1 hwm (by omega) _ _ _ R1'' R2'').mono ?_
          rintro e y5 ⟨v5, rfl, hown5, hy5⟩
          replace hbel := hbel.trans (hy5.mono hbel.size)
          go_wp2_with fail
          refine (rWord_any (bitsOf (wd n) (A + (mask n - B) + 1)) (fun b hb => bitsOf_le hb) (by rw [bitsOf_length]; exact hwm) v5 _ _ (by rw [bitsOf_length]; exact hown5)).mono ?_
          rintro e w' ⟨rfl, rfl⟩
          go_wp2
          go_ret
          exact ⟨ret_int (by rw [SW.out, HA.out, HB.out]), hbel⟩
        · go_wp2_with fail
          refine (rMul_any n A B la' lb' _).mono ?_
          rintro e y1 ⟨rfl, hy1⟩
          replace hbel := hbel.trans (hy1.mono hbel.size)
          go_wp2
          go_ret
          exact ⟨ret_int (by rw [mul_word, HA.out, HB.out]), hbel⟩
      · go_wp2_with fail
        refine (rNegative_any n A la' _).mono ?_
        rintro e w6 ⟨rfl, hb6⟩
        have R1' := R1.below hb6
        have R2' := R2.below hb6
        replace hbel := hbel.trans (hb6.mono hbel.size)
        clear hb6 hk hlt
        rcases hop with rfl | rfl | rfl
        · go_wp2_with fail
          refine (rAdd_any (wd n) A B 0 hwm (by omega) _ _ _ R1' R2').mono ?_
          rintro e y5 ⟨v5, rfl, hown5, hy5⟩
          replace hbel := hbel.trans (hy5.mono hbel.size)
          go_wp2_with fail
          refine (rWord_any (bitsOf (wd n) (A + B + 0)) (fun b hb => bitsOf_le hb) (by rw [bitsOf_length]; exact hwm) v5 _ _ (by rw [bitsOf_length]; exact hown5)).mono ?_
          rintro e w' ⟨rfl, rfl⟩
          go_wp2
          go_ret
          exact ⟨ret_int (by rw [HA.out, HB.out, ← add_word]; rfl), hbel⟩
        · have f1 : ((mask n : Nat) : Int) - (B : Int) = ((mask n - B : Nat) : Int) := by omega
          have f2 : mask n - B < 18446744073709551616 := by omega
          have SW := Lib.hid (sub_word (a := A) mB)
          go_wp2_with fail
          refine (rOnes_any n _).mono ?_
          rintro e w' ⟨rfl, rfl⟩
          go_wp2_with fail
          refine (rBits_any n (mask n - B) f2 _).mono ?_
          rintro e y4 ⟨v4', rfl, hown4, hy4⟩
          have R1'' := R1'.below hy4
          have R2'' := bitsAt_of hown4
          replace hbel := hbel.trans (hy4.mono hbel.size)
          go_wp2_with fail
          refine (rAdd_any (wd n) A (mask n - B) 1 hwm (by omega) _ _ _ R1'' R2'').mono ?_
          rintro e y5 ⟨v5, rfl, hown5, hy5⟩
          replace hbel := hbel.trans (hy5.mono hbel.size)
          go_wp2_with fail
          refine (rWord_any (bitsOf (wd n) (A + (mask n - B) + 1)) (fun b hb => bitsOf_le hb) (by rw [bitsOf_length]; exact hwm) v5 _ _ (by rw [bitsOf_length]; exact hown5)).mono ?_
          rintro e w' ⟨rfl, rfl⟩
          go_wp2
          go_ret
          exact ⟨ret_int (by rw [SW.out, HA.out, HB.out]), hbel⟩
        · go_wp2_with fail
          refine (rMul_any n A B la' lb' _).mono ?_
          rintro e y1 ⟨rfl, hy1⟩
          replace hbel := hbel.trans (hy1.mono hbel.size)
          go_wp2
          go_ret
          exact ⟨ret_int (by rw [mul_word, HA.out, HB.out]), hbel⟩

set_option maxHeartbeats 4000000 in
set_option maxRecDepth 100000 in
theorem rBinary_g1 (op n : Int) (hop : op = 5 ∨ op = 6 ∨ op = 7 ∨ op = 8) (a b : Nat) (la : a < 18446744073709551616) (lb : b < 18446744073709551616) (w : World) :
    Calls Tryd.prog 12 #[.int .i64 op, .int .i64 n, .int .u64 a, .int .u64 b] w fun e w' => e = .returned (.int .u64 (bin op n (fit n a) (fit n b) : Nat)) ∧ Below w.heap.size w w' := by
  have q1 : (op == 9) = false := beq_eq_false_iff_ne.2 (by omega)
  have q2 : (op == 10) = false := beq_eq_false_iff_ne.2 (by omega)
  have q3 : (op == 11) = false := beq_eq_false_iff_ne.2 (by omega)
  have hwm := wd_le n
  go_enter Tryd.func12, Tryd.ntmps12
  have hbel : Below w.heap.size w w := Below.refl _ _
  go_wp2_with fail
  refine (rFit_any n a la _).mono ?_
  rintro e w1 ⟨rfl, hb1⟩
  replace hbel := hbel.trans (hb1.mono hbel.size)
  clear hb1
  go_wp2_with fail
  refine (rFit_any n b lb _).mono ?_
  rintro e w2 ⟨rfl, hb2⟩
  replace hbel := hbel.trans (hb2.mono hbel.size)
  clear hb2
  have mA := fit_md n a
  have mB := fit_md n b
  have la' := fit_lt n a
  have lb' := fit_lt n b
  clear la lb
  generalize hA : fit n a = A at *
  generalize hB : fit n b = B at *
  have HA := Lib.hid hA
  have HB := Lib.hid hB
  clear hA hB
  go_wp2_with fail
  refine (rBits_any n A la' _).mono ?_
  rintro e w3 ⟨v3, rfl, hown3, hb3⟩
  go_wp2_with fail
  refine (rBits_any n B lb' _).mono ?_
  rintro e w4 ⟨v4, rfl, hown4, hb4⟩
  replace hbel := hbel.trans (hb3.mono hbel.size)
  replace hbel := hbel.trans (hb4.mono hbel.size)
  have R1 := (bitsAt_of hown3).below hb4
  have R2 := bitsAt_of hown4
  clear hown3 hown4 hb3 hb4
  have R1c := R1
  have R2c := R2
  obtain ⟨a1, g1, c1, rfl, _⟩ := R1c
  obtain ⟨a2, g2, c2, rfl, _⟩ := R2c
  go_wp2
  go_loop [12] (fun i => ∃ k : Nat, k ≤ wd n ∧ i = .int .i64 k) (fun i => wd n - (intOf i).toNat)
  case atStart => exact ⟨0, by omega, rfl⟩
  case round =>
    obtain ⟨k, hk, rfl⟩ := hrel
    by_cases hlt : k < wd n
    · go_wp2
      go_round
      case rel => exact ⟨k + 1, by omega, by go_num⟩
      case measure => simp [intOf]; omega
    · have hmB : B ≤ mask n := by unfold mask; omega
      have hml := mask_lt n
      clear q1 q2 q3
      rcases ng : neg n A with _ | _
      · go_wp2_with fail
        refine (rNegative_any n A la' _).mono ?_
        rintro e w6 ⟨rfl, hb6⟩
        have R1' := R1.below hb6
        have R2' := R2.below hb6
        replace hbel := hbel.trans (hb6.mono hbel.size)
        clear hb6 hk hlt
        rcases hop with rfl | rfl | rfl | rfl
        · by_cases hB0 : B = 0
          · have U := Lib.hid (udiv_zero (n := n) (a := A) hB0)
            have hB1 : B ≤ 0 := by omega
            clear hB0
            go_wp2_with (go_at_call 24; refine (rOnes_any _ _).mono ?_; rintro e w' ⟨rfl, rfl⟩)
            go_ret
            exact ⟨ret_int (by rw [HA.out, HB.out, U.out]), hbel⟩
          · have U := Lib.hid (udiv_bin (n := n) (a := A) hB0)
            have hB1 : (1 : Int) ≤ (B : Int) := by omega
            go_wp2
            go_ret
            exact ⟨ret_int (by rw [HA.out, HB.out, U.out]; exact u64_div la' hB0), hbel⟩
        · by_cases hB0 : B = 0
          · have U := Lib.hid (urem_zero (n := n) (a := A) hB0)
            have hB1 : B ≤ 0 := by omega
            clear hB0
            go_wp2
            go_ret
            exact ⟨ret_int (by rw [HA.out, HB.out, U.out]), hbel⟩
          · have U := Lib.hid (urem_bin (n := n) (a := A) hB0)
            have hB1 : (1 : Int) ≤ (B : Int) := by omega
            go_wp2
            go_ret
            exact ⟨ret_int (by rw [HA.out, HB.out, U.out]; simp), hbel⟩
        · go_wp2_with fail
          refine (rDivide_any n A B mA mB _).mono ?_
          rintro e y5 ⟨rfl, hy5⟩
          replace hbel := hbel.trans (hy5.mono hbel.size)
          go_wp2
          go_ret
          exact ⟨ret_int (by rw [HA.out, HB.out]), hbel⟩
        · go_wp2_with fail
          refine (rDivide_any n A B mA mB _).mono ?_
          rintro e y5 ⟨rfl, hy5⟩
          replace hbel := hbel.trans (hy5.mono hbel.size)
          go_wp2
          go_ret
          exact ⟨ret_int (by rw [HA.out, HB.out]), hbel⟩
      · go_wp2_with fail
        refine (rNegative_any n A la' _).mono ?_
        rintro e w6 ⟨rfl, hb6⟩
        have R1' := R1.below hb6
        have R2' := R2.below hb6
        replace hbel := hbel.trans (hb6.mono hbel.size)
        clear hb6 hk hlt
        rcases hop with rfl | rfl | rfl | rfl
        · by_cases hB0 : B = 0
          · have U := Lib.hid (udiv_zero (n := n) (a := A) hB0)
            have hB1 : B ≤ 0 := by omega
            clear hB0
            go_wp2_with (go_at_call 24; refine (rOnes_any _ _).mono ?_; rintro e w' ⟨rfl, rfl⟩)
            go_ret
            exact ⟨ret_int (by rw [HA.out, HB.out, U.out]), hbel⟩
          · have U := Lib.hid (udiv_bin (n := n) (a := A) hB0)
            have hB1 : (1 : Int) ≤ (B : Int) := by omega
            go_wp2
            go_ret
            exact ⟨ret_int (by rw [HA.out, HB.out, U.out]; exact u64_div la' hB0), hbel⟩
        · by_cases hB0 : B = 0
          · have U := Lib.hid (urem_zero (n := n) (a := A) hB0)
            have hB1 : B ≤ 0 := by omega
            clear hB0
            go_wp2
            go_ret
            exact ⟨ret_int (by rw [HA.out, HB.out, U.out]), hbel⟩
          · have U := Lib.hid (urem_bin (n := n) (a := A) hB0)
            have hB1 : (1 : Int) ≤ (B : Int) := by omega
            go_wp2
            go_ret
            exact ⟨ret_int (by rw [HA.out, HB.out, U.out]; simp), hbel⟩
        · go_wp2_with fail
          refine (rDivide_any n A B mA mB _).mono ?_
          rintro e y5 ⟨rfl, hy5⟩
          replace hbel := hbel.trans (hy5.mono hbel.size)
          go_wp2
          go_ret
          exact ⟨ret_int (by rw [HA.out, HB.out]), hbel⟩
        · go_wp2_with fail
          refine (rDivide_any n A B mA mB _).mono ?_
          rintro e y5 ⟨rfl, hy5⟩
          replace hbel := hbel.trans (hy5.mono hbel.size)
          go_wp2
          go_ret
          exact ⟨ret_int (by rw [HA.out, HB.out]), hbel⟩

set_option maxHeartbeats 4000000 in
set_option maxRecDepth 100000 in
theorem rBinary_g2 (op n : Int) (hop : op = 12 ∨ op = 13 ∨ op = 14) (a b : Nat) (la : a < 18446744073709551616) (lb : b < 18446744073709551616) (w : World) :
    Calls Tryd.prog 12 #[.int .i64 op, .int .i64 n, .int .u64 a, .int .u64 b] w fun e w' => e = .returned (.int .u64 (bin op n (fit n a) (fit n b) : Nat)) ∧ Below w.heap.size w w' := by
  have q1 : (op == 9) = false := beq_eq_false_iff_ne.2 (by omega)
  have q2 : (op == 10) = false := beq_eq_false_iff_ne.2 (by omega)
  have q3 : (op == 11) = false := beq_eq_false_iff_ne.2 (by omega)
  have hwm := wd_le n
  go_enter Tryd.func12, Tryd.ntmps12
  have hbel : Below w.heap.size w w := Below.refl _ _
  go_wp2_with fail
  refine (rFit_any n a la _).mono ?_
  rintro e w1 ⟨rfl, hb1⟩
  replace hbel := hbel.trans (hb1.mono hbel.size)
  clear hb1
  go_wp2_with fail
  refine (rFit_any n b lb _).mono ?_
  rintro e w2 ⟨rfl, hb2⟩
  replace hbel := hbel.trans (hb2.mono hbel.size)
  clear hb2
  have mA := fit_md n a
  have mB := fit_md n b
  have la' := fit_lt n a
  have lb' := fit_lt n b
  clear la lb
  generalize hA : fit n a = A at *
  generalize hB : fit n b = B at *
  have HA := Lib.hid hA
  have HB := Lib.hid hB
  clear hA hB
  go_wp2_with fail
  refine (rBits_any n A la' _).mono ?_
  rintro e w3 ⟨v3, rfl, hown3, hb3⟩
  go_wp2_with fail
  refine (rBits_any n B lb' _).mono ?_
  rintro e w4 ⟨v4, rfl, hown4, hb4⟩
  replace hbel := hbel.trans (hb3.mono hbel.size)
  replace hbel := hbel.trans (hb4.mono hbel.size)
  have R1 := (bitsAt_of hown3).below hb4
  have R2 := bitsAt_of hown4
  clear hown3 hown4 hb3 hb4
  have R1c := R1
  have R2c := R2
  obtain ⟨a1, g1, c1, rfl, _⟩ := R1c
  obtain ⟨a2, g2, c2, rfl, _⟩ := R2c
  go_wp2
  go_loop [12] (fun i => ∃ k : Nat, k ≤ wd n ∧ i = .int .i64 k) (fun i => wd n - (intOf i).toNat)
  case atStart => exact ⟨0, by omega, rfl⟩
  case round =>
    obtain ⟨k, hk, rfl⟩ := hrel
    by_cases hlt : k < wd n
    · go_wp2
      go_round
      case rel => exact ⟨k + 1, by omega, by go_num⟩
      case measure => simp [intOf]; omega
    · have hmB : B ≤ mask n := by unfold mask; omega
      have hml := mask_lt n
      clear q1 q2 q3
      rcases ng : neg n A with _ | _
      · go_wp2_with fail
        refine (rNegative_any n A la' _).mono ?_
        rintro e w6 ⟨rfl, hb6⟩
        have R1' := R1.below hb6
        have R2' := R2.below hb6
        replace hbel := hbel.trans (hb6.mono hbel.size)
        clear hb6 hk hlt
        rcases hop with rfl | rfl | rfl
        · go_wp2_with fail
          refine (rAmount_any n B lb' _).mono ?_
          rintro e w' ⟨rfl, rfl⟩
          go_wp2_with fail
          refine (rShl_any n A (min B (wd n)) la' (by omega) _).mono ?_
          rintro e y1 ⟨rfl, hy1⟩
          replace hbel := hbel.trans (hy1.mono hbel.size)
          go_wp2
          go_ret
          exact ⟨ret_int (by rw [shl_bin, HA.out, HB.out]), hbel⟩
        · have SW := Lib.hid (lshr_bin (b := B) mA)
          go_wp2_with fail
          refine (rAmount_any n B lb' _).mono ?_
          rintro e w' ⟨rfl, rfl⟩
          go_wp2_with fail
          refine (rShr_any n A (min B (wd n)) 0 la' (by omega) (by omega) _).mono ?_
          rintro e y1 ⟨rfl, hy1⟩
          replace hbel := hbel.trans (hy1.mono hbel.size)
          go_wp2
          go_ret
          exact ⟨ret_int (by rw [SW.out, HA.out, HB.out]), hbel⟩
        · have SW := Lib.hid (ashr_bin (b := B) mA)
          rw [ng] at SW
          go_wp2_with fail
          refine (rAmount_any n B lb' _).mono ?_
          rintro e w' ⟨rfl, rfl⟩
          go_wp2_with fail
          refine (rShr_any n A (min B (wd n)) 0 la' (by omega) (by omega) _).mono ?_
          rintro e y1 ⟨rfl, hy1⟩
          replace hbel := hbel.trans (hy1.mono hbel.size)
          go_wp2
          go_ret
          exact ⟨ret_int (by rw [HA.out, HB.out, ← SW.out]; rfl), hbel⟩
      · go_wp2_with fail
        refine (rNegative_any n A la' _).mono ?_
        rintro e w6 ⟨rfl, hb6⟩
        have R1' := R1.below hb6
        have R2' := R2.below hb6
        replace hbel := hbel.trans (hb6.mono hbel.size)
        clear hb6 hk hlt
        rcases hop with rfl | rfl | rfl
        · go_wp2_with fail
          refine (rAmount_any n B lb' _).mono ?_
          rintro e w' ⟨rfl, rfl⟩
          go_wp2_with fail
          refine (rShl_any n A (min B (wd n)) la' (by omega) _).mono ?_
          rintro e y1 ⟨rfl, hy1⟩
          replace hbel := hbel.trans (hy1.mono hbel.size)
          go_wp2
          go_ret
          exact ⟨ret_int (by rw [shl_bin, HA.out, HB.out]), hbel⟩
        · have SW := Lib.hid (lshr_bin (b := B) mA)
          go_wp2_with fail
          refine (rAmount_any n B lb' _).mono ?_
          rintro e w' ⟨rfl, rfl⟩
          go_wp2_with fail
          refine (rShr_any n A (min B (wd n)) 0 la' (by omega) (by omega) _).mono ?_
          rintro e y1 ⟨rfl, hy1⟩
          replace hbel := hbel.trans (hy1.mono hbel.size)
          go_wp2
          go_ret
          exact ⟨ret_int (by rw [SW.out, HA.out, HB.out]), hbel⟩
        · have SW := Lib.hid (ashr_bin (b := B) mA)
          rw [ng] at SW
          go_wp2_with fail
          refine (rAmount_any n B lb' _).mono ?_
          rintro e w' ⟨rfl, rfl⟩
          go_wp2_with fail
          refine (rShr_any n A (min B (wd n)) 1 la' (by omega) (by omega) _).mono ?_
          rintro e y1 ⟨rfl, hy1⟩
          replace hbel := hbel.trans (hy1.mono hbel.size)
          go_wp2
          go_ret
          exact ⟨ret_int (by rw [HA.out, HB.out, ← SW.out]; rfl), hbel⟩

set_option maxHeartbeats 4000000 in
set_option maxRecDepth 100000 in
theorem rBinary_g3 (op n : Int) (hop : op = 15 ∨ op = 16 ∨ op = 17 ∨ op = 18 ∨ op = 19 ∨ op = 20) (a b : Nat) (la : a < 18446744073709551616) (lb : b < 18446744073709551616) (w : World) :
    Calls Tryd.prog 12 #[.int .i64 op, .int .i64 n, .int .u64 a, .int .u64 b] w fun e w' => e = .returned (.int .u64 (bin op n (fit n a) (fit n b) : Nat)) ∧ Below w.heap.size w w' := by
  have q1 : (op == 9) = false := beq_eq_false_iff_ne.2 (by omega)
  have q2 : (op == 10) = false := beq_eq_false_iff_ne.2 (by omega)
  have q3 : (op == 11) = false := beq_eq_false_iff_ne.2 (by omega)
  have hwm := wd_le n
  go_enter Tryd.func12, Tryd.ntmps12
  have hbel : Below w.heap.size w w := Below.refl _ _
  go_wp2_with fail
  refine (rFit_any n a la _).mono ?_
  rintro e w1 ⟨rfl, hb1⟩
  replace hbel := hbel.trans (hb1.mono hbel.size)
  clear hb1
  go_wp2_with fail
  refine (rFit_any n b lb _).mono ?_
  rintro e w2 ⟨rfl, hb2⟩
  replace hbel := hbel.trans (hb2.mono hbel.size)
  clear hb2
  have mA := fit_md n a
  have mB := fit_md n b
  have la' := fit_lt n a
  have lb' := fit_lt n b
  clear la lb
  generalize hA : fit n a = A at *
  generalize hB : fit n b = B at *
  have HA := Lib.hid hA
  have HB := Lib.hid hB
  clear hA hB
  go_wp2_with fail
  refine (rBits_any n A la' _).mono ?_
  rintro e w3 ⟨v3, rfl, hown3, hb3⟩
  go_wp2_with fail
  refine (rBits_any n B lb' _).mono ?_
  rintro e w4 ⟨v4, rfl, hown4, hb4⟩
  replace hbel := hbel.trans (hb3.mono hbel.size)
  replace hbel := hbel.trans (hb4.mono hbel.size)
  have R1 := (bitsAt_of hown3).below hb4
  have R2 := bitsAt_of hown4
  clear hown3 hown4 hb3 hb4
  have R1c := R1
  have R2c := R2
  obtain ⟨a1, g1, c1, rfl, _⟩ := R1c
  obtain ⟨a2, g2, c2, rfl, _⟩ := R2c
  go_wp2
  go_loop [12] (fun i => ∃ k : Nat, k ≤ wd n ∧ i = .int .i64 k) (fun i => wd n - (intOf i).toNat)
  case atStart => exact ⟨0, by omega, rfl⟩
  case round =>
    obtain ⟨k, hk, rfl⟩ := hrel
    by_cases hlt : k < wd n
    · go_wp2
      go_round
      case rel => exact ⟨k + 1, by omega, by go_num⟩
      case measure => simp [intOf]; omega
    · have hmB : B ≤ mask n := by unfold mask; omega
      have hml := mask_lt n
      clear q1 q2 q3
      rcases ng : neg n A with _ | _
      · go_wp2_with fail
        refine (rNegative_any n A la' _).mono ?_
        rintro e w6 ⟨rfl, hb6⟩
        have R1' := R1.below hb6
        have R2' := R2.below hb6
        replace hbel := hbel.trans (hb6.mono hbel.size)
        clear hb6 hk hlt
        rcases hop with rfl | rfl | rfl | rfl | rfl | rfl
        · go_wp2_with (go_at_call 29; refine (rBit_any _ _).mono ?_; rintro e w' ⟨rfl, rfl⟩)
          go_ret
          exact ⟨ret_int (by rw [HA.out, HB.out, b2n_eq]; rfl), hbel⟩
        · go_wp2_with (go_at_call 29; refine (rBit_any _ _).mono ?_; rintro e w' ⟨rfl, rfl⟩)
          go_ret
          exact ⟨ret_int (by rw [HA.out, HB.out, b2n_ne]; rfl), hbel⟩
        · go_wp2_with (go_at_call 29; refine (rBit_any _ _).mono ?_; rintro e w' ⟨rfl, rfl⟩)
          go_ret
          exact ⟨ret_int (by rw [HA.out, HB.out]; rfl), hbel⟩
        · go_wp2_with (go_at_call 29; refine (rBit_any _ _).mono ?_; rintro e w' ⟨rfl, rfl⟩)
          go_ret
          exact ⟨ret_int (by rw [HA.out, HB.out]; rfl), hbel⟩
        · go_wp2_with fail
          refine (rSigned_any n A la' _).mono ?_
          rintro e y1 ⟨rfl, hy1⟩
          replace hbel := hbel.trans (hy1.mono hbel.size)
          go_wp2_with fail
          refine (rSigned_any n B lb' _).mono ?_
          rintro e y2 ⟨rfl, hy2⟩
          replace hbel := hbel.trans (hy2.mono hbel.size)
          go_wp2_with (go_at_call 29; refine (rBit_any _ _).mono ?_; rintro e w' ⟨rfl, rfl⟩)
          go_ret
          exact ⟨ret_int (by rw [HA.out, HB.out]; rfl), hbel⟩
        · go_wp2_with fail
          refine (rSigned_any n A la' _).mono ?_
          rintro e y1 ⟨rfl, hy1⟩
          replace hbel := hbel.trans (hy1.mono hbel.size)
          go_wp2_with fail
          refine (rSigned_any n B lb' _).mono ?_
          rintro e y2 ⟨rfl, hy2⟩
          replace hbel := hbel.trans (hy2.mono hbel.size)
          go_wp2_with (go_at_call 29; refine (rBit_any _ _).mono ?_; rintro e w' ⟨rfl, rfl⟩)
          go_ret
          exact ⟨ret_int (by rw [HA.out, HB.out]; rfl), hbel⟩
      · go_wp2_with fail
        refine (rNegative_any n A la' _).mono ?_
        rintro e w6 ⟨rfl, hb6⟩
        have R1' := R1.below hb6
        have R2' := R2.below hb6
        replace hbel := hbel.trans (hb6.mono hbel.size)
        clear hb6 hk hlt
        rcases hop with rfl | rfl | rfl | rfl | rfl | rfl
        · go_wp2_with (go_at_call 29; refine (rBit_any _ _).mono ?_; rintro e w' ⟨rfl, rfl⟩)
          go_ret
          exact ⟨ret_int (by rw [HA.out, HB.out, b2n_eq]; rfl), hbel⟩
        · go_wp2_with (go_at_call 29; refine (rBit_any _ _).mono ?_; rintro e w' ⟨rfl, rfl⟩)
          go_ret
          exact ⟨ret_int (by rw [HA.out, HB.out, b2n_ne]; rfl), hbel⟩
        · go_wp2_with (go_at_call 29; refine (rBit_any _ _).mono ?_; rintro e w' ⟨rfl, rfl⟩)
          go_ret
          exact ⟨ret_int (by rw [HA.out, HB.out]; rfl), hbel⟩
        · go_wp2_with (go_at_call 29; refine (rBit_any _ _).mono ?_; rintro e w' ⟨rfl, rfl⟩)
          go_ret
          exact ⟨ret_int (by rw [HA.out, HB.out]; rfl), hbel⟩
        · go_wp2_with fail
          refine (rSigned_any n A la' _).mono ?_
          rintro e y1 ⟨rfl, hy1⟩
          replace hbel := hbel.trans (hy1.mono hbel.size)
          go_wp2_with fail
          refine (rSigned_any n B lb' _).mono ?_
          rintro e y2 ⟨rfl, hy2⟩
          replace hbel := hbel.trans (hy2.mono hbel.size)
          go_wp2_with (go_at_call 29; refine (rBit_any _ _).mono ?_; rintro e w' ⟨rfl, rfl⟩)
          go_ret
          exact ⟨ret_int (by rw [HA.out, HB.out]; rfl), hbel⟩
        · go_wp2_with fail
          refine (rSigned_any n A la' _).mono ?_
          rintro e y1 ⟨rfl, hy1⟩
          replace hbel := hbel.trans (hy1.mono hbel.size)
          go_wp2_with fail
          refine (rSigned_any n B lb' _).mono ?_
          rintro e y2 ⟨rfl, hy2⟩
          replace hbel := hbel.trans (hy2.mono hbel.size)
          go_wp2_with (go_at_call 29; refine (rBit_any _ _).mono ?_; rintro e w' ⟨rfl, rfl⟩)
          go_ret
          exact ⟨ret_int (by rw [HA.out, HB.out]; rfl), hbel⟩

theorem rBinary_any (op n : Int) (hop : 2 ≤ op ∧ op ≤ 20) (a b : Nat) (la : a < 18446744073709551616) (lb : b < 18446744073709551616) (w : World) :
    Calls Tryd.prog 12 #[.int .i64 op, .int .i64 n, .int .u64 a, .int .u64 b] w fun e w' => e = .returned (.int .u64 (bin op n (fit n a) (fit n b) : Nat)) ∧ Below w.heap.size w w' := by
  rcases (show op = 9 ∨ op = 10 ∨ op = 11 ∨ (op = 2 ∨ op = 3 ∨ op = 4) ∨ (op = 5 ∨ op = 6 ∨ op = 7 ∨ op = 8) ∨ (op = 12 ∨ op = 13 ∨ op = 14) ∨ (op = 15 ∨ op = 16 ∨ op = 17 ∨ op = 18 ∨ op = 19 ∨ op = 20) by omega) with rfl | rfl | rfl | h | h | h | h
  · exact rBinary_and n a b la lb w
  · exact rBinary_or n a b la lb w
  · exact rBinary_xor n a b la lb w
  · exact rBinary_g0 op n h a b la lb w
  · exact rBinary_g1 op n h a b la lb w
  · exact rBinary_g2 op n h a b la lb w
  · exact rBinary_g3 op n h a b la lb w
end Go.Proofs.YtcodfkeidbeooaaDoor
