/- What each function of package bits computes: contracts, the callees first. -/
import Derived.Test.YtcodfkeidbeooaaDoorRows
import Derived.Test.YtcodfkeidbeooaaDoorBitMath
import Derived.WalkLawsBesides
import Derived.Outline
import Derived.Lib.Hide
namespace Go.Proofs.YtcodfkeidbeooaaDoor
open Go.RowKit

theorem ret_int {k : IntKind} {a b : Int} (h : a = b) : Ending.returned (.int k a) = .returned (.int k b) := by rw [h]
theorem ret_pair {k : IntKind} {a b : Int} {v : Value} (h : a = b) : Ending.returned (.tuple #[.int k a, v]) = .returned (.tuple #[.int k b, v]) := by rw [h]
theorem ret_bool {a b : Bool} (h : a = b) : Ending.returned (.bool a) = .returned (.bool b) := by rw [h]

theorem Mask_any (n : Int) (w : World) : Calls Tryd.prog 21 #[.int .i64 n] w fun e w' => e = .returned (.int .u64 (mask n : Nat)) ∧ w = w' := by
  by_cases h1 : n ≤ 0
  · go_enter Tryd.func21, Tryd.ntmps21
    go_wp2
    go_ret
    exact ⟨ret_int (by simp [mask, md_low h1]), rfl⟩
  · by_cases h2 : 64 ≤ n
    · go_enter Tryd.func21, Tryd.ntmps21
      go_wp2
      go_ret
      exact ⟨ret_int (by simp [mask, md_high h2]), rfl⟩
    · go_enter Tryd.func21, Tryd.ntmps21
      go_wp2
      go_ret
      refine ⟨ret_int ?_, rfl⟩
      have h3 := md_mid (w := n) (by omega) (by omega)
      have h4 := md_le n
      have h5 := md_pos n
      obtain ⟨k, hk, hk0⟩ := md_even (w := n) (by omega)
      have h6 : md n < 18446744073709551616 := by
        have : 2 ^ n.toNat ≤ 2 ^ 63 := Nat.pow_le_pow_right (by omega) (by omega)
        rw [h3]; omega
      have h7 : ((2 : Int) ^ n.toNat) = ((md n : Nat) : Int) := by rw [h3]; simp
      rw [h7, IntKind.wrap_u64, IntKind.wrap_u64]
      unfold mask
      omega

theorem Fit_any (n : Int) (x : Nat) (hx : x < 18446744073709551616) (w : World) :
    Calls Tryd.prog 10 #[.int .i64 n, .int .u64 x] w fun e w' => e = .returned (.int .u64 (fit n x : Nat)) ∧ w = w' := by
  go_enter Tryd.func10, Tryd.ntmps10
  go_wp2_with (go_at_call 21; refine (Mask_any _ _).mono ?_; rintro e w' ⟨rfl, rfl⟩)
  go_ret
  exact ⟨ret_int (and_mask n x hx), rfl⟩

theorem Signed_any (n : Int) (x : Nat) (hx : x < 18446744073709551616) (w : World) :
    Calls Tryd.prog 33 #[.int .i64 n, .int .u64 x] w fun e w' => e = .returned (.int .i64 (sgn n x)) ∧ w = w' := by
  have hm := mask_lt n
  by_cases h : ((fit n x : Nat) : Int) ≤ ((mask n : Nat) : Int) / 2
  · go_enter Tryd.func33, Tryd.ntmps33
    go_wp2_with (first | (go_at_call 21; refine (Mask_any _ _).mono ?_; rintro e w' ⟨rfl, rfl⟩) | (go_at_call 10; refine (Fit_any _ _ hx _).mono ?_; rintro e w' ⟨rfl, rfl⟩))
    go_ret
    exact ⟨ret_int (sgn_low h), rfl⟩
  · go_enter Tryd.func33, Tryd.ntmps33
    go_wp2_with (first | (go_at_call 21; refine (Mask_any _ _).mono ?_; rintro e w' ⟨rfl, rfl⟩) | (go_at_call 10; refine (Fit_any _ _ hx _).mono ?_; rintro e w' ⟨rfl, rfl⟩))
    go_ret
    exact ⟨ret_int (sgn_high (by omega)), rfl⟩

theorem From_any (n : Int) (x : Int) (w : World) :
    Calls Tryd.prog 32 #[.int .i64 n, .int .i64 x] w fun e w' => e = .returned (.int .u64 (frm n x : Nat)) ∧ w = w' := by
  go_enter Tryd.func32, Tryd.ntmps32
  go_wp2_with fail
  obtain ⟨y, hy, hy1⟩ : ∃ y : Nat, IntKind.u64.wrap x = (y : Int) ∧ y < 18446744073709551616 := ⟨(x % 18446744073709551616).toNat, by rw [IntKind.wrap_u64]; omega, by omega⟩
  have e : fit n y = frm n x := by rw [frm_mod x y (by rw [← hy, IntKind.wrap_u64])]
  have H := Lib.hid e
  clear e
  rw [hy]
  clear hy
  refine (Fit_any n y hy1 _).mono ?_
  rintro e w' ⟨rfl, rfl⟩
  go_wp2
  go_ret
  exact ⟨ret_int (by rw [H.out]), rfl⟩

theorem Extend_any (a b : Int) (x : Nat) (s : Bool) (hx : x < 18446744073709551616) (w : World) :
    Calls Tryd.prog 13 #[.int .i64 a, .int .i64 b, .int .u64 x, .bool s] w fun e w' => e = .returned (.int .u64 ((if s then frm b (sgn a x) else fit b (fit a x) : Nat) : Int)) ∧ w = w' := by
  have h1 := sgn_lo a x
  have h2 := sgn_hi a x
  have h3 := fit_lt a x
  cases s
  all_goals
    go_enter Tryd.func13, Tryd.ntmps13
    go_wp2_with (first | (go_at_call 32; refine (From_any _ _ _).mono ?_; rintro e w' ⟨rfl, rfl⟩) | (go_at_call 10; refine (Fit_any _ _ (by assumption) _).mono ?_; rintro e w' ⟨rfl, rfl⟩) | (go_at_call 33; refine (Signed_any _ _ hx _).mono ?_; rintro e w' ⟨rfl, rfl⟩))
    go_ret
    exact ⟨rfl, rfl⟩

theorem truth_any (b : Bool) (w : World) : Calls Tryd.prog 38 #[.bool b] w fun e w' => e = .returned (.int .u64 ((b2n b : Nat) : Int)) ∧ w = w' := by
  cases b
  all_goals
    go_enter Tryd.func38, Tryd.ntmps38
    go_wp2
    go_ret
    exact ⟨rfl, rfl⟩
theorem isWidth_any (n : Int) (w : World) : Calls Tryd.prog 19 #[.int .i64 n] w fun e w' => e = .returned (.bool (decide (1 ≤ n ∧ n ≤ 64))) ∧ w = w' := by
  by_cases h1 : 1 ≤ n
  · go_enter Tryd.func19, Tryd.ntmps19
    go_wp2
    go_ret
    exact ⟨ret_bool (by simp; omega), rfl⟩
  · go_enter Tryd.func19, Tryd.ntmps19
    go_wp2
    go_ret
    exact ⟨ret_bool (by simp; omega), rfl⟩
theorem IsBinary_any (n : Int) (w : World) : Calls Tryd.prog 18 #[.int .i64 n] w fun e w' => e = .returned (.bool (decide (2 ≤ n ∧ n ≤ 20))) ∧ w = w' := by
  by_cases h1 : 2 ≤ n
  · go_enter Tryd.func18, Tryd.ntmps18
    go_wp2
    go_ret
    exact ⟨ret_bool (by simp; omega), rfl⟩
  · go_enter Tryd.func18, Tryd.ntmps18
    go_wp2
    go_ret
    exact ⟨ret_bool (by simp; omega), rfl⟩
theorem quotient_any (n : Int) (a b : Nat) (ha : a < 18446744073709551616) (w : World) :
    Calls Tryd.prog 34 #[.int .i64 n, .int .u64 a, .int .u64 b] w fun e w' => e = .returned (.int .u64 ((quo0 n a b : Nat) : Int)) ∧ w = w' := by
  by_cases hb : b = 0
  · subst hb
    go_enter Tryd.func34, Tryd.ntmps34
    go_wp2_with (go_at_call 21; refine (Mask_any _ _).mono ?_; rintro e w' ⟨rfl, rfl⟩)
    go_ret
    exact ⟨rfl, rfl⟩
  · have h1 : (1 : Int) ≤ (b : Int) := by omega
    go_enter Tryd.func34, Tryd.ntmps34
    go_wp2
    go_ret
    exact ⟨ret_int (quo0_div n ha hb), rfl⟩
theorem remainder_any (a b : Nat) (w : World) :
    Calls Tryd.prog 35 #[.int .u64 a, .int .u64 b] w fun e w' => e = .returned (.int .u64 ((rem0 a b : Nat) : Int)) ∧ w = w' := by
  by_cases hb : b = 0
  · subst hb
    go_enter Tryd.func35, Tryd.ntmps35
    go_wp2
    go_ret
    exact ⟨rfl, rfl⟩
  · have h1 : (1 : Int) ≤ (b : Int) := by omega
    go_enter Tryd.func35, Tryd.ntmps35
    go_wp2
    go_ret
    exact ⟨ret_int (rem0_mod hb), rfl⟩
theorem signedQuotient_any (n : Int) (a b : Nat) (ha : a < 18446744073709551616) (hb : b < 18446744073709551616) (h0 : b ≠ 0 → sgn n b ≠ 0) (w : World) :
    Calls Tryd.prog 36 #[.int .i64 n, .int .u64 a, .int .u64 b] w fun e w' => e = .returned (.int .u64 (quoN n a b : Nat)) ∧ w = w' := by
  by_cases hz : b = 0
  · subst hz
    go_enter Tryd.func36, Tryd.ntmps36
    go_wp2_with (go_at_call 21; refine (Mask_any _ _).mono ?_; rintro e w' ⟨rfl, rfl⟩)
    go_ret
    exact ⟨rfl, rfl⟩
  · have h1 : (1 : Int) ≤ (b : Int) := by omega
    have h2 := h0 hz
    clear h0
    go_enter Tryd.func36, Tryd.ntmps36
    go_wp2_with (first | (go_at_call 33; refine (Signed_any _ _ (by assumption) _).mono ?_; rintro e w' ⟨rfl, rfl⟩) | (go_at_call 32; refine (From_any _ _ _).mono ?_; rintro e w' ⟨rfl, rfl⟩))
    go_ret
    refine ⟨ret_int ?_, rfl⟩
    rw [quoN, if_neg hz]
theorem signedRemainder_any (n : Int) (a b : Nat) (ha : a < 18446744073709551616) (hb : b < 18446744073709551616) (h0 : b ≠ 0 → sgn n b ≠ 0) (w : World) :
    Calls Tryd.prog 37 #[.int .i64 n, .int .u64 a, .int .u64 b] w fun e w' => e = .returned (.int .u64 (remN n a b : Nat)) ∧ w = w' := by
  by_cases hz : b = 0
  · subst hz
    go_enter Tryd.func37, Tryd.ntmps37
    go_wp2
    go_ret
    exact ⟨rfl, rfl⟩
  · have h1 : (1 : Int) ≤ (b : Int) := by omega
    have h2 := h0 hz
    clear h0
    go_enter Tryd.func37, Tryd.ntmps37
    go_wp2_with (first | (go_at_call 33; refine (Signed_any _ _ (by assumption) _).mono ?_; rintro e w' ⟨rfl, rfl⟩) | (go_at_call 32; refine (From_any _ _ _).mono ?_; rintro e w' ⟨rfl, rfl⟩))
    go_ret
    refine ⟨ret_int ?_, rfl⟩
    rw [remN, if_neg hz]
theorem compute_any (op n : Int) (a b : Nat) (hop : 2 ≤ op ∧ op ≤ 20) (ha : a < 18446744073709551616) (hb : b < 18446744073709551616) (h0 : b ≠ 0 → sgn n b ≠ 0) (w : World) :
    Calls Tryd.prog 20 #[.int .i64 op, .int .i64 n, .int .u64 a, .int .u64 b] w fun e w' => e = .returned (.int .u64 (raw op n a b : Nat)) ∧ w = w' := by
  have H0 := Lib.hid h0
  clear h0
  rcases op_cases hop with rfl | rfl | rfl | rfl | rfl | rfl | rfl | rfl | rfl | rfl | rfl | rfl | rfl | rfl | rfl | rfl | rfl | rfl | rfl
  all_goals
    clear hop
    go_enter Tryd.func20, Tryd.ntmps20
    go_wp2_with (first
      | (go_at_call 33; refine (Signed_any _ _ (by assumption) _).mono ?_; rintro e w' ⟨rfl, rfl⟩)
      | (go_at_call 38; refine (truth_any _ _).mono ?_; rintro e w' ⟨rfl, rfl⟩)
      | (go_at_call 34; refine (quotient_any _ _ _ ha _).mono ?_; rintro e w' ⟨rfl, rfl⟩)
      | (go_at_call 35; refine (remainder_any _ _ _).mono ?_; rintro e w' ⟨rfl, rfl⟩)
      | (go_at_call 36; refine (signedQuotient_any _ _ _ ha hb H0.out _).mono ?_; rintro e w' ⟨rfl, rfl⟩)
      | (go_at_call 37; refine (signedRemainder_any _ _ _ ha hb H0.out _).mono ?_; rintro e w' ⟨rfl, rfl⟩))
    go_ret
    refine ⟨ret_int ?_, rfl⟩
    first
    | rfl
    | exact wrap_u64w _
    | (rw [u64_and_nat _ _ ha hb]; rfl)
    | (rw [u64_or_nat _ _ ha hb]; rfl)
    | (rw [u64_xor_nat _ _ ha hb]; rfl)
    | (rw [b2n_eq]; rfl)
    | (rw [b2n_ne]; rfl)

theorem Binary_ok (op n : Int) (a b : Nat) (hop : 2 ≤ op ∧ op ≤ 20) (hn : 1 ≤ n ∧ n ≤ 64) (ha : a < 18446744073709551616) (hb : b < 18446744073709551616) (w : World) :
    Calls Tryd.prog 9 #[.int .i64 op, .int .i64 n, .int .u64 a, .int .u64 b] w fun e w' => e = .returned (.tuple #[.int .u64 (bin op n (fit n a) (fit n b) : Nat), .int .i64 0]) ∧ w = w' := by
  have h1 := decide_eq_true hop
  have h2 := decide_eq_true hn
  have ha' := fit_lt n a
  have hb' := fit_lt n b
  have hr := raw_lt (op := op) (fit_md n a) (fit_md n b)
  have H0 : Hid (fit n b ≠ 0 → sgn n (fit n b) ≠ 0) := sgn_zero (fit_md n b)
  have HF : Hid (fit n (raw op n (fit n a) (fit n b)) = bin op n (fit n a) (fit n b)) := fit_raw hop (by omega) (fit_md n a) (fit_md n b)
  go_enter Tryd.func9, Tryd.ntmps9
  go_wp2_with (first
    | (go_at_call 18; refine (IsBinary_any _ _).mono ?_; rintro e w' ⟨rfl, rfl⟩)
    | (go_at_call 19; refine (isWidth_any _ _).mono ?_; rintro e w' ⟨rfl, rfl⟩)
    | (go_at_call 10; refine (Fit_any _ _ (by assumption) _).mono ?_; rintro e w' ⟨rfl, rfl⟩)
    | (go_at_call 20; refine (compute_any _ _ _ _ hop ha' hb' H0.out _).mono ?_; rintro e w' ⟨rfl, rfl⟩))
  go_ret2
  exact ⟨ret_pair (by rw [HF.out]), rfl⟩
theorem Binary_bad (op n : Int) (a b : Nat) (h : ¬ ((2 ≤ op ∧ op ≤ 20) ∧ (1 ≤ n ∧ n ≤ 64))) (w : World) :
    Calls Tryd.prog 9 #[.int .i64 op, .int .i64 n, .int .u64 a, .int .u64 b] w fun e w' => e = .returned (.tuple #[.int .u64 0, .int .i64 1]) ∧ w = w' := by
  by_cases hop : 2 ≤ op ∧ op ≤ 20
  · have hn : ¬ (1 ≤ n ∧ n ≤ 64) := by omega
    have h1 := decide_eq_true hop
    have h2 := decide_eq_false hn
    go_enter Tryd.func9, Tryd.ntmps9
    go_wp2_with (first
      | (go_at_call 18; refine (IsBinary_any _ _).mono ?_; rintro e w' ⟨rfl, rfl⟩)
      | (go_at_call 19; refine (isWidth_any _ _).mono ?_; rintro e w' ⟨rfl, rfl⟩))
    go_ret2
    exact ⟨rfl, rfl⟩
  · have h1 := decide_eq_false hop
    go_enter Tryd.func9, Tryd.ntmps9
    go_wp2_with (first
      | (go_at_call 18; refine (IsBinary_any _ _).mono ?_; rintro e w' ⟨rfl, rfl⟩)
      | (go_at_call 19; refine (isWidth_any _ _).mono ?_; rintro e w' ⟨rfl, rfl⟩))
    go_ret2
    exact ⟨rfl, rfl⟩

end Go.Proofs.YtcodfkeidbeooaaDoor
