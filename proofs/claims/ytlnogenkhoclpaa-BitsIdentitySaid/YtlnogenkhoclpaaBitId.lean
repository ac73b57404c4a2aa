/- The law on identities: the walk. -/
import Derived.Test.YtlnogenkhoclpaaBitKinds
import Derived.Below
namespace Go.Proofs.Ytlnogenkhoclpaa
open Go.RowKit

theorem frm_nat (w : Int) (x : Nat) : frm w (x : Int) = fit w x := by unfold frm fit; rw [← Int.natCast_emod]; rfl
theorem fit_zero (w : Int) : fit w 0 = 0 := Nat.zero_mod _
theorem fit_one {w : Int} (h : 0 < w) : fit w 1 = 1 := by
  obtain ⟨k, hk, h0⟩ := md_even h
  exact fit_self (by omega)
theorem fit_mask (w : Int) : fit w (mask w) = mask w := fit_self (mask_md w)
theorem idWord_lt (op w : Int) : idWord op w < 18446744073709551616 := by
  have := mask_lt w
  unfold idWord
  split
  · omega
  · split <;> omega
theorem and_mask_nat {w : Int} {x : Nat} (h : x < md w) : x &&& mask w = x := by
  unfold mask md
  rw [Nat.and_two_pow_sub_one_eq_mod]
  exact Nat.mod_eq_of_lt h
theorem sdiv_one {w : Int} (hw : 0 < w) {a : Nat} (ha : a < md w) : frm w ((sgn w a).tdiv (sgn w 1)) = a := by
  obtain ⟨k, hk, h0⟩ := md_even hw
  have h1 : sgn w 1 = if 2 * 1 < md w then 1 else 1 - (md w : Int) := by
    unfold sgn
    rw [fit_one hw]
    simp
  have h2 : frm w (sgn w a) = a := by rw [frm_sgn, fit_self ha]
  by_cases hc : 2 * 1 < md w
  · rw [h1, if_pos hc, Int.tdiv_one, h2]
  · have hm : md w = 2 := by omega
    rw [h1, if_neg hc, hm]
    rw [show (1 : Int) - ((2 : Nat) : Int) = -1 from by omega, Int.tdiv_neg, Int.tdiv_one]
    have hr := sgn_range w a
    have h3 := frm_cast w (-(sgn w a))
    have h4 := frm_cast w (sgn w a)
    rw [h2] at h4
    rw [hm] at h3 h4 hr ha
    omega
theorem bin_id {op n : Int} {a : Nat} (hn : 1 ≤ n) (h : hasId op = true) (ha : a < md n) : bin op n a (fit n (idWord op n)) = a := by
  have hc : op = 2 ∨ op = 3 ∨ op = 4 ∨ op = 5 ∨ op = 7 ∨ op = 9 ∨ op = 10 ∨ op = 11 ∨ op = 12 ∨ op = 13 ∨ op = 14 := by
    have := of_decide_eq_true h
    omega
  have hf := fit_self ha
  have hs : frm n (sgn n a) = a := by rw [frm_sgn, hf]
  rcases hc with rfl | rfl | rfl | rfl | rfl | rfl | rfl | rfl | rfl | rfl | rfl
  · show frm n ((a : Int) + ((fit n 0 : Nat) : Int)) = a
    rw [fit_zero]; simpa [frm_nat] using hf
  · show frm n ((a : Int) - ((fit n 0 : Nat) : Int)) = a
    rw [fit_zero]; simpa [frm_nat] using hf
  · show frm n ((a : Int) * ((fit n 1 : Nat) : Int)) = a
    rw [fit_one (by omega)]; simpa [frm_nat] using hf
  · show (if fit n 1 = 0 then mask n else a / fit n 1) = a
    rw [fit_one (by omega)]; simp
  · show (if fit n 1 = 0 then mask n else frm n ((sgn n a).tdiv (sgn n (fit n 1)))) = a
    rw [fit_one (by omega), if_neg (by omega), sdiv_one (by omega) ha]
  · show a &&& fit n (mask n) = a
    rw [fit_mask, and_mask_nat ha]
  · show a ||| fit n 0 = a
    rw [fit_zero]; simp
  · show a ^^^ fit n 0 = a
    rw [fit_zero]; simp
  · show frm n ((a : Int) * 2 ^ min (fit n 0) 64) = a
    rw [fit_zero]; simpa [frm_nat] using hf
  · show a / 2 ^ min (fit n 0) 64 = a
    rw [fit_zero]; simp
  · show frm n (sgn n a / 2 ^ min (fit n 0) 64) = a
    rw [fit_zero]; simpa using hs

theorem bitsIdentity_walk (op : Int) (_ho : -9223372036854775808 ≤ op ∧ op ≤ 9223372036854775807) (n : Int) (_hn : -9223372036854775808 ≤ n ∧ n ≤ 9223372036854775807) (a : Nat) (ha : a < 18446744073709551616) (w : World) :
    Calls Try.prog 8 #[.int .i64 op, .int .i64 n, .int .u64 a] w fun e w' => e = .returned (.bool true) ∧ Below w.heap.size w w' := by
  by_cases h : (1 ≤ n ∧ n ≤ 64) ∧ hasId op = true
  · obtain ⟨hn, hi⟩ := h
    have hd := decide_eq_true hn
    have hc := of_decide_eq_true hi
    have hI := Lib.hid (Identity_ok op n hn hi)
    have hB : Hid (∀ w, Calls Try.prog 12 #[.int .i64 op, .int .i64 n, .int .u64 a, .int .u64 (idWord op n : Nat)] w fun e w' => e = .returned (.tuple #[.int .u64 (fit n a : Nat), .int .i64 0]) ∧ w = w') := by
      intro w
      have := Binary_ok op n a (idWord op n) (by omega) hn ha (idWord_lt op n) w
      rw [bin_id (by omega) hi (fit_md n a)] at this
      exact this
    clear hi
    have hs : (2 ≤ op ∧ op ≤ 4) ∨ op = 5 ∨ op = 7 ∨ (9 ≤ op ∧ op ≤ 14) := hc
    clear hc
    rcases hs with ⟨h1, h2⟩ | rfl | rfl | ⟨h1, h2⟩
    all_goals
      go_enter Try.func8, Try.ntmps8
      go_wp2_with (first
        | (go_at_call 11; refine (awake_any _).mono ?_; rintro e w' ⟨rfl, rfl⟩)
        | (go_at_call 28; refine (hI.out _).mono ?_; rintro e w' ⟨rfl, rfl⟩)
        | (go_at_call 14; refine (rRight_any _ _).mono ?_; rintro e w' ⟨rfl, rfl⟩)
        | (go_at_call 16; refine (Fit_any _ _ ha _).mono ?_; rintro e w' ⟨rfl, rfl⟩)
        | (go_at_call 12; refine (hB.out _).mono ?_; rintro e w' ⟨rfl, rfl⟩))
      go_ret
      exact ⟨ret_bool (by simp), Below.refl _ _⟩
  · have hI := Lib.hid (Identity_bad op n h)
    by_cases hi : (2 ≤ op ∧ op ≤ 4) ∨ op = 5 ∨ op = 7 ∨ (9 ≤ op ∧ op ≤ 14)
    · have hd : decide (1 ≤ n ∧ n ≤ 64) = false := decide_eq_false fun hn => h ⟨hn, decide_eq_true hi⟩
      clear h
      rcases hi with ⟨h1, h2⟩ | rfl | rfl | ⟨h1, h2⟩
      all_goals
        go_enter Try.func8, Try.ntmps8
        go_wp2_with (first
          | (go_at_call 11; refine (awake_any _).mono ?_; rintro e w' ⟨rfl, rfl⟩)
          | (go_at_call 28; refine (hI.out _).mono ?_; rintro e w' ⟨rfl, rfl⟩)
          | (go_at_call 14; refine (rRight_any _ _).mono ?_; rintro e w' ⟨rfl, rfl⟩))
        go_ret
        exact ⟨rfl, Below.refl _ _⟩
    · clear h
      have hs : op < 2 ∨ op = 6 ∨ op = 8 ∨ 14 < op := by omega
      clear hi
      rcases hs with h1 | rfl | rfl | h1
      all_goals
        go_enter Try.func8, Try.ntmps8
        go_wp2_with (first
          | (go_at_call 11; refine (awake_any _).mono ?_; rintro e w' ⟨rfl, rfl⟩)
          | (go_at_call 28; refine (hI.out _).mono ?_; rintro e w' ⟨rfl, rfl⟩)
          | (go_at_call 14; refine (rRight_any _ _).mono ?_; rintro e w' ⟨rfl, rfl⟩))
        go_ret
        exact ⟨rfl, Below.refl _ _⟩
end Go.Proofs.Ytlnogenkhoclpaa
