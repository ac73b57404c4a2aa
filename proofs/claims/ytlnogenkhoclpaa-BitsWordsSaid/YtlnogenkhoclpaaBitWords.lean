/- The law on words: the walk. -/
import Derived.Test.YtlnogenkhoclpaaRefBits
import Derived.Test.YtlnogenkhoclpaaShelf
import Derived.Lib.BitFns
namespace Go.Proofs.Ytlnogenkhoclpaa
open Go.RowKit

theorem Length_any (x : Nat) (hx : x < 18446744073709551616) (w : World) : Calls Try.prog 23 #[.int .u64 x] w fun e w' => e = .returned (.int .i64 (Lib.bitLen x : Nat)) ∧ w = w' := by
  go_enter Try.func23, Try.ntmps23
  go_wp2_with fail
  refine (Try.bits_Len64 (x : Int) _ (by omega) (by omega)).mono ?_
  rintro e w' ⟨rfl, hw⟩
  subst hw
  go_wp2
  go_ret
  exact ⟨rfl, rfl⟩
theorem bitLen_le (x : Nat) : Lib.bitLen x ≤ 64 := by
  have h : ∀ f x, Lib.bitLenAux f x ≤ f := by
    intro f
    induction f with
    | zero => intro x; simp [Lib.bitLenAux]
    | succ f ih =>
      intro x
      unfold Lib.bitLenAux
      split
      · omega
      · have := ih (x / 2); omega
  exact h 64 x
theorem bitLen_zero : Lib.bitLen 0 = 0 := by decide +kernel

set_option maxHeartbeats 1000000 in
theorem bitsWords_walk (n : Int) (_hn : -9223372036854775808 ≤ n ∧ n ≤ 9223372036854775807) (x : Nat) (hx : x < 18446744073709551616) (m : Int) (_hm : -9223372036854775808 ≤ m ∧ m ≤ 9223372036854775807) (w : World) :
    Calls Try.prog 5 #[.int .i64 n, .int .u64 (x : Int), .int .i64 m] w fun e w' => e = .returned (.bool true) ∧ Below w.heap.size w w' := by
  have e1 : frm n (sgn n x) = fit n x := frm_sgn n x
  have e2 : fit n (u64w m) = frm n m := fit_u64w n m
  have hl := bitLen_le x
  go_enter Try.func5, Try.ntmps5
  go_wp2_with (first
    | (go_at_call 11; refine (awake_any _).mono ?_; rintro e w' ⟨rfl, rfl⟩)
    | (go_at_call 16; refine (Fit_any _ _ hx _).mono ?_; rintro e w' ⟨rfl, rfl⟩)
    | (go_at_call 17; refine (Mask_any _ _).mono ?_; rintro e w' ⟨rfl, rfl⟩)
    | (go_at_call 19; refine (rOnes_any _ _).mono ?_; rintro e w' ⟨rfl, rfl⟩))
  refine (rFit_any n x hx _).mono ?_
  rintro e w1 ⟨rfl, hb1⟩
  go_wp2_with (first
    | (go_at_call 18; refine (Signed_any _ _ hx _).mono ?_; rintro e w' ⟨rfl, rfl⟩))
  refine (rSigned_any n x hx _).mono ?_
  rintro e w2 ⟨rfl, hb2⟩
  have hb3 := hb1.trans (hb2.mono hb1.size)
  clear hb1 hb2
  go_wp2_with (first
    | (go_at_call 18; refine (Signed_any _ _ hx _).mono ?_; rintro e w' ⟨rfl, rfl⟩)
    | (go_at_call 22; refine (From_any _ _ _).mono ?_; rintro e w' ⟨rfl, rfl⟩))
  rw [wrap_u64w]
  refine (Fit_any n _ (u64w_lt _) _).mono ?_
  rintro e w' ⟨rfl, rfl⟩
  go_wp2
  go_loop [8, 9] (fun c y => ∃ k z : Nat, k ≤ 64 ∧ c = .int .i64 k ∧ y = .int .u64 z ∧ z < 18446744073709551616 ∧ Hid (k + Lib.bitLen z = Lib.bitLen x)) (fun _ y => (intOf y).toNat)
  case atStart => exact ⟨0, x, by omega, rfl, rfl, hx, by show 0 + Lib.bitLen x = Lib.bitLen x; omega⟩
  case round =>
    obtain ⟨k, z, hk, rfl, rfl, hz, hi⟩ := hrel
    by_cases h0 : 0 < z
    · have hi1 : Hid (k + 1 + Lib.bitLen (z / 2) = Lib.bitLen x) := by
        have h1 := hi.out
        rw [Lib.bitLen_half z (by omega) (by simpa using hz)] at h1
        show _ = _
        omega
      have hk1 : k + 1 ≤ 64 := by have := hi1.out; omega
      go_wp2
      go_round
      case rel => exact ⟨k + 1, z / 2, by omega, by go_num, by go_num, by omega, hi1⟩
      case measure => simp [intOf]; omega
    · have hz0 : z = 0 := by omega
      subst hz0
      have hkl : k = Lib.bitLen x := by have h1 := hi.out; rw [bitLen_zero] at h1; omega
      subst hkl
      clear hi
      go_wp2_with (go_at_call 23; refine (Length_any _ hx _).mono ?_; rintro e w' ⟨rfl, rfl⟩)
      go_ret
      exact ⟨ret_bool (by simp), hb3⟩
end Go.Proofs.Ytlnogenkhoclpaa
