/- The law on words of another width: the walk. -/
import Derived.Test.YtlnogenkhoclpaaRefExt
import Derived.BigQuiet
import Derived.Deep.QuietTactic
namespace Go.Proofs.Ytlnogenkhoclpaa
open Go.RowKit

theorem md_mono {a b : Int} (h : a ≤ b) : md a ≤ md b := by
  unfold md
  exact Nat.pow_le_pow_right (by omega) (by unfold wd; omega)
theorem md_dvd2 {a b : Int} (h : a ≤ b) : (md a : Int) ∣ (md b : Int) := by
  have hw : wd a ≤ wd b := by unfold wd; omega
  refine ⟨((2 ^ (wd b - wd a) : Nat) : Int), ?_⟩
  rw [← Int.natCast_mul]
  unfold md
  rw [← Nat.pow_add, show wd a + (wd b - wd a) = wd b from by omega]
theorem sgn_wide {a b : Int} (h : a ≤ b) (x : Nat) : sgn b (frm b (sgn a x)) = sgn a x := by
  have h1 := sgn_range a x
  have h2 := md_mono h
  exact sgn_frm b _ (by omega)
theorem fit_wide {a b : Int} (h : a ≤ b) (x : Nat) : fit b (fit a x) = fit a x := by
  have h1 := fit_md a x
  have h2 := md_mono h
  exact fit_self (by omega)
/-- The word of another width. -/
def ext (s : Bool) (a b : Int) (x : Nat) : Nat := if s then frm b (sgn a x) else fit b (fit a x)
theorem ext_lt (s : Bool) (a b : Int) (x : Nat) : ext s a b x < 18446744073709551616 := by
  have h1 := frm_lt b (sgn a x)
  have h2 := fit_lt b (fit a x)
  cases s
  · exact h2
  · exact h1
theorem ext_back {s : Bool} {a b : Int} (h : a ≤ b) (x : Nat) : ext s b a (ext s a b x) = fit a x := by
  cases s
  · show fit a (fit b (fit b (fit a x))) = fit a x
    rw [fit_wide h, fit_wide h, fit_fit]
  · show frm a (sgn b (frm b (sgn a x))) = fit a x
    rw [sgn_wide h, frm_sgn]
theorem pExt (a b : Int) (x : Nat) (s : Bool) (hx : x < 18446744073709551616) (w : World) :
    Calls Try.prog 24 #[.int .i64 a, .int .i64 b, .int .u64 x, .bool s] w fun e w' => e = .returned (.int .u64 (ext s a b x : Nat)) ∧ w = w' := Extend_any a b x s hx w
theorem rExt (a b : Int) (x : Nat) (s : Bool) (hx : x < 18446744073709551616) (w : World) :
    Calls Try.prog 25 #[.int .i64 a, .int .i64 b, .int .u64 x, .bool s] w fun e w' => e = .returned (.int .u64 (ext s a b x : Nat)) ∧ Below w.heap.size w w' := rExtend_any a b x s hx w
theorem below_box {w w1 : World} {o : Obj} (h : Below (w.heap.size + 1) (w.alloc o) w1) : Below w.heap.size w w1 :=
  ((Below.refl _ _).alloc (Nat.le_refl _) o).trans (h.mono (by omega))

set_option maxHeartbeats 1000000 in
theorem bitsExtend_walk (a : Int) (ba : -9223372036854775808 ≤ a ∧ a ≤ 9223372036854775807) (b : Int) (bb : -9223372036854775808 ≤ b ∧ b ≤ 9223372036854775807) (x : Nat) (hx : x < 18446744073709551616) (s : Bool) (w : World) :
    Calls Try.prog 6 #[.agg #[.int .i64 a, .int .i64 b], .int .u64 (x : Int), .bool s] w fun e w' => e = .returned (.bool true) ∧ Below w.heap.size w w' := by
  have hl := ext_lt s a b x
  go_enter Try.func6, Try.ntmps6
  go_wp2_with (go_at_call 11; refine (awake_any _).mono ?_; rintro e w' ⟨rfl, rfl⟩)
  go_quiet (fail)
  go_wp2_with (go_at_call 24; refine (pExt _ _ _ _ hx _).mono ?_; rintro e w' ⟨rfl, rfl⟩)
  refine (rExt _ _ _ _ hx _).mono ?_
  rintro e w2 ⟨rfl, hb1⟩
  have hbel : Below w.heap.size w w2 := by
    refine Below.trans (b := (w.alloc (.cells #[.int .i64 a, .int .i64 b] 32))) ((Below.refl _ _).alloc (Nat.le_refl _) _) ?_
    have h2 : Below (w.heap.size + 1) ((w.alloc (.cells #[.int .i64 a, .int .i64 b] 32)).drewN nq) w2 := hb1.mono (by simp)
    exact ⟨h2.os, h2.tape, h2.output, h2.size, fun k hk => h2.block k (by omega)⟩
  clear hb1
  by_cases c1 : b < a
  · go_wp2
    go_ret
    exact ⟨rfl, hbel⟩
  · by_cases c2 : a < 1
    · go_wp2
      go_ret
      exact ⟨rfl, hbel⟩
    · by_cases c3 : 64 < b
      · go_wp2
        go_ret
        exact ⟨rfl, hbel⟩
      · have hb := ext_back (s := s) (show a ≤ b by omega) x
        cases s
        · have e1 : ext false a b x = fit a x := fit_wide (by omega) x
          rw [e1] at hb hl
          go_wp2_with (first
            | (go_at_call 16; refine (Fit_any _ _ hx _).mono ?_; rintro e w' ⟨rfl, rfl⟩)
            | (go_at_call 24; refine (pExt _ _ _ _ hl _).mono ?_; rintro e w' ⟨rfl, rfl⟩))
          go_ret
          exact ⟨ret_bool (by simp), hbel⟩
        · have e1 : sgn b (ext true a b x) = sgn a x := sgn_wide (by omega) x
          go_wp2_with (first
            | (go_at_call 16; refine (Fit_any _ _ hx _).mono ?_; rintro e w' ⟨rfl, rfl⟩)
            | (go_at_call 18; refine (Signed_any _ _ (by assumption) _).mono ?_; rintro e w' ⟨rfl, rfl⟩)
            | (go_at_call 24; refine (pExt _ _ _ _ hl _).mono ?_; rintro e w' ⟨rfl, rfl⟩))
          go_ret
          exact ⟨ret_bool (by simp), hbel⟩
end Go.Proofs.Ytlnogenkhoclpaa
