/- The law on binary operators: the walk. -/
import Derived.Test.YtlnogenkhoclpaaRefBinary2
namespace Go.Proofs.Ytlnogenkhoclpaa
open Go.RowKit

theorem bin_fit_lt {op n : Int} {a b : Nat} (hn : 1 ≤ n ∧ n ≤ 64) : bin op n (fit n a) (fit n b) < 18446744073709551616 := by
  have h1 := bin_md (op := op) (show 0 < n by omega) (fit_md n a) (fit_md n b)
  have := md_le n
  omega

set_option maxHeartbeats 1000000 in
theorem bitsBinary_walk (op : Int) (_ho : -9223372036854775808 ≤ op ∧ op ≤ 9223372036854775807) (n : Int) (_hn : -9223372036854775808 ≤ n ∧ n ≤ 9223372036854775807) (x : Nat) (hx : x < 18446744073709551616) (y : Nat) (hy : y < 18446744073709551616) (w : World) :
    Calls Try.prog 3 #[.int .i64 op, .int .i64 n, .agg #[.int .u64 (x : Int), .int .u64 (y : Int)]] w fun e w' => e = .returned (.bool true) ∧ Below w.heap.size w w' := by
  have hbox : Below w.heap.size w (w.alloc (.cells #[.int .u64 (x : Int), .int .u64 (y : Int)] 23)) := (Below.refl _ _).alloc (Nat.le_refl _) _
  by_cases h : (2 ≤ op ∧ op ≤ 20) ∧ (1 ≤ n ∧ n ≤ 64)
  · obtain ⟨hop, hn⟩ := h
    have d1 := decide_eq_true hop
    have d2 := decide_eq_true hn
    go_enter Try.func3, Try.ntmps3
    go_wp2_with (first
      | (go_at_call 11; refine (awake_any _).mono ?_; rintro e w' ⟨rfl, rfl⟩)
      | (go_at_call 12; refine (Binary_ok _ _ _ _ hop hn hx hy _).mono ?_; rintro e w' ⟨rfl, rfl⟩)
      | (go_at_call 13; refine (rIsBinary_any _ _).mono ?_; rintro e w' ⟨rfl, rfl⟩)
      | (go_at_call 14; refine (rRight_any _ _).mono ?_; rintro e w' ⟨rfl, rfl⟩))
    refine (rBinary_any op n hop x y hx hy _).mono ?_
    rintro e w1 ⟨rfl, hb1⟩
    have hbel := hbox.trans (hb1.mono hbox.size)
    clear hb1 hbox
    go_wp2
    go_ret
    exact ⟨ret_bool (by simp), hbel⟩
  · by_cases hop : 2 ≤ op ∧ op ≤ 20
    · have d1 := decide_eq_true hop
      have d2 : decide (1 ≤ n ∧ n ≤ 64) = false := decide_eq_false fun hn => h ⟨hop, hn⟩
      have hB := Lib.hid h
      clear h
      go_enter Try.func3, Try.ntmps3
      go_wp2_with (first
        | (go_at_call 11; refine (awake_any _).mono ?_; rintro e w' ⟨rfl, rfl⟩)
        | (go_at_call 12; refine (Binary_bad _ _ _ _ hB.out _).mono ?_; rintro e w' ⟨rfl, rfl⟩)
        | (go_at_call 13; refine (rIsBinary_any _ _).mono ?_; rintro e w' ⟨rfl, rfl⟩)
        | (go_at_call 14; refine (rRight_any _ _).mono ?_; rintro e w' ⟨rfl, rfl⟩))
      go_ret
      exact ⟨rfl, hbox⟩
    · have d1 := decide_eq_false hop
      have hB := Lib.hid h
      clear h
      go_enter Try.func3, Try.ntmps3
      go_wp2_with (first
        | (go_at_call 11; refine (awake_any _).mono ?_; rintro e w' ⟨rfl, rfl⟩)
        | (go_at_call 12; refine (Binary_bad _ _ _ _ hB.out _).mono ?_; rintro e w' ⟨rfl, rfl⟩)
        | (go_at_call 13; refine (rIsBinary_any _ _).mono ?_; rintro e w' ⟨rfl, rfl⟩)
        | (go_at_call 14; refine (rRight_any _ _).mono ?_; rintro e w' ⟨rfl, rfl⟩))
      go_ret
      exact ⟨rfl, hbox⟩
end Go.Proofs.Ytlnogenkhoclpaa
