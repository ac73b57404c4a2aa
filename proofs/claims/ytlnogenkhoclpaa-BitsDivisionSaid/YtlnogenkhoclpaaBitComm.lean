/- The laws on commuting and associating operators, and on orders: the walks. -/
import Derived.Test.YtlnogenkhoclpaaBitKinds
import Derived.Below
namespace Go.Proofs.Ytlnogenkhoclpaa
open Go.RowKit

theorem bin_lt {op n : Int} {a b : Nat} (hn : 1 ≤ n ∧ n ≤ 64) : bin op n (fit n a) (fit n b) < 18446744073709551616 := by
  have h1 := bin_md (op := op) (show 0 < n by omega) (fit_md n a) (fit_md n b)
  have := md_le n
  omega
theorem fit_bin {op n : Int} {a b : Nat} (hn : 1 ≤ n ∧ n ≤ 64) : fit n (bin op n (fit n a) (fit n b)) = bin op n (fit n a) (fit n b) :=
  fit_self (bin_md (op := op) (show 0 < n by omega) (fit_md n a) (fit_md n b))
theorem comm_cases {op : Int} (h : comm op = true) : op = 2 ∨ op = 4 ∨ op = 9 ∨ op = 10 ∨ op = 11 ∨ op = 15 ∨ op = 16 := of_decide_eq_true h
theorem assoc_cases {op : Int} (h : assoc op = true) : op = 2 ∨ op = 4 ∨ op = 9 ∨ op = 10 ∨ op = 11 := of_decide_eq_true h
theorem bin_comm {op n : Int} {a b : Nat} (h : comm op = true) : bin op n b a = bin op n a b := by
  rcases comm_cases h with rfl | rfl | rfl | rfl | rfl | rfl | rfl
  · show frm n ((b : Int) + (a : Int)) = frm n ((a : Int) + (b : Int))
    rw [Int.add_comm]
  · show frm n ((b : Int) * (a : Int)) = frm n ((a : Int) * (b : Int))
    rw [Int.mul_comm]
  · exact Nat.and_comm b a
  · exact Nat.or_comm b a
  · exact Nat.xor_comm b a
  · show b2n (decide (b = a)) = b2n (decide (a = b))
    rw [decide_eq_decide.2 (show b = a ↔ a = b from eq_comm)]
  · show b2n (!decide (b = a)) = b2n (!decide (a = b))
    rw [decide_eq_decide.2 (show b = a ↔ a = b from eq_comm)]
theorem frm_congr {w x y : Int} (h : x % (md w : Int) = y % (md w : Int)) : frm w x = frm w y := by unfold frm; rw [h]
theorem bin_assoc {op n : Int} {a b c : Nat} (h : assoc op = true) : bin op n (bin op n a b) c = bin op n a (bin op n b c) := by
  rcases assoc_cases h with rfl | rfl | rfl | rfl | rfl
  · show frm n (((frm n ((a : Int) + (b : Int)) : Nat) : Int) + (c : Int)) = frm n ((a : Int) + ((frm n ((b : Int) + (c : Int)) : Nat) : Int))
    apply frm_congr
    rw [frm_cast, frm_cast, Int.add_emod, Int.emod_emod_of_dvd _ (Int.dvd_refl _), ← Int.add_emod, Int.add_emod (a : Int) _, Int.emod_emod_of_dvd _ (Int.dvd_refl _), ← Int.add_emod, Int.add_assoc]
  · show frm n (((frm n ((a : Int) * (b : Int)) : Nat) : Int) * (c : Int)) = frm n ((a : Int) * ((frm n ((b : Int) * (c : Int)) : Nat) : Int))
    apply frm_congr
    rw [frm_cast, frm_cast, Int.mul_emod, Int.emod_emod_of_dvd _ (Int.dvd_refl _), ← Int.mul_emod, Int.mul_emod (a : Int) _, Int.emod_emod_of_dvd _ (Int.dvd_refl _), ← Int.mul_emod, Int.mul_assoc]
  · exact Nat.and_assoc a b c
  · exact Nat.or_assoc a b c
  · exact Nat.xor_assoc a b c

theorem below1 (w : World) (o : Obj) : Below w.heap.size w (w.alloc o) := (Below.refl _ _).alloc (Nat.le_refl _) o

theorem comm_no (op : Int) (hcf : comm op = false) (n : Int) (x y z : Nat) (w : World) :
    Calls Try.prog 7 #[.int .i64 op, .int .i64 n, .agg #[.int .u64 (x : Int), .int .u64 (y : Int), .int .u64 (z : Int)]] w fun e w' => e = .returned (.bool true) ∧ Below w.heap.size w w' := by
  have hq : ¬ (op = 2 ∨ op = 4 ∨ op = 9 ∨ op = 10 ∨ op = 11 ∨ op = 15 ∨ op = 16) := of_decide_eq_false hcf
  have haf : assoc op = false := decide_eq_false (by omega)
  have q2 : (op == 2) = false := beq_eq_false_iff_ne.2 (by omega)
  have q4 : (op == 4) = false := beq_eq_false_iff_ne.2 (by omega)
  have q9 : (op == 9) = false := beq_eq_false_iff_ne.2 (by omega)
  have q10 : (op == 10) = false := beq_eq_false_iff_ne.2 (by omega)
  have q11 : (op == 11) = false := beq_eq_false_iff_ne.2 (by omega)
  have q15 : (op == 15) = false := beq_eq_false_iff_ne.2 (by omega)
  have q16 : (op == 16) = false := beq_eq_false_iff_ne.2 (by omega)
  clear hq
  by_cases hn : 1 ≤ n ∧ n ≤ 64
  · have hd := decide_eq_true hn
    clear hn
    go_enter Try.func7, Try.ntmps7
    go_wp2_with (first
      | (go_at_call 11; refine (awake_any _).mono ?_; rintro e w' ⟨rfl, rfl⟩)
      | (go_at_call 26; refine (Commutes_any _ _).mono ?_; rintro e w' ⟨rfl, rfl⟩)
      | (go_at_call 27; refine (Associates_any _ _).mono ?_; rintro e w' ⟨rfl, rfl⟩)
      | (go_at_call 14; refine (rRight_any _ _).mono ?_; rintro e w' ⟨rfl, rfl⟩))
    go_ret
    exact ⟨rfl, below1 _ _⟩
  · have hd := decide_eq_false hn
    clear hn
    go_enter Try.func7, Try.ntmps7
    go_wp2_with (first
      | (go_at_call 11; refine (awake_any _).mono ?_; rintro e w' ⟨rfl, rfl⟩)
      | (go_at_call 26; refine (Commutes_any _ _).mono ?_; rintro e w' ⟨rfl, rfl⟩)
      | (go_at_call 27; refine (Associates_any _ _).mono ?_; rintro e w' ⟨rfl, rfl⟩)
      | (go_at_call 14; refine (rRight_any _ _).mono ?_; rintro e w' ⟨rfl, rfl⟩))
    go_ret
    exact ⟨rfl, below1 _ _⟩
theorem comm_invalid (op : Int) (hc : comm op = true) (n : Int) (hn : ¬ (1 ≤ n ∧ n ≤ 64)) (x y z : Nat) (w : World) :
    Calls Try.prog 7 #[.int .i64 op, .int .i64 n, .agg #[.int .u64 (x : Int), .int .u64 (y : Int), .int .u64 (z : Int)]] w fun e w' => e = .returned (.bool true) ∧ Below w.heap.size w w' := by
  have hd := decide_eq_false hn
  clear hn
  rcases comm_cases hc with rfl | rfl | rfl | rfl | rfl | rfl | rfl
  all_goals
    have e1 : assoc 2 = true := rfl
    have e2 : assoc 4 = true := rfl
    have e3 : assoc 9 = true := rfl
    have e4 : assoc 10 = true := rfl
    have e5 : assoc 11 = true := rfl
    have e6 : assoc 15 = false := rfl
    have e7 : assoc 16 = false := rfl
    go_enter Try.func7, Try.ntmps7
    go_wp2_with (first
      | (go_at_call 11; refine (awake_any _).mono ?_; rintro e w' ⟨rfl, rfl⟩)
      | (go_at_call 26; refine (Commutes_any _ _).mono ?_; rintro e w' ⟨rfl, rfl⟩)
      | (go_at_call 27; refine (Associates_any _ _).mono ?_; rintro e w' ⟨rfl, rfl⟩)
      | (go_at_call 14; refine (rRight_any _ _).mono ?_; rintro e w' ⟨rfl, rfl⟩))
    go_ret
    exact ⟨rfl, below1 _ _⟩
theorem comm_valid (op : Int) (hc : comm op = true) (n : Int) (hn : 1 ≤ n ∧ n ≤ 64) (x y z : Nat) (hx : x < 18446744073709551616) (hy : y < 18446744073709551616) (hz : z < 18446744073709551616) (w : World) :
    Calls Try.prog 7 #[.int .i64 op, .int .i64 n, .agg #[.int .u64 (x : Int), .int .u64 (y : Int), .int .u64 (z : Int)]] w fun e w' => e = .returned (.bool true) ∧ Below w.heap.size w w' := by
  have hd := decide_eq_true hn
  have h2 : 2 ≤ op ∧ op ≤ 20 := by have := comm_cases hc; omega
  have HN := Lib.hid hn
  have H2 := Lib.hid h2
  have l1 : bin op n (fit n x) (fit n y) < 18446744073709551616 := bin_lt hn
  have l2 : bin op n (fit n y) (fit n z) < 18446744073709551616 := bin_lt hn
  have f1 : fit n (bin op n (fit n x) (fit n y)) = bin op n (fit n x) (fit n y) := fit_bin hn
  have f2 : fit n (bin op n (fit n y) (fit n z)) = bin op n (fit n y) (fit n z) := fit_bin hn
  have c1 : bin op n (fit n y) (fit n x) = bin op n (fit n x) (fit n y) := bin_comm hc
  clear hn h2
  by_cases ha : assoc op = true
  · obtain ⟨S, hS⟩ : ∃ S, bin op n (bin op n (fit n x) (fit n y)) (fit n z) = S := ⟨_, rfl⟩
    have hT : bin op n (fit n x) (bin op n (fit n y) (fit n z)) = S := (bin_assoc ha).symm.trans hS
    go_enter Try.func7, Try.ntmps7
    have hq := comm_cases hc
    clear hc
    rcases assoc_cases ha with rfl | rfl | rfl | rfl | rfl
    all_goals
      clear hq
      have e1 : comm 2 = true := rfl
      have e2 : comm 4 = true := rfl
      have e3 : comm 9 = true := rfl
      have e4 : comm 10 = true := rfl
      have e5 : comm 11 = true := rfl
      go_wp2_with (first
      | (go_at_call 11; refine (awake_any _).mono ?_; rintro e w' ⟨rfl, rfl⟩)
      | (go_at_call 26; refine (Commutes_any _ _).mono ?_; rintro e w' ⟨rfl, rfl⟩)
      | (go_at_call 27; refine (Associates_any _ _).mono ?_; rintro e w' ⟨rfl, rfl⟩)
      | (go_at_call 14; refine (rRight_any _ _).mono ?_; rintro e w' ⟨rfl, rfl⟩)
      | (go_at_call 12; refine (Binary_ok _ _ _ _ H2.out HN.out (by assumption) (by assumption) _).mono ?_; rintro e w' ⟨rfl, rfl⟩))
      go_ret
      exact ⟨rfl, below1 _ _⟩
  · have haf : assoc op = false := by simpa using ha
    have hq : op = 15 ∨ op = 16 := by
      have h1 := comm_cases hc
      have h2 : ¬ (op = 2 ∨ op = 4 ∨ op = 9 ∨ op = 10 ∨ op = 11) := of_decide_eq_false haf
      omega
    clear ha hc
    rcases hq with rfl | rfl
    all_goals
      have e6 : comm 15 = true := rfl
      have e7 : comm 16 = true := rfl
      go_enter Try.func7, Try.ntmps7
      go_wp2_with (first
      | (go_at_call 11; refine (awake_any _).mono ?_; rintro e w' ⟨rfl, rfl⟩)
      | (go_at_call 26; refine (Commutes_any _ _).mono ?_; rintro e w' ⟨rfl, rfl⟩)
      | (go_at_call 27; refine (Associates_any _ _).mono ?_; rintro e w' ⟨rfl, rfl⟩)
      | (go_at_call 14; refine (rRight_any _ _).mono ?_; rintro e w' ⟨rfl, rfl⟩)
      | (go_at_call 12; refine (Binary_ok _ _ _ _ H2.out HN.out (by assumption) (by assumption) _).mono ?_; rintro e w' ⟨rfl, rfl⟩))
      go_ret
      exact ⟨rfl, below1 _ _⟩

theorem bitsCommute_walk (op : Int) (_ho : -9223372036854775808 ≤ op ∧ op ≤ 9223372036854775807) (n : Int) (_hn : -9223372036854775808 ≤ n ∧ n ≤ 9223372036854775807) (x : Nat) (hx : x < 18446744073709551616) (y : Nat) (hy : y < 18446744073709551616) (z : Nat) (hz : z < 18446744073709551616) (w : World) :
    Calls Try.prog 7 #[.int .i64 op, .int .i64 n, .agg #[.int .u64 (x : Int), .int .u64 (y : Int), .int .u64 (z : Int)]] w fun e w' => e = .returned (.bool true) ∧ Below w.heap.size w w' := by
  by_cases hc : comm op = true
  · by_cases hn : 1 ≤ n ∧ n ≤ 64
    · exact comm_valid op hc n hn x y z hx hy hz w
    · exact comm_invalid op hc n hn x y z w
  · exact comm_no op (by simpa using hc) n x y z w
end Go.Proofs.Ytlnogenkhoclpaa
