/- The reference's func2 and Apply: contracts. -/
import Derived.Test.YtcodfkeidbeooaaDoorOpRun
namespace Go.Proofs.YtcodfkeidbeooaaDoor
open Go Go.RowKit
set_option linter.unusedVariables false
set_option linter.unusedSimpArgs false

def fcode (op : Int) (s : Bool) : Int := if op < 1 ∨ 19 ≤ op then 0 else opN s op
def plainCells : Array Value := #[.int .i64 0, .int .i64 2, .int .i64 3, .int .i64 4, .int .i64 5, .int .i64 6, .int .i64 9, .int .i64 10, .int .i64 11, .int .i64 12, .int .i64 13, .int .i64 15, .int .i64 16, .int .i64 17, .int .i64 18, .int .i64 17, .int .i64 18, .int .i64 9, .int .i64 10]
set_option maxHeartbeats 4000000 in
theorem func2_out (op : Int) (s : Bool) (h : op < 1 ∨ 19 ≤ op) (w : World) :
    Calls Tryd.prog 11 #[.int .i64 op, .bool s] w fun e w' => e = .returned (.int .i64 0) ∧ Below w.heap.size w w' := by
  by_cases h0 : op < 1
  · clear h
    go_enter Tryd.func11, Tryd.ntmps11
    go_wp2
    go_ret
    exact ⟨rfl, (Below.refl _ _).alloc (Nat.le_refl _) _⟩
  · have h1 : 19 ≤ op := by omega
    clear h
    go_enter Tryd.func11, Tryd.ntmps11
    go_wp2
    go_ret
    exact ⟨rfl, (Below.refl _ _).alloc (Nat.le_refl _) _⟩
set_option maxHeartbeats 4000000 in
theorem func2_in (op : Int) (s : Bool) (h : 1 ≤ op ∧ op ≤ 18) (w : World) :
    Calls Tryd.prog 11 #[.int .i64 op, .bool s] w fun e w' => e = .returned (.int .i64 (opN s op)) ∧ Below w.heap.size w w' := by
  rcases (show op = 1 ∨ op = 2 ∨ op = 3 ∨ op = 4 ∨ op = 5 ∨ op = 6 ∨ op = 7 ∨ op = 8 ∨ op = 9 ∨ op = 10 ∨ op = 11 ∨ op = 12 ∨ op = 13 ∨ op = 14 ∨ op = 15 ∨ op = 16 ∨ op = 17 ∨ op = 18 by omega) with rfl | rfl | rfl | rfl | rfl | rfl | rfl | rfl | rfl | rfl | rfl | rfl | rfl | rfl | rfl | rfl | rfl | rfl
  all_goals clear h
  all_goals
    cases s
    all_goals
      go_enter Tryd.func11, Tryd.ntmps11
      go_wp2
      go_ret
      exact ⟨rfl, (Below.refl _ _).alloc (Nat.le_refl _) _⟩
theorem func2_any (op : Int) (s : Bool) (w : World) :
    Calls Tryd.prog 11 #[.int .i64 op, .bool s] w fun e w' => e = .returned (.int .i64 (fcode op s)) ∧ Below w.heap.size w w' := by
  unfold fcode
  by_cases h : op < 1 ∨ 19 ≤ op
  · rw [if_pos h]; exact func2_out op s h w
  · rw [if_neg h]; exact func2_in op s (by omega) w
theorem and_fit (n : Int) (hn : 1 ≤ n) (a b : Nat) : fit 1 (fit n a &&& fit n b) = fit 1 a &&& fit 1 b := by
  have h1 : wd 1 = 1 := rfl
  have hw : 1 ≤ wd n := by unfold wd; omega
  unfold fit md
  rw [h1]
  apply Nat.eq_of_testBit_eq
  intro i
  simp only [Nat.testBit_mod_two_pow, Nat.testBit_and]
  by_cases hi : i < 1
  · have : i < wd n := by omega
    simp [hi, this]
  · simp [hi]
theorem or_fit (n : Int) (hn : 1 ≤ n) (a b : Nat) : fit 1 (fit n a ||| fit n b) = fit 1 a ||| fit 1 b := by
  have h1 : wd 1 = 1 := rfl
  have hw : 1 ≤ wd n := by unfold wd; omega
  unfold fit md
  rw [h1]
  apply Nat.eq_of_testBit_eq
  intro i
  simp only [Nat.testBit_mod_two_pow, Nat.testBit_or]
  by_cases hi : i < 1
  · have : i < wd n := by omega
    simp [hi, this]
  · simp [hi]
theorem opN_in {op : Int} (s : Bool) (h : 1 ≤ op ∧ op ≤ 18) : 2 ≤ opN s op ∧ opN s op ≤ 20 := by
  rcases (show op = 1 ∨ op = 2 ∨ op = 3 ∨ op = 4 ∨ op = 5 ∨ op = 6 ∨ op = 7 ∨ op = 8 ∨ op = 9 ∨ op = 10 ∨ op = 11 ∨ op = 12 ∨ op = 13 ∨ op = 14 ∨ op = 15 ∨ op = 16 ∨ op = 17 ∨ op = 18 by omega) with rfl | rfl | rfl | rfl | rfl | rfl | rfl | rfl | rfl | rfl | rfl | rfl | rfl | rfl | rfl | rfl | rfl | rfl
  all_goals cases s
  all_goals decide
theorem fcode_out {op : Int} (s : Bool) (h : op < 1 ∨ 19 ≤ op) : fcode op s = 0 := if_pos h
theorem fcode_in {op : Int} (s : Bool) (h : 1 ≤ op ∧ op ≤ 18) : fcode op s = opN s op := if_neg (by omega)
theorem apl_bad {op : Int} (s : Bool) {n : Int} (a b : Nat) (h : ¬ (1 ≤ op ∧ op ≤ 18 ∧ 1 ≤ n ∧ n ≤ 64)) : apl op s n a b = 0 := if_neg h
theorem apl_swap {op : Int} (s : Bool) {n : Int} (a b : Nat) (hn : 1 ≤ n ∧ n ≤ 64) (h : op = 15 ∨ op = 16) : apl op s n a b = bin (opN s op) n (fit n b) (fit n a) := by
  unfold apl; rw [if_pos (by omega), if_pos h]
theorem apl_both {op : Int} (s : Bool) {n : Int} (a b : Nat) (hn : 1 ≤ n ∧ n ≤ 64) (h : op = 17 ∨ op = 18) : apl op s n a b = bin (opN s op) 1 (fit 1 a) (fit 1 b) := by
  unfold apl
  rw [if_pos (by omega), if_neg (by omega), if_pos h]
  rcases h with rfl | rfl <;> cases s
  · exact and_fit n hn.1 a b
  · exact and_fit n hn.1 a b
  · exact or_fit n hn.1 a b
  · exact or_fit n hn.1 a b
theorem apl_plain {op : Int} (s : Bool) {n : Int} (a b : Nat) (hn : 1 ≤ n ∧ n ≤ 64) (h : 1 ≤ op ∧ op ≤ 14) : apl op s n a b = bin (opN s op) n (fit n a) (fit n b) := by
  unfold apl; rw [if_pos (by omega), if_neg (by omega), if_neg (by omega)]

set_option maxHeartbeats 4000000 in
theorem rApply_any (op n : Int) (s : Bool) (a b : Nat) (ha : a < 18446744073709551616) (hb : b < 18446744073709551616) (w : World) :
    Calls Tryd.prog 6 #[.int .i64 op, .agg #[.int .i64 n, .bool s], .int .u64 a, .int .u64 b] w fun e w' => e = .returned (.int .u64 (apl op s n a b : Nat)) ∧ Below w.heap.size w w' := by
  have hbox := boxT_below w n s
  unfold boxT at hbox
  by_cases hn1 : n < 1
  · have hA := Lib.hid (apl_bad s (op := op) (n := n) a b (by omega))
    go_enter Tryd.func6, Tryd.ntmps6
    go_wp2
    go_ret
    exact ⟨ret_int (by rw [hA.out]; rfl), hbox⟩
  by_cases hn2 : 64 < n
  · have hA := Lib.hid (apl_bad s (op := op) (n := n) a b (by omega))
    go_enter Tryd.func6, Tryd.ntmps6
    go_wp2
    go_ret
    exact ⟨ret_int (by rw [hA.out]; rfl), hbox⟩
  have hn : Hid (1 ≤ n ∧ n ≤ 64) := Lib.hid (by omega)
  rcases (show (op < 1 ∨ 19 ≤ op) ∨ op = 15 ∨ op = 16 ∨ op = 17 ∨ op = 18 ∨ (1 ≤ op ∧ op ≤ 14) by omega) with h | rfl | rfl | rfl | rfl | h
  · have hA := Lib.hid (apl_bad s (op := op) (n := n) a b (by omega))
    have HF := Lib.hid (func2_any op s)
    rw [fcode_out s h] at HF
    have q1 : (op == 15) = false := beq_eq_false_iff_ne.2 (by omega)
    have q2 : (op == 16) = false := beq_eq_false_iff_ne.2 (by omega)
    have q3 : (op == 17) = false := beq_eq_false_iff_ne.2 (by omega)
    have q4 : (op == 18) = false := beq_eq_false_iff_ne.2 (by omega)
    clear h
    go_enter Tryd.func6, Tryd.ntmps6
    go_wp2_with fail
    refine (HF.out _).mono ?_
    rintro e w1 ⟨rfl, hb1⟩
    replace hbox := hbox.trans (hb1.mono hbox.size)
    clear hb1
    go_wp2
    go_ret
    exact ⟨ret_int (by rw [hA.out]; rfl), hbox⟩
  · have hop := opN_in (op := 15) s (by decide)
    have hA := Lib.hid (apl_swap s a b hn.out (Or.inl (rfl : (15 : Int) = 15)))
    have HF := Lib.hid (func2_any 15 s)
    rw [fcode_in s (by decide)] at HF
    have HR := Lib.hid (fun W => rBinary_any (opN s 15) n hop b a hb ha W)
    have q0 : (opN s 15 == 0) = false := beq_eq_false_iff_ne.2 (by omega)
    clear hop ha hb
    generalize opN s 15 = f at *
    go_enter Tryd.func6, Tryd.ntmps6
    go_wp2_with fail
    refine (HF.out _).mono ?_
    rintro e w1 ⟨rfl, hb1⟩
    replace hbox := hbox.trans (hb1.mono hbox.size)
    clear hb1
    go_wp2_with fail
    refine (HR.out _).mono ?_
    rintro e w2 ⟨rfl, hb2⟩
    replace hbox := hbox.trans (hb2.mono hbox.size)
    clear hb2
    go_wp2
    go_ret
    exact ⟨ret_int (by rw [hA.out]), hbox⟩
  · have hop := opN_in (op := 16) s (by decide)
    have hA := Lib.hid (apl_swap s a b hn.out (Or.inr (rfl : (16 : Int) = 16)))
    have HF := Lib.hid (func2_any 16 s)
    rw [fcode_in s (by decide)] at HF
    have HR := Lib.hid (fun W => rBinary_any (opN s 16) n hop b a hb ha W)
    have q0 : (opN s 16 == 0) = false := beq_eq_false_iff_ne.2 (by omega)
    clear hop ha hb
    generalize opN s 16 = f at *
    go_enter Tryd.func6, Tryd.ntmps6
    go_wp2_with fail
    refine (HF.out _).mono ?_
    rintro e w1 ⟨rfl, hb1⟩
    replace hbox := hbox.trans (hb1.mono hbox.size)
    clear hb1
    go_wp2_with fail
    refine (HR.out _).mono ?_
    rintro e w2 ⟨rfl, hb2⟩
    replace hbox := hbox.trans (hb2.mono hbox.size)
    clear hb2
    go_wp2
    go_ret
    exact ⟨ret_int (by rw [hA.out]), hbox⟩
  · have hop := opN_in (op := 17) s (by decide)
    have hA := Lib.hid (apl_both s a b hn.out (Or.inl (rfl : (17 : Int) = 17)))
    have HF := Lib.hid (func2_any 17 s)
    rw [fcode_in s (by decide)] at HF
    have HR := Lib.hid (fun W => rBinary_any (opN s 17) 1 hop a b ha hb W)
    have q0 : (opN s 17 == 0) = false := beq_eq_false_iff_ne.2 (by omega)
    clear hop ha hb
    generalize opN s 17 = f at *
    go_enter Tryd.func6, Tryd.ntmps6
    go_wp2_with fail
    refine (HF.out _).mono ?_
    rintro e w1 ⟨rfl, hb1⟩
    replace hbox := hbox.trans (hb1.mono hbox.size)
    clear hb1
    go_wp2_with fail
    refine (HR.out _).mono ?_
    rintro e w2 ⟨rfl, hb2⟩
    replace hbox := hbox.trans (hb2.mono hbox.size)
    clear hb2
    go_wp2
    go_ret
    exact ⟨ret_int (by rw [hA.out]), hbox⟩
  · have hop := opN_in (op := 18) s (by decide)
    have hA := Lib.hid (apl_both s a b hn.out (Or.inr (rfl : (18 : Int) = 18)))
    have HF := Lib.hid (func2_any 18 s)
    rw [fcode_in s (by decide)] at HF
    have HR := Lib.hid (fun W => rBinary_any (opN s 18) 1 hop a b ha hb W)
    have q0 : (opN s 18 == 0) = false := beq_eq_false_iff_ne.2 (by omega)
    clear hop ha hb
    generalize opN s 18 = f at *
    go_enter Tryd.func6, Tryd.ntmps6
    go_wp2_with fail
    refine (HF.out _).mono ?_
    rintro e w1 ⟨rfl, hb1⟩
    replace hbox := hbox.trans (hb1.mono hbox.size)
    clear hb1
    go_wp2_with fail
    refine (HR.out _).mono ?_
    rintro e w2 ⟨rfl, hb2⟩
    replace hbox := hbox.trans (hb2.mono hbox.size)
    clear hb2
    go_wp2
    go_ret
    exact ⟨ret_int (by rw [hA.out]), hbox⟩
  · have hop := opN_in (op := op) s (by omega)
    have hA := Lib.hid (apl_plain s a b hn.out h)
    have HF := Lib.hid (func2_any op s)
    rw [fcode_in s (by omega)] at HF
    have HR := Lib.hid (fun W => rBinary_any (opN s op) n hop a b ha hb W)
    have q0 : (opN s op == 0) = false := beq_eq_false_iff_ne.2 (by omega)
    have q1 : (op == 15) = false := beq_eq_false_iff_ne.2 (by omega)
    have q2 : (op == 16) = false := beq_eq_false_iff_ne.2 (by omega)
    have q3 : (op == 17) = false := beq_eq_false_iff_ne.2 (by omega)
    have q4 : (op == 18) = false := beq_eq_false_iff_ne.2 (by omega)
    clear hop ha hb h
    generalize opN s op = f at *
    go_enter Tryd.func6, Tryd.ntmps6
    go_wp2_with fail
    refine (HF.out _).mono ?_
    rintro e w1 ⟨rfl, hb1⟩
    replace hbox := hbox.trans (hb1.mono hbox.size)
    clear hb1
    go_wp2_with fail
    refine (HR.out _).mono ?_
    rintro e w2 ⟨rfl, hb2⟩
    replace hbox := hbox.trans (hb2.mono hbox.size)
    clear hb2
    go_wp2
    go_ret
    exact ⟨ret_int (by rw [hA.out]), hbox⟩
end Go.Proofs.YtcodfkeidbeooaaDoor
