/- Which operators commute, associate and have an identity; the reference's two guards. -/
import Derived.Test.YtlnogenkhoclpaaBitProg
namespace Go.Proofs.Ytlnogenkhoclpaa
open Go.RowKit

/-- The operators of which Commutes reports true. -/
def comm (op : Int) : Bool := decide (op = 2 ∨ op = 4 ∨ op = 9 ∨ op = 10 ∨ op = 11 ∨ op = 15 ∨ op = 16)
def assoc (op : Int) : Bool := decide (op = 2 ∨ op = 4 ∨ op = 9 ∨ op = 10 ∨ op = 11)
theorem Commutes_any (op : Int) (w : World) : Calls Try.prog 26 #[.int .i64 op] w fun e w' => e = .returned (.bool (comm op)) ∧ w = w' := by
  by_cases h : op = 2 ∨ op = 4 ∨ op = 9 ∨ op = 10 ∨ op = 11 ∨ op = 15 ∨ op = 16
  · rcases h with rfl | rfl | rfl | rfl | rfl | rfl | rfl
    all_goals
      go_enter Try.func26, Try.ntmps26
      go_wp2
      go_ret
      exact ⟨rfl, rfl⟩
  · have e := decide_eq_false h
    have H : Hid (comm op = false) := e
    clear e
    go_enter Try.func26, Try.ntmps26
    go_wp2
    go_ret
    exact ⟨ret_bool H.out.symm, rfl⟩
theorem Associates_any (op : Int) (w : World) : Calls Try.prog 27 #[.int .i64 op] w fun e w' => e = .returned (.bool (assoc op)) ∧ w = w' := by
  by_cases h : op = 2 ∨ op = 4 ∨ op = 9 ∨ op = 10 ∨ op = 11
  · rcases h with rfl | rfl | rfl | rfl | rfl
    all_goals
      go_enter Try.func27, Try.ntmps27
      go_wp2
      go_ret
      exact ⟨rfl, rfl⟩
  · have e := decide_eq_false h
    have H : Hid (assoc op = false) := e
    clear e
    go_enter Try.func27, Try.ntmps27
    go_wp2
    go_ret
    exact ⟨ret_bool H.out.symm, rfl⟩
/-- The operators that have an identity; the word. -/
def hasId (op : Int) : Bool := decide ((2 ≤ op ∧ op ≤ 4) ∨ op = 5 ∨ op = 7 ∨ (9 ≤ op ∧ op ≤ 14))
def idWord (op w : Int) : Nat := if op = 4 ∨ op = 5 ∨ op = 7 then 1 else if op = 9 then mask w else 0
theorem Identity_ok (op n : Int) (hn : 1 ≤ n ∧ n ≤ 64) (h : hasId op = true) (w : World) :
    Calls Try.prog 28 #[.int .i64 op, .int .i64 n] w fun e w' => e = .returned (.tuple #[.int .u64 (idWord op n : Nat), .bool true]) ∧ w = w' := by
  have hd := decide_eq_true hn
  have hc : op = 2 ∨ op = 3 ∨ op = 4 ∨ op = 5 ∨ op = 7 ∨ op = 9 ∨ op = 10 ∨ op = 11 ∨ op = 12 ∨ op = 13 ∨ op = 14 := by
    have := of_decide_eq_true h
    omega
  clear h
  rcases hc with rfl | rfl | rfl | rfl | rfl | rfl | rfl | rfl | rfl | rfl | rfl
  all_goals
    go_enter Try.func28, Try.ntmps28
    go_wp2_with (first
      | (go_at_call 17; refine (Mask_any _ _).mono ?_; rintro e w' ⟨rfl, rfl⟩)
      | (go_at_call 35; refine (isWidth_any _ _).mono ?_; rintro e w' ⟨rfl, rfl⟩))
    go_ret2
    exact ⟨rfl, rfl⟩
theorem Identity_bad (op n : Int) (h : ¬ ((1 ≤ n ∧ n ≤ 64) ∧ hasId op = true)) (w : World) :
    Calls Try.prog 28 #[.int .i64 op, .int .i64 n] w fun e w' => e = .returned (.tuple #[.int .u64 0, .bool false]) ∧ w = w' := by
  by_cases hn : 1 ≤ n ∧ n ≤ 64
  · have hd := decide_eq_true hn
    have hc : ¬ ((2 ≤ op ∧ op ≤ 4) ∨ op = 5 ∨ op = 7 ∨ (9 ≤ op ∧ op ≤ 14)) := fun x => h ⟨hn, decide_eq_true x⟩
    clear h
    go_enter Try.func28, Try.ntmps28
    go_wp2_with (first
      | (go_at_call 17; refine (Mask_any _ _).mono ?_; rintro e w' ⟨rfl, rfl⟩)
      | (go_at_call 35; refine (isWidth_any _ _).mono ?_; rintro e w' ⟨rfl, rfl⟩))
    go_ret2
    exact ⟨rfl, rfl⟩
  · have hd := decide_eq_false hn
    clear h
    go_enter Try.func28, Try.ntmps28
    go_wp2_with (first
      | (go_at_call 35; refine (isWidth_any _ _).mono ?_; rintro e w' ⟨rfl, rfl⟩))
    go_ret2
    exact ⟨rfl, rfl⟩

/-! the reference's guards -/
theorem rRight_any (n : Int) (w : World) : Calls Try.prog 14 #[.int .i64 n] w fun e w' => e = .returned (.bool (decide (1 ≤ n ∧ n ≤ 64))) ∧ w = w' := by
  by_cases h1 : 1 ≤ n
  · go_enter Try.func14, Try.ntmps14
    go_wp2
    go_ret
    exact ⟨ret_bool (by simp; omega), rfl⟩
  · go_enter Try.func14, Try.ntmps14
    go_wp2
    go_ret
    exact ⟨ret_bool (by simp; omega), rfl⟩
theorem rIsBinary_any (n : Int) (w : World) : Calls Try.prog 13 #[.int .i64 n] w fun e w' => e = .returned (.bool (decide (2 ≤ n ∧ n ≤ 20))) ∧ w = w' := by
  by_cases h1 : 2 ≤ n
  · go_enter Try.func13, Try.ntmps13
    go_wp2
    go_ret
    exact ⟨ret_bool (by simp; omega), rfl⟩
  · go_enter Try.func13, Try.ntmps13
    go_wp2
    go_ret
    exact ⟨ret_bool (by simp; omega), rfl⟩
theorem rIsCompare_any (n : Int) (w : World) : Calls Try.prog 34 #[.int .i64 n] w fun e w' => e = .returned (.bool (decide (15 ≤ n ∧ n ≤ 20))) ∧ w = w' := by
  by_cases h1 : 15 ≤ n
  · go_enter Try.func34, Try.ntmps34
    go_wp2
    go_ret
    exact ⟨ret_bool (by simp; omega), rfl⟩
  · go_enter Try.func34, Try.ntmps34
    go_wp2
    go_ret
    exact ⟨ret_bool (by simp; omega), rfl⟩

theorem awake_any (w : World) : Calls Try.prog 11 #[] w fun e w' => e = .returned (.bool true) ∧ w = w' := by
  have hb : Hid (bin 2 4 (fit 4 9) (fit 4 8) = 1) := (show bin 2 4 (fit 4 9) (fit 4 8) = 1 by decide +kernel)
  go_enter Try.func11, Try.ntmps11
  go_wp2_with fail
  refine (Binary_ok 2 4 9 8 (by omega) (by omega) (by omega) (by omega) _).mono ?_
  rintro e w' ⟨rfl, rfl⟩
  rw [hb.out]
  go_wp2
  go_ret
  exact ⟨rfl, rfl⟩
end Go.Proofs.Ytlnogenkhoclpaa
