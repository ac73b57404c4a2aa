/- What the interpreter's Apply and the reference's compute: contracts. -/
import Derived.Test.YtcodfkeidbeooaaDoorOpTab
namespace Go.Proofs.YtcodfkeidbeooaaDoor
open Go Go.RowKit
set_option linter.unusedVariables false
set_option linter.unusedSimpArgs false

def opN (s : Bool) (op : Int) : Int := if s then opS op.toNat else opU op.toNat
/-- The result of an operator of the source. -/
def apl (op : Int) (s : Bool) (n : Int) (a b : Nat) : Nat :=
  if 1 ≤ op ∧ op ≤ 18 ∧ 1 ≤ n ∧ n ≤ 64 then
    if op = 15 ∨ op = 16 then bin (opN s op) n (fit n b) (fit n a)
    else if op = 17 ∨ op = 18 then fit 1 (bin (opN s op) n (fit n a) (fit n b))
    else bin (opN s op) n (fit n a) (fit n b)
  else 0
theorem bin_fit_lt {op n : Int} {a b : Nat} (hn : 1 ≤ n ∧ n ≤ 64) : bin op n (fit n a) (fit n b) < 18446744073709551616 := by
  have h1 := bin_md (op := op) (show 0 < n by omega) (fit_md n a) (fit_md n b)
  have := md_le n
  omega
theorem fit10 : ((fit 1 ((0 : Nat)) : Nat) : Int) = ((0 : Nat) : Int) := by simp [fit]
theorem Fit_zero (w : World) : Calls Tryd.prog 10 #[.int .i64 1, .int .u64 0] w fun e w' => e = .returned (.int .u64 0) ∧ w = w' := by
  refine (show Calls Tryd.prog 10 #[.int .i64 1, .int .u64 ((0 : Nat) : Int)] w _ from Fit_any 1 0 (by omega) w).mono ?_
  rintro e w' ⟨rfl, rfl⟩
  exact ⟨ret_int fit10, rfl⟩
def boxT (w : World) (n : Int) (s : Bool) : World := w.alloc (.cells #[.int .i64 n, .bool s] 23)
theorem boxT_below (w : World) (n : Int) (s : Bool) : Below w.heap.size w (boxT w n s) := (Below.refl _ _).alloc (Nat.le_refl _) _

set_option maxHeartbeats 4000000 in
theorem Apply_out (op n : Int) (s : Bool) (a b : Nat) (h : op < 0 ∨ 19 ≤ op) (w : World) :
    Calls Tryd.prog 5 #[.int .i64 op, .agg #[.int .i64 n, .bool s], .int .u64 a, .int .u64 b] w fun e w' => e = .returned (.int .u64 (apl op s n a b : Nat)) ∧ Below w.heap.size w w' := by
  have hA : Hid (apl op s n a b = 0) := Lib.hid (by unfold apl; rw [if_neg (by omega)])
  have hbox := boxT_below w n s
  unfold boxT at hbox
  by_cases h0 : op < 0
  · clear h
    go_enter Tryd.func5, Tryd.ntmps5
    go_wp2
    go_ret
    exact ⟨ret_int (by rw [hA.out]; rfl), hbox⟩
  · have h1 : 19 ≤ op := by omega
    clear h
    go_enter Tryd.func5, Tryd.ntmps5
    go_wp2
    go_ret
    exact ⟨ret_int (by rw [hA.out]; rfl), hbox⟩
set_option maxHeartbeats 4000000 in
theorem Apply_0ub (n : Int) (a b : Nat)  (ha : a < 18446744073709551616) (hb : b < 18446744073709551616) (w : World) (O : Ot w) :
    Calls Tryd.prog 5 #[.int .i64 0, .agg #[.int .i64 n, .bool false], .int .u64 a, .int .u64 b] w fun e w' => e = .returned (.int .u64 ((0 : Nat) : Int)) ∧ Below w.heap.size w w' := by
  have hbox := boxT_below w n false
  have O1 := O.alloc (.cells #[.int .i64 n, .bool false] 23)
  obtain ⟨c0, c1⟩ := O1 0 (by omega)
  have d0 : (w.alloc (.cells #[.int .i64 n, .bool false] 23)).cell? ⟨0, 0, none⟩ = some (.int .i64 0) := c0
  have d1 : (w.alloc (.cells #[.int .i64 n, .bool false] 23)).cell? ⟨0, 1, none⟩ = some (.int .i64 0) := c1
  clear c0 c1 O1 O
  unfold boxT at hbox
  have HB := Lib.hid (fun W => Binary_bad 0 n a b (by omega) W)
  clear ha hb
  go_enter Tryd.func5, Tryd.ntmps5
  go_wp2_with (first
    | (go_at_call 9; refine (HB.out _).mono ?_; rintro e w' ⟨rfl, rfl⟩)
    | (go_at_call 10; refine (Fit_any _ _ (by omega) _).mono ?_; rintro e w' ⟨rfl, rfl⟩))
  go_ret
  exact ⟨rfl, hbox⟩
set_option maxHeartbeats 4000000 in
theorem Apply_0sb (n : Int) (a b : Nat)  (ha : a < 18446744073709551616) (hb : b < 18446744073709551616) (w : World) (O : Ot w) :
    Calls Tryd.prog 5 #[.int .i64 0, .agg #[.int .i64 n, .bool true], .int .u64 a, .int .u64 b] w fun e w' => e = .returned (.int .u64 ((0 : Nat) : Int)) ∧ Below w.heap.size w w' := by
  have hbox := boxT_below w n true
  have O1 := O.alloc (.cells #[.int .i64 n, .bool true] 23)
  obtain ⟨c0, c1⟩ := O1 0 (by omega)
  have d0 : (w.alloc (.cells #[.int .i64 n, .bool true] 23)).cell? ⟨0, 0, none⟩ = some (.int .i64 0) := c0
  have d1 : (w.alloc (.cells #[.int .i64 n, .bool true] 23)).cell? ⟨0, 1, none⟩ = some (.int .i64 0) := c1
  clear c0 c1 O1 O
  unfold boxT at hbox
  have HB := Lib.hid (fun W => Binary_bad 0 n a b (by omega) W)
  clear ha hb
  go_enter Tryd.func5, Tryd.ntmps5
  go_wp2_with (first
    | (go_at_call 9; refine (HB.out _).mono ?_; rintro e w' ⟨rfl, rfl⟩)
    | (go_at_call 10; refine (Fit_any _ _ (by omega) _).mono ?_; rintro e w' ⟨rfl, rfl⟩))
  go_ret
  exact ⟨rfl, hbox⟩
set_option maxHeartbeats 4000000 in
theorem Apply_1uk (n : Int) (a b : Nat) (hn : 1 ≤ n ∧ n ≤ 64) (ha : a < 18446744073709551616) (hb : b < 18446744073709551616) (w : World) (O : Ot w) :
    Calls Tryd.prog 5 #[.int .i64 1, .agg #[.int .i64 n, .bool false], .int .u64 a, .int .u64 b] w fun e w' => e = .returned (.int .u64 ((bin 2 n (fit n a) (fit n b) : Nat) : Int)) ∧ Below w.heap.size w w' := by
  have hbox := boxT_below w n false
  have O1 := O.alloc (.cells #[.int .i64 n, .bool false] 23)
  obtain ⟨c0, c1⟩ := O1 1 (by omega)
  have d0 : (w.alloc (.cells #[.int .i64 n, .bool false] 23)).cell? ⟨0, 2, none⟩ = some (.int .i64 2) := c0
  have d1 : (w.alloc (.cells #[.int .i64 n, .bool false] 23)).cell? ⟨0, 3, none⟩ = some (.int .i64 2) := c1
  clear c0 c1 O1 O
  unfold boxT at hbox
  have HB := Lib.hid (fun W => Binary_ok 2 n a b (by omega) hn ha hb W)
  clear ha hb hn
  go_enter Tryd.func5, Tryd.ntmps5
  go_wp2_with (first
    | (go_at_call 9; refine (HB.out _).mono ?_; rintro e w' ⟨rfl, rfl⟩)
    | (go_at_call 10; refine (Fit_any _ _ (by omega) _).mono ?_; rintro e w' ⟨rfl, rfl⟩))
  go_ret
  exact ⟨rfl, hbox⟩
set_option maxHeartbeats 4000000 in
theorem Apply_1ub (n : Int) (a b : Nat) (hn : ¬ (1 ≤ n ∧ n ≤ 64)) (ha : a < 18446744073709551616) (hb : b < 18446744073709551616) (w : World) (O : Ot w) :
    Calls Tryd.prog 5 #[.int .i64 1, .agg #[.int .i64 n, .bool false], .int .u64 a, .int .u64 b] w fun e w' => e = .returned (.int .u64 ((0 : Nat) : Int)) ∧ Below w.heap.size w w' := by
  have hbox := boxT_below w n false
  have O1 := O.alloc (.cells #[.int .i64 n, .bool false] 23)
  obtain ⟨c0, c1⟩ := O1 1 (by omega)
  have d0 : (w.alloc (.cells #[.int .i64 n, .bool false] 23)).cell? ⟨0, 2, none⟩ = some (.int .i64 2) := c0
  have d1 : (w.alloc (.cells #[.int .i64 n, .bool false] 23)).cell? ⟨0, 3, none⟩ = some (.int .i64 2) := c1
  clear c0 c1 O1 O
  unfold boxT at hbox
  have HB := Lib.hid (fun W => Binary_bad 2 n a b (fun h => hn h.2) W)
  clear ha hb hn
  go_enter Tryd.func5, Tryd.ntmps5
  go_wp2_with (first
    | (go_at_call 9; refine (HB.out _).mono ?_; rintro e w' ⟨rfl, rfl⟩)
    | (go_at_call 10; refine (Fit_any _ _ (by omega) _).mono ?_; rintro e w' ⟨rfl, rfl⟩))
  go_ret
  exact ⟨rfl, hbox⟩
set_option maxHeartbeats 4000000 in
theorem Apply_1sk (n : Int) (a b : Nat) (hn : 1 ≤ n ∧ n ≤ 64) (ha : a < 18446744073709551616) (hb : b < 18446744073709551616) (w : World) (O : Ot w) :
    Calls Tryd.prog 5 #[.int .i64 1, .agg #[.int .i64 n, .bool true], .int .u64 a, .int .u64 b] w fun e w' => e = .returned (.int .u64 ((bin 2 n (fit n a) (fit n b) : Nat) : Int)) ∧ Below w.heap.size w w' := by
  have hbox := boxT_below w n true
  have O1 := O.alloc (.cells #[.int .i64 n, .bool true] 23)
  obtain ⟨c0, c1⟩ := O1 1 (by omega)
  have d0 : (w.alloc (.cells #[.int .i64 n, .bool true] 23)).cell? ⟨0, 2, none⟩ = some (.int .i64 2) := c0
  have d1 : (w.alloc (.cells #[.int .i64 n, .bool true] 23)).cell? ⟨0, 3, none⟩ = some (.int .i64 2) := c1
  clear c0 c1 O1 O
  unfold boxT at hbox
  have HB := Lib.hid (fun W => Binary_ok 2 n a b (by omega) hn ha hb W)
  clear ha hb hn
  go_enter Tryd.func5, Tryd.ntmps5
  go_wp2_with (first
    | (go_at_call 9; refine (HB.out _).mono ?_; rintro e w' ⟨rfl, rfl⟩)
    | (go_at_call 10; refine (Fit_any _ _ (by omega) _).mono ?_; rintro e w' ⟨rfl, rfl⟩))
  go_ret
  exact ⟨rfl, hbox⟩
set_option maxHeartbeats 4000000 in
theorem Apply_1sb (n : Int) (a b : Nat) (hn : ¬ (1 ≤ n ∧ n ≤ 64)) (ha : a < 18446744073709551616) (hb : b < 18446744073709551616) (w : World) (O : Ot w) :
    Calls Tryd.prog 5 #[.int .i64 1, .agg #[.int .i64 n, .bool true], .int .u64 a, .int .u64 b] w fun e w' => e = .returned (.int .u64 ((0 : Nat) : Int)) ∧ Below w.heap.size w w' := by
  have hbox := boxT_below w n true
  have O1 := O.alloc (.cells #[.int .i64 n, .bool true] 23)
  obtain ⟨c0, c1⟩ := O1 1 (by omega)
  have d0 : (w.alloc (.cells #[.int .i64 n, .bool true] 23)).cell? ⟨0, 2, none⟩ = some (.int .i64 2) := c0
  have d1 : (w.alloc (.cells #[.int .i64 n, .bool true] 23)).cell? ⟨0, 3, none⟩ = some (.int .i64 2) := c1
  clear c0 c1 O1 O
  unfold boxT at hbox
  have HB := Lib.hid (fun W => Binary_bad 2 n a b (fun h => hn h.2) W)
  clear ha hb hn
  go_enter Tryd.func5, Tryd.ntmps5
  go_wp2_with (first
    | (go_at_call 9; refine (HB.out _).mono ?_; rintro e w' ⟨rfl, rfl⟩)
    | (go_at_call 10; refine (Fit_any _ _ (by omega) _).mono ?_; rintro e w' ⟨rfl, rfl⟩))
  go_ret
  exact ⟨rfl, hbox⟩
set_option maxHeartbeats 4000000 in
theorem Apply_2uk (n : Int) (a b : Nat) (hn : 1 ≤ n ∧ n ≤ 64) (ha : a < 18446744073709551616) (hb : b < 18446744073709551616) (w : World) (O : Ot w) :
    Calls Tryd.prog 5 #[.int .i64 2, .agg #[.int .i64 n, .bool false], .int .u64 a, .int .u64 b] w fun e w' => e = .returned (.int .u64 ((bin 3 n (fit n a) (fit n b) : Nat) : Int)) ∧ Below w.heap.size w w' := by
  have hbox := boxT_below w n false
  have O1 := O.alloc (.cells #[.int .i64 n, .bool false] 23)
  obtain ⟨c0, c1⟩ := O1 2 (by omega)
  have d0 : (w.alloc (.cells #[.int .i64 n, .bool false] 23)).cell? ⟨0, 4, none⟩ = some (.int .i64 3) := c0
  have d1 : (w.alloc (.cells #[.int .i64 n, .bool false] 23)).cell? ⟨0, 5, none⟩ = some (.int .i64 3) := c1
  clear c0 c1 O1 O
  unfold boxT at hbox
  have HB := Lib.hid (fun W => Binary_ok 3 n a b (by omega) hn ha hb W)
  clear ha hb hn
  go_enter Tryd.func5, Tryd.ntmps5
  go_wp2_with (first
    | (go_at_call 9; refine (HB.out _).mono ?_; rintro e w' ⟨rfl, rfl⟩)
    | (go_at_call 10; refine (Fit_any _ _ (by omega) _).mono ?_; rintro e w' ⟨rfl, rfl⟩))
  go_ret
  exact ⟨rfl, hbox⟩
set_option maxHeartbeats 4000000 in
theorem Apply_2ub (n : Int) (a b : Nat) (hn : ¬ (1 ≤ n ∧ n ≤ 64)) (ha : a < 18446744073709551616) (hb : b < 18446744073709551616) (w : World) (O : Ot w) :
    Calls Tryd.prog 5 #[.int .i64 2, .agg #[.int .i64 n, .bool false], .int .u64 a, .int .u64 b] w fun e w' => e = .returned (.int .u64 ((0 : Nat) : Int)) ∧ Below w.heap.size w w' := by
  have hbox := boxT_below w n false
  have O1 := O.alloc (.cells #[.int .i64 n, .bool false] 23)
  obtain ⟨c0, c1⟩ := O1 2 (by omega)
  have d0 : (w.alloc (.cells #[.int .i64 n, .bool false] 23)).cell? ⟨0, 4, none⟩ = some (.int .i64 3) := c0
  have d1 : (w.alloc (.cells #[.int .i64 n, .bool false] 23)).cell? ⟨0, 5, none⟩ = some (.int .i64 3) := c1
  clear c0 c1 O1 O
  unfold boxT at hbox
  have HB := Lib.hid (fun W => Binary_bad 3 n a b (fun h => hn h.2) W)
  clear ha hb hn
  go_enter Tryd.func5, Tryd.ntmps5
  go_wp2_with (first
    | (go_at_call 9; refine (HB.out _).mono ?_; rintro e w' ⟨rfl, rfl⟩)
    | (go_at_call 10; refine (Fit_any _ _ (by omega) _).mono ?_; rintro e w' ⟨rfl, rfl⟩))
  go_ret
  exact ⟨rfl, hbox⟩
set_option maxHeartbeats 4000000 in
theorem Apply_2sk (n : Int) (a b : Nat) (hn : 1 ≤ n ∧ n ≤ 64) (ha : a < 18446744073709551616) (hb : b < 18446744073709551616) (w : World) (O : Ot w) :
    Calls Tryd.prog 5 #[.int .i64 2, .agg #[.int .i64 n, .bool true], .int .u64 a, .int .u64 b] w fun e w' => e = .returned (.int .u64 ((bin 3 n (fit n a) (fit n b) : Nat) : Int)) ∧ Below w.heap.size w w' := by
  have hbox := boxT_below w n true
  have O1 := O.alloc (.cells #[.int .i64 n, .bool true] 23)
  obtain ⟨c0, c1⟩ := O1 2 (by omega)
  have d0 : (w.alloc (.cells #[.int .i64 n, .bool true] 23)).cell? ⟨0, 4, none⟩ = some (.int .i64 3) := c0
  have d1 : (w.alloc (.cells #[.int .i64 n, .bool true] 23)).cell? ⟨0, 5, none⟩ = some (.int .i64 3) := c1
  clear c0 c1 O1 O
  unfold boxT at hbox
  have HB := Lib.hid (fun W => Binary_ok 3 n a b (by omega) hn ha hb W)
  clear ha hb hn
  go_enter Tryd.func5, Tryd.ntmps5
  go_wp2_with (first
    | (go_at_call 9; refine (HB.out _).mono ?_; rintro e w' ⟨rfl, rfl⟩)
    | (go_at_call 10; refine (Fit_any _ _ (by omega) _).mono ?_; rintro e w' ⟨rfl, rfl⟩))
  go_ret
  exact ⟨rfl, hbox⟩
set_option maxHeartbeats 4000000 in
theorem Apply_2sb (n : Int) (a b : Nat) (hn : ¬ (1 ≤ n ∧ n ≤ 64)) (ha : a < 18446744073709551616) (hb : b < 18446744073709551616) (w : World) (O : Ot w) :
    Calls Tryd.prog 5 #[.int .i64 2, .agg #[.int .i64 n, .bool true], .int .u64 a, .int .u64 b] w fun e w' => e = .returned (.int .u64 ((0 : Nat) : Int)) ∧ Below w.heap.size w w' := by
  have hbox := boxT_below w n true
  have O1 := O.alloc (.cells #[.int .i64 n, .bool true] 23)
  obtain ⟨c0, c1⟩ := O1 2 (by omega)
  have d0 : (w.alloc (.cells #[.int .i64 n, .bool true] 23)).cell? ⟨0, 4, none⟩ = some (.int .i64 3) := c0
  have d1 : (w.alloc (.cells #[.int .i64 n, .bool true] 23)).cell? ⟨0, 5, none⟩ = some (.int .i64 3) := c1
  clear c0 c1 O1 O
  unfold boxT at hbox
  have HB := Lib.hid (fun W => Binary_bad 3 n a b (fun h => hn h.2) W)
  clear ha hb hn
  go_enter Tryd.func5, Tryd.ntmps5
  go_wp2_with (first
    | (go_at_call 9; refine (HB.out _).mono ?_; rintro e w' ⟨rfl, rfl⟩)
    | (go_at_call 10; refine (Fit_any _ _ (by omega) _).mono ?_; rintro e w' ⟨rfl, rfl⟩))
  go_ret
  exact ⟨rfl, hbox⟩
set_option maxHeartbeats 4000000 in
theorem Apply_3uk (n : Int) (a b : Nat) (hn : 1 ≤ n ∧ n ≤ 64) (ha : a < 18446744073709551616) (hb : b < 18446744073709551616) (w : World) (O : Ot w) :
    Calls Tryd.prog 5 #[.int .i64 3, .agg #[.int .i64 n, .bool false], .int .u64 a, .int .u64 b] w fun e w' => e = .returned (.int .u64 ((bin 4 n (fit n a) (fit n b) : Nat) : Int)) ∧ Below w.heap.size w w' := by
  have hbox := boxT_below w n false
  have O1 := O.alloc (.cells #[.int .i64 n, .bool false] 23)
  obtain ⟨c0, c1⟩ := O1 3 (by omega)
  have d0 : (w.alloc (.cells #[.int .i64 n, .bool false] 23)).cell? ⟨0, 6, none⟩ = some (.int .i64 4) := c0
  have d1 : (w.alloc (.cells #[.int .i64 n, .bool false] 23)).cell? ⟨0, 7, none⟩ = some (.int .i64 4) := c1
  clear c0 c1 O1 O
  unfold boxT at hbox
  have HB := Lib.hid (fun W => Binary_ok 4 n a b (by omega) hn ha hb W)
  clear ha hb hn
  go_enter Tryd.func5, Tryd.ntmps5
  go_wp2_with (first
    | (go_at_call 9; refine (HB.out _).mono ?_; rintro e w' ⟨rfl, rfl⟩)
    | (go_at_call 10; refine (Fit_any _ _ (by omega) _).mono ?_; rintro e w' ⟨rfl, rfl⟩))
  go_ret
  exact ⟨rfl, hbox⟩
set_option maxHeartbeats 4000000 in
theorem Apply_3ub (n : Int) (a b : Nat) (hn : ¬ (1 ≤ n ∧ n ≤ 64)) (ha : a < 18446744073709551616) (hb : b < 18446744073709551616) (w : World) (O : Ot w) :
    Calls Tryd.prog 5 #[.int .i64 3, .agg #[.int .i64 n, .bool false], .int .u64 a, .int .u64 b] w fun e w' => e = .returned (.int .u64 ((0 : Nat) : Int)) ∧ Below w.heap.size w w' := by
  have hbox := boxT_below w n false
  have O1 := O.alloc (.cells #[.int .i64 n, .bool false] 23)
  obtain ⟨c0, c1⟩ := O1 3 (by omega)
  have d0 : (w.alloc (.cells #[.int .i64 n, .bool false] 23)).cell? ⟨0, 6, none⟩ = some (.int .i64 4) := c0
  have d1 : (w.alloc (.cells #[.int .i64 n, .bool false] 23)).cell? ⟨0, 7, none⟩ = some (.int .i64 4) := c1
  clear c0 c1 O1 O
  unfold boxT at hbox
  have HB := Lib.hid (fun W => Binary_bad 4 n a b (fun h => hn h.2) W)
  clear ha hb hn
  go_enter Tryd.func5, Tryd.ntmps5
  go_wp2_with (first
    | (go_at_call 9; refine (HB.out _).mono ?_; rintro e w' ⟨rfl, rfl⟩)
    | (go_at_call 10; refine (Fit_any _ _ (by omega) _).mono ?_; rintro e w' ⟨rfl, rfl⟩))
  go_ret
  exact ⟨rfl, hbox⟩
set_option maxHeartbeats 4000000 in
theorem Apply_3sk (n : Int) (a b : Nat) (hn : 1 ≤ n ∧ n ≤ 64) (ha : a < 18446744073709551616) (hb : b < 18446744073709551616) (w : World) (O : Ot w) :
    Calls Tryd.prog 5 #[.int .i64 3, .agg #[.int .i64 n, .bool true], .int .u64 a, .int .u64 b] w fun e w' => e = .returned (.int .u64 ((bin 4 n (fit n a) (fit n b) : Nat) : Int)) ∧ Below w.heap.size w w' := by
  have hbox := boxT_below w n true
  have O1 := O.alloc (.cells #[.int .i64 n, .bool true] 23)
  obtain ⟨c0, c1⟩ := O1 3 (by omega)
  have d0 : (w.alloc (.cells #[.int .i64 n, .bool true] 23)).cell? ⟨0, 6, none⟩ = some (.int .i64 4) := c0
  have d1 : (w.alloc (.cells #[.int .i64 n, .bool true] 23)).cell? ⟨0, 7, none⟩ = some (.int .i64 4) := c1
  clear c0 c1 O1 O
  unfold boxT at hbox
  have HB := Lib.hid (fun W => Binary_ok 4 n a b (by omega) hn ha hb W)
  clear ha hb hn
  go_enter Tryd.func5, Tryd.ntmps5
  go_wp2_with (first
    | (go_at_call 9; refine (HB.out _).mono ?_; rintro e w' ⟨rfl, rfl⟩)
    | (go_at_call 10; refine (Fit_any _ _ (by omega) _).mono ?_; rintro e w' ⟨rfl, rfl⟩))
  go_ret
  exact ⟨rfl, hbox⟩
set_option maxHeartbeats 4000000 in
theorem Apply_3sb (n : Int) (a b : Nat) (hn : ¬ (1 ≤ n ∧ n ≤ 64)) (ha : a < 18446744073709551616) (hb : b < 18446744073709551616) (w : World) (O : Ot w) :
    Calls Tryd.prog 5 #[.int .i64 3, .agg #[.int .i64 n, .bool true], .int .u64 a, .int .u64 b] w fun e w' => e = .returned (.int .u64 ((0 : Nat) : Int)) ∧ Below w.heap.size w w' := by
  have hbox := boxT_below w n true
  have O1 := O.alloc (.cells #[.int .i64 n, .bool true] 23)
  obtain ⟨c0, c1⟩ := O1 3 (by omega)
  have d0 : (w.alloc (.cells #[.int .i64 n, .bool true] 23)).cell? ⟨0, 6, none⟩ = some (.int .i64 4) := c0
  have d1 : (w.alloc (.cells #[.int .i64 n, .bool true] 23)).cell? ⟨0, 7, none⟩ = some (.int .i64 4) := c1
  clear c0 c1 O1 O
  unfold boxT at hbox
  have HB := Lib.hid (fun W => Binary_bad 4 n a b (fun h => hn h.2) W)
  clear ha hb hn
  go_enter Tryd.func5, Tryd.ntmps5
  go_wp2_with (first
    | (go_at_call 9; refine (HB.out _).mono ?_; rintro e w' ⟨rfl, rfl⟩)
    | (go_at_call 10; refine (Fit_any _ _ (by omega) _).mono ?_; rintro e w' ⟨rfl, rfl⟩))
  go_ret
  exact ⟨rfl, hbox⟩
set_option maxHeartbeats 4000000 in
theorem Apply_4uk (n : Int) (a b : Nat) (hn : 1 ≤ n ∧ n ≤ 64) (ha : a < 18446744073709551616) (hb : b < 18446744073709551616) (w : World) (O : Ot w) :
    Calls Tryd.prog 5 #[.int .i64 4, .agg #[.int .i64 n, .bool false], .int .u64 a, .int .u64 b] w fun e w' => e = .returned (.int .u64 ((bin 5 n (fit n a) (fit n b) : Nat) : Int)) ∧ Below w.heap.size w w' := by
  have hbox := boxT_below w n false
  have O1 := O.alloc (.cells #[.int .i64 n, .bool false] 23)
  obtain ⟨c0, c1⟩ := O1 4 (by omega)
  have d0 : (w.alloc (.cells #[.int .i64 n, .bool false] 23)).cell? ⟨0, 8, none⟩ = some (.int .i64 5) := c0
  have d1 : (w.alloc (.cells #[.int .i64 n, .bool false] 23)).cell? ⟨0, 9, none⟩ = some (.int .i64 7) := c1
  clear c0 c1 O1 O
  unfold boxT at hbox
  have HB := Lib.hid (fun W => Binary_ok 5 n a b (by omega) hn ha hb W)
  clear ha hb hn
  go_enter Tryd.func5, Tryd.ntmps5
  go_wp2_with (first
    | (go_at_call 9; refine (HB.out _).mono ?_; rintro e w' ⟨rfl, rfl⟩)
    | (go_at_call 10; refine (Fit_any _ _ (by omega) _).mono ?_; rintro e w' ⟨rfl, rfl⟩))
  go_ret
  exact ⟨rfl, hbox⟩
set_option maxHeartbeats 4000000 in
theorem Apply_4ub (n : Int) (a b : Nat) (hn : ¬ (1 ≤ n ∧ n ≤ 64)) (ha : a < 18446744073709551616) (hb : b < 18446744073709551616) (w : World) (O : Ot w) :
    Calls Tryd.prog 5 #[.int .i64 4, .agg #[.int .i64 n, .bool false], .int .u64 a, .int .u64 b] w fun e w' => e = .returned (.int .u64 ((0 : Nat) : Int)) ∧ Below w.heap.size w w' := by
  have hbox := boxT_below w n false
  have O1 := O.alloc (.cells #[.int .i64 n, .bool false] 23)
  obtain ⟨c0, c1⟩ := O1 4 (by omega)
  have d0 : (w.alloc (.cells #[.int .i64 n, .bool false] 23)).cell? ⟨0, 8, none⟩ = some (.int .i64 5) := c0
  have d1 : (w.alloc (.cells #[.int .i64 n, .bool false] 23)).cell? ⟨0, 9, none⟩ = some (.int .i64 7) := c1
  clear c0 c1 O1 O
  unfold boxT at hbox
  have HB := Lib.hid (fun W => Binary_bad 5 n a b (fun h => hn h.2) W)
  clear ha hb hn
  go_enter Tryd.func5, Tryd.ntmps5
  go_wp2_with (first
    | (go_at_call 9; refine (HB.out _).mono ?_; rintro e w' ⟨rfl, rfl⟩)
    | (go_at_call 10; refine (Fit_any _ _ (by omega) _).mono ?_; rintro e w' ⟨rfl, rfl⟩))
  go_ret
  exact ⟨rfl, hbox⟩
set_option maxHeartbeats 4000000 in
theorem Apply_4sk (n : Int) (a b : Nat) (hn : 1 ≤ n ∧ n ≤ 64) (ha : a < 18446744073709551616) (hb : b < 18446744073709551616) (w : World) (O : Ot w) :
    Calls Tryd.prog 5 #[.int .i64 4, .agg #[.int .i64 n, .bool true], .int .u64 a, .int .u64 b] w fun e w' => e = .returned (.int .u64 ((bin 7 n (fit n a) (fit n b) : Nat) : Int)) ∧ Below w.heap.size w w' := by
  have hbox := boxT_below w n true
  have O1 := O.alloc (.cells #[.int .i64 n, .bool true] 23)
  obtain ⟨c0, c1⟩ := O1 4 (by omega)
  have d0 : (w.alloc (.cells #[.int .i64 n, .bool true] 23)).cell? ⟨0, 8, none⟩ = some (.int .i64 5) := c0
  have d1 : (w.alloc (.cells #[.int .i64 n, .bool true] 23)).cell? ⟨0, 9, none⟩ = some (.int .i64 7) := c1
  clear c0 c1 O1 O
  unfold boxT at hbox
  have HB := Lib.hid (fun W => Binary_ok 7 n a b (by omega) hn ha hb W)
  clear ha hb hn
  go_enter Tryd.func5, Tryd.ntmps5
  go_wp2_with (first
    | (go_at_call 9; refine (HB.out _).mono ?_; rintro e w' ⟨rfl, rfl⟩)
    | (go_at_call 10; refine (Fit_any _ _ (by omega) _).mono ?_; rintro e w' ⟨rfl, rfl⟩))
  go_ret
  exact ⟨rfl, hbox⟩
set_option maxHeartbeats 4000000 in
theorem Apply_4sb (n : Int) (a b : Nat) (hn : ¬ (1 ≤ n ∧ n ≤ 64)) (ha : a < 18446744073709551616) (hb : b < 18446744073709551616) (w : World) (O : Ot w) :
    Calls Tryd.prog 5 #[.int .i64 4, .agg #[.int .i64 n, .bool true], .int .u64 a, .int .u64 b] w fun e w' => e = .returned (.int .u64 ((0 : Nat) : Int)) ∧ Below w.heap.size w w' := by
  have hbox := boxT_below w n true
  have O1 := O.alloc (.cells #[.int .i64 n, .bool true] 23)
  obtain ⟨c0, c1⟩ := O1 4 (by omega)
  have d0 : (w.alloc (.cells #[.int .i64 n, .bool true] 23)).cell? ⟨0, 8, none⟩ = some (.int .i64 5) := c0
  have d1 : (w.alloc (.cells #[.int .i64 n, .bool true] 23)).cell? ⟨0, 9, none⟩ = some (.int .i64 7) := c1
  clear c0 c1 O1 O
  unfold boxT at hbox
  have HB := Lib.hid (fun W => Binary_bad 7 n a b (fun h => hn h.2) W)
  clear ha hb hn
  go_enter Tryd.func5, Tryd.ntmps5
  go_wp2_with (first
    | (go_at_call 9; refine (HB.out _).mono ?_; rintro e w' ⟨rfl, rfl⟩)
    | (go_at_call 10; refine (Fit_any _ _ (by omega) _).mono ?_; rintro e w' ⟨rfl, rfl⟩))
  go_ret
  exact ⟨rfl, hbox⟩
set_option maxHeartbeats 4000000 in
theorem Apply_5uk (n : Int) (a b : Nat) (hn : 1 ≤ n ∧ n ≤ 64) (ha : a < 18446744073709551616) (hb : b < 18446744073709551616) (w : World) (O : Ot w) :
    Calls Tryd.prog 5 #[.int .i64 5, .agg #[.int .i64 n, .bool false], .int .u64 a, .int .u64 b] w fun e w' => e = .returned (.int .u64 ((bin 6 n (fit n a) (fit n b) : Nat) : Int)) ∧ Below w.heap.size w w' := by
  have hbox := boxT_below w n false
  have O1 := O.alloc (.cells #[.int .i64 n, .bool false] 23)
  obtain ⟨c0, c1⟩ := O1 5 (by omega)
  have d0 : (w.alloc (.cells #[.int .i64 n, .bool false] 23)).cell? ⟨0, 10, none⟩ = some (.int .i64 6) := c0
  have d1 : (w.alloc (.cells #[.int .i64 n, .bool false] 23)).cell? ⟨0, 11, none⟩ = some (.int .i64 8) := c1
  clear c0 c1 O1 O
  unfold boxT at hbox
  have HB := Lib.hid (fun W => Binary_ok 6 n a b (by omega) hn ha hb W)
  clear ha hb hn
  go_enter Tryd.func5, Tryd.ntmps5
  go_wp2_with (first
    | (go_at_call 9; refine (HB.out _).mono ?_; rintro e w' ⟨rfl, rfl⟩)
    | (go_at_call 10; refine (Fit_any _ _ (by omega) _).mono ?_; rintro e w' ⟨rfl, rfl⟩))
  go_ret
  exact ⟨rfl, hbox⟩
set_option maxHeartbeats 4000000 in
theorem Apply_5ub (n : Int) (a b : Nat) (hn : ¬ (1 ≤ n ∧ n ≤ 64)) (ha : a < 18446744073709551616) (hb : b < 18446744073709551616) (w : World) (O : Ot w) :
    Calls Tryd.prog 5 #[.int .i64 5, .agg #[.int .i64 n, .bool false], .int .u64 a, .int .u64 b] w fun e w' => e = .returned (.int .u64 ((0 : Nat) : Int)) ∧ Below w.heap.size w w' := by
  have hbox := boxT_below w n false
  have O1 := O.alloc (.cells #[.int .i64 n, .bool false] 23)
  obtain ⟨c0, c1⟩ := O1 5 (by omega)
  have d0 : (w.alloc (.cells #[.int .i64 n, .bool false] 23)).cell? ⟨0, 10, none⟩ = some (.int .i64 6) := c0
  have d1 : (w.alloc (.cells #[.int .i64 n, .bool false] 23)).cell? ⟨0, 11, none⟩ = some (.int .i64 8) := c1
  clear c0 c1 O1 O
  unfold boxT at hbox
  have HB := Lib.hid (fun W => Binary_bad 6 n a b (fun h => hn h.2) W)
  clear ha hb hn
  go_enter Tryd.func5, Tryd.ntmps5
  go_wp2_with (first
    | (go_at_call 9; refine (HB.out _).mono ?_; rintro e w' ⟨rfl, rfl⟩)
    | (go_at_call 10; refine (Fit_any _ _ (by omega) _).mono ?_; rintro e w' ⟨rfl, rfl⟩))
  go_ret
  exact ⟨rfl, hbox⟩
set_option maxHeartbeats 4000000 in
theorem Apply_5sk (n : Int) (a b : Nat) (hn : 1 ≤ n ∧ n ≤ 64) (ha : a < 18446744073709551616) (hb : b < 18446744073709551616) (w : World) (O : Ot w) :
    Calls Tryd.prog 5 #[.int .i64 5, .agg #[.int .i64 n, .bool true], .int .u64 a, .int .u64 b] w fun e w' => e = .returned (.int .u64 ((bin 8 n (fit n a) (fit n b) : Nat) : Int)) ∧ Below w.heap.size w w' := by
  have hbox := boxT_below w n true
  have O1 := O.alloc (.cells #[.int .i64 n, .bool true] 23)
  obtain ⟨c0, c1⟩ := O1 5 (by omega)
  have d0 : (w.alloc (.cells #[.int .i64 n, .bool true] 23)).cell? ⟨0, 10, none⟩ = some (.int .i64 6) := c0
  have d1 : (w.alloc (.cells #[.int .i64 n, .bool true] 23)).cell? ⟨0, 11, none⟩ = some (.int .i64 8) := c1
  clear c0 c1 O1 O
  unfold boxT at hbox
  have HB := Lib.hid (fun W => Binary_ok 8 n a b (by omega) hn ha hb W)
  clear ha hb hn
  go_enter Tryd.func5, Tryd.ntmps5
  go_wp2_with (first
    | (go_at_call 9; refine (HB.out _).mono ?_; rintro e w' ⟨rfl, rfl⟩)
    | (go_at_call 10; refine (Fit_any _ _ (by omega) _).mono ?_; rintro e w' ⟨rfl, rfl⟩))
  go_ret
  exact ⟨rfl, hbox⟩
set_option maxHeartbeats 4000000 in
theorem Apply_5sb (n : Int) (a b : Nat) (hn : ¬ (1 ≤ n ∧ n ≤ 64)) (ha : a < 18446744073709551616) (hb : b < 18446744073709551616) (w : World) (O : Ot w) :
    Calls Tryd.prog 5 #[.int .i64 5, .agg #[.int .i64 n, .bool true], .int .u64 a, .int .u64 b] w fun e w' => e = .returned (.int .u64 ((0 : Nat) : Int)) ∧ Below w.heap.size w w' := by
  have hbox := boxT_below w n true
  have O1 := O.alloc (.cells #[.int .i64 n, .bool true] 23)
  obtain ⟨c0, c1⟩ := O1 5 (by omega)
  have d0 : (w.alloc (.cells #[.int .i64 n, .bool true] 23)).cell? ⟨0, 10, none⟩ = some (.int .i64 6) := c0
  have d1 : (w.alloc (.cells #[.int .i64 n, .bool true] 23)).cell? ⟨0, 11, none⟩ = some (.int .i64 8) := c1
  clear c0 c1 O1 O
  unfold boxT at hbox
  have HB := Lib.hid (fun W => Binary_bad 8 n a b (fun h => hn h.2) W)
  clear ha hb hn
  go_enter Tryd.func5, Tryd.ntmps5
  go_wp2_with (first
    | (go_at_call 9; refine (HB.out _).mono ?_; rintro e w' ⟨rfl, rfl⟩)
    | (go_at_call 10; refine (Fit_any _ _ (by omega) _).mono ?_; rintro e w' ⟨rfl, rfl⟩))
  go_ret
  exact ⟨rfl, hbox⟩
set_option maxHeartbeats 4000000 in
theorem Apply_6uk (n : Int) (a b : Nat) (hn : 1 ≤ n ∧ n ≤ 64) (ha : a < 18446744073709551616) (hb : b < 18446744073709551616) (w : World) (O : Ot w) :
    Calls Tryd.prog 5 #[.int .i64 6, .agg #[.int .i64 n, .bool false], .int .u64 a, .int .u64 b] w fun e w' => e = .returned (.int .u64 ((bin 9 n (fit n a) (fit n b) : Nat) : Int)) ∧ Below w.heap.size w w' := by
  have hbox := boxT_below w n false
  have O1 := O.alloc (.cells #[.int .i64 n, .bool false] 23)
  obtain ⟨c0, c1⟩ := O1 6 (by omega)
  have d0 : (w.alloc (.cells #[.int .i64 n, .bool false] 23)).cell? ⟨0, 12, none⟩ = some (.int .i64 9) := c0
  have d1 : (w.alloc (.cells #[.int .i64 n, .bool false] 23)).cell? ⟨0, 13, none⟩ = some (.int .i64 9) := c1
  clear c0 c1 O1 O
  unfold boxT at hbox
  have HB := Lib.hid (fun W => Binary_ok 9 n a b (by omega) hn ha hb W)
  clear ha hb hn
  go_enter Tryd.func5, Tryd.ntmps5
  go_wp2_with (first
    | (go_at_call 9; refine (HB.out _).mono ?_; rintro e w' ⟨rfl, rfl⟩)
    | (go_at_call 10; refine (Fit_any _ _ (by omega) _).mono ?_; rintro e w' ⟨rfl, rfl⟩))
  go_ret
  exact ⟨rfl, hbox⟩
set_option maxHeartbeats 4000000 in
theorem Apply_6ub (n : Int) (a b : Nat) (hn : ¬ (1 ≤ n ∧ n ≤ 64)) (ha : a < 18446744073709551616) (hb : b < 18446744073709551616) (w : World) (O : Ot w) :
    Calls Tryd.prog 5 #[.int .i64 6, .agg #[.int .i64 n, .bool false], .int .u64 a, .int .u64 b] w fun e w' => e = .returned (.int .u64 ((0 : Nat) : Int)) ∧ Below w.heap.size w w' := by
  have hbox := boxT_below w n false
  have O1 := O.alloc (.cells #[.int .i64 n, .bool false] 23)
  obtain ⟨c0, c1⟩ := O1 6 (by omega)
  have d0 : (w.alloc (.cells #[.int .i64 n, .bool false] 23)).cell? ⟨0, 12, none⟩ = some (.int .i64 9) := c0
  have d1 : (w.alloc (.cells #[.int .i64 n, .bool false] 23)).cell? ⟨0, 13, none⟩ = some (.int .i64 9) := c1
  clear c0 c1 O1 O
  unfold boxT at hbox
  have HB := Lib.hid (fun W => Binary_bad 9 n a b (fun h => hn h.2) W)
  clear ha hb hn
  go_enter Tryd.func5, Tryd.ntmps5
  go_wp2_with (first
    | (go_at_call 9; refine (HB.out _).mono ?_; rintro e w' ⟨rfl, rfl⟩)
    | (go_at_call 10; refine (Fit_any _ _ (by omega) _).mono ?_; rintro e w' ⟨rfl, rfl⟩))
  go_ret
  exact ⟨rfl, hbox⟩
set_option maxHeartbeats 4000000 in
theorem Apply_6sk (n : Int) (a b : Nat) (hn : 1 ≤ n ∧ n ≤ 64) (ha : a < 18446744073709551616) (hb : b < 18446744073709551616) (w : World) (O : Ot w) :
    Calls Tryd.prog 5 #[.int .i64 6, .agg #[.int .i64 n, .bool true], .int .u64 a, .int .u64 b] w fun e w' => e = .returned (.int .u64 ((bin 9 n (fit n a) (fit n b) : Nat) : Int)) ∧ Below w.heap.size w w' := by
  have hbox := boxT_below w n true
  have O1 := O.alloc (.cells #[.int .i64 n, .bool true] 23)
  obtain ⟨c0, c1⟩ := O1 6 (by omega)
  have d0 : (w.alloc (.cells #[.int .i64 n, .bool true] 23)).cell? ⟨0, 12, none⟩ = some (.int .i64 9) := c0
  have d1 : (w.alloc (.cells #[.int .i64 n, .bool true] 23)).cell? ⟨0, 13, none⟩ = some (.int .i64 9) := c1
  clear c0 c1 O1 O
  unfold boxT at hbox
  have HB := Lib.hid (fun W => Binary_ok 9 n a b (by omega) hn ha hb W)
  clear ha hb hn
  go_enter Tryd.func5, Tryd.ntmps5
  go_wp2_with (first
    | (go_at_call 9; refine (HB.out _).mono ?_; rintro e w' ⟨rfl, rfl⟩)
    | (go_at_call 10; refine (Fit_any _ _ (by omega) _).mono ?_; rintro e w' ⟨rfl, rfl⟩))
  go_ret
  exact ⟨rfl, hbox⟩
set_option maxHeartbeats 4000000 in
theorem Apply_6sb (n : Int) (a b : Nat) (hn : ¬ (1 ≤ n ∧ n ≤ 64)) (ha : a < 18446744073709551616) (hb : b < 18446744073709551616) (w : World) (O : Ot w) :
    Calls Tryd.prog 5 #[.int .i64 6, .agg #[.int .i64 n, .bool true], .int .u64 a, .int .u64 b] w fun e w' => e = .returned (.int .u64 ((0 : Nat) : Int)) ∧ Below w.heap.size w w' := by
  have hbox := boxT_below w n true
  have O1 := O.alloc (.cells #[.int .i64 n, .bool true] 23)
  obtain ⟨c0, c1⟩ := O1 6 (by omega)
  have d0 : (w.alloc (.cells #[.int .i64 n, .bool true] 23)).cell? ⟨0, 12, none⟩ = some (.int .i64 9) := c0
  have d1 : (w.alloc (.cells #[.int .i64 n, .bool true] 23)).cell? ⟨0, 13, none⟩ = some (.int .i64 9) := c1
  clear c0 c1 O1 O
  unfold boxT at hbox
  have HB := Lib.hid (fun W => Binary_bad 9 n a b (fun h => hn h.2) W)
  clear ha hb hn
  go_enter Tryd.func5, Tryd.ntmps5
  go_wp2_with (first
    | (go_at_call 9; refine (HB.out _).mono ?_; rintro e w' ⟨rfl, rfl⟩)
    | (go_at_call 10; refine (Fit_any _ _ (by omega) _).mono ?_; rintro e w' ⟨rfl, rfl⟩))
  go_ret
  exact ⟨rfl, hbox⟩
set_option maxHeartbeats 4000000 in
theorem Apply_7uk (n : Int) (a b : Nat) (hn : 1 ≤ n ∧ n ≤ 64) (ha : a < 18446744073709551616) (hb : b < 18446744073709551616) (w : World) (O : Ot w) :
    Calls Tryd.prog 5 #[.int .i64 7, .agg #[.int .i64 n, .bool false], .int .u64 a, .int .u64 b] w fun e w' => e = .returned (.int .u64 ((bin 10 n (fit n a) (fit n b) : Nat) : Int)) ∧ Below w.heap.size w w' := by
  have hbox := boxT_below w n false
  have O1 := O.alloc (.cells #[.int .i64 n, .bool false] 23)
  obtain ⟨c0, c1⟩ := O1 7 (by omega)
  have d0 : (w.alloc (.cells #[.int .i64 n, .bool false] 23)).cell? ⟨0, 14, none⟩ = some (.int .i64 10) := c0
  have d1 : (w.alloc (.cells #[.int .i64 n, .bool false] 23)).cell? ⟨0, 15, none⟩ = some (.int .i64 10) := c1
  clear c0 c1 O1 O
  unfold boxT at hbox
  have HB := Lib.hid (fun W => Binary_ok 10 n a b (by omega) hn ha hb W)
  clear ha hb hn
  go_enter Tryd.func5, Tryd.ntmps5
  go_wp2_with (first
    | (go_at_call 9; refine (HB.out _).mono ?_; rintro e w' ⟨rfl, rfl⟩)
    | (go_at_call 10; refine (Fit_any _ _ (by omega) _).mono ?_; rintro e w' ⟨rfl, rfl⟩))
  go_ret
  exact ⟨rfl, hbox⟩
set_option maxHeartbeats 4000000 in
theorem Apply_7ub (n : Int) (a b : Nat) (hn : ¬ (1 ≤ n ∧ n ≤ 64)) (ha : a < 18446744073709551616) (hb : b < 18446744073709551616) (w : World) (O : Ot w) :
    Calls Tryd.prog 5 #[.int .i64 7, .agg #[.int .i64 n, .bool false], .int .u64 a, .int .u64 b] w fun e w' => e = .returned (.int .u64 ((0 : Nat) : Int)) ∧ Below w.heap.size w w' := by
  have hbox := boxT_below w n false
  have O1 := O.alloc (.cells #[.int .i64 n, .bool false] 23)
  obtain ⟨c0, c1⟩ := O1 7 (by omega)
  have d0 : (w.alloc (.cells #[.int .i64 n, .bool false] 23)).cell? ⟨0, 14, none⟩ = some (.int .i64 10) := c0
  have d1 : (w.alloc (.cells #[.int .i64 n, .bool false] 23)).cell? ⟨0, 15, none⟩ = some (.int .i64 10) := c1
  clear c0 c1 O1 O
  unfold boxT at hbox
  have HB := Lib.hid (fun W => Binary_bad 10 n a b (fun h => hn h.2) W)
  clear ha hb hn
  go_enter Tryd.func5, Tryd.ntmps5
  go_wp2_with (first
    | (go_at_call 9; refine (HB.out _).mono ?_; rintro e w' ⟨rfl, rfl⟩)
    | (go_at_call 10; refine (Fit_any _ _ (by omega) _).mono ?_; rintro e w' ⟨rfl, rfl⟩))
  go_ret
  exact ⟨rfl, hbox⟩
set_option maxHeartbeats 4000000 in
theorem Apply_7sk (n : Int) (a b : Nat) (hn : 1 ≤ n ∧ n ≤ 64) (ha : a < 18446744073709551616) (hb : b < 18446744073709551616) (w : World) (O : Ot w) :
    Calls Tryd.prog 5 #[.int .i64 7, .agg #[.int .i64 n, .bool true], .int .u64 a, .int .u64 b] w fun e w' => e = .returned (.int .u64 ((bin 10 n (fit n a) (fit n b) : Nat) : Int)) ∧ Below w.heap.size w w' := by
  have hbox := boxT_below w n true
  have O1 := O.alloc (.cells #[.int .i64 n, .bool true] 23)
  obtain ⟨c0, c1⟩ := O1 7 (by omega)
  have d0 : (w.alloc (.cells #[.int .i64 n, .bool true] 23)).cell? ⟨0, 14, none⟩ = some (.int .i64 10) := c0
  have d1 : (w.alloc (.cells #[.int .i64 n, .bool true] 23)).cell? ⟨0, 15, none⟩ = some (.int .i64 10) := c1
  clear c0 c1 O1 O
  unfold boxT at hbox
  have HB := Lib.hid (fun W => Binary_ok 10 n a b (by omega) hn ha hb W)
  clear ha hb hn
  go_enter Tryd.func5, Tryd.ntmps5
  go_wp2_with (first
    | (go_at_call 9; refine (HB.out _).mono ?_; rintro e w' ⟨rfl, rfl⟩)
    | (go_at_call 10; refine (Fit_any _ _ (by omega) _).mono ?_; rintro e w' ⟨rfl, rfl⟩))
  go_ret
  exact ⟨rfl, hbox⟩
set_option maxHeartbeats 4000000 in
theorem Apply_7sb (n : Int) (a b : Nat) (hn : ¬ (1 ≤ n ∧ n ≤ 64)) (ha : a < 18446744073709551616) (hb : b < 18446744073709551616) (w : World) (O : Ot w) :
    Calls Tryd.prog 5 #[.int .i64 7, .agg #[.int .i64 n, .bool true], .int .u64 a, .int .u64 b] w fun e w' => e = .returned (.int .u64 ((0 : Nat) : Int)) ∧ Below w.heap.size w w' := by
  have hbox := boxT_below w n true
  have O1 := O.alloc (.cells #[.int .i64 n, .bool true] 23)
  obtain ⟨c0, c1⟩ := O1 7 (by omega)
  have d0 : (w.alloc (.cells #[.int .i64 n, .bool true] 23)).cell? ⟨0, 14, none⟩ = some (.int .i64 10) := c0
  have d1 : (w.alloc (.cells #[.int .i64 n, .bool true] 23)).cell? ⟨0, 15, none⟩ = some (.int .i64 10) := c1
  clear c0 c1 O1 O
  unfold boxT at hbox
  have HB := Lib.hid (fun W => Binary_bad 10 n a b (fun h => hn h.2) W)
  clear ha hb hn
  go_enter Tryd.func5, Tryd.ntmps5
  go_wp2_with (first
    | (go_at_call 9; refine (HB.out _).mono ?_; rintro e w' ⟨rfl, rfl⟩)
    | (go_at_call 10; refine (Fit_any _ _ (by omega) _).mono ?_; rintro e w' ⟨rfl, rfl⟩))
  go_ret
  exact ⟨rfl, hbox⟩
set_option maxHeartbeats 4000000 in
theorem Apply_8uk (n : Int) (a b : Nat) (hn : 1 ≤ n ∧ n ≤ 64) (ha : a < 18446744073709551616) (hb : b < 18446744073709551616) (w : World) (O : Ot w) :
    Calls Tryd.prog 5 #[.int .i64 8, .agg #[.int .i64 n, .bool false], .int .u64 a, .int .u64 b] w fun e w' => e = .returned (.int .u64 ((bin 11 n (fit n a) (fit n b) : Nat) : Int)) ∧ Below w.heap.size w w' := by
  have hbox := boxT_below w n false
  have O1 := O.alloc (.cells #[.int .i64 n, .bool false] 23)
  obtain ⟨c0, c1⟩ := O1 8 (by omega)
  have d0 : (w.alloc (.cells #[.int .i64 n, .bool false] 23)).cell? ⟨0, 16, none⟩ = some (.int .i64 11) := c0
  have d1 : (w.alloc (.cells #[.int .i64 n, .bool false] 23)).cell? ⟨0, 17, none⟩ = some (.int .i64 11) := c1
  clear c0 c1 O1 O
  unfold boxT at hbox
  have HB := Lib.hid (fun W => Binary_ok 11 n a b (by omega) hn ha hb W)
  clear ha hb hn
  go_enter Tryd.func5, Tryd.ntmps5
  go_wp2_with (first
    | (go_at_call 9; refine (HB.out _).mono ?_; rintro e w' ⟨rfl, rfl⟩)
    | (go_at_call 10; refine (Fit_any _ _ (by omega) _).mono ?_; rintro e w' ⟨rfl, rfl⟩))
  go_ret
  exact ⟨rfl, hbox⟩
set_option maxHeartbeats 4000000 in
theorem Apply_8ub (n : Int) (a b : Nat) (hn : ¬ (1 ≤ n ∧ n ≤ 64)) (ha : a < 18446744073709551616) (hb : b < 18446744073709551616) (w : World) (O : Ot w) :
    Calls Tryd.prog 5 #[.int .i64 8, .agg #[.int .i64 n, .bool false], .int .u64 a, .int .u64 b] w fun e w' => e = .returned (.int .u64 ((0 : Nat) : Int)) ∧ Below w.heap.size w w' := by
  have hbox := boxT_below w n false
  have O1 := O.alloc (.cells #[.int .i64 n, .bool false] 23)
  obtain ⟨c0, c1⟩ := O1 8 (by omega)
  have d0 : (w.alloc (.cells #[.int .i64 n, .bool false] 23)).cell? ⟨0, 16, none⟩ = some (.int .i64 11) := c0
  have d1 : (w.alloc (.cells #[.int .i64 n, .bool false] 23)).cell? ⟨0, 17, none⟩ = some (.int .i64 11) := c1
  clear c0 c1 O1 O
  unfold boxT at hbox
  have HB := Lib.hid (fun W => Binary_bad 11 n a b (fun h => hn h.2) W)
  clear ha hb hn
  go_enter Tryd.func5, Tryd.ntmps5
  go_wp2_with (first
    | (go_at_call 9; refine (HB.out _).mono ?_; rintro e w' ⟨rfl, rfl⟩)
    | (go_at_call 10; refine (Fit_any _ _ (by omega) _).mono ?_; rintro e w' ⟨rfl, rfl⟩))
  go_ret
  exact ⟨rfl, hbox⟩
set_option maxHeartbeats 4000000 in
theorem Apply_8sk (n : Int) (a b : Nat) (hn : 1 ≤ n ∧ n ≤ 64) (ha : a < 18446744073709551616) (hb : b < 18446744073709551616) (w : World) (O : Ot w) :
    Calls Tryd.prog 5 #[.int .i64 8, .agg #[.int .i64 n, .bool true], .int .u64 a, .int .u64 b] w fun e w' => e = .returned (.int .u64 ((bin 11 n (fit n a) (fit n b) : Nat) : Int)) ∧ Below w.heap.size w w' := by
  have hbox := boxT_below w n true
  have O1 := O.alloc (.cells #[.int .i64 n, .bool true] 23)
  obtain ⟨c0, c1⟩ := O1 8 (by omega)
  have d0 : (w.alloc (.cells #[.int .i64 n, .bool true] 23)).cell? ⟨0, 16, none⟩ = some (.int .i64 11) := c0
  have d1 : (w.alloc (.cells #[.int .i64 n, .bool true] 23)).cell? ⟨0, 17, none⟩ = some (.int .i64 11) := c1
  clear c0 c1 O1 O
  unfold boxT at hbox
  have HB := Lib.hid (fun W => Binary_ok 11 n a b (by omega) hn ha hb W)
  clear ha hb hn
  go_enter Tryd.func5, Tryd.ntmps5
  go_wp2_with (first
    | (go_at_call 9; refine (HB.out _).mono ?_; rintro e w' ⟨rfl, rfl⟩)
    | (go_at_call 10; refine (Fit_any _ _ (by omega) _).mono ?_; rintro e w' ⟨rfl, rfl⟩))
  go_ret
  exact ⟨rfl, hbox⟩
set_option maxHeartbeats 4000000 in
theorem Apply_8sb (n : Int) (a b : Nat) (hn : ¬ (1 ≤ n ∧ n ≤ 64)) (ha : a < 18446744073709551616) (hb : b < 18446744073709551616) (w : World) (O : Ot w) :
    Calls Tryd.prog 5 #[.int .i64 8, .agg #[.int .i64 n, .bool true], .int .u64 a, .int .u64 b] w fun e w' => e = .returned (.int .u64 ((0 : Nat) : Int)) ∧ Below w.heap.size w w' := by
  have hbox := boxT_below w n true
  have O1 := O.alloc (.cells #[.int .i64 n, .bool true] 23)
  obtain ⟨c0, c1⟩ := O1 8 (by omega)
  have d0 : (w.alloc (.cells #[.int .i64 n, .bool true] 23)).cell? ⟨0, 16, none⟩ = some (.int .i64 11) := c0
  have d1 : (w.alloc (.cells #[.int .i64 n, .bool true] 23)).cell? ⟨0, 17, none⟩ = some (.int .i64 11) := c1
  clear c0 c1 O1 O
  unfold boxT at hbox
  have HB := Lib.hid (fun W => Binary_bad 11 n a b (fun h => hn h.2) W)
  clear ha hb hn
  go_enter Tryd.func5, Tryd.ntmps5
  go_wp2_with (first
    | (go_at_call 9; refine (HB.out _).mono ?_; rintro e w' ⟨rfl, rfl⟩)
    | (go_at_call 10; refine (Fit_any _ _ (by omega) _).mono ?_; rintro e w' ⟨rfl, rfl⟩))
  go_ret
  exact ⟨rfl, hbox⟩
set_option maxHeartbeats 4000000 in
theorem Apply_9uk (n : Int) (a b : Nat) (hn : 1 ≤ n ∧ n ≤ 64) (ha : a < 18446744073709551616) (hb : b < 18446744073709551616) (w : World) (O : Ot w) :
    Calls Tryd.prog 5 #[.int .i64 9, .agg #[.int .i64 n, .bool false], .int .u64 a, .int .u64 b] w fun e w' => e = .returned (.int .u64 ((bin 12 n (fit n a) (fit n b) : Nat) : Int)) ∧ Below w.heap.size w w' := by
  have hbox := boxT_below w n false
  have O1 := O.alloc (.cells #[.int .i64 n, .bool false] 23)
  obtain ⟨c0, c1⟩ := O1 9 (by omega)
  have d0 : (w.alloc (.cells #[.int .i64 n, .bool false] 23)).cell? ⟨0, 18, none⟩ = some (.int .i64 12) := c0
  have d1 : (w.alloc (.cells #[.int .i64 n, .bool false] 23)).cell? ⟨0, 19, none⟩ = some (.int .i64 12) := c1
  clear c0 c1 O1 O
  unfold boxT at hbox
  have HB := Lib.hid (fun W => Binary_ok 12 n a b (by omega) hn ha hb W)
  clear ha hb hn
  go_enter Tryd.func5, Tryd.ntmps5
  go_wp2_with (first
    | (go_at_call 9; refine (HB.out _).mono ?_; rintro e w' ⟨rfl, rfl⟩)
    | (go_at_call 10; refine (Fit_any _ _ (by omega) _).mono ?_; rintro e w' ⟨rfl, rfl⟩))
  go_ret
  exact ⟨rfl, hbox⟩
set_option maxHeartbeats 4000000 in
theorem Apply_9ub (n : Int) (a b : Nat) (hn : ¬ (1 ≤ n ∧ n ≤ 64)) (ha : a < 18446744073709551616) (hb : b < 18446744073709551616) (w : World) (O : Ot w) :
    Calls Tryd.prog 5 #[.int .i64 9, .agg #[.int .i64 n, .bool false], .int .u64 a, .int .u64 b] w fun e w' => e = .returned (.int .u64 ((0 : Nat) : Int)) ∧ Below w.heap.size w w' := by
  have hbox := boxT_below w n false
  have O1 := O.alloc (.cells #[.int .i64 n, .bool false] 23)
  obtain ⟨c0, c1⟩ := O1 9 (by omega)
  have d0 : (w.alloc (.cells #[.int .i64 n, .bool false] 23)).cell? ⟨0, 18, none⟩ = some (.int .i64 12) := c0
  have d1 : (w.alloc (.cells #[.int .i64 n, .bool false] 23)).cell? ⟨0, 19, none⟩ = some (.int .i64 12) := c1
  clear c0 c1 O1 O
  unfold boxT at hbox
  have HB := Lib.hid (fun W => Binary_bad 12 n a b (fun h => hn h.2) W)
  clear ha hb hn
  go_enter Tryd.func5, Tryd.ntmps5
  go_wp2_with (first
    | (go_at_call 9; refine (HB.out _).mono ?_; rintro e w' ⟨rfl, rfl⟩)
    | (go_at_call 10; refine (Fit_any _ _ (by omega) _).mono ?_; rintro e w' ⟨rfl, rfl⟩))
  go_ret
  exact ⟨rfl, hbox⟩
set_option maxHeartbeats 4000000 in
theorem Apply_9sk (n : Int) (a b : Nat) (hn : 1 ≤ n ∧ n ≤ 64) (ha : a < 18446744073709551616) (hb : b < 18446744073709551616) (w : World) (O : Ot w) :
    Calls Tryd.prog 5 #[.int .i64 9, .agg #[.int .i64 n, .bool true], .int .u64 a, .int .u64 b] w fun e w' => e = .returned (.int .u64 ((bin 12 n (fit n a) (fit n b) : Nat) : Int)) ∧ Below w.heap.size w w' := by
  have hbox := boxT_below w n true
  have O1 := O.alloc (.cells #[.int .i64 n, .bool true] 23)
  obtain ⟨c0, c1⟩ := O1 9 (by omega)
  have d0 : (w.alloc (.cells #[.int .i64 n, .bool true] 23)).cell? ⟨0, 18, none⟩ = some (.int .i64 12) := c0
  have d1 : (w.alloc (.cells #[.int .i64 n, .bool true] 23)).cell? ⟨0, 19, none⟩ = some (.int .i64 12) := c1
  clear c0 c1 O1 O
  unfold boxT at hbox
  have HB := Lib.hid (fun W => Binary_ok 12 n a b (by omega) hn ha hb W)
  clear ha hb hn
  go_enter Tryd.func5, Tryd.ntmps5
  go_wp2_with (first
    | (go_at_call 9; refine (HB.out _).mono ?_; rintro e w' ⟨rfl, rfl⟩)
    | (go_at_call 10; refine (Fit_any _ _ (by omega) _).mono ?_; rintro e w' ⟨rfl, rfl⟩))
  go_ret
  exact ⟨rfl, hbox⟩
set_option maxHeartbeats 4000000 in
theorem Apply_9sb (n : Int) (a b : Nat) (hn : ¬ (1 ≤ n ∧ n ≤ 64)) (ha : a < 18446744073709551616) (hb : b < 18446744073709551616) (w : World) (O : Ot w) :
    Calls Tryd.prog 5 #[.int .i64 9, .agg #[.int .i64 n, .bool true], .int .u64 a, .int .u64 b] w fun e w' => e = .returned (.int .u64 ((0 : Nat) : Int)) ∧ Below w.heap.size w w' := by
  have hbox := boxT_below w n true
  have O1 := O.alloc (.cells #[.int .i64 n, .bool true] 23)
  obtain ⟨c0, c1⟩ := O1 9 (by omega)
  have d0 : (w.alloc (.cells #[.int .i64 n, .bool true] 23)).cell? ⟨0, 18, none⟩ = some (.int .i64 12) := c0
  have d1 : (w.alloc (.cells #[.int .i64 n, .bool true] 23)).cell? ⟨0, 19, none⟩ = some (.int .i64 12) := c1
  clear c0 c1 O1 O
  unfold boxT at hbox
  have HB := Lib.hid (fun W => Binary_bad 12 n a b (fun h => hn h.2) W)
  clear ha hb hn
  go_enter Tryd.func5, Tryd.ntmps5
  go_wp2_with (first
    | (go_at_call 9; refine (HB.out _).mono ?_; rintro e w' ⟨rfl, rfl⟩)
    | (go_at_call 10; refine (Fit_any _ _ (by omega) _).mono ?_; rintro e w' ⟨rfl, rfl⟩))
  go_ret
  exact ⟨rfl, hbox⟩
set_option maxHeartbeats 4000000 in
theorem Apply_10uk (n : Int) (a b : Nat) (hn : 1 ≤ n ∧ n ≤ 64) (ha : a < 18446744073709551616) (hb : b < 18446744073709551616) (w : World) (O : Ot w) :
    Calls Tryd.prog 5 #[.int .i64 10, .agg #[.int .i64 n, .bool false], .int .u64 a, .int .u64 b] w fun e w' => e = .returned (.int .u64 ((bin 13 n (fit n a) (fit n b) : Nat) : Int)) ∧ Below w.heap.size w w' := by
  have hbox := boxT_below w n false
  have O1 := O.alloc (.cells #[.int .i64 n, .bool false] 23)
  obtain ⟨c0, c1⟩ := O1 10 (by omega)
  have d0 : (w.alloc (.cells #[.int .i64 n, .bool false] 23)).cell? ⟨0, 20, none⟩ = some (.int .i64 13) := c0
  have d1 : (w.alloc (.cells #[.int .i64 n, .bool false] 23)).cell? ⟨0, 21, none⟩ = some (.int .i64 14) := c1
  clear c0 c1 O1 O
  unfold boxT at hbox
  have HB := Lib.hid (fun W => Binary_ok 13 n a b (by omega) hn ha hb W)
  clear ha hb hn
  go_enter Tryd.func5, Tryd.ntmps5
  go_wp2_with (first
    | (go_at_call 9; refine (HB.out _).mono ?_; rintro e w' ⟨rfl, rfl⟩)
    | (go_at_call 10; refine (Fit_any _ _ (by omega) _).mono ?_; rintro e w' ⟨rfl, rfl⟩))
  go_ret
  exact ⟨rfl, hbox⟩
set_option maxHeartbeats 4000000 in
theorem Apply_10ub (n : Int) (a b : Nat) (hn : ¬ (1 ≤ n ∧ n ≤ 64)) (ha : a < 18446744073709551616) (hb : b < 18446744073709551616) (w : World) (O : Ot w) :
    Calls Tryd.prog 5 #[.int .i64 10, .agg #[.int .i64 n, .bool false], .int .u64 a, .int .u64 b] w fun e w' => e = .returned (.int .u64 ((0 : Nat) : Int)) ∧ Below w.heap.size w w' := by
  have hbox := boxT_below w n false
  have O1 := O.alloc (.cells #[.int .i64 n, .bool false] 23)
  obtain ⟨c0, c1⟩ := O1 10 (by omega)
  have d0 : (w.alloc (.cells #[.int .i64 n, .bool false] 23)).cell? ⟨0, 20, none⟩ = some (.int .i64 13) := c0
  have d1 : (w.alloc (.cells #[.int .i64 n, .bool false] 23)).cell? ⟨0, 21, none⟩ = some (.int .i64 14) := c1
  clear c0 c1 O1 O
  unfold boxT at hbox
  have HB := Lib.hid (fun W => Binary_bad 13 n a b (fun h => hn h.2) W)
  clear ha hb hn
  go_enter Tryd.func5, Tryd.ntmps5
  go_wp2_with (first
    | (go_at_call 9; refine (HB.out _).mono ?_; rintro e w' ⟨rfl, rfl⟩)
    | (go_at_call 10; refine (Fit_any _ _ (by omega) _).mono ?_; rintro e w' ⟨rfl, rfl⟩))
  go_ret
  exact ⟨rfl, hbox⟩
set_option maxHeartbeats 4000000 in
theorem Apply_10sk (n : Int) (a b : Nat) (hn : 1 ≤ n ∧ n ≤ 64) (ha : a < 18446744073709551616) (hb : b < 18446744073709551616) (w : World) (O : Ot w) :
    Calls Tryd.prog 5 #[.int .i64 10, .agg #[.int .i64 n, .bool true], .int .u64 a, .int .u64 b] w fun e w' => e = .returned (.int .u64 ((bin 14 n (fit n a) (fit n b) : Nat) : Int)) ∧ Below w.heap.size w w' := by
  have hbox := boxT_below w n true
  have O1 := O.alloc (.cells #[.int .i64 n, .bool true] 23)
  obtain ⟨c0, c1⟩ := O1 10 (by omega)
  have d0 : (w.alloc (.cells #[.int .i64 n, .bool true] 23)).cell? ⟨0, 20, none⟩ = some (.int .i64 13) := c0
  have d1 : (w.alloc (.cells #[.int .i64 n, .bool true] 23)).cell? ⟨0, 21, none⟩ = some (.int .i64 14) := c1
  clear c0 c1 O1 O
  unfold boxT at hbox
  have HB := Lib.hid (fun W => Binary_ok 14 n a b (by omega) hn ha hb W)
  clear ha hb hn
  go_enter Tryd.func5, Tryd.ntmps5
  go_wp2_with (first
    | (go_at_call 9; refine (HB.out _).mono ?_; rintro e w' ⟨rfl, rfl⟩)
    | (go_at_call 10; refine (Fit_any _ _ (by omega) _).mono ?_; rintro e w' ⟨rfl, rfl⟩))
  go_ret
  exact ⟨rfl, hbox⟩
set_option maxHeartbeats 4000000 in
theorem Apply_10sb (n : Int) (a b : Nat) (hn : ¬ (1 ≤ n ∧ n ≤ 64)) (ha : a < 18446744073709551616) (hb : b < 18446744073709551616) (w : World) (O : Ot w) :
    Calls Tryd.prog 5 #[.int .i64 10, .agg #[.int .i64 n, .bool true], .int .u64 a, .int .u64 b] w fun e w' => e = .returned (.int .u64 ((0 : Nat) : Int)) ∧ Below w.heap.size w w' := by
  have hbox := boxT_below w n true
  have O1 := O.alloc (.cells #[.int .i64 n, .bool true] 23)
  obtain ⟨c0, c1⟩ := O1 10 (by omega)
  have d0 : (w.alloc (.cells #[.int .i64 n, .bool true] 23)).cell? ⟨0, 20, none⟩ = some (.int .i64 13) := c0
  have d1 : (w.alloc (.cells #[.int .i64 n, .bool true] 23)).cell? ⟨0, 21, none⟩ = some (.int .i64 14) := c1
  clear c0 c1 O1 O
  unfold boxT at hbox
  have HB := Lib.hid (fun W => Binary_bad 14 n a b (fun h => hn h.2) W)
  clear ha hb hn
  go_enter Tryd.func5, Tryd.ntmps5
  go_wp2_with (first
    | (go_at_call 9; refine (HB.out _).mono ?_; rintro e w' ⟨rfl, rfl⟩)
    | (go_at_call 10; refine (Fit_any _ _ (by omega) _).mono ?_; rintro e w' ⟨rfl, rfl⟩))
  go_ret
  exact ⟨rfl, hbox⟩
set_option maxHeartbeats 4000000 in
theorem Apply_11uk (n : Int) (a b : Nat) (hn : 1 ≤ n ∧ n ≤ 64) (ha : a < 18446744073709551616) (hb : b < 18446744073709551616) (w : World) (O : Ot w) :
    Calls Tryd.prog 5 #[.int .i64 11, .agg #[.int .i64 n, .bool false], .int .u64 a, .int .u64 b] w fun e w' => e = .returned (.int .u64 ((bin 15 n (fit n a) (fit n b) : Nat) : Int)) ∧ Below w.heap.size w w' := by
  have hbox := boxT_below w n false
  have O1 := O.alloc (.cells #[.int .i64 n, .bool false] 23)
  obtain ⟨c0, c1⟩ := O1 11 (by omega)
  have d0 : (w.alloc (.cells #[.int .i64 n, .bool false] 23)).cell? ⟨0, 22, none⟩ = some (.int .i64 15) := c0
  have d1 : (w.alloc (.cells #[.int .i64 n, .bool false] 23)).cell? ⟨0, 23, none⟩ = some (.int .i64 15) := c1
  clear c0 c1 O1 O
  unfold boxT at hbox
  have HB := Lib.hid (fun W => Binary_ok 15 n a b (by omega) hn ha hb W)
  clear ha hb hn
  go_enter Tryd.func5, Tryd.ntmps5
  go_wp2_with (first
    | (go_at_call 9; refine (HB.out _).mono ?_; rintro e w' ⟨rfl, rfl⟩)
    | (go_at_call 10; refine (Fit_any _ _ (by omega) _).mono ?_; rintro e w' ⟨rfl, rfl⟩))
  go_ret
  exact ⟨rfl, hbox⟩
set_option maxHeartbeats 4000000 in
theorem Apply_11ub (n : Int) (a b : Nat) (hn : ¬ (1 ≤ n ∧ n ≤ 64)) (ha : a < 18446744073709551616) (hb : b < 18446744073709551616) (w : World) (O : Ot w) :
    Calls Tryd.prog 5 #[.int .i64 11, .agg #[.int .i64 n, .bool false], .int .u64 a, .int .u64 b] w fun e w' => e = .returned (.int .u64 ((0 : Nat) : Int)) ∧ Below w.heap.size w w' := by
  have hbox := boxT_below w n false
  have O1 := O.alloc (.cells #[.int .i64 n, .bool false] 23)
  obtain ⟨c0, c1⟩ := O1 11 (by omega)
  have d0 : (w.alloc (.cells #[.int .i64 n, .bool false] 23)).cell? ⟨0, 22, none⟩ = some (.int .i64 15) := c0
  have d1 : (w.alloc (.cells #[.int .i64 n, .bool false] 23)).cell? ⟨0, 23, none⟩ = some (.int .i64 15) := c1
  clear c0 c1 O1 O
  unfold boxT at hbox
  have HB := Lib.hid (fun W => Binary_bad 15 n a b (fun h => hn h.2) W)
  clear ha hb hn
  go_enter Tryd.func5, Tryd.ntmps5
  go_wp2_with (first
    | (go_at_call 9; refine (HB.out _).mono ?_; rintro e w' ⟨rfl, rfl⟩)
    | (go_at_call 10; refine (Fit_any _ _ (by omega) _).mono ?_; rintro e w' ⟨rfl, rfl⟩))
  go_ret
  exact ⟨rfl, hbox⟩
set_option maxHeartbeats 4000000 in
theorem Apply_11sk (n : Int) (a b : Nat) (hn : 1 ≤ n ∧ n ≤ 64) (ha : a < 18446744073709551616) (hb : b < 18446744073709551616) (w : World) (O : Ot w) :
    Calls Tryd.prog 5 #[.int .i64 11, .agg #[.int .i64 n, .bool true], .int .u64 a, .int .u64 b] w fun e w' => e = .returned (.int .u64 ((bin 15 n (fit n a) (fit n b) : Nat) : Int)) ∧ Below w.heap.size w w' := by
  have hbox := boxT_below w n true
  have O1 := O.alloc (.cells #[.int .i64 n, .bool true] 23)
  obtain ⟨c0, c1⟩ := O1 11 (by omega)
  have d0 : (w.alloc (.cells #[.int .i64 n, .bool true] 23)).cell? ⟨0, 22, none⟩ = some (.int .i64 15) := c0
  have d1 : (w.alloc (.cells #[.int .i64 n, .bool true] 23)).cell? ⟨0, 23, none⟩ = some (.int .i64 15) := c1
  clear c0 c1 O1 O
  unfold boxT at hbox
  have HB := Lib.hid (fun W => Binary_ok 15 n a b (by omega) hn ha hb W)
  clear ha hb hn
  go_enter Tryd.func5, Tryd.ntmps5
  go_wp2_with (first
    | (go_at_call 9; refine (HB.out _).mono ?_; rintro e w' ⟨rfl, rfl⟩)
    | (go_at_call 10; refine (Fit_any _ _ (by omega) _).mono ?_; rintro e w' ⟨rfl, rfl⟩))
  go_ret
  exact ⟨rfl, hbox⟩
set_option maxHeartbeats 4000000 in
theorem Apply_11sb (n : Int) (a b : Nat) (hn : ¬ (1 ≤ n ∧ n ≤ 64)) (ha : a < 18446744073709551616) (hb : b < 18446744073709551616) (w : World) (O : Ot w) :
    Calls Tryd.prog 5 #[.int .i64 11, .agg #[.int .i64 n, .bool true], .int .u64 a, .int .u64 b] w fun e w' => e = .returned (.int .u64 ((0 : Nat) : Int)) ∧ Below w.heap.size w w' := by
  have hbox := boxT_below w n true
  have O1 := O.alloc (.cells #[.int .i64 n, .bool true] 23)
  obtain ⟨c0, c1⟩ := O1 11 (by omega)
  have d0 : (w.alloc (.cells #[.int .i64 n, .bool true] 23)).cell? ⟨0, 22, none⟩ = some (.int .i64 15) := c0
  have d1 : (w.alloc (.cells #[.int .i64 n, .bool true] 23)).cell? ⟨0, 23, none⟩ = some (.int .i64 15) := c1
  clear c0 c1 O1 O
  unfold boxT at hbox
  have HB := Lib.hid (fun W => Binary_bad 15 n a b (fun h => hn h.2) W)
  clear ha hb hn
  go_enter Tryd.func5, Tryd.ntmps5
  go_wp2_with (first
    | (go_at_call 9; refine (HB.out _).mono ?_; rintro e w' ⟨rfl, rfl⟩)
    | (go_at_call 10; refine (Fit_any _ _ (by omega) _).mono ?_; rintro e w' ⟨rfl, rfl⟩))
  go_ret
  exact ⟨rfl, hbox⟩
set_option maxHeartbeats 4000000 in
theorem Apply_12uk (n : Int) (a b : Nat) (hn : 1 ≤ n ∧ n ≤ 64) (ha : a < 18446744073709551616) (hb : b < 18446744073709551616) (w : World) (O : Ot w) :
    Calls Tryd.prog 5 #[.int .i64 12, .agg #[.int .i64 n, .bool false], .int .u64 a, .int .u64 b] w fun e w' => e = .returned (.int .u64 ((bin 16 n (fit n a) (fit n b) : Nat) : Int)) ∧ Below w.heap.size w w' := by
  have hbox := boxT_below w n false
  have O1 := O.alloc (.cells #[.int .i64 n, .bool false] 23)
  obtain ⟨c0, c1⟩ := O1 12 (by omega)
  have d0 : (w.alloc (.cells #[.int .i64 n, .bool false] 23)).cell? ⟨0, 24, none⟩ = some (.int .i64 16) := c0
  have d1 : (w.alloc (.cells #[.int .i64 n, .bool false] 23)).cell? ⟨0, 25, none⟩ = some (.int .i64 16) := c1
  clear c0 c1 O1 O
  unfold boxT at hbox
  have HB := Lib.hid (fun W => Binary_ok 16 n a b (by omega) hn ha hb W)
  clear ha hb hn
  go_enter Tryd.func5, Tryd.ntmps5
  go_wp2_with (first
    | (go_at_call 9; refine (HB.out _).mono ?_; rintro e w' ⟨rfl, rfl⟩)
    | (go_at_call 10; refine (Fit_any _ _ (by omega) _).mono ?_; rintro e w' ⟨rfl, rfl⟩))
  go_ret
  exact ⟨rfl, hbox⟩
set_option maxHeartbeats 4000000 in
theorem Apply_12ub (n : Int) (a b : Nat) (hn : ¬ (1 ≤ n ∧ n ≤ 64)) (ha : a < 18446744073709551616) (hb : b < 18446744073709551616) (w : World) (O : Ot w) :
    Calls Tryd.prog 5 #[.int .i64 12, .agg #[.int .i64 n, .bool false], .int .u64 a, .int .u64 b] w fun e w' => e = .returned (.int .u64 ((0 : Nat) : Int)) ∧ Below w.heap.size w w' := by
  have hbox := boxT_below w n false
  have O1 := O.alloc (.cells #[.int .i64 n, .bool false] 23)
  obtain ⟨c0, c1⟩ := O1 12 (by omega)
  have d0 : (w.alloc (.cells #[.int .i64 n, .bool false] 23)).cell? ⟨0, 24, none⟩ = some (.int .i64 16) := c0
  have d1 : (w.alloc (.cells #[.int .i64 n, .bool false] 23)).cell? ⟨0, 25, none⟩ = some (.int .i64 16) := c1
  clear c0 c1 O1 O
  unfold boxT at hbox
  have HB := Lib.hid (fun W => Binary_bad 16 n a b (fun h => hn h.2) W)
  clear ha hb hn
  go_enter Tryd.func5, Tryd.ntmps5
  go_wp2_with (first
    | (go_at_call 9; refine (HB.out _).mono ?_; rintro e w' ⟨rfl, rfl⟩)
    | (go_at_call 10; refine (Fit_any _ _ (by omega) _).mono ?_; rintro e w' ⟨rfl, rfl⟩))
  go_ret
  exact ⟨rfl, hbox⟩
set_option maxHeartbeats 4000000 in
theorem Apply_12sk (n : Int) (a b : Nat) (hn : 1 ≤ n ∧ n ≤ 64) (ha : a < 18446744073709551616) (hb : b < 18446744073709551616) (w : World) (O : Ot w) :
    Calls Tryd.prog 5 #[.int .i64 12, .agg #[.int .i64 n, .bool true], .int .u64 a, .int .u64 b] w fun e w' => e = .returned (.int .u64 ((bin 16 n (fit n a) (fit n b) : Nat) : Int)) ∧ Below w.heap.size w w' := by
  have hbox := boxT_below w n true
  have O1 := O.alloc (.cells #[.int .i64 n, .bool true] 23)
  obtain ⟨c0, c1⟩ := O1 12 (by omega)
  have d0 : (w.alloc (.cells #[.int .i64 n, .bool true] 23)).cell? ⟨0, 24, none⟩ = some (.int .i64 16) := c0
  have d1 : (w.alloc (.cells #[.int .i64 n, .bool true] 23)).cell? ⟨0, 25, none⟩ = some (.int .i64 16) := c1
  clear c0 c1 O1 O
  unfold boxT at hbox
  have HB := Lib.hid (fun W => Binary_ok 16 n a b (by omega) hn ha hb W)
  clear ha hb hn
  go_enter Tryd.func5, Tryd.ntmps5
  go_wp2_with (first
    | (go_at_call 9; refine (HB.out _).mono ?_; rintro e w' ⟨rfl, rfl⟩)
    | (go_at_call 10; refine (Fit_any _ _ (by omega) _).mono ?_; rintro e w' ⟨rfl, rfl⟩))
  go_ret
  exact ⟨rfl, hbox⟩
set_option maxHeartbeats 4000000 in
theorem Apply_12sb (n : Int) (a b : Nat) (hn : ¬ (1 ≤ n ∧ n ≤ 64)) (ha : a < 18446744073709551616) (hb : b < 18446744073709551616) (w : World) (O : Ot w) :
    Calls Tryd.prog 5 #[.int .i64 12, .agg #[.int .i64 n, .bool true], .int .u64 a, .int .u64 b] w fun e w' => e = .returned (.int .u64 ((0 : Nat) : Int)) ∧ Below w.heap.size w w' := by
  have hbox := boxT_below w n true
  have O1 := O.alloc (.cells #[.int .i64 n, .bool true] 23)
  obtain ⟨c0, c1⟩ := O1 12 (by omega)
  have d0 : (w.alloc (.cells #[.int .i64 n, .bool true] 23)).cell? ⟨0, 24, none⟩ = some (.int .i64 16) := c0
  have d1 : (w.alloc (.cells #[.int .i64 n, .bool true] 23)).cell? ⟨0, 25, none⟩ = some (.int .i64 16) := c1
  clear c0 c1 O1 O
  unfold boxT at hbox
  have HB := Lib.hid (fun W => Binary_bad 16 n a b (fun h => hn h.2) W)
  clear ha hb hn
  go_enter Tryd.func5, Tryd.ntmps5
  go_wp2_with (first
    | (go_at_call 9; refine (HB.out _).mono ?_; rintro e w' ⟨rfl, rfl⟩)
    | (go_at_call 10; refine (Fit_any _ _ (by omega) _).mono ?_; rintro e w' ⟨rfl, rfl⟩))
  go_ret
  exact ⟨rfl, hbox⟩
set_option maxHeartbeats 4000000 in
theorem Apply_13uk (n : Int) (a b : Nat) (hn : 1 ≤ n ∧ n ≤ 64) (ha : a < 18446744073709551616) (hb : b < 18446744073709551616) (w : World) (O : Ot w) :
    Calls Tryd.prog 5 #[.int .i64 13, .agg #[.int .i64 n, .bool false], .int .u64 a, .int .u64 b] w fun e w' => e = .returned (.int .u64 ((bin 17 n (fit n a) (fit n b) : Nat) : Int)) ∧ Below w.heap.size w w' := by
  have hbox := boxT_below w n false
  have O1 := O.alloc (.cells #[.int .i64 n, .bool false] 23)
  obtain ⟨c0, c1⟩ := O1 13 (by omega)
  have d0 : (w.alloc (.cells #[.int .i64 n, .bool false] 23)).cell? ⟨0, 26, none⟩ = some (.int .i64 17) := c0
  have d1 : (w.alloc (.cells #[.int .i64 n, .bool false] 23)).cell? ⟨0, 27, none⟩ = some (.int .i64 19) := c1
  clear c0 c1 O1 O
  unfold boxT at hbox
  have HB := Lib.hid (fun W => Binary_ok 17 n a b (by omega) hn ha hb W)
  clear ha hb hn
  go_enter Tryd.func5, Tryd.ntmps5
  go_wp2_with (first
    | (go_at_call 9; refine (HB.out _).mono ?_; rintro e w' ⟨rfl, rfl⟩)
    | (go_at_call 10; refine (Fit_any _ _ (by omega) _).mono ?_; rintro e w' ⟨rfl, rfl⟩))
  go_ret
  exact ⟨rfl, hbox⟩
set_option maxHeartbeats 4000000 in
theorem Apply_13ub (n : Int) (a b : Nat) (hn : ¬ (1 ≤ n ∧ n ≤ 64)) (ha : a < 18446744073709551616) (hb : b < 18446744073709551616) (w : World) (O : Ot w) :
    Calls Tryd.prog 5 #[.int .i64 13, .agg #[.int .i64 n, .bool false], .int .u64 a, .int .u64 b] w fun e w' => e = .returned (.int .u64 ((0 : Nat) : Int)) ∧ Below w.heap.size w w' := by
  have hbox := boxT_below w n false
  have O1 := O.alloc (.cells #[.int .i64 n, .bool false] 23)
  obtain ⟨c0, c1⟩ := O1 13 (by omega)
  have d0 : (w.alloc (.cells #[.int .i64 n, .bool false] 23)).cell? ⟨0, 26, none⟩ = some (.int .i64 17) := c0
  have d1 : (w.alloc (.cells #[.int .i64 n, .bool false] 23)).cell? ⟨0, 27, none⟩ = some (.int .i64 19) := c1
  clear c0 c1 O1 O
  unfold boxT at hbox
  have HB := Lib.hid (fun W => Binary_bad 17 n a b (fun h => hn h.2) W)
  clear ha hb hn
  go_enter Tryd.func5, Tryd.ntmps5
  go_wp2_with (first
    | (go_at_call 9; refine (HB.out _).mono ?_; rintro e w' ⟨rfl, rfl⟩)
    | (go_at_call 10; refine (Fit_any _ _ (by omega) _).mono ?_; rintro e w' ⟨rfl, rfl⟩))
  go_ret
  exact ⟨rfl, hbox⟩
set_option maxHeartbeats 4000000 in
theorem Apply_13sk (n : Int) (a b : Nat) (hn : 1 ≤ n ∧ n ≤ 64) (ha : a < 18446744073709551616) (hb : b < 18446744073709551616) (w : World) (O : Ot w) :
    Calls Tryd.prog 5 #[.int .i64 13, .agg #[.int .i64 n, .bool true], .int .u64 a, .int .u64 b] w fun e w' => e = .returned (.int .u64 ((bin 19 n (fit n a) (fit n b) : Nat) : Int)) ∧ Below w.heap.size w w' := by
  have hbox := boxT_below w n true
  have O1 := O.alloc (.cells #[.int .i64 n, .bool true] 23)
  obtain ⟨c0, c1⟩ := O1 13 (by omega)
  have d0 : (w.alloc (.cells #[.int .i64 n, .bool true] 23)).cell? ⟨0, 26, none⟩ = some (.int .i64 17) := c0
  have d1 : (w.alloc (.cells #[.int .i64 n, .bool true] 23)).cell? ⟨0, 27, none⟩ = some (.int .i64 19) := c1
  clear c0 c1 O1 O
  unfold boxT at hbox
  have HB := Lib.hid (fun W => Binary_ok 19 n a b (by omega) hn ha hb W)
  clear ha hb hn
  go_enter Tryd.func5, Tryd.ntmps5
  go_wp2_with (first
    | (go_at_call 9; refine (HB.out _).mono ?_; rintro e w' ⟨rfl, rfl⟩)
    | (go_at_call 10; refine (Fit_any _ _ (by omega) _).mono ?_; rintro e w' ⟨rfl, rfl⟩))
  go_ret
  exact ⟨rfl, hbox⟩
set_option maxHeartbeats 4000000 in
theorem Apply_13sb (n : Int) (a b : Nat) (hn : ¬ (1 ≤ n ∧ n ≤ 64)) (ha : a < 18446744073709551616) (hb : b < 18446744073709551616) (w : World) (O : Ot w) :
    Calls Tryd.prog 5 #[.int .i64 13, .agg #[.int .i64 n, .bool true], .int .u64 a, .int .u64 b] w fun e w' => e = .returned (.int .u64 ((0 : Nat) : Int)) ∧ Below w.heap.size w w' := by
  have hbox := boxT_below w n true
  have O1 := O.alloc (.cells #[.int .i64 n, .bool true] 23)
  obtain ⟨c0, c1⟩ := O1 13 (by omega)
  have d0 : (w.alloc (.cells #[.int .i64 n, .bool true] 23)).cell? ⟨0, 26, none⟩ = some (.int .i64 17) := c0
  have d1 : (w.alloc (.cells #[.int .i64 n, .bool true] 23)).cell? ⟨0, 27, none⟩ = some (.int .i64 19) := c1
  clear c0 c1 O1 O
  unfold boxT at hbox
  have HB := Lib.hid (fun W => Binary_bad 19 n a b (fun h => hn h.2) W)
  clear ha hb hn
  go_enter Tryd.func5, Tryd.ntmps5
  go_wp2_with (first
    | (go_at_call 9; refine (HB.out _).mono ?_; rintro e w' ⟨rfl, rfl⟩)
    | (go_at_call 10; refine (Fit_any _ _ (by omega) _).mono ?_; rintro e w' ⟨rfl, rfl⟩))
  go_ret
  exact ⟨rfl, hbox⟩
set_option maxHeartbeats 4000000 in
theorem Apply_14uk (n : Int) (a b : Nat) (hn : 1 ≤ n ∧ n ≤ 64) (ha : a < 18446744073709551616) (hb : b < 18446744073709551616) (w : World) (O : Ot w) :
    Calls Tryd.prog 5 #[.int .i64 14, .agg #[.int .i64 n, .bool false], .int .u64 a, .int .u64 b] w fun e w' => e = .returned (.int .u64 ((bin 18 n (fit n a) (fit n b) : Nat) : Int)) ∧ Below w.heap.size w w' := by
  have hbox := boxT_below w n false
  have O1 := O.alloc (.cells #[.int .i64 n, .bool false] 23)
  obtain ⟨c0, c1⟩ := O1 14 (by omega)
  have d0 : (w.alloc (.cells #[.int .i64 n, .bool false] 23)).cell? ⟨0, 28, none⟩ = some (.int .i64 18) := c0
  have d1 : (w.alloc (.cells #[.int .i64 n, .bool false] 23)).cell? ⟨0, 29, none⟩ = some (.int .i64 20) := c1
  clear c0 c1 O1 O
  unfold boxT at hbox
  have HB := Lib.hid (fun W => Binary_ok 18 n a b (by omega) hn ha hb W)
  clear ha hb hn
  go_enter Tryd.func5, Tryd.ntmps5
  go_wp2_with (first
    | (go_at_call 9; refine (HB.out _).mono ?_; rintro e w' ⟨rfl, rfl⟩)
    | (go_at_call 10; refine (Fit_any _ _ (by omega) _).mono ?_; rintro e w' ⟨rfl, rfl⟩))
  go_ret
  exact ⟨rfl, hbox⟩
set_option maxHeartbeats 4000000 in
theorem Apply_14ub (n : Int) (a b : Nat) (hn : ¬ (1 ≤ n ∧ n ≤ 64)) (ha : a < 18446744073709551616) (hb : b < 18446744073709551616) (w : World) (O : Ot w) :
    Calls Tryd.prog 5 #[.int .i64 14, .agg #[.int .i64 n, .bool false], .int .u64 a, .int .u64 b] w fun e w' => e = .returned (.int .u64 ((0 : Nat) : Int)) ∧ Below w.heap.size w w' := by
  have hbox := boxT_below w n false
  have O1 := O.alloc (.cells #[.int .i64 n, .bool false] 23)
  obtain ⟨c0, c1⟩ := O1 14 (by omega)
  have d0 : (w.alloc (.cells #[.int .i64 n, .bool false] 23)).cell? ⟨0, 28, none⟩ = some (.int .i64 18) := c0
  have d1 : (w.alloc (.cells #[.int .i64 n, .bool false] 23)).cell? ⟨0, 29, none⟩ = some (.int .i64 20) := c1
  clear c0 c1 O1 O
  unfold boxT at hbox
  have HB := Lib.hid (fun W => Binary_bad 18 n a b (fun h => hn h.2) W)
  clear ha hb hn
  go_enter Tryd.func5, Tryd.ntmps5
  go_wp2_with (first
    | (go_at_call 9; refine (HB.out _).mono ?_; rintro e w' ⟨rfl, rfl⟩)
    | (go_at_call 10; refine (Fit_any _ _ (by omega) _).mono ?_; rintro e w' ⟨rfl, rfl⟩))
  go_ret
  exact ⟨rfl, hbox⟩
set_option maxHeartbeats 4000000 in
theorem Apply_14sk (n : Int) (a b : Nat) (hn : 1 ≤ n ∧ n ≤ 64) (ha : a < 18446744073709551616) (hb : b < 18446744073709551616) (w : World) (O : Ot w) :
    Calls Tryd.prog 5 #[.int .i64 14, .agg #[.int .i64 n, .bool true], .int .u64 a, .int .u64 b] w fun e w' => e = .returned (.int .u64 ((bin 20 n (fit n a) (fit n b) : Nat) : Int)) ∧ Below w.heap.size w w' := by
  have hbox := boxT_below w n true
  have O1 := O.alloc (.cells #[.int .i64 n, .bool true] 23)
  obtain ⟨c0, c1⟩ := O1 14 (by omega)
  have d0 : (w.alloc (.cells #[.int .i64 n, .bool true] 23)).cell? ⟨0, 28, none⟩ = some (.int .i64 18) := c0
  have d1 : (w.alloc (.cells #[.int .i64 n, .bool true] 23)).cell? ⟨0, 29, none⟩ = some (.int .i64 20) := c1
  clear c0 c1 O1 O
  unfold boxT at hbox
  have HB := Lib.hid (fun W => Binary_ok 20 n a b (by omega) hn ha hb W)
  clear ha hb hn
  go_enter Tryd.func5, Tryd.ntmps5
  go_wp2_with (first
    | (go_at_call 9; refine (HB.out _).mono ?_; rintro e w' ⟨rfl, rfl⟩)
    | (go_at_call 10; refine (Fit_any _ _ (by omega) _).mono ?_; rintro e w' ⟨rfl, rfl⟩))
  go_ret
  exact ⟨rfl, hbox⟩
set_option maxHeartbeats 4000000 in
theorem Apply_14sb (n : Int) (a b : Nat) (hn : ¬ (1 ≤ n ∧ n ≤ 64)) (ha : a < 18446744073709551616) (hb : b < 18446744073709551616) (w : World) (O : Ot w) :
    Calls Tryd.prog 5 #[.int .i64 14, .agg #[.int .i64 n, .bool true], .int .u64 a, .int .u64 b] w fun e w' => e = .returned (.int .u64 ((0 : Nat) : Int)) ∧ Below w.heap.size w w' := by
  have hbox := boxT_below w n true
  have O1 := O.alloc (.cells #[.int .i64 n, .bool true] 23)
  obtain ⟨c0, c1⟩ := O1 14 (by omega)
  have d0 : (w.alloc (.cells #[.int .i64 n, .bool true] 23)).cell? ⟨0, 28, none⟩ = some (.int .i64 18) := c0
  have d1 : (w.alloc (.cells #[.int .i64 n, .bool true] 23)).cell? ⟨0, 29, none⟩ = some (.int .i64 20) := c1
  clear c0 c1 O1 O
  unfold boxT at hbox
  have HB := Lib.hid (fun W => Binary_bad 20 n a b (fun h => hn h.2) W)
  clear ha hb hn
  go_enter Tryd.func5, Tryd.ntmps5
  go_wp2_with (first
    | (go_at_call 9; refine (HB.out _).mono ?_; rintro e w' ⟨rfl, rfl⟩)
    | (go_at_call 10; refine (Fit_any _ _ (by omega) _).mono ?_; rintro e w' ⟨rfl, rfl⟩))
  go_ret
  exact ⟨rfl, hbox⟩
set_option maxHeartbeats 4000000 in
theorem Apply_15uk (n : Int) (a b : Nat) (hn : 1 ≤ n ∧ n ≤ 64) (ha : a < 18446744073709551616) (hb : b < 18446744073709551616) (w : World) (O : Ot w) :
    Calls Tryd.prog 5 #[.int .i64 15, .agg #[.int .i64 n, .bool false], .int .u64 a, .int .u64 b] w fun e w' => e = .returned (.int .u64 ((bin 17 n (fit n b) (fit n a) : Nat) : Int)) ∧ Below w.heap.size w w' := by
  have hbox := boxT_below w n false
  have O1 := O.alloc (.cells #[.int .i64 n, .bool false] 23)
  obtain ⟨c0, c1⟩ := O1 15 (by omega)
  have d0 : (w.alloc (.cells #[.int .i64 n, .bool false] 23)).cell? ⟨0, 30, none⟩ = some (.int .i64 17) := c0
  have d1 : (w.alloc (.cells #[.int .i64 n, .bool false] 23)).cell? ⟨0, 31, none⟩ = some (.int .i64 19) := c1
  clear c0 c1 O1 O
  unfold boxT at hbox
  have HB := Lib.hid (fun W => Binary_ok 17 n b a (by omega) hn hb ha W)
  clear ha hb hn
  go_enter Tryd.func5, Tryd.ntmps5
  go_wp2_with (first
    | (go_at_call 9; refine (HB.out _).mono ?_; rintro e w' ⟨rfl, rfl⟩)
    | (go_at_call 10; refine (Fit_any _ _ (by omega) _).mono ?_; rintro e w' ⟨rfl, rfl⟩))
  go_ret
  exact ⟨rfl, hbox⟩
set_option maxHeartbeats 4000000 in
theorem Apply_15ub (n : Int) (a b : Nat) (hn : ¬ (1 ≤ n ∧ n ≤ 64)) (ha : a < 18446744073709551616) (hb : b < 18446744073709551616) (w : World) (O : Ot w) :
    Calls Tryd.prog 5 #[.int .i64 15, .agg #[.int .i64 n, .bool false], .int .u64 a, .int .u64 b] w fun e w' => e = .returned (.int .u64 ((0 : Nat) : Int)) ∧ Below w.heap.size w w' := by
  have hbox := boxT_below w n false
  have O1 := O.alloc (.cells #[.int .i64 n, .bool false] 23)
  obtain ⟨c0, c1⟩ := O1 15 (by omega)
  have d0 : (w.alloc (.cells #[.int .i64 n, .bool false] 23)).cell? ⟨0, 30, none⟩ = some (.int .i64 17) := c0
  have d1 : (w.alloc (.cells #[.int .i64 n, .bool false] 23)).cell? ⟨0, 31, none⟩ = some (.int .i64 19) := c1
  clear c0 c1 O1 O
  unfold boxT at hbox
  have HB := Lib.hid (fun W => Binary_bad 17 n b a (fun h => hn h.2) W)
  clear ha hb hn
  go_enter Tryd.func5, Tryd.ntmps5
  go_wp2_with (first
    | (go_at_call 9; refine (HB.out _).mono ?_; rintro e w' ⟨rfl, rfl⟩)
    | (go_at_call 10; refine (Fit_any _ _ (by omega) _).mono ?_; rintro e w' ⟨rfl, rfl⟩))
  go_ret
  exact ⟨rfl, hbox⟩
set_option maxHeartbeats 4000000 in
theorem Apply_15sk (n : Int) (a b : Nat) (hn : 1 ≤ n ∧ n ≤ 64) (ha : a < 18446744073709551616) (hb : b < 18446744073709551616) (w : World) (O : Ot w) :
    Calls Tryd.prog 5 #[.int .i64 15, .agg #[.int .i64 n, .bool true], .int .u64 a, .int .u64 b] w fun e w' => e = .returned (.int .u64 ((bin 19 n (fit n b) (fit n a) : Nat) : Int)) ∧ Below w.heap.size w w' := by
  have hbox := boxT_below w n true
  have O1 := O.alloc (.cells #[.int .i64 n, .bool true] 23)
  obtain ⟨c0, c1⟩ := O1 15 (by omega)
  have d0 : (w.alloc (.cells #[.int .i64 n, .bool true] 23)).cell? ⟨0, 30, none⟩ = some (.int .i64 17) := c0
  have d1 : (w.alloc (.cells #[.int .i64 n, .bool true] 23)).cell? ⟨0, 31, none⟩ = some (.int .i64 19) := c1
  clear c0 c1 O1 O
  unfold boxT at hbox
  have HB := Lib.hid (fun W => Binary_ok 19 n b a (by omega) hn hb ha W)
  clear ha hb hn
  go_enter Tryd.func5, Tryd.ntmps5
  go_wp2_with (first
    | (go_at_call 9; refine (HB.out _).mono ?_; rintro e w' ⟨rfl, rfl⟩)
    | (go_at_call 10; refine (Fit_any _ _ (by omega) _).mono ?_; rintro e w' ⟨rfl, rfl⟩))
  go_ret
  exact ⟨rfl, hbox⟩
set_option maxHeartbeats 4000000 in
theorem Apply_15sb (n : Int) (a b : Nat) (hn : ¬ (1 ≤ n ∧ n ≤ 64)) (ha : a < 18446744073709551616) (hb : b < 18446744073709551616) (w : World) (O : Ot w) :
    Calls Tryd.prog 5 #[.int .i64 15, .agg #[.int .i64 n, .bool true], .int .u64 a, .int .u64 b] w fun e w' => e = .returned (.int .u64 ((0 : Nat) : Int)) ∧ Below w.heap.size w w' := by
  have hbox := boxT_below w n true
  have O1 := O.alloc (.cells #[.int .i64 n, .bool true] 23)
  obtain ⟨c0, c1⟩ := O1 15 (by omega)
  have d0 : (w.alloc (.cells #[.int .i64 n, .bool true] 23)).cell? ⟨0, 30, none⟩ = some (.int .i64 17) := c0
  have d1 : (w.alloc (.cells #[.int .i64 n, .bool true] 23)).cell? ⟨0, 31, none⟩ = some (.int .i64 19) := c1
  clear c0 c1 O1 O
  unfold boxT at hbox
  have HB := Lib.hid (fun W => Binary_bad 19 n b a (fun h => hn h.2) W)
  clear ha hb hn
  go_enter Tryd.func5, Tryd.ntmps5
  go_wp2_with (first
    | (go_at_call 9; refine (HB.out _).mono ?_; rintro e w' ⟨rfl, rfl⟩)
    | (go_at_call 10; refine (Fit_any _ _ (by omega) _).mono ?_; rintro e w' ⟨rfl, rfl⟩))
  go_ret
  exact ⟨rfl, hbox⟩
set_option maxHeartbeats 4000000 in
theorem Apply_16uk (n : Int) (a b : Nat) (hn : 1 ≤ n ∧ n ≤ 64) (ha : a < 18446744073709551616) (hb : b < 18446744073709551616) (w : World) (O : Ot w) :
    Calls Tryd.prog 5 #[.int .i64 16, .agg #[.int .i64 n, .bool false], .int .u64 a, .int .u64 b] w fun e w' => e = .returned (.int .u64 ((bin 18 n (fit n b) (fit n a) : Nat) : Int)) ∧ Below w.heap.size w w' := by
  have hbox := boxT_below w n false
  have O1 := O.alloc (.cells #[.int .i64 n, .bool false] 23)
  obtain ⟨c0, c1⟩ := O1 16 (by omega)
  have d0 : (w.alloc (.cells #[.int .i64 n, .bool false] 23)).cell? ⟨0, 32, none⟩ = some (.int .i64 18) := c0
  have d1 : (w.alloc (.cells #[.int .i64 n, .bool false] 23)).cell? ⟨0, 33, none⟩ = some (.int .i64 20) := c1
  clear c0 c1 O1 O
  unfold boxT at hbox
  have HB := Lib.hid (fun W => Binary_ok 18 n b a (by omega) hn hb ha W)
  clear ha hb hn
  go_enter Tryd.func5, Tryd.ntmps5
  go_wp2_with (first
    | (go_at_call 9; refine (HB.out _).mono ?_; rintro e w' ⟨rfl, rfl⟩)
    | (go_at_call 10; refine (Fit_any _ _ (by omega) _).mono ?_; rintro e w' ⟨rfl, rfl⟩))
  go_ret
  exact ⟨rfl, hbox⟩
set_option maxHeartbeats 4000000 in
theorem Apply_16ub (n : Int) (a b : Nat) (hn : ¬ (1 ≤ n ∧ n ≤ 64)) (ha : a < 18446744073709551616) (hb : b < 18446744073709551616) (w : World) (O : Ot w) :
    Calls Tryd.prog 5 #[.int .i64 16, .agg #[.int .i64 n, .bool false], .int .u64 a, .int .u64 b] w fun e w' => e = .returned (.int .u64 ((0 : Nat) : Int)) ∧ Below w.heap.size w w' := by
  have hbox := boxT_below w n false
  have O1 := O.alloc (.cells #[.int .i64 n, .bool false] 23)
  obtain ⟨c0, c1⟩ := O1 16 (by omega)
  have d0 : (w.alloc (.cells #[.int .i64 n, .bool false] 23)).cell? ⟨0, 32, none⟩ = some (.int .i64 18) := c0
  have d1 : (w.alloc (.cells #[.int .i64 n, .bool false] 23)).cell? ⟨0, 33, none⟩ = some (.int .i64 20) := c1
  clear c0 c1 O1 O
  unfold boxT at hbox
  have HB := Lib.hid (fun W => Binary_bad 18 n b a (fun h => hn h.2) W)
  clear ha hb hn
  go_enter Tryd.func5, Tryd.ntmps5
  go_wp2_with (first
    | (go_at_call 9; refine (HB.out _).mono ?_; rintro e w' ⟨rfl, rfl⟩)
    | (go_at_call 10; refine (Fit_any _ _ (by omega) _).mono ?_; rintro e w' ⟨rfl, rfl⟩))
  go_ret
  exact ⟨rfl, hbox⟩
set_option maxHeartbeats 4000000 in
theorem Apply_16sk (n : Int) (a b : Nat) (hn : 1 ≤ n ∧ n ≤ 64) (ha : a < 18446744073709551616) (hb : b < 18446744073709551616) (w : World) (O : Ot w) :
    Calls Tryd.prog 5 #[.int .i64 16, .agg #[.int .i64 n, .bool true], .int .u64 a, .int .u64 b] w fun e w' => e = .returned (.int .u64 ((bin 20 n (fit n b) (fit n a) : Nat) : Int)) ∧ Below w.heap.size w w' := by
  have hbox := boxT_below w n true
  have O1 := O.alloc (.cells #[.int .i64 n, .bool true] 23)
  obtain ⟨c0, c1⟩ := O1 16 (by omega)
  have d0 : (w.alloc (.cells #[.int .i64 n, .bool true] 23)).cell? ⟨0, 32, none⟩ = some (.int .i64 18) := c0
  have d1 : (w.alloc (.cells #[.int .i64 n, .bool true] 23)).cell? ⟨0, 33, none⟩ = some (.int .i64 20) := c1
  clear c0 c1 O1 O
  unfold boxT at hbox
  have HB := Lib.hid (fun W => Binary_ok 20 n b a (by omega) hn hb ha W)
  clear ha hb hn
  go_enter Tryd.func5, Tryd.ntmps5
  go_wp2_with (first
    | (go_at_call 9; refine (HB.out _).mono ?_; rintro e w' ⟨rfl, rfl⟩)
    | (go_at_call 10; refine (Fit_any _ _ (by omega) _).mono ?_; rintro e w' ⟨rfl, rfl⟩))
  go_ret
  exact ⟨rfl, hbox⟩
set_option maxHeartbeats 4000000 in
theorem Apply_16sb (n : Int) (a b : Nat) (hn : ¬ (1 ≤ n ∧ n ≤ 64)) (ha : a < 18446744073709551616) (hb : b < 18446744073709551616) (w : World) (O : Ot w) :
    Calls Tryd.prog 5 #[.int .i64 16, .agg #[.int .i64 n, .bool true], .int .u64 a, .int .u64 b] w fun e w' => e = .returned (.int .u64 ((0 : Nat) : Int)) ∧ Below w.heap.size w w' := by
  have hbox := boxT_below w n true
  have O1 := O.alloc (.cells #[.int .i64 n, .bool true] 23)
  obtain ⟨c0, c1⟩ := O1 16 (by omega)
  have d0 : (w.alloc (.cells #[.int .i64 n, .bool true] 23)).cell? ⟨0, 32, none⟩ = some (.int .i64 18) := c0
  have d1 : (w.alloc (.cells #[.int .i64 n, .bool true] 23)).cell? ⟨0, 33, none⟩ = some (.int .i64 20) := c1
  clear c0 c1 O1 O
  unfold boxT at hbox
  have HB := Lib.hid (fun W => Binary_bad 20 n b a (fun h => hn h.2) W)
  clear ha hb hn
  go_enter Tryd.func5, Tryd.ntmps5
  go_wp2_with (first
    | (go_at_call 9; refine (HB.out _).mono ?_; rintro e w' ⟨rfl, rfl⟩)
    | (go_at_call 10; refine (Fit_any _ _ (by omega) _).mono ?_; rintro e w' ⟨rfl, rfl⟩))
  go_ret
  exact ⟨rfl, hbox⟩
set_option maxHeartbeats 4000000 in
theorem Apply_17uk (n : Int) (a b : Nat) (hn : 1 ≤ n ∧ n ≤ 64) (ha : a < 18446744073709551616) (hb : b < 18446744073709551616) (w : World) (O : Ot w) :
    Calls Tryd.prog 5 #[.int .i64 17, .agg #[.int .i64 n, .bool false], .int .u64 a, .int .u64 b] w fun e w' => e = .returned (.int .u64 ((fit 1 (bin 9 n (fit n a) (fit n b)) : Nat) : Int)) ∧ Below w.heap.size w w' := by
  have hbox := boxT_below w n false
  have O1 := O.alloc (.cells #[.int .i64 n, .bool false] 23)
  obtain ⟨c0, c1⟩ := O1 17 (by omega)
  have d0 : (w.alloc (.cells #[.int .i64 n, .bool false] 23)).cell? ⟨0, 34, none⟩ = some (.int .i64 9) := c0
  have d1 : (w.alloc (.cells #[.int .i64 n, .bool false] 23)).cell? ⟨0, 35, none⟩ = some (.int .i64 9) := c1
  clear c0 c1 O1 O
  unfold boxT at hbox
  have hl := bin_fit_lt (op := 9) (a := a) (b := b) hn
  have HB := Lib.hid (fun W => Binary_ok 9 n a b (by omega) hn ha hb W)
  clear ha hb hn
  go_enter Tryd.func5, Tryd.ntmps5
  go_wp2_with (first
    | (go_at_call 9; refine (HB.out _).mono ?_; rintro e w' ⟨rfl, rfl⟩)
    | (go_at_call 10; refine (Fit_any _ _ hl _).mono ?_; rintro e w' ⟨rfl, rfl⟩))
  go_ret
  exact ⟨rfl, hbox⟩
set_option maxHeartbeats 4000000 in
theorem Apply_17ub (n : Int) (a b : Nat) (hn : ¬ (1 ≤ n ∧ n ≤ 64)) (ha : a < 18446744073709551616) (hb : b < 18446744073709551616) (w : World) (O : Ot w) :
    Calls Tryd.prog 5 #[.int .i64 17, .agg #[.int .i64 n, .bool false], .int .u64 a, .int .u64 b] w fun e w' => e = .returned (.int .u64 ((0 : Nat) : Int)) ∧ Below w.heap.size w w' := by
  have hbox := boxT_below w n false
  have O1 := O.alloc (.cells #[.int .i64 n, .bool false] 23)
  obtain ⟨c0, c1⟩ := O1 17 (by omega)
  have d0 : (w.alloc (.cells #[.int .i64 n, .bool false] 23)).cell? ⟨0, 34, none⟩ = some (.int .i64 9) := c0
  have d1 : (w.alloc (.cells #[.int .i64 n, .bool false] 23)).cell? ⟨0, 35, none⟩ = some (.int .i64 9) := c1
  clear c0 c1 O1 O
  unfold boxT at hbox
  have HB := Lib.hid (fun W => Binary_bad 9 n a b (fun h => hn h.2) W)
  clear ha hb hn
  go_enter Tryd.func5, Tryd.ntmps5
  go_wp2_with (first
    | (go_at_call 9; refine (HB.out _).mono ?_; rintro e w' ⟨rfl, rfl⟩)
    | (go_at_call 10; refine (Fit_zero _).mono ?_; rintro e w' ⟨rfl, rfl⟩))
  go_ret
  exact ⟨rfl, hbox⟩
set_option maxHeartbeats 4000000 in
theorem Apply_17sk (n : Int) (a b : Nat) (hn : 1 ≤ n ∧ n ≤ 64) (ha : a < 18446744073709551616) (hb : b < 18446744073709551616) (w : World) (O : Ot w) :
    Calls Tryd.prog 5 #[.int .i64 17, .agg #[.int .i64 n, .bool true], .int .u64 a, .int .u64 b] w fun e w' => e = .returned (.int .u64 ((fit 1 (bin 9 n (fit n a) (fit n b)) : Nat) : Int)) ∧ Below w.heap.size w w' := by
  have hbox := boxT_below w n true
  have O1 := O.alloc (.cells #[.int .i64 n, .bool true] 23)
  obtain ⟨c0, c1⟩ := O1 17 (by omega)
  have d0 : (w.alloc (.cells #[.int .i64 n, .bool true] 23)).cell? ⟨0, 34, none⟩ = some (.int .i64 9) := c0
  have d1 : (w.alloc (.cells #[.int .i64 n, .bool true] 23)).cell? ⟨0, 35, none⟩ = some (.int .i64 9) := c1
  clear c0 c1 O1 O
  unfold boxT at hbox
  have hl := bin_fit_lt (op := 9) (a := a) (b := b) hn
  have HB := Lib.hid (fun W => Binary_ok 9 n a b (by omega) hn ha hb W)
  clear ha hb hn
  go_enter Tryd.func5, Tryd.ntmps5
  go_wp2_with (first
    | (go_at_call 9; refine (HB.out _).mono ?_; rintro e w' ⟨rfl, rfl⟩)
    | (go_at_call 10; refine (Fit_any _ _ hl _).mono ?_; rintro e w' ⟨rfl, rfl⟩))
  go_ret
  exact ⟨rfl, hbox⟩
set_option maxHeartbeats 4000000 in
theorem Apply_17sb (n : Int) (a b : Nat) (hn : ¬ (1 ≤ n ∧ n ≤ 64)) (ha : a < 18446744073709551616) (hb : b < 18446744073709551616) (w : World) (O : Ot w) :
    Calls Tryd.prog 5 #[.int .i64 17, .agg #[.int .i64 n, .bool true], .int .u64 a, .int .u64 b] w fun e w' => e = .returned (.int .u64 ((0 : Nat) : Int)) ∧ Below w.heap.size w w' := by
  have hbox := boxT_below w n true
  have O1 := O.alloc (.cells #[.int .i64 n, .bool true] 23)
  obtain ⟨c0, c1⟩ := O1 17 (by omega)
  have d0 : (w.alloc (.cells #[.int .i64 n, .bool true] 23)).cell? ⟨0, 34, none⟩ = some (.int .i64 9) := c0
  have d1 : (w.alloc (.cells #[.int .i64 n, .bool true] 23)).cell? ⟨0, 35, none⟩ = some (.int .i64 9) := c1
  clear c0 c1 O1 O
  unfold boxT at hbox
  have HB := Lib.hid (fun W => Binary_bad 9 n a b (fun h => hn h.2) W)
  clear ha hb hn
  go_enter Tryd.func5, Tryd.ntmps5
  go_wp2_with (first
    | (go_at_call 9; refine (HB.out _).mono ?_; rintro e w' ⟨rfl, rfl⟩)
    | (go_at_call 10; refine (Fit_zero _).mono ?_; rintro e w' ⟨rfl, rfl⟩))
  go_ret
  exact ⟨rfl, hbox⟩
set_option maxHeartbeats 4000000 in
theorem Apply_18uk (n : Int) (a b : Nat) (hn : 1 ≤ n ∧ n ≤ 64) (ha : a < 18446744073709551616) (hb : b < 18446744073709551616) (w : World) (O : Ot w) :
    Calls Tryd.prog 5 #[.int .i64 18, .agg #[.int .i64 n, .bool false], .int .u64 a, .int .u64 b] w fun e w' => e = .returned (.int .u64 ((fit 1 (bin 10 n (fit n a) (fit n b)) : Nat) : Int)) ∧ Below w.heap.size w w' := by
  have hbox := boxT_below w n false
  have O1 := O.alloc (.cells #[.int .i64 n, .bool false] 23)
  obtain ⟨c0, c1⟩ := O1 18 (by omega)
  have d0 : (w.alloc (.cells #[.int .i64 n, .bool false] 23)).cell? ⟨0, 36, none⟩ = some (.int .i64 10) := c0
  have d1 : (w.alloc (.cells #[.int .i64 n, .bool false] 23)).cell? ⟨0, 37, none⟩ = some (.int .i64 10) := c1
  clear c0 c1 O1 O
  unfold boxT at hbox
  have hl := bin_fit_lt (op := 10) (a := a) (b := b) hn
  have HB := Lib.hid (fun W => Binary_ok 10 n a b (by omega) hn ha hb W)
  clear ha hb hn
  go_enter Tryd.func5, Tryd.ntmps5
  go_wp2_with (first
    | (go_at_call 9; refine (HB.out _).mono ?_; rintro e w' ⟨rfl, rfl⟩)
    | (go_at_call 10; refine (Fit_any _ _ hl _).mono ?_; rintro e w' ⟨rfl, rfl⟩))
  go_ret
  exact ⟨rfl, hbox⟩
set_option maxHeartbeats 4000000 in
theorem Apply_18ub (n : Int) (a b : Nat) (hn : ¬ (1 ≤ n ∧ n ≤ 64)) (ha : a < 18446744073709551616) (hb : b < 18446744073709551616) (w : World) (O : Ot w) :
    Calls Tryd.prog 5 #[.int .i64 18, .agg #[.int .i64 n, .bool false], .int .u64 a, .int .u64 b] w fun e w' => e = .returned (.int .u64 ((0 : Nat) : Int)) ∧ Below w.heap.size w w' := by
  have hbox := boxT_below w n false
  have O1 := O.alloc (.cells #[.int .i64 n, .bool false] 23)
  obtain ⟨c0, c1⟩ := O1 18 (by omega)
  have d0 : (w.alloc (.cells #[.int .i64 n, .bool false] 23)).cell? ⟨0, 36, none⟩ = some (.int .i64 10) := c0
  have d1 : (w.alloc (.cells #[.int .i64 n, .bool false] 23)).cell? ⟨0, 37, none⟩ = some (.int .i64 10) := c1
  clear c0 c1 O1 O
  unfold boxT at hbox
  have HB := Lib.hid (fun W => Binary_bad 10 n a b (fun h => hn h.2) W)
  clear ha hb hn
  go_enter Tryd.func5, Tryd.ntmps5
  go_wp2_with (first
    | (go_at_call 9; refine (HB.out _).mono ?_; rintro e w' ⟨rfl, rfl⟩)
    | (go_at_call 10; refine (Fit_zero _).mono ?_; rintro e w' ⟨rfl, rfl⟩))
  go_ret
  exact ⟨rfl, hbox⟩
set_option maxHeartbeats 4000000 in
theorem Apply_18sk (n : Int) (a b : Nat) (hn : 1 ≤ n ∧ n ≤ 64) (ha : a < 18446744073709551616) (hb : b < 18446744073709551616) (w : World) (O : Ot w) :
    Calls Tryd.prog 5 #[.int .i64 18, .agg #[.int .i64 n, .bool true], .int .u64 a, .int .u64 b] w fun e w' => e = .returned (.int .u64 ((fit 1 (bin 10 n (fit n a) (fit n b)) : Nat) : Int)) ∧ Below w.heap.size w w' := by
  have hbox := boxT_below w n true
  have O1 := O.alloc (.cells #[.int .i64 n, .bool true] 23)
  obtain ⟨c0, c1⟩ := O1 18 (by omega)
  have d0 : (w.alloc (.cells #[.int .i64 n, .bool true] 23)).cell? ⟨0, 36, none⟩ = some (.int .i64 10) := c0
  have d1 : (w.alloc (.cells #[.int .i64 n, .bool true] 23)).cell? ⟨0, 37, none⟩ = some (.int .i64 10) := c1
  clear c0 c1 O1 O
  unfold boxT at hbox
  have hl := bin_fit_lt (op := 10) (a := a) (b := b) hn
  have HB := Lib.hid (fun W => Binary_ok 10 n a b (by omega) hn ha hb W)
  clear ha hb hn
  go_enter Tryd.func5, Tryd.ntmps5
  go_wp2_with (first
    | (go_at_call 9; refine (HB.out _).mono ?_; rintro e w' ⟨rfl, rfl⟩)
    | (go_at_call 10; refine (Fit_any _ _ hl _).mono ?_; rintro e w' ⟨rfl, rfl⟩))
  go_ret
  exact ⟨rfl, hbox⟩
set_option maxHeartbeats 4000000 in
theorem Apply_18sb (n : Int) (a b : Nat) (hn : ¬ (1 ≤ n ∧ n ≤ 64)) (ha : a < 18446744073709551616) (hb : b < 18446744073709551616) (w : World) (O : Ot w) :
    Calls Tryd.prog 5 #[.int .i64 18, .agg #[.int .i64 n, .bool true], .int .u64 a, .int .u64 b] w fun e w' => e = .returned (.int .u64 ((0 : Nat) : Int)) ∧ Below w.heap.size w w' := by
  have hbox := boxT_below w n true
  have O1 := O.alloc (.cells #[.int .i64 n, .bool true] 23)
  obtain ⟨c0, c1⟩ := O1 18 (by omega)
  have d0 : (w.alloc (.cells #[.int .i64 n, .bool true] 23)).cell? ⟨0, 36, none⟩ = some (.int .i64 10) := c0
  have d1 : (w.alloc (.cells #[.int .i64 n, .bool true] 23)).cell? ⟨0, 37, none⟩ = some (.int .i64 10) := c1
  clear c0 c1 O1 O
  unfold boxT at hbox
  have HB := Lib.hid (fun W => Binary_bad 10 n a b (fun h => hn h.2) W)
  clear ha hb hn
  go_enter Tryd.func5, Tryd.ntmps5
  go_wp2_with (first
    | (go_at_call 9; refine (HB.out _).mono ?_; rintro e w' ⟨rfl, rfl⟩)
    | (go_at_call 10; refine (Fit_zero _).mono ?_; rintro e w' ⟨rfl, rfl⟩))
  go_ret
  exact ⟨rfl, hbox⟩
end Go.Proofs.YtcodfkeidbeooaaDoor
