/- The law on operators: the walk. -/
import Derived.Test.YtcodfkeidbeooaaDoorOpAny
import Derived.Test.YtcodfkeidbeooaaDoorOpRef
import Derived.Test.YtcodfkeidbeooaaDoorRegKit
import Derived.Test.YtcodfkeidbeooaaDoorLxMem
import Derived.BigQuiet
import Derived.Deep.QuietTactic
import Derived.Deep.RegionHeld3
import Derived.Deep.Cut
import Derived.Deep.CutBlock
namespace Go.Proofs.YtcodfkeidbeooaaDoor
open Go Go.RowKit
set_option linter.unusedVariables false
set_option linter.unusedSimpArgs false

def extT (a b : Int) (s : Bool) (x : Nat) : Nat := if s then frm b (sgn a x) else fit b (fit a x)
set_option maxHeartbeats 4000000 in
theorem Convert_any (n m : Int) (s t : Bool) (x : Nat) (hx : x < 18446744073709551616) (w : World) :
    Calls Tryd.prog 7 #[.agg #[.int .i64 n, .bool s], .agg #[.int .i64 m, .bool t], .int .u64 x] w fun e w' => e = .returned (.int .u64 (extT n m s x : Nat)) ∧ Below w.heap.size w w' := by
  have HE : Hid (∀ W, Calls Tryd.prog 13 #[.int .i64 n, .int .i64 m, .int .u64 x, .bool s] W fun e w' => e = .returned (.int .u64 (extT n m s x : Nat)) ∧ W = w') := Lib.hid (fun W => Extend_any n m x s hx W)
  have hbox : Below w.heap.size w ((w.alloc (.cells #[.int .i64 n, .bool s] 23)).alloc (.cells #[.int .i64 m, .bool t] 23)) := ((Below.refl _ _).alloc (Nat.le_refl _) _).alloc (by simp) _
  go_enter Tryd.func7, Tryd.ntmps7
  go_wp2_with fail
  refine (HE.out _).mono ?_
  rintro e w1 ⟨rfl, rfl⟩
  go_wp2
  go_ret
  exact ⟨rfl, hbox⟩
theorem awake6_any (w : World) (O : Ot w) : Calls Tryd.prog 4 #[] w fun e w' => e = .returned (.bool true) ∧ Below w.heap.size w w' := by
  have HA := Lib.hid (Apply_any 1 4 false 9 8 (by omega) (by omega) w O)
  have e1 : apl 1 false 4 9 8 = 1 := by decide
  rw [e1] at HA
  go_enter Tryd.func4, Tryd.ntmps4
  go_wp2_with fail
  refine HA.out.mono ?_
  rintro e w1 ⟨rfl, hb⟩
  go_wp2
  go_ret
  exact ⟨rfl, hb⟩
theorem Ot.below {w w' : World} (h : Ot w) (hb : Below w.heap.size w w') : Ot w' := by
  intro i hi
  obtain ⟨h1, h2⟩ := h i hi
  exact ⟨(hb.cell (ot_lt h1)).trans h1, (hb.cell (ot_lt h2)).trans h2⟩
theorem apl_lt (op : Int) (s : Bool) (n : Int) (a b : Nat) : apl op s n a b < 18446744073709551616 := by
  unfold apl
  split
  · rename_i h
    split
    · exact bin_fit_lt (by omega)
    · split
      · exact fit_lt _ _
      · exact bin_fit_lt (by omega)
  · omega
def box4 (w : World) (n : Int) (s : Bool) (m : Int) (t : Bool) (x y : Nat) : World := (w.alloc (.cells #[.int .i64 n, .bool s, .int .i64 m, .bool t] 24)).alloc (.cells #[.int .u64 x, .int .u64 y] 26)
theorem box4_below (w : World) (n : Int) (s : Bool) (m : Int) (t : Bool) (x y : Nat) : Below w.heap.size w (box4 w n s m t x y) := ((Below.refl _ _).alloc (Nat.le_refl _) _).alloc (by simp) _
/-- What stays: the two boxes and the table. -/
def SL (w W : World) (n : Int) (s : Bool) (m : Int) (t : Bool) (x y : Nat) : Prop :=
  W.cell? ⟨w.heap.size, 0, none⟩ = some (.int .i64 n) ∧ W.cell? ⟨w.heap.size, 1, none⟩ = some (.bool s) ∧ W.cell? ⟨w.heap.size, 2, none⟩ = some (.int .i64 m) ∧ W.cell? ⟨w.heap.size, 3, none⟩ = some (.bool t) ∧
  W.cell? ⟨w.heap.size + 1, 0, none⟩ = some (.int .u64 (x : Int)) ∧ W.cell? ⟨w.heap.size + 1, 1, none⟩ = some (.int .u64 (y : Int)) ∧ Hid (Ot W ∧ Below w.heap.size w W ∧ w.heap.size + 2 ≤ W.heap.size)
theorem SL.keep {w W W' : World} {n : Int} {s : Bool} {m : Int} {t : Bool} {x y : Nat} (h : SL w W n s m t x y) (hb : Below W.heap.size W W') : SL w W' n s m t x y := by
  obtain ⟨c0, c1, c2, c3, c4, c5, r⟩ := h
  obtain ⟨o, b, z⟩ := r.out
  have g : ∀ {p : Addr}, p.block < w.heap.size + 2 → W'.cell? p = W.cell? p := fun {p} hp => hb.cell (by omega)
  refine ⟨?_, ?_, ?_, ?_, ?_, ?_, Lib.hid ⟨o.below hb, b.trans (hb.mono b.size), by have := hb.size; omega⟩⟩
  all_goals rw [g (by simp)]
  all_goals assumption
theorem SL.drew {w W : World} {n : Int} {s : Bool} {m : Int} {t : Bool} {x y : Nat} (h : SL w W n s m t x y) : SL w W.drew n s m t x y := h.keep (Below.refl _ _).drew
theorem SL.ot {w W : World} {n : Int} {s : Bool} {m : Int} {t : Bool} {x y : Nat} (h : SL w W n s m t x y) : Ot W := h.2.2.2.2.2.2.out.1

set_option maxHeartbeats 8000000 in
theorem interpOperators_walk (op : Int) (_ho : -9223372036854775808 ≤ op ∧ op ≤ 9223372036854775807) (n : Int) (s : Bool) (m : Int) (t : Bool) (x : Nat) (hx : x < 18446744073709551616) (y : Nat) (hy : y < 18446744073709551616) (w : World) (O : Ot w) :
    Calls Tryd.prog 3 #[.int .i64 op, .agg #[.int .i64 n, .bool s, .int .i64 m, .bool t], .agg #[.int .u64 (x : Int), .int .u64 (y : Int)]] w fun e w' => e = .returned (.bool true) ∧ Below w.heap.size w w' := by
  have S0 : SL w ((w.alloc (.cells #[.int .i64 n, .bool s, .int .i64 m, .bool t] 24)).alloc (.cells #[.int .u64 (x : Int), .int .u64 (y : Int)] 26)) n s m t x y := by
    have b1 := Blk.alloc w 24 [.int .i64 n, .bool s, .int .i64 m, .bool t]
    have z1 : (w.alloc (.cells #[.int .i64 n, .bool s, .int .i64 m, .bool t] 24)).heap.size = w.heap.size + 1 := by simp
    have b2 := Blk.alloc (w.alloc (.cells #[.int .i64 n, .bool s, .int .i64 m, .bool t] 24)) 26 [.int .u64 (x : Int), .int .u64 (y : Int)]
    rw [z1] at b2
    exact ⟨(b1.alloc_other _).cell 0, (b1.alloc_other _).cell 1, (b1.alloc_other _).cell 2, (b1.alloc_other _).cell 3, b2.cell 0, b2.cell 1, Lib.hid ⟨(O.alloc _).alloc _, ((Below.refl _ _).alloc (Nat.le_refl _) _).alloc (by simp) _, by simp⟩⟩
  have HS0 := Lib.hid S0
  have HP := Lib.hid (fun W O => Apply_any op n s x y hx hy W O)
  have HR := Lib.hid (fun W => rApply_any op n s x y hx hy W)
  have HC := Lib.hid (fun W => Convert_any n m s t x hx W)
  have HE : Hid (∀ W, Calls Tryd.prog 8 #[.int .i64 n, .int .i64 m, .int .u64 x, .bool s] W fun e w' => e = .returned (.int .u64 (extT n m s x : Nat)) ∧ Below W.heap.size W w') := Lib.hid (fun W => rExtend_any n m x s hx W)
  clear S0 O hx hy _ho
  generalize apl op s n x y = A at *
  generalize extT n m s x = X at *
  go_enter Tryd.func3, Tryd.ntmps3
  go_wp2_with fail
  generalize ((w.alloc (.cells #[.int .i64 n, .bool s, .int .i64 m, .bool t] 24)).alloc (.cells #[.int .u64 (x : Int), .int .u64 (y : Int)] 26)) = W0 at *
  refine (awake6_any _ HS0.out.ot).mono ?_
  rintro e w1 ⟨rfl, hb1⟩
  have HS1 := Lib.hid (HS0.out.keep hb1)
  clear HS0 hb1
  go_upto_region 3 with fail
  obtain ⟨c0, c1, c2, c3, c4, c5, -⟩ := HS1.out
  go_region_held3 (fun w' => w'.cell? ⟨w.heap.size, 0, none⟩ = some (.int .i64 n) ∧ w'.cell? ⟨w.heap.size, 1, none⟩ = some (.bool s) ∧ w'.cell? ⟨w.heap.size, 2, none⟩ = some (.int .i64 m) ∧ w'.cell? ⟨w.heap.size, 3, none⟩ = some (.bool t) ∧ w'.cell? ⟨w.heap.size + 1, 0, none⟩ = some (.int .u64 (x : Int)) ∧ w'.cell? ⟨w.heap.size + 1, 1, none⟩ = some (.int .u64 (y : Int)) ∧ Hid (Ot w' ∧ Below w.heap.size w w' ∧ w.heap.size + 2 ≤ w'.heap.size))
    (first
      | exact SL.drew HS1.out
      | exact SL.keep (by assumption) hb9)
    (first
      | (go_at_call 5; refine (HP.out _ (SL.ot (by assumption))).mono ?_; rintro e w9 ⟨rfl, hb9⟩)
      | (go_at_call 6; refine (HR.out _).mono ?_; rintro e w9 ⟨rfl, hb9⟩)
      | (go_at_call 7; refine (HC.out _).mono ?_; rintro e w9 ⟨rfl, hb9⟩)
      | (go_at_call 8; refine (HE.out _).mono ?_; rintro e w9 ⟨rfl, hb9⟩))
  rename_i hS9
  have hB9 := hS9.2.2.2.2.2.2.out.2.1
  go_wp2
  go_ret
  exact ⟨rfl, hB9⟩
end Go.Proofs.YtcodfkeidbeooaaDoor
