/- The interpreter's Apply for every operator. -/
import Derived.Test.YtcodfkeidbeooaaDoorOpRun
namespace Go.Proofs.YtcodfkeidbeooaaDoor
open Go Go.RowKit
set_option linter.unusedVariables false
set_option linter.unusedSimpArgs false

theorem Apply_any (op n : Int) (s : Bool) (a b : Nat) (ha : a < 18446744073709551616) (hb : b < 18446744073709551616) (w : World) (O : Ot w) :
    Calls Tryd.prog 5 #[.int .i64 op, .agg #[.int .i64 n, .bool s], .int .u64 a, .int .u64 b] w fun e w' => e = .returned (.int .u64 (apl op s n a b : Nat)) ∧ Below w.heap.size w w' := by
  by_cases h : op < 0 ∨ 19 ≤ op
  · exact Apply_out op n s a b h w
  by_cases hn : 1 ≤ n ∧ n ≤ 64
  · rcases (show op = 0 ∨ op = 1 ∨ op = 2 ∨ op = 3 ∨ op = 4 ∨ op = 5 ∨ op = 6 ∨ op = 7 ∨ op = 8 ∨ op = 9 ∨ op = 10 ∨ op = 11 ∨ op = 12 ∨ op = 13 ∨ op = 14 ∨ op = 15 ∨ op = 16 ∨ op = 17 ∨ op = 18 by omega) with rfl | rfl | rfl | rfl | rfl | rfl | rfl | rfl | rfl | rfl | rfl | rfl | rfl | rfl | rfl | rfl | rfl | rfl | rfl
    all_goals cases s
    · have e : apl 0 false n a b = 0 := by unfold apl; rw [if_neg (by omega)]
      rw [e]
      exact Apply_0ub n a b ha hb w O
    · have e : apl 0 true n a b = 0 := by unfold apl; rw [if_neg (by omega)]
      rw [e]
      exact Apply_0sb n a b ha hb w O
    · have e : apl 1 false n a b = bin 2 n (fit n a) (fit n b) := by unfold apl; rw [if_pos (by omega)]; rfl
      rw [e]
      exact Apply_1uk n a b hn ha hb w O
    · have e : apl 1 true n a b = bin 2 n (fit n a) (fit n b) := by unfold apl; rw [if_pos (by omega)]; rfl
      rw [e]
      exact Apply_1sk n a b hn ha hb w O
    · have e : apl 2 false n a b = bin 3 n (fit n a) (fit n b) := by unfold apl; rw [if_pos (by omega)]; rfl
      rw [e]
      exact Apply_2uk n a b hn ha hb w O
    · have e : apl 2 true n a b = bin 3 n (fit n a) (fit n b) := by unfold apl; rw [if_pos (by omega)]; rfl
      rw [e]
      exact Apply_2sk n a b hn ha hb w O
    · have e : apl 3 false n a b = bin 4 n (fit n a) (fit n b) := by unfold apl; rw [if_pos (by omega)]; rfl
      rw [e]
      exact Apply_3uk n a b hn ha hb w O
    · have e : apl 3 true n a b = bin 4 n (fit n a) (fit n b) := by unfold apl; rw [if_pos (by omega)]; rfl
      rw [e]
      exact Apply_3sk n a b hn ha hb w O
    · have e : apl 4 false n a b = bin 5 n (fit n a) (fit n b) := by unfold apl; rw [if_pos (by omega)]; rfl
      rw [e]
      exact Apply_4uk n a b hn ha hb w O
    · have e : apl 4 true n a b = bin 7 n (fit n a) (fit n b) := by unfold apl; rw [if_pos (by omega)]; rfl
      rw [e]
      exact Apply_4sk n a b hn ha hb w O
    · have e : apl 5 false n a b = bin 6 n (fit n a) (fit n b) := by unfold apl; rw [if_pos (by omega)]; rfl
      rw [e]
      exact Apply_5uk n a b hn ha hb w O
    · have e : apl 5 true n a b = bin 8 n (fit n a) (fit n b) := by unfold apl; rw [if_pos (by omega)]; rfl
      rw [e]
      exact Apply_5sk n a b hn ha hb w O
    · have e : apl 6 false n a b = bin 9 n (fit n a) (fit n b) := by unfold apl; rw [if_pos (by omega)]; rfl
      rw [e]
      exact Apply_6uk n a b hn ha hb w O
    · have e : apl 6 true n a b = bin 9 n (fit n a) (fit n b) := by unfold apl; rw [if_pos (by omega)]; rfl
      rw [e]
      exact Apply_6sk n a b hn ha hb w O
    · have e : apl 7 false n a b = bin 10 n (fit n a) (fit n b) := by unfold apl; rw [if_pos (by omega)]; rfl
      rw [e]
      exact Apply_7uk n a b hn ha hb w O
    · have e : apl 7 true n a b = bin 10 n (fit n a) (fit n b) := by unfold apl; rw [if_pos (by omega)]; rfl
      rw [e]
      exact Apply_7sk n a b hn ha hb w O
    · have e : apl 8 false n a b = bin 11 n (fit n a) (fit n b) := by unfold apl; rw [if_pos (by omega)]; rfl
      rw [e]
      exact Apply_8uk n a b hn ha hb w O
    · have e : apl 8 true n a b = bin 11 n (fit n a) (fit n b) := by unfold apl; rw [if_pos (by omega)]; rfl
      rw [e]
      exact Apply_8sk n a b hn ha hb w O
    · have e : apl 9 false n a b = bin 12 n (fit n a) (fit n b) := by unfold apl; rw [if_pos (by omega)]; rfl
      rw [e]
      exact Apply_9uk n a b hn ha hb w O
    · have e : apl 9 true n a b = bin 12 n (fit n a) (fit n b) := by unfold apl; rw [if_pos (by omega)]; rfl
      rw [e]
      exact Apply_9sk n a b hn ha hb w O
    · have e : apl 10 false n a b = bin 13 n (fit n a) (fit n b) := by unfold apl; rw [if_pos (by omega)]; rfl
      rw [e]
      exact Apply_10uk n a b hn ha hb w O
    · have e : apl 10 true n a b = bin 14 n (fit n a) (fit n b) := by unfold apl; rw [if_pos (by omega)]; rfl
      rw [e]
      exact Apply_10sk n a b hn ha hb w O
    · have e : apl 11 false n a b = bin 15 n (fit n a) (fit n b) := by unfold apl; rw [if_pos (by omega)]; rfl
      rw [e]
      exact Apply_11uk n a b hn ha hb w O
    · have e : apl 11 true n a b = bin 15 n (fit n a) (fit n b) := by unfold apl; rw [if_pos (by omega)]; rfl
      rw [e]
      exact Apply_11sk n a b hn ha hb w O
    · have e : apl 12 false n a b = bin 16 n (fit n a) (fit n b) := by unfold apl; rw [if_pos (by omega)]; rfl
      rw [e]
      exact Apply_12uk n a b hn ha hb w O
    · have e : apl 12 true n a b = bin 16 n (fit n a) (fit n b) := by unfold apl; rw [if_pos (by omega)]; rfl
      rw [e]
      exact Apply_12sk n a b hn ha hb w O
    · have e : apl 13 false n a b = bin 17 n (fit n a) (fit n b) := by unfold apl; rw [if_pos (by omega)]; rfl
      rw [e]
      exact Apply_13uk n a b hn ha hb w O
    · have e : apl 13 true n a b = bin 19 n (fit n a) (fit n b) := by unfold apl; rw [if_pos (by omega)]; rfl
      rw [e]
      exact Apply_13sk n a b hn ha hb w O
    · have e : apl 14 false n a b = bin 18 n (fit n a) (fit n b) := by unfold apl; rw [if_pos (by omega)]; rfl
      rw [e]
      exact Apply_14uk n a b hn ha hb w O
    · have e : apl 14 true n a b = bin 20 n (fit n a) (fit n b) := by unfold apl; rw [if_pos (by omega)]; rfl
      rw [e]
      exact Apply_14sk n a b hn ha hb w O
    · have e : apl 15 false n a b = bin 17 n (fit n b) (fit n a) := by unfold apl; rw [if_pos (by omega)]; rfl
      rw [e]
      exact Apply_15uk n a b hn ha hb w O
    · have e : apl 15 true n a b = bin 19 n (fit n b) (fit n a) := by unfold apl; rw [if_pos (by omega)]; rfl
      rw [e]
      exact Apply_15sk n a b hn ha hb w O
    · have e : apl 16 false n a b = bin 18 n (fit n b) (fit n a) := by unfold apl; rw [if_pos (by omega)]; rfl
      rw [e]
      exact Apply_16uk n a b hn ha hb w O
    · have e : apl 16 true n a b = bin 20 n (fit n b) (fit n a) := by unfold apl; rw [if_pos (by omega)]; rfl
      rw [e]
      exact Apply_16sk n a b hn ha hb w O
    · have e : apl 17 false n a b = fit 1 (bin 9 n (fit n a) (fit n b)) := by unfold apl; rw [if_pos (by omega)]; rfl
      rw [e]
      exact Apply_17uk n a b hn ha hb w O
    · have e : apl 17 true n a b = fit 1 (bin 9 n (fit n a) (fit n b)) := by unfold apl; rw [if_pos (by omega)]; rfl
      rw [e]
      exact Apply_17sk n a b hn ha hb w O
    · have e : apl 18 false n a b = fit 1 (bin 10 n (fit n a) (fit n b)) := by unfold apl; rw [if_pos (by omega)]; rfl
      rw [e]
      exact Apply_18uk n a b hn ha hb w O
    · have e : apl 18 true n a b = fit 1 (bin 10 n (fit n a) (fit n b)) := by unfold apl; rw [if_pos (by omega)]; rfl
      rw [e]
      exact Apply_18sk n a b hn ha hb w O
  · have e : apl op s n a b = 0 := by unfold apl; rw [if_neg (by omega)]
    rw [e]
    rcases (show op = 0 ∨ op = 1 ∨ op = 2 ∨ op = 3 ∨ op = 4 ∨ op = 5 ∨ op = 6 ∨ op = 7 ∨ op = 8 ∨ op = 9 ∨ op = 10 ∨ op = 11 ∨ op = 12 ∨ op = 13 ∨ op = 14 ∨ op = 15 ∨ op = 16 ∨ op = 17 ∨ op = 18 by omega) with rfl | rfl | rfl | rfl | rfl | rfl | rfl | rfl | rfl | rfl | rfl | rfl | rfl | rfl | rfl | rfl | rfl | rfl | rfl
    all_goals cases s
    · exact Apply_0ub n a b ha hb w O
    · exact Apply_0sb n a b ha hb w O
    · exact Apply_1ub n a b hn ha hb w O
    · exact Apply_1sb n a b hn ha hb w O
    · exact Apply_2ub n a b hn ha hb w O
    · exact Apply_2sb n a b hn ha hb w O
    · exact Apply_3ub n a b hn ha hb w O
    · exact Apply_3sb n a b hn ha hb w O
    · exact Apply_4ub n a b hn ha hb w O
    · exact Apply_4sb n a b hn ha hb w O
    · exact Apply_5ub n a b hn ha hb w O
    · exact Apply_5sb n a b hn ha hb w O
    · exact Apply_6ub n a b hn ha hb w O
    · exact Apply_6sb n a b hn ha hb w O
    · exact Apply_7ub n a b hn ha hb w O
    · exact Apply_7sb n a b hn ha hb w O
    · exact Apply_8ub n a b hn ha hb w O
    · exact Apply_8sb n a b hn ha hb w O
    · exact Apply_9ub n a b hn ha hb w O
    · exact Apply_9sb n a b hn ha hb w O
    · exact Apply_10ub n a b hn ha hb w O
    · exact Apply_10sb n a b hn ha hb w O
    · exact Apply_11ub n a b hn ha hb w O
    · exact Apply_11sb n a b hn ha hb w O
    · exact Apply_12ub n a b hn ha hb w O
    · exact Apply_12sb n a b hn ha hb w O
    · exact Apply_13ub n a b hn ha hb w O
    · exact Apply_13sb n a b hn ha hb w O
    · exact Apply_14ub n a b hn ha hb w O
    · exact Apply_14sb n a b hn ha hb w O
    · exact Apply_15ub n a b hn ha hb w O
    · exact Apply_15sb n a b hn ha hb w O
    · exact Apply_16ub n a b hn ha hb w O
    · exact Apply_16sb n a b hn ha hb w O
    · exact Apply_17ub n a b hn ha hb w O
    · exact Apply_17sb n a b hn ha hb w O
    · exact Apply_18ub n a b hn ha hb w O
    · exact Apply_18sb n a b hn ha hb w O
end Go.Proofs.YtcodfkeidbeooaaDoor
