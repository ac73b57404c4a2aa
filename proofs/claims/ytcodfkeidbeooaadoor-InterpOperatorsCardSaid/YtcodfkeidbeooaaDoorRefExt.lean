/- What the reference's Extend computes: a contract. -/
import Derived.Test.YtcodfkeidbeooaaDoorRefBits
namespace Go.Proofs.YtcodfkeidbeooaaDoor
open Go.RowKit

/-- Bit i of the word of another width. -/
def extBit (f fill x i : Nat) : Nat := if i < f then x / 2 ^ i % 2 else fill
theorem ext_in {f k : Nat} (fill x : Nat) (h : k < f) : (List.range k).map (extBit f fill x) ++ [x / 2 ^ k % 2] = (List.range (k + 1)).map (extBit f fill x) := by
  simp [List.range_succ, extBit, h]
theorem ext_out {f k : Nat} (fill x : Nat) (h : ¬ k < f) : (List.range k).map (extBit f fill x) ++ [fill] = (List.range (k + 1)).map (extBit f fill x) := by
  simp [List.range_succ, extBit, h]
theorem ext_le {f fill x t b : Nat} (hf : fill ≤ 1) (h : b ∈ (List.range t).map (extBit f fill x)) : b ≤ 1 := by
  simp only [List.mem_map] at h
  obtain ⟨i, _, rfl⟩ := h
  unfold extBit
  split <;> omega
theorem ext_zero (n m : Int) (x : Nat) : ofBits ((List.range (wd m)).map (extBit (wd n) 0 x)) = fit m (fit n x) := by
  have h : (List.range (wd m)).map (extBit (wd n) 0 x) = bitsOf (wd m) (fit n x) := by
    apply bitsOf_ext
    intro i _
    unfold extBit fit md
    rw [bit_testBit (x % 2 ^ wd n), Nat.testBit_mod_two_pow]
    by_cases hi : i < wd n
    · simp [hi, bit_testBit]
    · simp [hi]
  rw [h, ofBits_bitsOf]
  rfl
theorem ext_pos {n : Int} (m : Int) {x : Nat} (h : neg n x = false) : ofBits ((List.range (wd m)).map (extBit (wd n) 0 x)) = frm m (sgn n x) := by
  rw [ext_zero, ← (sgn_pos h).1]
  unfold frm fit
  rw [← Int.natCast_emod]
  rfl
theorem ext_neg {n : Int} (m : Int) {x : Nat} (h : neg n x = true) : ofBits ((List.range (wd m)).map (extBit (wd n) 1 x)) = frm m (sgn n x) := by
  have h0 := md_pos n
  have h1 := md_le n
  have hf := fit_md n x
  have hn : ¬ 2 * fit n x < md n := of_decide_eq_true h
  have hs : sgn n x = (fit n x : Int) - md n := by unfold sgn; rw [if_neg hn]
  have hu : u64w (sgn n x) = 2 ^ wd n * (2 ^ (64 - wd n) - 1) + fit n x := by
    have e : (18446744073709551616 : Nat) = 2 ^ wd n * 2 ^ (64 - wd n) := by
      rw [← Nat.pow_add, show wd n + (64 - wd n) = 64 from by have := wd_le n; omega]
    have e2 : 2 ^ wd n * (2 ^ (64 - wd n) - 1) = 18446744073709551616 - md n := by
      rw [Nat.mul_sub_one, ← e]; rfl
    rw [e2, hs]
    unfold u64w
    omega
  have h2 : (List.range (wd m)).map (extBit (wd n) 1 x) = bitsOf (wd m) (u64w (sgn n x)) := by
    apply bitsOf_ext
    intro i hi
    have h64 := wd_le m
    rw [hu, bit_testBit, Nat.testBit_two_pow_mul_add _ hf]
    unfold extBit
    by_cases hc : i < wd n
    · rw [if_pos hc, if_pos hc, ← bit_testBit]
      unfold fit md
      rw [bit_testBit (x % 2 ^ wd n), Nat.testBit_mod_two_pow, bit_testBit]
      simp [hc]
    · rw [if_neg hc, if_neg hc, Nat.testBit_two_pow_sub_one]
      have : i - wd n < 64 - wd n := by omega
      simp [this]
  rw [h2, ofBits_bitsOf, ← fit_u64w]
  rfl
/-- What the cells of a slice of bits are, at the world behind it. -/
theorem bits_cells {w : World} {base : Nat} {e : TypeId} {v : Value} {k x : Nat} (h : w.ownsRow base e 1 v k (nums (bitsOf k x))) :
    ∃ a g cap, v = .slice a k cap ∧ ∀ j, j < k → g < w.heap.size ∧ w.cell? ⟨g, j, none⟩ = some (.int .i64 (x / 2 ^ j % 2 : Nat)) ∧ a = some ⟨g, 0, none⟩ := by
  rcases own_cases h (bitsOf_length _ _).symm with ⟨rfl, h0⟩ | ⟨g, cap, rfl, _, hg, _, _, hc⟩
  · have : k = 0 := by have := bitsOf_length k x; rw [h0] at this; simpa using this.symm
    subst this
    exact ⟨none, 0, 0, rfl, fun j hj => absurd hj (by omega)⟩
  · refine ⟨_, g, cap, rfl, fun j hj => ⟨hg, ?_, rfl⟩⟩
    have := hc j (by rw [bitsOf_length]; exact hj)
    rwa [bitsOf_get x hj] at this

set_option maxHeartbeats 1000000 in
theorem rExtend_no (n m : Int) (x : Nat) (hx : x < 18446744073709551616) (w : World) :
    Calls Tryd.prog 8 #[.int .i64 n, .int .i64 m, .int .u64 x, .bool false] w fun e w' => e = .returned (.int .u64 (fit m (fit n x) : Nat)) ∧ Below w.heap.size w w' := by
  have hwm := wd_le m
  go_enter Tryd.func8, Tryd.ntmps8
  go_wp2_with fail
  refine (rBits_any n x hx _).mono ?_
  rintro e W2 ⟨v, rfl, hown0, hbel⟩
  obtain ⟨a, g, cap, rfl, hc0⟩ := bits_cells hown0
  have HC := Lib.hid hc0
  clear hc0 hown0
  by_cases ha : 0 < wd n
  · obtain rfl := (HC.out 0 ha).2.2
    go_wp2

    go_loopw [11, 12] (fun v i wr => ∃ k : Nat, k ≤ wd m ∧ i = .int .i64 k ∧ wr.ownsRow W2.heap.size 3 1 v k (nums ((List.range k).map (extBit (wd n) 0 x))) ∧ Below W2.heap.size W2 wr) (fun _ i _ => wd m - (intOf i).toNat)
    case atStart => exact ⟨0, by omega, rfl, World.ownsRow_nil _ _ _ _, Below.refl _ _⟩
    case round =>
      obtain ⟨k, hk, rfl, hown, hb⟩ := hrel
      have hsz := hb.size
      by_cases hlt : k < wd m
      · by_cases hf : k < wd n
        · have hcg := HC.out k hf
          have hcell : wr.cell? ⟨g, k, none⟩ = some (.int .i64 (x / 2 ^ k % 2 : Nat)) := (hb.cell (p := ⟨g, k, none⟩) hcg.1).trans hcg.2.1
          have hS := ext_in 0 x hf
          have HS := Lib.hid hS
          clear hS hcg
          generalize x / 2 ^ k % 2 = d at *
          go_wp2_with (first
            | (go_at_call 16; refine (rWidth_any _ _).mono ?_; rintro e w' ⟨rfl, rfl⟩)
            | (at_builtin; refine wpList_append_one wr (by rfl) _ _ _ (by rfl) W2.heap.size 3 _ 8 Tryd.underlying40 infoInt (by rfl) _ k _ (by rfl) hown _ (by rfl) (by rfl) (by omega) (by omega) hsz ?_; intro v1 w4 hown1 hb1))
          have R := hown1
          rw [nums_append, HS.out] at R
          go_roundw
          case rel => exact ⟨k + 1, by omega, by go_num, R, hb.trans hb1⟩
          case measure => simp [intOf]; omega
        · have hS := ext_out 0 x hf
          have HS := Lib.hid hS
          clear hS
          go_wp2_with (first
            | (go_at_call 16; refine (rWidth_any _ _).mono ?_; rintro e w' ⟨rfl, rfl⟩)
            | (at_builtin; refine wpList_append_one wr (by rfl) _ _ _ (by rfl) W2.heap.size 3 _ 8 Tryd.underlying40 infoInt (by rfl) _ k _ (by rfl) hown _ (by rfl) (by rfl) (by omega) (by omega) hsz ?_; intro v1 w4 hown1 hb1))
          have R := hown1
          have hfill : Value.int .i64 0 = Value.int .i64 ((0 : Nat) : Int) := rfl
          rw [hfill, nums_append, HS.out] at R
          go_roundw
          case rel => exact ⟨k + 1, by omega, by go_num, R, hb.trans hb1⟩
          case measure => simp [intOf]; omega
      · obtain rfl : k = wd m := by omega
        go_wp2_with (go_at_call 16; refine (rWidth_any _ _).mono ?_; rintro e w' ⟨rfl, rfl⟩)
        refine (rWord_any ((List.range (wd m)).map (extBit (wd n) 0 x)) (fun b hb => ext_le (by omega) hb) (by simp; omega) _ _ _ (by simpa using hown)).mono ?_
        rintro e w' ⟨rfl, rfl⟩
        go_wp2
        go_ret
        exact ⟨ret_int (by rw [ext_zero]), hbel.trans (hb.mono hbel.size)⟩
  · go_wp2

    go_loopw [11, 12] (fun v i wr => ∃ k : Nat, k ≤ wd m ∧ i = .int .i64 k ∧ wr.ownsRow W2.heap.size 3 1 v k (nums ((List.range k).map (extBit (wd n) 0 x))) ∧ Below W2.heap.size W2 wr) (fun _ i _ => wd m - (intOf i).toNat)
    case atStart => exact ⟨0, by omega, rfl, World.ownsRow_nil _ _ _ _, Below.refl _ _⟩
    case round =>
      obtain ⟨k, hk, rfl, hown, hb⟩ := hrel
      have hsz := hb.size
      by_cases hlt : k < wd m
      · by_cases hf : k < wd n
        · exact absurd hf (by omega)
        · have hS := ext_out 0 x hf
          have HS := Lib.hid hS
          clear hS
          go_wp2_with (first
            | (go_at_call 16; refine (rWidth_any _ _).mono ?_; rintro e w' ⟨rfl, rfl⟩)
            | (at_builtin; refine wpList_append_one wr (by rfl) _ _ _ (by rfl) W2.heap.size 3 _ 8 Tryd.underlying40 infoInt (by rfl) _ k _ (by rfl) hown _ (by rfl) (by rfl) (by omega) (by omega) hsz ?_; intro v1 w4 hown1 hb1))
          have R := hown1
          have hfill : Value.int .i64 0 = Value.int .i64 ((0 : Nat) : Int) := rfl
          rw [hfill, nums_append, HS.out] at R
          go_roundw
          case rel => exact ⟨k + 1, by omega, by go_num, R, hb.trans hb1⟩
          case measure => simp [intOf]; omega
      · obtain rfl : k = wd m := by omega
        go_wp2_with (go_at_call 16; refine (rWidth_any _ _).mono ?_; rintro e w' ⟨rfl, rfl⟩)
        refine (rWord_any ((List.range (wd m)).map (extBit (wd n) 0 x)) (fun b hb => ext_le (by omega) hb) (by simp; omega) _ _ _ (by simpa using hown)).mono ?_
        rintro e w' ⟨rfl, rfl⟩
        go_wp2
        go_ret
        exact ⟨ret_int (by rw [ext_zero]), hbel.trans (hb.mono hbel.size)⟩


set_option maxHeartbeats 1000000 in
theorem rExtend_pos (n m : Int) (x : Nat) (hx : x < 18446744073709551616) (hneg : neg n x = false) (w : World) :
    Calls Tryd.prog 8 #[.int .i64 n, .int .i64 m, .int .u64 x, .bool true] w fun e w' => e = .returned (.int .u64 (frm m (sgn n x) : Nat)) ∧ Below w.heap.size w w' := by
  have hwm := wd_le m
  have HE := Lib.hid hneg
  go_enter Tryd.func8, Tryd.ntmps8
  go_wp2_with fail
  refine (rBits_any n x hx _).mono ?_
  rintro e w1 ⟨v, rfl, hown0, hbel1⟩
  go_wp2_with fail
  refine (rNegative_any n x hx _).mono ?_
  rintro e W2 ⟨rfl, hbel2⟩
  have hbel := hbel1.trans (hbel2.mono hbel1.size)
  have hownW := own_below hown0 hbel2 (Nat.le_refl _)
  obtain ⟨a, g, cap, rfl, hc0⟩ := bits_cells hownW
  have HC := Lib.hid hc0
  clear hc0 hown0 hownW hbel1 hbel2
  by_cases ha : 0 < wd n
  · obtain rfl := (HC.out 0 ha).2.2
    go_wp2
    go_loopw [11, 12] (fun v i wr => ∃ k : Nat, k ≤ wd m ∧ i = .int .i64 k ∧ wr.ownsRow W2.heap.size 3 1 v k (nums ((List.range k).map (extBit (wd n) 0 x))) ∧ Below W2.heap.size W2 wr) (fun _ i _ => wd m - (intOf i).toNat)
    case atStart => exact ⟨0, by omega, rfl, World.ownsRow_nil _ _ _ _, Below.refl _ _⟩
    case round =>
      obtain ⟨k, hk, rfl, hown, hb⟩ := hrel
      have hsz := hb.size
      by_cases hlt : k < wd m
      · by_cases hf : k < wd n
        · have hcg := HC.out k hf
          have hcell : wr.cell? ⟨g, k, none⟩ = some (.int .i64 (x / 2 ^ k % 2 : Nat)) := (hb.cell (p := ⟨g, k, none⟩) hcg.1).trans hcg.2.1
          have hS := ext_in 0 x hf
          have HS := Lib.hid hS
          clear hS hcg
          generalize x / 2 ^ k % 2 = d at *
          go_wp2_with (first
            | (go_at_call 16; refine (rWidth_any _ _).mono ?_; rintro e w' ⟨rfl, rfl⟩)
            | (at_builtin; refine wpList_append_one wr (by rfl) _ _ _ (by rfl) W2.heap.size 3 _ 8 Tryd.underlying40 infoInt (by rfl) _ k _ (by rfl) hown _ (by rfl) (by rfl) (by omega) (by omega) hsz ?_; intro v1 w4 hown1 hb1))
          have R := hown1
          rw [nums_append, HS.out] at R
          go_roundw
          case rel => exact ⟨k + 1, by omega, by go_num, R, hb.trans hb1⟩
          case measure => simp [intOf]; omega
        · have hS := ext_out 0 x hf
          have HS := Lib.hid hS
          clear hS
          go_wp2_with (first
            | (go_at_call 16; refine (rWidth_any _ _).mono ?_; rintro e w' ⟨rfl, rfl⟩)
            | (at_builtin; refine wpList_append_one wr (by rfl) _ _ _ (by rfl) W2.heap.size 3 _ 8 Tryd.underlying40 infoInt (by rfl) _ k _ (by rfl) hown _ (by rfl) (by rfl) (by omega) (by omega) hsz ?_; intro v1 w4 hown1 hb1))
          have R := hown1
          have hfill : Value.int .i64 0 = Value.int .i64 ((0 : Nat) : Int) := rfl
          rw [hfill, nums_append, HS.out] at R
          go_roundw
          case rel => exact ⟨k + 1, by omega, by go_num, R, hb.trans hb1⟩
          case measure => simp [intOf]; omega
      · obtain rfl : k = wd m := by omega
        go_wp2_with (go_at_call 16; refine (rWidth_any _ _).mono ?_; rintro e w' ⟨rfl, rfl⟩)
        refine (rWord_any ((List.range (wd m)).map (extBit (wd n) 0 x)) (fun b hb => ext_le (by omega) hb) (by simp; omega) _ _ _ (by simpa using hown)).mono ?_
        rintro e w' ⟨rfl, rfl⟩
        go_wp2
        go_ret
        exact ⟨ret_int (by rw [ext_pos m HE.out]), hbel.trans (hb.mono hbel.size)⟩
  · go_wp2

    go_loopw [11, 12] (fun v i wr => ∃ k : Nat, k ≤ wd m ∧ i = .int .i64 k ∧ wr.ownsRow W2.heap.size 3 1 v k (nums ((List.range k).map (extBit (wd n) 0 x))) ∧ Below W2.heap.size W2 wr) (fun _ i _ => wd m - (intOf i).toNat)
    case atStart => exact ⟨0, by omega, rfl, World.ownsRow_nil _ _ _ _, Below.refl _ _⟩
    case round =>
      obtain ⟨k, hk, rfl, hown, hb⟩ := hrel
      have hsz := hb.size
      by_cases hlt : k < wd m
      · by_cases hf : k < wd n
        · exact absurd hf (by omega)
        · have hS := ext_out 0 x hf
          have HS := Lib.hid hS
          clear hS
          go_wp2_with (first
            | (go_at_call 16; refine (rWidth_any _ _).mono ?_; rintro e w' ⟨rfl, rfl⟩)
            | (at_builtin; refine wpList_append_one wr (by rfl) _ _ _ (by rfl) W2.heap.size 3 _ 8 Tryd.underlying40 infoInt (by rfl) _ k _ (by rfl) hown _ (by rfl) (by rfl) (by omega) (by omega) hsz ?_; intro v1 w4 hown1 hb1))
          have R := hown1
          have hfill : Value.int .i64 0 = Value.int .i64 ((0 : Nat) : Int) := rfl
          rw [hfill, nums_append, HS.out] at R
          go_roundw
          case rel => exact ⟨k + 1, by omega, by go_num, R, hb.trans hb1⟩
          case measure => simp [intOf]; omega
      · obtain rfl : k = wd m := by omega
        go_wp2_with (go_at_call 16; refine (rWidth_any _ _).mono ?_; rintro e w' ⟨rfl, rfl⟩)
        refine (rWord_any ((List.range (wd m)).map (extBit (wd n) 0 x)) (fun b hb => ext_le (by omega) hb) (by simp; omega) _ _ _ (by simpa using hown)).mono ?_
        rintro e w' ⟨rfl, rfl⟩
        go_wp2
        go_ret
        exact ⟨ret_int (by rw [ext_pos m HE.out]), hbel.trans (hb.mono hbel.size)⟩


set_option maxHeartbeats 1000000 in
theorem rExtend_neg (n m : Int) (x : Nat) (hx : x < 18446744073709551616) (hneg : neg n x = true) (w : World) :
    Calls Tryd.prog 8 #[.int .i64 n, .int .i64 m, .int .u64 x, .bool true] w fun e w' => e = .returned (.int .u64 (frm m (sgn n x) : Nat)) ∧ Below w.heap.size w w' := by
  have hwm := wd_le m
  have HE := Lib.hid hneg
  go_enter Tryd.func8, Tryd.ntmps8
  go_wp2_with fail
  refine (rBits_any n x hx _).mono ?_
  rintro e w1 ⟨v, rfl, hown0, hbel1⟩
  go_wp2_with fail
  refine (rNegative_any n x hx _).mono ?_
  rintro e W2 ⟨rfl, hbel2⟩
  have hbel := hbel1.trans (hbel2.mono hbel1.size)
  have hownW := own_below hown0 hbel2 (Nat.le_refl _)
  obtain ⟨a, g, cap, rfl, hc0⟩ := bits_cells hownW
  have HC := Lib.hid hc0
  clear hc0 hown0 hownW hbel1 hbel2
  by_cases ha : 0 < wd n
  · obtain rfl := (HC.out 0 ha).2.2
    go_wp2
    go_loopw [11, 12] (fun v i wr => ∃ k : Nat, k ≤ wd m ∧ i = .int .i64 k ∧ wr.ownsRow W2.heap.size 3 1 v k (nums ((List.range k).map (extBit (wd n) 1 x))) ∧ Below W2.heap.size W2 wr) (fun _ i _ => wd m - (intOf i).toNat)
    case atStart => exact ⟨0, by omega, rfl, World.ownsRow_nil _ _ _ _, Below.refl _ _⟩
    case round =>
      obtain ⟨k, hk, rfl, hown, hb⟩ := hrel
      have hsz := hb.size
      by_cases hlt : k < wd m
      · by_cases hf : k < wd n
        · have hcg := HC.out k hf
          have hcell : wr.cell? ⟨g, k, none⟩ = some (.int .i64 (x / 2 ^ k % 2 : Nat)) := (hb.cell (p := ⟨g, k, none⟩) hcg.1).trans hcg.2.1
          have hS := ext_in 1 x hf
          have HS := Lib.hid hS
          clear hS hcg
          generalize x / 2 ^ k % 2 = d at *
          go_wp2_with (first
            | (go_at_call 16; refine (rWidth_any _ _).mono ?_; rintro e w' ⟨rfl, rfl⟩)
            | (at_builtin; refine wpList_append_one wr (by rfl) _ _ _ (by rfl) W2.heap.size 3 _ 8 Tryd.underlying40 infoInt (by rfl) _ k _ (by rfl) hown _ (by rfl) (by rfl) (by omega) (by omega) hsz ?_; intro v1 w4 hown1 hb1))
          have R := hown1
          rw [nums_append, HS.out] at R
          go_roundw
          case rel => exact ⟨k + 1, by omega, by go_num, R, hb.trans hb1⟩
          case measure => simp [intOf]; omega
        · have hS := ext_out 1 x hf
          have HS := Lib.hid hS
          clear hS
          go_wp2_with (first
            | (go_at_call 16; refine (rWidth_any _ _).mono ?_; rintro e w' ⟨rfl, rfl⟩)
            | (at_builtin; refine wpList_append_one wr (by rfl) _ _ _ (by rfl) W2.heap.size 3 _ 8 Tryd.underlying40 infoInt (by rfl) _ k _ (by rfl) hown _ (by rfl) (by rfl) (by omega) (by omega) hsz ?_; intro v1 w4 hown1 hb1))
          have R := hown1
          have hfill : Value.int .i64 1 = Value.int .i64 ((1 : Nat) : Int) := rfl
          rw [hfill, nums_append, HS.out] at R
          go_roundw
          case rel => exact ⟨k + 1, by omega, by go_num, R, hb.trans hb1⟩
          case measure => simp [intOf]; omega
      · obtain rfl : k = wd m := by omega
        go_wp2_with (go_at_call 16; refine (rWidth_any _ _).mono ?_; rintro e w' ⟨rfl, rfl⟩)
        refine (rWord_any ((List.range (wd m)).map (extBit (wd n) 1 x)) (fun b hb => ext_le (by omega) hb) (by simp; omega) _ _ _ (by simpa using hown)).mono ?_
        rintro e w' ⟨rfl, rfl⟩
        go_wp2
        go_ret
        exact ⟨ret_int (by rw [ext_neg m HE.out]), hbel.trans (hb.mono hbel.size)⟩
  · go_wp2

    go_loopw [11, 12] (fun v i wr => ∃ k : Nat, k ≤ wd m ∧ i = .int .i64 k ∧ wr.ownsRow W2.heap.size 3 1 v k (nums ((List.range k).map (extBit (wd n) 1 x))) ∧ Below W2.heap.size W2 wr) (fun _ i _ => wd m - (intOf i).toNat)
    case atStart => exact ⟨0, by omega, rfl, World.ownsRow_nil _ _ _ _, Below.refl _ _⟩
    case round =>
      obtain ⟨k, hk, rfl, hown, hb⟩ := hrel
      have hsz := hb.size
      by_cases hlt : k < wd m
      · by_cases hf : k < wd n
        · exact absurd hf (by omega)
        · have hS := ext_out 1 x hf
          have HS := Lib.hid hS
          clear hS
          go_wp2_with (first
            | (go_at_call 16; refine (rWidth_any _ _).mono ?_; rintro e w' ⟨rfl, rfl⟩)
            | (at_builtin; refine wpList_append_one wr (by rfl) _ _ _ (by rfl) W2.heap.size 3 _ 8 Tryd.underlying40 infoInt (by rfl) _ k _ (by rfl) hown _ (by rfl) (by rfl) (by omega) (by omega) hsz ?_; intro v1 w4 hown1 hb1))
          have R := hown1
          have hfill : Value.int .i64 1 = Value.int .i64 ((1 : Nat) : Int) := rfl
          rw [hfill, nums_append, HS.out] at R
          go_roundw
          case rel => exact ⟨k + 1, by omega, by go_num, R, hb.trans hb1⟩
          case measure => simp [intOf]; omega
      · obtain rfl : k = wd m := by omega
        go_wp2_with (go_at_call 16; refine (rWidth_any _ _).mono ?_; rintro e w' ⟨rfl, rfl⟩)
        refine (rWord_any ((List.range (wd m)).map (extBit (wd n) 1 x)) (fun b hb => ext_le (by omega) hb) (by simp; omega) _ _ _ (by simpa using hown)).mono ?_
        rintro e w' ⟨rfl, rfl⟩
        go_wp2
        go_ret
        exact ⟨ret_int (by rw [ext_neg m HE.out]), hbel.trans (hb.mono hbel.size)⟩


theorem rExtend_any (n m : Int) (x : Nat) (s : Bool) (hx : x < 18446744073709551616) (w : World) :
    Calls Tryd.prog 8 #[.int .i64 n, .int .i64 m, .int .u64 x, .bool s] w fun e w' => e = .returned (.int .u64 ((if s then frm m (sgn n x) else fit m (fit n x) : Nat) : Int)) ∧ Below w.heap.size w w' := by
  cases s
  · exact rExtend_no n m x hx w
  · rcases hb : neg n x with _ | _
    · exact rExtend_pos n m x hx hb w
    · exact rExtend_neg n m x hx hb w
end Go.Proofs.YtcodfkeidbeooaaDoor
