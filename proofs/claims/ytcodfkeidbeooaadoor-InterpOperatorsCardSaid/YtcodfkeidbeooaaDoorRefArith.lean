/- What the reference's arithmetic computes: contracts. -/
import Derived.Test.YtcodfkeidbeooaaDoorRefMath
import Derived.BigQuiet
import Derived.Deep.QuietTactic
namespace Go.Proofs.YtcodfkeidbeooaaDoor
open Go.RowKit

/-- A slice that reads as the low k bits of x. -/
def BitsAt (w : World) (v : Value) (k x : Nat) : Prop := ∃ a g cap, v = .slice a k cap ∧ ∀ j, j < k → g < w.heap.size ∧ w.cell? ⟨g, j, none⟩ = some (.int .i64 (x / 2 ^ j % 2 : Nat)) ∧ a = some ⟨g, 0, none⟩
theorem bitsAt_of {w : World} {base : Nat} {e : TypeId} {v : Value} {k x : Nat} (h : w.ownsRow base e 1 v k (nums (bitsOf k x))) : BitsAt w v k x := bits_cells h
theorem BitsAt.below {w w' : World} {v : Value} {k x : Nat} (h : BitsAt w v k x) (hb : Below w.heap.size w w') : BitsAt w' v k x := by
  obtain ⟨a, g, cap, hv, hc⟩ := h
  refine ⟨a, g, cap, hv, fun j hj => ?_⟩
  obtain ⟨h1, h2, h3⟩ := hc j hj
  have := hb.size
  exact ⟨by omega, (hb.cell (p := ⟨g, j, none⟩) h1).trans h2, h3⟩
theorem bits_more {w : World} {base : Nat} {e : TypeId} {v : Value} {k y d : Nat} (hd : d = y / 2 ^ k % 2) (h : w.ownsRow base e 1 v (k + 1) (nums (bitsOf k y) ++ [Value.int .i64 (d : Int)])) :
    w.ownsRow base e 1 v (k + 1) (nums (bitsOf (k + 1) y)) := by
  subst hd
  rw [nums_append, ← bitsOf_succ] at h
  exact h

set_option maxHeartbeats 1000000 in
theorem rAdd_any (K A B c : Nat) (hK : K ≤ 64) (hc : c ≤ 1) (v1 v2 : Value) (w : World) (h1 : BitsAt w v1 K A) (h2 : BitsAt w v2 K B) :
    Calls Tryd.prog 23 #[v1, v2, .int .i64 (c : Int)] w fun e w' => ∃ v, e = .returned v ∧ w'.ownsRow w.heap.size 3 1 v K (nums (bitsOf K (A + B + c))) ∧ Below w.heap.size w w' := by
  obtain ⟨a1, g1, c1, rfl, k1⟩ := h1
  obtain ⟨a2, g2, c2, rfl, k2⟩ := h2
  have H1 := Lib.hid k1
  have H2 := Lib.hid k2
  clear k1 k2
  go_enter Tryd.func23, Tryd.ntmps23
  go_wp2
  go_loopw [2, 7, 8] (fun cc v i wr => ∃ k d : Nat, k ≤ K ∧ i = .int .i64 k ∧ cc = .int .i64 d ∧ d ≤ 1 ∧ Hid (d = carry A B c k) ∧ wr.ownsRow w.heap.size 3 1 v k (nums (bitsOf k (A + B + c))) ∧ Below w.heap.size w wr) (fun _ _ i _ => K - (intOf i).toNat)
  case atStart => exact ⟨0, c, by omega, rfl, rfl, hc, by show c = carry A B c 0; rw [carry_zero], World.ownsRow_nil _ _ _ _, Below.refl _ _⟩
  case round =>
    obtain ⟨k, d, hk, rfl, rfl, hd, hcd, hown, hb⟩ := hrel
    by_cases hlt : k < K
    · have hsz := hb.size
      obtain ⟨p1, q1, r1⟩ := H1.out k hlt
      obtain ⟨p2, q2, r2⟩ := H2.out k hlt
      subst r1 r2
      have x1 := (hb.cell (p := ⟨g1, k, none⟩) p1).trans q1
      have x2 := (hb.cell (p := ⟨g2, k, none⟩) p2).trans q2
      have hS : Hid ((A / 2 ^ k % 2 + B / 2 ^ k % 2 + d) % 2 = (A + B + c) / 2 ^ k % 2) := by
        show _ = _
        rw [hcd.out, ← sum_bit]
      have hC : Hid ((A / 2 ^ k % 2 + B / 2 ^ k % 2 + d) / 2 = carry A B c (k + 1)) := by
        show _ = _
        rw [carry_succ, hcd.out]
      have y1 : A / 2 ^ k % 2 ≤ 1 := by omega
      have y2 : B / 2 ^ k % 2 ≤ 1 := by omega
      clear q1 q2
      generalize A / 2 ^ k % 2 = s1 at *
      generalize B / 2 ^ k % 2 = s2 at *
      have hlt1 : (k : Int) < (K : Int) := by omega
      go_wp2
      go_quiet (fail)
      have hown2 : (wr.drewN nq).ownsRow w.heap.size 3 1 u7 k (nums (bitsOf k (A + B + c))) := hown
      have hb2 : Below w.heap.size w (wr.drewN nq) := ⟨hb.os, hb.tape, hb.output, hb.size, hb.block⟩
      clear hown hb x1 x2 hsz
      generalize wr.drewN nq = wq at *
      have hsz := hb2.size
      go_wp2_with (at_builtin; refine wpList_append_one wq (by rfl) _ _ _ (by rfl) w.heap.size 3 _ 8 Tryd.underlying40 infoInt (by rfl) _ k _ (by rfl) hown2 _ (by rfl) (by rfl) (by omega) (by omega) hsz ?_; intro v1 w4 hown1 hb1)
      have R := bits_more (d := (s1 + s2 + d) % 2) hS.out (by simpa using hown1)
      go_roundw
      case rel => exact ⟨k + 1, (s1 + s2 + d) / 2, by omega, by go_num, by go_num, by omega, hC, R, hb2.trans hb1⟩
      case measure => simp [intOf]; omega
    · go_wp2
      go_ret
      obtain rfl : k = K := by omega
      exact ⟨_, rfl, hown, hb⟩

set_option maxHeartbeats 1000000 in
theorem rShl_any (n : Int) (x s : Nat) (hx : x < 18446744073709551616) (hs : s ≤ 64) (w : World) :
    Calls Tryd.prog 26 #[.int .i64 n, .int .u64 x, .int .i64 (s : Int)] w fun e w' => e = .returned (.int .u64 (fit n (x * 2 ^ s) : Nat)) ∧ Below w.heap.size w w' := by
  have hwm := wd_le n
  go_enter Tryd.func26, Tryd.ntmps26
  go_wp2_with fail
  refine (rBits_any n x hx _).mono ?_
  rintro e W2 ⟨v, rfl, hown0, hbel⟩
  obtain ⟨a, g, cap, rfl, hc0⟩ := bits_cells hown0
  have HC := Lib.hid hc0
  clear hc0 hown0
  by_cases ha : 0 < wd n
  · obtain rfl := (HC.out 0 ha).2.2
    go_wp2
    go_loopw [8, 9] (fun v i wr => ∃ k : Nat, k ≤ wd n ∧ i = .int .i64 k ∧ wr.ownsRow W2.heap.size 3 1 v k (nums ((List.range k).map (shlBit s x))) ∧ Below W2.heap.size W2 wr) (fun _ i _ => wd n - (intOf i).toNat)
    case atStart => exact ⟨0, by omega, rfl, World.ownsRow_nil _ _ _ _, Below.refl _ _⟩
    case round =>
      obtain ⟨k, hk, rfl, hown, hb⟩ := hrel
      have hsz := hb.size
      by_cases hlt : k < wd n
      · by_cases hn : s ≤ k
        · have hcg := HC.out (k - s) (by omega)
          have hcell := (hb.cell (p := ⟨g, k - s, none⟩) hcg.1).trans hcg.2.1
          have HS : Hid (x / 2 ^ (k - s) % 2 = shlBit s x k) := by show _ = _; unfold shlBit; rw [if_pos hn]
          clear hcg
          generalize x / 2 ^ (k - s) % 2 = d at *
          go_wp2_with (at_builtin; refine wpList_append_one wr (by rfl) _ _ _ (by rfl) W2.heap.size 3 _ 8 Tryd.underlying40 infoInt (by rfl) _ k _ (by rfl) hown _ (by rfl) (by rfl) (by omega) (by omega) hsz ?_; intro v1 w4 hown1 hb1)
          have R := hown1
          rw [HS.out, nums_append, map_step] at R
          go_roundw
          case rel => exact ⟨k + 1, by omega, by go_num, R, hb.trans hb1⟩
          case measure => simp [intOf]; omega
        · have HS : Hid (0 = shlBit s x k) := by show _ = _; unfold shlBit; rw [if_neg hn]
          go_wp2_with (at_builtin; refine wpList_append_one wr (by rfl) _ _ _ (by rfl) W2.heap.size 3 _ 8 Tryd.underlying40 infoInt (by rfl) _ k _ (by rfl) hown _ (by rfl) (by rfl) (by omega) (by omega) hsz ?_; intro v1 w4 hown1 hb1)
          have R := hown1
          have h0 : Value.int .i64 0 = Value.int .i64 ((0 : Nat) : Int) := rfl
          rw [h0, HS.out, nums_append, map_step] at R
          go_roundw
          case rel => exact ⟨k + 1, by omega, by go_num, R, hb.trans hb1⟩
          case measure => simp [intOf]; omega
      · obtain rfl : k = wd n := by omega
        go_wp2_with fail
        refine (rWord_any ((List.range (wd n)).map (shlBit s x)) (fun b hb => map_le (fun i => shlBit_le) hb) (by simp; omega) _ _ _ (by simpa using hown)).mono ?_
        rintro e w' ⟨rfl, rfl⟩
        go_wp2
        go_ret
        exact ⟨ret_int (by rw [shl_word]; rfl), hbel.trans (hb.mono hbel.size)⟩
  · go_wp2
    go_loopw [8, 9] (fun v i wr => ∃ k : Nat, k ≤ wd n ∧ i = .int .i64 k ∧ wr.ownsRow W2.heap.size 3 1 v k (nums ((List.range k).map (shlBit s x))) ∧ Below W2.heap.size W2 wr) (fun _ i _ => wd n - (intOf i).toNat)
    case atStart => exact ⟨0, by omega, rfl, World.ownsRow_nil _ _ _ _, Below.refl _ _⟩
    case round =>
      obtain ⟨k, hk, rfl, hown, hb⟩ := hrel
      have hsz := hb.size
      by_cases hlt : k < wd n
      · exact absurd hlt (by omega)
      · obtain rfl : k = wd n := by omega
        go_wp2_with fail
        refine (rWord_any ((List.range (wd n)).map (shlBit s x)) (fun b hb => map_le (fun i => shlBit_le) hb) (by simp; omega) _ _ _ (by simpa using hown)).mono ?_
        rintro e w' ⟨rfl, rfl⟩
        go_wp2
        go_ret
        exact ⟨ret_int (by rw [shl_word]; rfl), hbel.trans (hb.mono hbel.size)⟩

set_option maxHeartbeats 1000000 in
theorem rShr_any (n : Int) (x s f : Nat) (hx : x < 18446744073709551616) (hs : s ≤ 64) (hf : f ≤ 1) (w : World) :
    Calls Tryd.prog 28 #[.int .i64 n, .int .u64 x, .int .i64 (s : Int), .int .i64 (f : Int)] w fun e w' => e = .returned (.int .u64 (ofBits ((List.range (wd n)).map (shrBit (wd n) s f x)) : Nat)) ∧ Below w.heap.size w w' := by
  have hwm := wd_le n
  go_enter Tryd.func28, Tryd.ntmps28
  go_wp2_with fail
  refine (rBits_any n x hx _).mono ?_
  rintro e W2 ⟨v, rfl, hown0, hbel⟩
  obtain ⟨a, g, cap, rfl, hc0⟩ := bits_cells hown0
  have HC := Lib.hid hc0
  clear hc0 hown0
  by_cases ha : 0 < wd n
  · obtain rfl := (HC.out 0 ha).2.2
    go_wp2
    go_loopw [10, 11] (fun v i wr => ∃ k : Nat, k ≤ wd n ∧ i = .int .i64 k ∧ wr.ownsRow W2.heap.size 3 1 v k (nums ((List.range k).map (shrBit (wd n) s f x))) ∧ Below W2.heap.size W2 wr) (fun _ i _ => wd n - (intOf i).toNat)
    case atStart => exact ⟨0, by omega, rfl, World.ownsRow_nil _ _ _ _, Below.refl _ _⟩
    case round =>
      obtain ⟨k, hk, rfl, hown, hb⟩ := hrel
      have hsz := hb.size
      by_cases hlt : k < wd n
      · by_cases hn : k + s < wd n
        · have hcg := HC.out (k + s) (by omega)
          have hcell := (hb.cell (p := ⟨g, k + s, none⟩) hcg.1).trans hcg.2.1
          have HS : Hid (x / 2 ^ (k + s) % 2 = shrBit (wd n) s f x k) := by show _ = _; unfold shrBit; rw [if_pos hn]
          clear hcg
          generalize x / 2 ^ (k + s) % 2 = d at *
          go_wp2_with (at_builtin; refine wpList_append_one wr (by rfl) _ _ _ (by rfl) W2.heap.size 3 _ 8 Tryd.underlying40 infoInt (by rfl) _ k _ (by rfl) hown _ (by rfl) (by rfl) (by omega) (by omega) hsz ?_; intro v1 w4 hown1 hb1)
          have R := hown1
          rw [HS.out, nums_append, map_step] at R
          go_roundw
          case rel => exact ⟨k + 1, by omega, by go_num, R, hb.trans hb1⟩
          case measure => simp [intOf]; omega
        · have HS : Hid (f = shrBit (wd n) s f x k) := by show _ = _; unfold shrBit; rw [if_neg hn]
          go_wp2_with (at_builtin; refine wpList_append_one wr (by rfl) _ _ _ (by rfl) W2.heap.size 3 _ 8 Tryd.underlying40 infoInt (by rfl) _ k _ (by rfl) hown _ (by rfl) (by rfl) (by omega) (by omega) hsz ?_; intro v1 w4 hown1 hb1)
          have R := hown1
          rw [show nums ((List.range k).map (shrBit (wd n) s f x)) ++ [Value.int .i64 (f : Int)] = nums ((List.range k).map (shrBit (wd n) s f x)) ++ [Value.int .i64 ((shrBit (wd n) s f x k : Nat) : Int)] from by rw [← HS.out], nums_append, map_step] at R
          go_roundw
          case rel => exact ⟨k + 1, by omega, by go_num, R, hb.trans hb1⟩
          case measure => simp [intOf]; omega
      · obtain rfl : k = wd n := by omega
        go_wp2_with fail
        refine (rWord_any ((List.range (wd n)).map (shrBit (wd n) s f x)) (fun b hb => map_le (fun i => shrBit_le hf) hb) (by simp; omega) _ _ _ (by simpa using hown)).mono ?_
        rintro e w' ⟨rfl, rfl⟩
        go_wp2
        go_ret
        exact ⟨rfl, hbel.trans (hb.mono hbel.size)⟩
  · go_wp2
    go_loopw [10, 11] (fun v i wr => ∃ k : Nat, k ≤ wd n ∧ i = .int .i64 k ∧ wr.ownsRow W2.heap.size 3 1 v k (nums ((List.range k).map (shrBit (wd n) s f x))) ∧ Below W2.heap.size W2 wr) (fun _ i _ => wd n - (intOf i).toNat)
    case atStart => exact ⟨0, by omega, rfl, World.ownsRow_nil _ _ _ _, Below.refl _ _⟩
    case round =>
      obtain ⟨k, hk, rfl, hown, hb⟩ := hrel
      have hsz := hb.size
      by_cases hlt : k < wd n
      · exact absurd hlt (by omega)
      · obtain rfl : k = wd n := by omega
        go_wp2_with fail
        refine (rWord_any ((List.range (wd n)).map (shrBit (wd n) s f x)) (fun b hb => map_le (fun i => shrBit_le hf) hb) (by simp; omega) _ _ _ (by simpa using hown)).mono ?_
        rintro e w' ⟨rfl, rfl⟩
        go_wp2
        go_ret
        exact ⟨rfl, hbel.trans (hb.mono hbel.size)⟩
end Go.Proofs.YtcodfkeidbeooaaDoor
