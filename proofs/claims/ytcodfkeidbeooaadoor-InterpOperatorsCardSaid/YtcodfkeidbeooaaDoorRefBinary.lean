/- What the reference's Binary computes: contracts. -/
import Derived.Test.YtcodfkeidbeooaaDoorRefBinMath
import Derived.Test.YtcodfkeidbeooaaDoorRegKit
namespace Go.Proofs.YtcodfkeidbeooaaDoor
open Go.RowKit

theorem xor_val {s1 s2 : Nat} (h1 : s1 ≤ 1) (h2 : s2 ≤ 1) : (IntKind.i64.wrap ((s1 : Int) + (s2 : Int))).tmod 2 = (((s1 + s2) % 2 : Nat) : Int) := by
  have e : IntKind.i64.wrap ((s1 : Int) + (s2 : Int)) = ((s1 + s2 : Nat) : Int) := by rw [IntKind.wrap_i64]; omega
  rw [e, Int.tmod_eq_emod_of_nonneg (by omega)]
  simp

set_option maxHeartbeats 2000000 in
set_option maxRecDepth 100000 in
theorem rBinary_and (n : Int) (a b : Nat) (la : a < 18446744073709551616) (lb : b < 18446744073709551616) (w : World) :
    Calls Tryd.prog 12 #[.int .i64 9, .int .i64 n, .int .u64 a, .int .u64 b] w fun e w' => e = .returned (.int .u64 (bin 9 n (fit n a) (fit n b) : Nat)) ∧ Below w.heap.size w w' := by
  have hwm := wd_le n
  go_enter Tryd.func12, Tryd.ntmps12
  have hbel : Below w.heap.size w w := Below.refl _ _
  go_wp2_with fail
  refine (rFit_any n a la _).mono ?_
  rintro e w1 ⟨rfl, hb1⟩
  replace hbel := hbel.trans (hb1.mono hbel.size)
  clear hb1
  go_wp2_with fail
  refine (rFit_any n b lb _).mono ?_
  rintro e w2 ⟨rfl, hb2⟩
  replace hbel := hbel.trans (hb2.mono hbel.size)
  clear hb2
  have mA := fit_md n a
  have mB := fit_md n b
  have la' := fit_lt n a
  have lb' := fit_lt n b
  clear la lb
  have HE : Hid (ofBits ((List.range (wd n)).map (andBit (fit n a) (fit n b))) = bin 9 n (fit n a) (fit n b)) := and_word mA
  generalize hA : fit n a = A at *
  generalize hB : fit n b = B at *
  have HA := Lib.hid hA
  have HB := Lib.hid hB
  clear hA hB
  go_wp2_with fail
  refine (rBits_any n A la' _).mono ?_
  rintro e w3 ⟨v3, rfl, hown3, hb3⟩
  go_wp2_with fail
  refine (rBits_any n B lb' _).mono ?_
  rintro e w4 ⟨v4, rfl, hown4, hb4⟩
  replace hbel := hbel.trans (hb3.mono hbel.size)
  replace hbel := hbel.trans (hb4.mono hbel.size)
  have R1 := (bitsAt_of hown3).below hb4
  have R2 := bitsAt_of hown4
  clear hown3 hown4 hb3 hb4
  obtain ⟨a1, g1, c1, rfl, k1⟩ := R1
  obtain ⟨a2, g2, c2, rfl, k2⟩ := R2
  have H1 := Lib.hid k1
  have H2 := Lib.hid k2
  clear k1 k2 mA mB
  go_wp2
  go_loopw [11, 12] (fun v i wr => ∃ k : Nat, k ≤ wd n ∧ i = .int .i64 k ∧ wr.ownsRow w4.heap.size 3 1 v k (nums ((List.range k).map (andBit A B))) ∧ Below w4.heap.size w4 wr) (fun _ i _ => wd n - (intOf i).toNat)
  case atStart => exact ⟨0, by omega, rfl, World.ownsRow_nil _ _ _ _, Below.refl _ _⟩
  case round =>
    obtain ⟨k, hk, rfl, hown, hb⟩ := hrel
    by_cases hlt : k < wd n
    · obtain ⟨p1, q1, r1⟩ := H1.out k hlt
      obtain ⟨p2, q2, r2⟩ := H2.out k hlt
      subst r1 r2
      have x1 := (hb.cell (p := ⟨g1, k, none⟩) p1).trans q1
      have x2 := (hb.cell (p := ⟨g2, k, none⟩) p2).trans q2
      have hS : Hid ((A / 2 ^ k % 2) * (B / 2 ^ k % 2) = andBit A B k) := rfl
      have y1 : A / 2 ^ k % 2 ≤ 1 := by omega
      have y2 : B / 2 ^ k % 2 ≤ 1 := by omega
      clear q1 q2
      generalize A / 2 ^ k % 2 = s1 at *
      generalize B / 2 ^ k % 2 = s2 at *
      have hlt1 : (k : Int) < (wd n : Int) := by omega
      have hk0 : (0 : Int) ≤ (k : Int) := by omega
      obtain ⟨t, ht⟩ : ∃ t, s1 * s2 = t := ⟨_, rfl⟩
      have ht1 : t ≤ 1 := by
        rcases (show s1 = 0 ∨ s1 = 1 by omega) with h | h <;> rw [h] at ht <;> omega
      have ht2 : (s1 : Int) * (s2 : Int) = (t : Int) := by rw [← ht]; simp
      rw [ht] at hS
      clear ht
      have hsz := hb.size
      have X1 := Lib.hid x1
      have X2 := Lib.hid x2
      go_wp2
      go_region_held3 (fun w' => w'.cell? ⟨g1, k, none⟩ = some (.int .i64 (s1 : Int)) ∧ w'.cell? ⟨g2, k, none⟩ = some (.int .i64 (s2 : Int)))
        (first
          | go_keep
          | exact ⟨(hb1.cell (p := ⟨g1, k, none⟩) p1).trans X1.out, (hb1.cell (p := ⟨g2, k, none⟩) p2).trans X2.out⟩)
        ((refine step_append_one wr (by rfl) _ _ _ (by rfl) w4.heap.size 3 _ 8 Tryd.underlying40 infoInt (by rfl) _ k _ (by rfl) hown _ (by rfl) (by rfl) (by omega) (by omega) hsz ?_; intro v1 w5 hown1 hb1))
      have R := hown1
      rw [show IntKind.i64.wrap (t : Int) = (t : Int) from by rw [IntKind.wrap_i64]; omega] at R
      rw [hS.out, nums_append, map_step] at R
      go_wp2
      go_roundw
      case rel => exact ⟨k + 1, by omega, by go_num, R, hb.trans hb1⟩
      case measure => simp [intOf]; omega
    · obtain rfl : k = wd n := by omega
      replace hbel := hbel.trans (hb.mono hbel.size)
      rcases ng : neg n A with _ | _
      all_goals
        go_wp2_with fail
        refine (rNegative_any n A la' _).mono ?_
        rintro e w6 ⟨rfl, hb6⟩
        have hown6 := own_below hown hb6 (Nat.le_refl _)
        have hbel6 := hbel.trans (hb6.mono hbel.size)
        clear hown hb6
        go_wp2_with fail
        refine (rWord_any ((List.range (wd n)).map (andBit A B)) (fun b hb => map_le (fun i => andBit_le) hb) (by simp; omega) _ _ _ (by simpa using hown6)).mono ?_
        rintro e w' ⟨rfl, rfl⟩
        go_wp2
        go_ret
        exact ⟨ret_int (by rw [HE.out, HA.out, HB.out]), hbel6⟩

set_option maxHeartbeats 2000000 in
set_option maxRecDepth 100000 in
theorem rBinary_xor (n : Int) (a b : Nat) (la : a < 18446744073709551616) (lb : b < 18446744073709551616) (w : World) :
    Calls Tryd.prog 12 #[.int .i64 11, .int .i64 n, .int .u64 a, .int .u64 b] w fun e w' => e = .returned (.int .u64 (bin 11 n (fit n a) (fit n b) : Nat)) ∧ Below w.heap.size w w' := by
  have hwm := wd_le n
  go_enter Tryd.func12, Tryd.ntmps12
  have hbel : Below w.heap.size w w := Below.refl _ _
  go_wp2_with fail
  refine (rFit_any n a la _).mono ?_
  rintro e w1 ⟨rfl, hb1⟩
  replace hbel := hbel.trans (hb1.mono hbel.size)
  clear hb1
  go_wp2_with fail
  refine (rFit_any n b lb _).mono ?_
  rintro e w2 ⟨rfl, hb2⟩
  replace hbel := hbel.trans (hb2.mono hbel.size)
  clear hb2
  have mA := fit_md n a
  have mB := fit_md n b
  have la' := fit_lt n a
  have lb' := fit_lt n b
  clear la lb
  have HE : Hid (ofBits ((List.range (wd n)).map (xorBit (fit n a) (fit n b))) = bin 11 n (fit n a) (fit n b)) := xor_word mA mB
  generalize hA : fit n a = A at *
  generalize hB : fit n b = B at *
  have HA := Lib.hid hA
  have HB := Lib.hid hB
  clear hA hB
  go_wp2_with fail
  refine (rBits_any n A la' _).mono ?_
  rintro e w3 ⟨v3, rfl, hown3, hb3⟩
  go_wp2_with fail
  refine (rBits_any n B lb' _).mono ?_
  rintro e w4 ⟨v4, rfl, hown4, hb4⟩
  replace hbel := hbel.trans (hb3.mono hbel.size)
  replace hbel := hbel.trans (hb4.mono hbel.size)
  have R1 := (bitsAt_of hown3).below hb4
  have R2 := bitsAt_of hown4
  clear hown3 hown4 hb3 hb4
  obtain ⟨a1, g1, c1, rfl, k1⟩ := R1
  obtain ⟨a2, g2, c2, rfl, k2⟩ := R2
  have H1 := Lib.hid k1
  have H2 := Lib.hid k2
  clear k1 k2 mA mB
  go_wp2
  go_loopw [11, 12] (fun v i wr => ∃ k : Nat, k ≤ wd n ∧ i = .int .i64 k ∧ wr.ownsRow w4.heap.size 3 1 v k (nums ((List.range k).map (xorBit A B))) ∧ Below w4.heap.size w4 wr) (fun _ i _ => wd n - (intOf i).toNat)
  case atStart => exact ⟨0, by omega, rfl, World.ownsRow_nil _ _ _ _, Below.refl _ _⟩
  case round =>
    obtain ⟨k, hk, rfl, hown, hb⟩ := hrel
    by_cases hlt : k < wd n
    · obtain ⟨p1, q1, r1⟩ := H1.out k hlt
      obtain ⟨p2, q2, r2⟩ := H2.out k hlt
      subst r1 r2
      have x1 := (hb.cell (p := ⟨g1, k, none⟩) p1).trans q1
      have x2 := (hb.cell (p := ⟨g2, k, none⟩) p2).trans q2
      have hS : Hid (((A / 2 ^ k % 2) + (B / 2 ^ k % 2)) % 2 = xorBit A B k) := rfl
      have y1 : A / 2 ^ k % 2 ≤ 1 := by omega
      have y2 : B / 2 ^ k % 2 ≤ 1 := by omega
      clear q1 q2
      generalize A / 2 ^ k % 2 = s1 at *
      generalize B / 2 ^ k % 2 = s2 at *
      have hlt1 : (k : Int) < (wd n : Int) := by omega
      have hk0 : (0 : Int) ≤ (k : Int) := by omega
      have hsz := hb.size
      have X1 := Lib.hid x1
      have X2 := Lib.hid x2
      go_wp2
      go_region_held3 (fun w' => w'.cell? ⟨g1, k, none⟩ = some (.int .i64 (s1 : Int)) ∧ w'.cell? ⟨g2, k, none⟩ = some (.int .i64 (s2 : Int)))
        (first
          | go_keep
          | exact ⟨(hb1.cell (p := ⟨g1, k, none⟩) p1).trans X1.out, (hb1.cell (p := ⟨g2, k, none⟩) p2).trans X2.out⟩)
        ((refine step_append_one wr (by rfl) _ _ _ (by rfl) w4.heap.size 3 _ 8 Tryd.underlying40 infoInt (by rfl) _ k _ (by rfl) hown _ (by rfl) (by rfl) (by omega) (by omega) hsz ?_; intro v1 w5 hown1 hb1))
      have R := hown1
      rw [xor_val y1 y2] at R
      rw [hS.out, nums_append, map_step] at R
      go_wp2
      go_roundw
      case rel => exact ⟨k + 1, by omega, by go_num, R, hb.trans hb1⟩
      case measure => simp [intOf]; omega
    · obtain rfl : k = wd n := by omega
      replace hbel := hbel.trans (hb.mono hbel.size)
      rcases ng : neg n A with _ | _
      all_goals
        go_wp2_with fail
        refine (rNegative_any n A la' _).mono ?_
        rintro e w6 ⟨rfl, hb6⟩
        have hown6 := own_below hown hb6 (Nat.le_refl _)
        have hbel6 := hbel.trans (hb6.mono hbel.size)
        clear hown hb6
        go_wp2_with fail
        refine (rWord_any ((List.range (wd n)).map (xorBit A B)) (fun b hb => map_le (fun i => xorBit_le) hb) (by simp; omega) _ _ _ (by simpa using hown6)).mono ?_
        rintro e w' ⟨rfl, rfl⟩
        go_wp2
        go_ret
        exact ⟨ret_int (by rw [HE.out, HA.out, HB.out]), hbel6⟩

set_option maxHeartbeats 2000000 in
set_option maxRecDepth 100000 in
theorem rBinary_or (n : Int) (a b : Nat) (la : a < 18446744073709551616) (lb : b < 18446744073709551616) (w : World) :
    Calls Tryd.prog 12 #[.int .i64 10, .int .i64 n, .int .u64 a, .int .u64 b] w fun e w' => e = .returned (.int .u64 (bin 10 n (fit n a) (fit n b) : Nat)) ∧ Below w.heap.size w w' := by
  have hwm := wd_le n
  go_enter Tryd.func12, Tryd.ntmps12
  have hbel : Below w.heap.size w w := Below.refl _ _
  go_wp2_with fail
  refine (rFit_any n a la _).mono ?_
  rintro e w1 ⟨rfl, hb1⟩
  replace hbel := hbel.trans (hb1.mono hbel.size)
  clear hb1
  go_wp2_with fail
  refine (rFit_any n b lb _).mono ?_
  rintro e w2 ⟨rfl, hb2⟩
  replace hbel := hbel.trans (hb2.mono hbel.size)
  clear hb2
  have mA := fit_md n a
  have mB := fit_md n b
  have la' := fit_lt n a
  have lb' := fit_lt n b
  clear la lb
  have HE : Hid (ofBits ((List.range (wd n)).map (orBit (fit n a) (fit n b))) = bin 10 n (fit n a) (fit n b)) := or_word mA mB
  generalize hA : fit n a = A at *
  generalize hB : fit n b = B at *
  have HA := Lib.hid hA
  have HB := Lib.hid hB
  clear hA hB
  go_wp2_with fail
  refine (rBits_any n A la' _).mono ?_
  rintro e w3 ⟨v3, rfl, hown3, hb3⟩
  go_wp2_with fail
  refine (rBits_any n B lb' _).mono ?_
  rintro e w4 ⟨v4, rfl, hown4, hb4⟩
  replace hbel := hbel.trans (hb3.mono hbel.size)
  replace hbel := hbel.trans (hb4.mono hbel.size)
  have R1 := (bitsAt_of hown3).below hb4
  have R2 := bitsAt_of hown4
  clear hown3 hown4 hb3 hb4
  obtain ⟨a1, g1, c1, rfl, k1⟩ := R1
  obtain ⟨a2, g2, c2, rfl, k2⟩ := R2
  have H1 := Lib.hid k1
  have H2 := Lib.hid k2
  clear k1 k2 mA mB
  go_wp2
  go_loopw [11, 12] (fun v i wr => ∃ k : Nat, k ≤ wd n ∧ i = .int .i64 k ∧ wr.ownsRow w4.heap.size 3 1 v k (nums ((List.range k).map (orBit A B))) ∧ Below w4.heap.size w4 wr) (fun _ i _ => wd n - (intOf i).toNat)
  case atStart => exact ⟨0, by omega, rfl, World.ownsRow_nil _ _ _ _, Below.refl _ _⟩
  case round =>
    obtain ⟨k, hk, rfl, hown, hb⟩ := hrel
    by_cases hlt : k < wd n
    · obtain ⟨p1, q1, r1⟩ := H1.out k hlt
      obtain ⟨p2, q2, r2⟩ := H2.out k hlt
      subst r1 r2
      have x1 := (hb.cell (p := ⟨g1, k, none⟩) p1).trans q1
      have x2 := (hb.cell (p := ⟨g2, k, none⟩) p2).trans q2
      have hS : Hid (max (A / 2 ^ k % 2) (B / 2 ^ k % 2) = orBit A B k) := rfl
      have y1 : A / 2 ^ k % 2 ≤ 1 := by omega
      have y2 : B / 2 ^ k % 2 ≤ 1 := by omega
      clear q1 q2
      generalize A / 2 ^ k % 2 = s1 at *
      generalize B / 2 ^ k % 2 = s2 at *
      have hlt1 : (k : Int) < (wd n : Int) := by omega
      have hk0 : (0 : Int) ≤ (k : Int) := by omega
      have hsz := hb.size
      have X1 := Lib.hid x1
      have X2 := Lib.hid x2
      go_wp2
      go_region_held3 (fun w' => w'.cell? ⟨g1, k, none⟩ = some (.int .i64 (s1 : Int)) ∧ w'.cell? ⟨g2, k, none⟩ = some (.int .i64 (s2 : Int)))
        (first
          | go_keep
          | exact ⟨(hb1.cell (p := ⟨g1, k, none⟩) p1).trans X1.out, (hb1.cell (p := ⟨g2, k, none⟩) p2).trans X2.out⟩)
        ((refine step_append_one wr (by rfl) _ _ _ (by rfl) w4.heap.size 3 _ 8 Tryd.underlying40 infoInt (by rfl) _ k _ (by rfl) hown _ (by rfl) (by rfl) (by omega) (by omega) hsz ?_; intro v1 w5 hown1 hb1))
      have R := hown1
      rw [show (if s1 < s2 then (s2 : Int) else (s1 : Int)) = ((max s1 s2 : Nat) : Int) from by split <;> omega] at R
      rw [hS.out, nums_append, map_step] at R
      go_wp2
      go_roundw
      case rel => exact ⟨k + 1, by omega, by go_num, R, hb.trans hb1⟩
      case measure => simp [intOf]; omega
    · obtain rfl : k = wd n := by omega
      replace hbel := hbel.trans (hb.mono hbel.size)
      rcases ng : neg n A with _ | _
      all_goals
        go_wp2_with fail
        refine (rNegative_any n A la' _).mono ?_
        rintro e w6 ⟨rfl, hb6⟩
        have hown6 := own_below hown hb6 (Nat.le_refl _)
        have hbel6 := hbel.trans (hb6.mono hbel.size)
        clear hown hb6
        go_wp2_with fail
        refine (rWord_any ((List.range (wd n)).map (orBit A B)) (fun b hb => map_le (fun i => orBit_le) hb) (by simp; omega) _ _ _ (by simpa using hown6)).mono ?_
        rintro e w' ⟨rfl, rfl⟩
        go_wp2
        go_ret
        exact ⟨ret_int (by rw [HE.out, HA.out, HB.out]), hbel6⟩
end Go.Proofs.YtcodfkeidbeooaaDoor
