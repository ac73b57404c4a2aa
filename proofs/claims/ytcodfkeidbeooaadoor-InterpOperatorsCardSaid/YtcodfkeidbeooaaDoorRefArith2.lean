/- What the reference's multiplication and division compute: contracts. -/
import Derived.Test.YtcodfkeidbeooaaDoorRefArith
namespace Go.Proofs.YtcodfkeidbeooaaDoor
open Go.RowKit

theorem rAmount_any (n : Int) (b : Nat) (hb : b < 18446744073709551616) (w : World) :
    Calls Tryd.prog 27 #[.int .i64 n, .int .u64 b] w fun e w' => e = .returned (.int .i64 (min b (wd n) : Nat)) ∧ w = w' := by
  have hw := wd_le n
  by_cases h : wd n ≤ b
  · go_enter Tryd.func27, Tryd.ntmps27
    go_wp2_with (go_at_call 16; refine (rWidth_any _ _).mono ?_; rintro e w' ⟨rfl, rfl⟩)
    go_ret
    exact ⟨ret_int (by omega), rfl⟩
  · go_enter Tryd.func27, Tryd.ntmps27
    go_wp2_with (go_at_call 16; refine (rWidth_any _ _).mono ?_; rintro e w' ⟨rfl, rfl⟩)
    go_ret
    exact ⟨ret_int (by omega), rfl⟩

theorem rBit_any (b : Bool) (w : World) : Calls Tryd.prog 29 #[.bool b] w fun e w' => e = .returned (.int .u64 ((b2n b : Nat) : Int)) ∧ w = w' := by
  cases b
  all_goals
    go_enter Tryd.func29, Tryd.ntmps29
    go_wp2
    go_ret
    exact ⟨rfl, rfl⟩

theorem rMagnitude_any (n : Int) (x : Nat) (hx : x < 18446744073709551616) (w : World) :
    Calls Tryd.prog 40 #[.int .i64 n, .int .u64 x] w fun e w' => e = .returned (.int .u64 (mag n x : Nat)) ∧ Below w.heap.size w w' := by
  rcases hb : neg n x with _ | _
  · have H := Lib.hid (mag_pos hb)
    go_enter Tryd.func40, Tryd.ntmps40
    go_wp2_with fail
    refine (rNegative_any n x hx _).mono ?_
    rintro e w1 ⟨rfl, hb1⟩
    go_wp2_with fail
    refine (rFit_any n x hx _).mono ?_
    rintro e w2 ⟨rfl, hb2⟩
    go_wp2
    go_ret
    exact ⟨ret_int (by rw [H.out]), hb1.trans (hb2.mono hb1.size)⟩
  · have H := Lib.hid (mag_neg hb)
    go_enter Tryd.func40, Tryd.ntmps40
    go_wp2_with fail
    refine (rNegative_any n x hx _).mono ?_
    rintro e w1 ⟨rfl, hb1⟩
    go_wp2_with fail
    refine (rMinus_any n x hx _).mono ?_
    rintro e w2 ⟨rfl, hb2⟩
    go_wp2
    go_ret
    exact ⟨ret_int (by rw [H.out]), hb1.trans (hb2.mono hb1.size)⟩

theorem fit_mul_two {n : Int} {y x k : Nat} (h : fit n y = fit n (x * 2 ^ k)) : fit n (fit n (y * 2 ^ 1)) = fit n (x * 2 ^ (k + 1)) := by
  rw [fit_fit, Nat.pow_one, Nat.pow_succ, ← Nat.mul_assoc]
  unfold fit at *
  rw [Nat.mul_mod, h, ← Nat.mul_mod]
theorem fit_mul_add {n : Int} {u y a b k : Nat} (hu : u = fit n (a * (b % 2 ^ k))) (hy : fit n y = fit n (a * 2 ^ k)) (hd : b / 2 ^ k % 2 = 1) : (u + y + 0) % 2 ^ wd n = fit n (a * (b % 2 ^ (k + 1))) := by
  rw [mod_succ, hd, Nat.mul_add, Nat.mul_one, Nat.add_zero]
  subst hu
  unfold fit md at *
  rw [Nat.add_mod, Nat.mod_mod, hy, ← Nat.add_mod]
theorem fit_mul_skip {n : Int} {u a b k : Nat} (hu : u = fit n (a * (b % 2 ^ k))) (hd : b / 2 ^ k % 2 = 0) : u = fit n (a * (b % 2 ^ (k + 1))) := by
  rw [mod_succ, hd, Nat.mul_zero, Nat.add_zero]; exact hu
theorem fit_mul_end {n : Int} {a b : Nat} : fit n (a * (b % 2 ^ wd n)) = fit n (a * b) := by
  unfold fit md
  rw [Nat.mul_mod, Nat.mod_mod, ← Nat.mul_mod]

set_option maxHeartbeats 2000000 in
theorem rMul_any (n : Int) (a b : Nat) (ha : a < 18446744073709551616) (hb : b < 18446744073709551616) (w : World) :
    Calls Tryd.prog 25 #[.int .i64 n, .int .u64 a, .int .u64 b] w fun e w' => e = .returned (.int .u64 (fit n (a * b) : Nat)) ∧ Below w.heap.size w w' := by
  have hwm := wd_le n
  go_enter Tryd.func25, Tryd.ntmps25
  go_wp2_with fail
  refine (rBits_any n b hb _).mono ?_
  rintro e W2 ⟨v, rfl, hown0, hbel⟩
  obtain ⟨ad, g, cap, rfl, hc0⟩ := bits_cells hown0
  have HC := Lib.hid hc0
  clear hc0 hown0
  go_wp2
  go_loopw [1, 8, 9] (fun av ov i wr => ∃ k y u : Nat, k ≤ wd n ∧ i = .int .i64 k ∧ av = .int .u64 y ∧ y < 18446744073709551616 ∧ ov = .int .u64 u ∧ u < 18446744073709551616 ∧ Hid (fit n y = fit n (a * 2 ^ k)) ∧ Hid (u = fit n (a * (b % 2 ^ k))) ∧ Below W2.heap.size W2 wr) (fun _ _ i _ => wd n - (intOf i).toNat)
  case atStart => exact ⟨0, a, 0, by omega, rfl, rfl, ha, rfl, by omega, by show _ = _; simp, by show 0 = fit n (a * (b % 2 ^ 0)); simp [Nat.mod_one, fit], Below.refl _ _⟩
  case round =>
    obtain ⟨k, y, u, hk, rfl, rfl, hy, rfl, hu, hY, hU, hbr⟩ := hrel
    by_cases hlt : k < wd n
    · have hcg := HC.out k hlt
      have hcell := (hbr.cell (p := ⟨g, k, none⟩) hcg.1).trans hcg.2.1
      have hsub := hcg.2.2
      subst hsub
      clear hcg
      have hYS : Hid (fit n (fit n (y * 2 ^ 1)) = fit n (a * 2 ^ (k + 1))) := fit_mul_two hY.out
      have hl1 := fit_lt n (y * 2 ^ 1)
      rcases (show b / 2 ^ k % 2 = 0 ∨ b / 2 ^ k % 2 = 1 by omega) with hd | hd
      · have hUS : Hid (u = fit n (a * (b % 2 ^ (k + 1)))) := fit_mul_skip hU.out hd
        rw [hd] at hcell
        clear hd
        go_wp2_with fail
        refine (rShl_any n y 1 hy (by omega) _).mono ?_
        rintro e w5 ⟨rfl, hb5⟩
        have hbn := hbr.trans (hb5.mono hbr.size)
        clear hb5 hcell hbr
        go_wp2
        go_roundw
        case rel => exact ⟨k + 1, fit n (y * 2 ^ 1), u, by omega, by go_num, rfl, hl1, rfl, hu, hYS, hUS, hbn⟩
        case measure => simp [intOf]; omega
      · have hUS : Hid ((u + y + 0) % 2 ^ wd n = fit n (a * (b % 2 ^ (k + 1)))) := fit_mul_add hU.out hY.out hd
        rw [hd] at hcell
        clear hd
        go_wp2_with fail
        refine (rBits_any n u hu _).mono ?_
        rintro e w3 ⟨v3, rfl, hown3, hb3⟩
        go_wp2_with fail
        refine (rBits_any n y hy _).mono ?_
        rintro e w4 ⟨v4, rfl, hown4, hb4⟩
        go_wp2_with fail
        refine (rAdd_any (wd n) u y 0 hwm (by omega) v3 v4 _ ((bitsAt_of hown3).below hb4) (bitsAt_of hown4)).mono ?_
        rintro e w5 ⟨v5, rfl, hown5, hb5⟩
        go_wp2_with fail
        refine (rWord_any (bitsOf (wd n) (u + y + 0)) (fun b hb => bitsOf_le hb) (by rw [bitsOf_length]; exact hwm) v5 _ _ (by rw [bitsOf_length]; exact hown5)).mono ?_
        rintro e w6 ⟨rfl, rfl⟩
        rw [ofBits_bitsOf, hUS.out]
        have hl2 := fit_lt n (a * (b % 2 ^ (k + 1)))
        have hbm := hbr.trans (hb3.mono hbr.size)
        have hbm2 := hbm.trans (hb4.mono hbm.size)
        have hbm3 := hbm2.trans (hb5.mono hbm2.size)
        clear hb3 hb4 hb5 hbm hbm2 hown3 hown4 hown5 hcell hbr
        go_wp2_with fail
        refine (rShl_any n y 1 hy (by omega) _).mono ?_
        rintro e w7 ⟨rfl, hb7⟩
        have hbn := hbm3.trans (hb7.mono hbm3.size)
        clear hb7 hbm3
        go_wp2
        go_roundw
        case rel => exact ⟨k + 1, fit n (y * 2 ^ 1), fit n (a * (b % 2 ^ (k + 1))), by omega, by go_num, rfl, hl1, rfl, hl2, hYS, rfl, hbn⟩
        case measure => simp [intOf]; omega
    · obtain rfl : k = wd n := by omega
      go_wp2
      go_ret
      exact ⟨ret_int (by rw [hU.out, fit_mul_end]), hbel.trans (hbr.mono hbel.size)⟩

theorem ret_pair2 {k j : IntKind} {a b c d : Int} (h : a = b) (h2 : c = d) : Ending.returned (.tuple #[.int k a, .int j c]) = .returned (.tuple #[.int k b, .int j d]) := by rw [h, h2]
theorem frm_neg_lt (n : Int) (x : Nat) : frm n (-(x : Int)) < 18446744073709551616 := frm_lt _ _
theorem bin7_eq {n : Int} {a b : Nat} (hb : b ≠ 0) : bin 7 n a b = frm n (if (neg n a != neg n b) then -((mag n a / mag n b : Nat) : Int) else ((mag n a / mag n b : Nat) : Int)) := by
  show (if b = 0 then mask n else frm n ((sgn n a).tdiv (sgn n b))) = _
  rw [if_neg hb, div_quo, neg_sgn, neg_sgn]
  rfl
theorem bin8_eq {n : Int} {a b : Nat} (hb : b ≠ 0) : bin 8 n a b = frm n (if neg n a then -((mag n a % mag n b : Nat) : Int) else ((mag n a % mag n b : Nat) : Int)) := by
  show (if b = 0 then a else frm n ((sgn n a).tmod (sgn n b))) = _
  rw [if_neg hb, div_rem, neg_sgn]
  rfl
theorem frm_fit (n : Int) (x : Nat) : frm n (x : Int) = fit n x := by unfold frm fit; rw [← Int.natCast_emod]; rfl

set_option maxHeartbeats 2000000 in
theorem rDivide_any (n : Int) (a b : Nat) (ha : a < md n) (hb : b < md n) (w : World) :
    Calls Tryd.prog 31 #[.int .i64 n, .int .u64 a, .int .u64 b] w fun e w' => e = .returned (.tuple #[.int .u64 (bin 7 n a b : Nat), .int .u64 (bin 8 n a b : Nat)]) ∧ Below w.heap.size w w' := by
  have hm := md_le n
  have la : a < 18446744073709551616 := by omega
  have lb : b < 18446744073709551616 := by omega
  by_cases h0 : b = 0
  · have e7 : bin 7 n a b = mask n := by show (if b = 0 then mask n else frm n ((sgn n a).tdiv (sgn n b))) = _; rw [if_pos h0]
    have e8 : bin 8 n a b = a := by show (if b = 0 then a else frm n ((sgn n a).tmod (sgn n b))) = _; rw [if_pos h0]
    have h1 : b ≤ 0 := by omega
    have E7 := Lib.hid e7
    have E8 := Lib.hid e8
    clear h0 e7 e8
    go_enter Tryd.func31, Tryd.ntmps31
    go_wp2_with (go_at_call 24; refine (rOnes_any _ _).mono ?_; rintro e w' ⟨rfl, rfl⟩)
    go_ret2
    exact ⟨ret_pair2 (by rw [E7.out]) (by rw [E8.out]), Below.refl _ _⟩
  · have hb1 : 1 ≤ b := by omega
    have hz := mag_zero hb h0
    have E7 := Lib.hid (bin7_eq (n := n) (a := a) h0)
    have E8 := Lib.hid (bin8_eq (n := n) (a := a) h0)
    have hA := mag_lt n a
    have hB := mag_lt n b
    have hB1 : (1 : Int) ≤ (mag n b : Int) := by omega
    obtain ⟨q, hq⟩ : ∃ q, mag n a / mag n b = q := ⟨_, rfl⟩
    obtain ⟨r, hr⟩ : ∃ r, mag n a % mag n b = r := ⟨_, rfl⟩
    obtain ⟨t, ht⟩ : ∃ t, q * mag n b = t := ⟨_, rfl⟩
    have hqr : t + r = mag n a := by rw [← ht, ← hq, ← hr, Nat.mul_comm]; exact Nat.div_add_mod _ _
    have hql : q ≤ mag n a := by rw [← hq]; exact Nat.div_le_self _ _
    have f1 : ((mag n a : Nat) : Int) / ((mag n b : Nat) : Int) = (q : Int) := by rw [← hq]; simp
    have f2 : (q : Int) * ((mag n b : Nat) : Int) = (t : Int) := by rw [← ht]; simp
    rw [hq] at E7
    rw [hr] at E8
    have QR := Lib.hid hqr
    have hr1 : r ≤ mag n a := by omega
    have ht1 : t ≤ mag n a := by omega
    have f3 : ((mag n a : Nat) : Int) - (t : Int) = (r : Int) := by omega
    clear hq hr ht hqr h0 hz hb ha
    have lq : q < 18446744073709551616 := by omega
    have lr : r < 18446744073709551616 := by omega
    rcases ga : neg n a with _ | _ <;> rcases gb : neg n b with _ | _ <;> rw [ga, gb] at E7 <;> rw [ga] at E8
    · go_enter Tryd.func31, Tryd.ntmps31
      have hbel : Below w.heap.size w w := Below.refl _ _
      go_wp2_with fail
      refine (rMagnitude_any n a la _).mono ?_
      rintro e w1 ⟨rfl, hb1⟩
      replace hbel := hbel.trans (hb1.mono hbel.size)
      clear hb1
      go_wp2_with fail
      refine (rMagnitude_any n b lb _).mono ?_
      rintro e w2 ⟨rfl, hb2⟩
      replace hbel := hbel.trans (hb2.mono hbel.size)
      clear hb2
      go_wp2_with fail
      refine (rMagnitude_any n a la _).mono ?_
      rintro e w3 ⟨rfl, hb3⟩
      replace hbel := hbel.trans (hb3.mono hbel.size)
      clear hb3
      go_wp2_with fail
      refine (rMagnitude_any n b lb _).mono ?_
      rintro e w4 ⟨rfl, hb4⟩
      replace hbel := hbel.trans (hb4.mono hbel.size)
      clear hb4
      go_wp2_with fail
      refine (rNegative_any n a la _).mono ?_
      rintro e w5 ⟨rfl, hb5⟩
      replace hbel := hbel.trans (hb5.mono hbel.size)
      clear hb5
      go_wp2_with fail
      refine (rNegative_any n b lb _).mono ?_
      rintro e w6 ⟨rfl, hb6⟩
      replace hbel := hbel.trans (hb6.mono hbel.size)
      clear hb6
      go_wp2_with fail
      refine (rNegative_any n a la _).mono ?_
      rintro e w7 ⟨rfl, hb7⟩
      replace hbel := hbel.trans (hb7.mono hbel.size)
      clear hb7
      go_wp2_with fail
      refine (rFit_any n (q) lq _).mono ?_
      rintro e w8 ⟨rfl, hb8⟩
      replace hbel := hbel.trans (hb8.mono hbel.size)
      clear hb8
      go_wp2_with fail
      refine (rFit_any n (r) lr _).mono ?_
      rintro e w9 ⟨rfl, hb9⟩
      replace hbel := hbel.trans (hb9.mono hbel.size)
      clear hb9
      go_wp2
      go_ret2
      exact ⟨ret_pair2 (by rw [E7.out, ← frm_fit n q]; rfl) (by rw [E8.out, ← frm_fit n r]; rfl), hbel⟩
    · go_enter Tryd.func31, Tryd.ntmps31
      have hbel : Below w.heap.size w w := Below.refl _ _
      go_wp2_with fail
      refine (rMagnitude_any n a la _).mono ?_
      rintro e w1 ⟨rfl, hb1⟩
      replace hbel := hbel.trans (hb1.mono hbel.size)
      clear hb1
      go_wp2_with fail
      refine (rMagnitude_any n b lb _).mono ?_
      rintro e w2 ⟨rfl, hb2⟩
      replace hbel := hbel.trans (hb2.mono hbel.size)
      clear hb2
      go_wp2_with fail
      refine (rMagnitude_any n a la _).mono ?_
      rintro e w3 ⟨rfl, hb3⟩
      replace hbel := hbel.trans (hb3.mono hbel.size)
      clear hb3
      go_wp2_with fail
      refine (rMagnitude_any n b lb _).mono ?_
      rintro e w4 ⟨rfl, hb4⟩
      replace hbel := hbel.trans (hb4.mono hbel.size)
      clear hb4
      go_wp2_with fail
      refine (rNegative_any n a la _).mono ?_
      rintro e w5 ⟨rfl, hb5⟩
      replace hbel := hbel.trans (hb5.mono hbel.size)
      clear hb5
      go_wp2_with fail
      refine (rNegative_any n b lb _).mono ?_
      rintro e w6 ⟨rfl, hb6⟩
      replace hbel := hbel.trans (hb6.mono hbel.size)
      clear hb6
      go_wp2_with fail
      refine (rMinus_any n q lq _).mono ?_
      rintro e w7 ⟨rfl, hb7⟩
      replace hbel := hbel.trans (hb7.mono hbel.size)
      clear hb7
      go_wp2_with fail
      refine (rNegative_any n a la _).mono ?_
      rintro e w8 ⟨rfl, hb8⟩
      replace hbel := hbel.trans (hb8.mono hbel.size)
      clear hb8
      go_wp2_with fail
      refine (rFit_any n (frm n (-(q : Int))) (frm_lt _ _) _).mono ?_
      rintro e w9 ⟨rfl, hb9⟩
      replace hbel := hbel.trans (hb9.mono hbel.size)
      clear hb9
      go_wp2_with fail
      refine (rFit_any n (r) lr _).mono ?_
      rintro e w10 ⟨rfl, hb10⟩
      replace hbel := hbel.trans (hb10.mono hbel.size)
      clear hb10
      go_wp2
      go_ret2
      exact ⟨ret_pair2 (by rw [E7.out, fit_self (frm_md n _)]; rfl) (by rw [E8.out, ← frm_fit n r]; rfl), hbel⟩
    · go_enter Tryd.func31, Tryd.ntmps31
      have hbel : Below w.heap.size w w := Below.refl _ _
      go_wp2_with fail
      refine (rMagnitude_any n a la _).mono ?_
      rintro e w1 ⟨rfl, hb1⟩
      replace hbel := hbel.trans (hb1.mono hbel.size)
      clear hb1
      go_wp2_with fail
      refine (rMagnitude_any n b lb _).mono ?_
      rintro e w2 ⟨rfl, hb2⟩
      replace hbel := hbel.trans (hb2.mono hbel.size)
      clear hb2
      go_wp2_with fail
      refine (rMagnitude_any n a la _).mono ?_
      rintro e w3 ⟨rfl, hb3⟩
      replace hbel := hbel.trans (hb3.mono hbel.size)
      clear hb3
      go_wp2_with fail
      refine (rMagnitude_any n b lb _).mono ?_
      rintro e w4 ⟨rfl, hb4⟩
      replace hbel := hbel.trans (hb4.mono hbel.size)
      clear hb4
      go_wp2_with fail
      refine (rNegative_any n a la _).mono ?_
      rintro e w5 ⟨rfl, hb5⟩
      replace hbel := hbel.trans (hb5.mono hbel.size)
      clear hb5
      go_wp2_with fail
      refine (rNegative_any n b lb _).mono ?_
      rintro e w6 ⟨rfl, hb6⟩
      replace hbel := hbel.trans (hb6.mono hbel.size)
      clear hb6
      go_wp2_with fail
      refine (rMinus_any n q lq _).mono ?_
      rintro e w7 ⟨rfl, hb7⟩
      replace hbel := hbel.trans (hb7.mono hbel.size)
      clear hb7
      go_wp2_with fail
      refine (rNegative_any n a la _).mono ?_
      rintro e w8 ⟨rfl, hb8⟩
      replace hbel := hbel.trans (hb8.mono hbel.size)
      clear hb8
      go_wp2_with fail
      refine (rMinus_any n r lr _).mono ?_
      rintro e w9 ⟨rfl, hb9⟩
      replace hbel := hbel.trans (hb9.mono hbel.size)
      clear hb9
      go_wp2_with fail
      refine (rFit_any n (frm n (-(q : Int))) (frm_lt _ _) _).mono ?_
      rintro e w10 ⟨rfl, hb10⟩
      replace hbel := hbel.trans (hb10.mono hbel.size)
      clear hb10
      go_wp2_with fail
      refine (rFit_any n (frm n (-(r : Int))) (frm_lt _ _) _).mono ?_
      rintro e w11 ⟨rfl, hb11⟩
      replace hbel := hbel.trans (hb11.mono hbel.size)
      clear hb11
      go_wp2
      go_ret2
      exact ⟨ret_pair2 (by rw [E7.out, fit_self (frm_md n _)]; rfl) (by rw [E8.out, fit_self (frm_md n _)]; rfl), hbel⟩
    · go_enter Tryd.func31, Tryd.ntmps31
      have hbel : Below w.heap.size w w := Below.refl _ _
      go_wp2_with fail
      refine (rMagnitude_any n a la _).mono ?_
      rintro e w1 ⟨rfl, hb1⟩
      replace hbel := hbel.trans (hb1.mono hbel.size)
      clear hb1
      go_wp2_with fail
      refine (rMagnitude_any n b lb _).mono ?_
      rintro e w2 ⟨rfl, hb2⟩
      replace hbel := hbel.trans (hb2.mono hbel.size)
      clear hb2
      go_wp2_with fail
      refine (rMagnitude_any n a la _).mono ?_
      rintro e w3 ⟨rfl, hb3⟩
      replace hbel := hbel.trans (hb3.mono hbel.size)
      clear hb3
      go_wp2_with fail
      refine (rMagnitude_any n b lb _).mono ?_
      rintro e w4 ⟨rfl, hb4⟩
      replace hbel := hbel.trans (hb4.mono hbel.size)
      clear hb4
      go_wp2_with fail
      refine (rNegative_any n a la _).mono ?_
      rintro e w5 ⟨rfl, hb5⟩
      replace hbel := hbel.trans (hb5.mono hbel.size)
      clear hb5
      go_wp2_with fail
      refine (rNegative_any n b lb _).mono ?_
      rintro e w6 ⟨rfl, hb6⟩
      replace hbel := hbel.trans (hb6.mono hbel.size)
      clear hb6
      go_wp2_with fail
      refine (rNegative_any n a la _).mono ?_
      rintro e w7 ⟨rfl, hb7⟩
      replace hbel := hbel.trans (hb7.mono hbel.size)
      clear hb7
      go_wp2_with fail
      refine (rMinus_any n r lr _).mono ?_
      rintro e w8 ⟨rfl, hb8⟩
      replace hbel := hbel.trans (hb8.mono hbel.size)
      clear hb8
      go_wp2_with fail
      refine (rFit_any n (q) lq _).mono ?_
      rintro e w9 ⟨rfl, hb9⟩
      replace hbel := hbel.trans (hb9.mono hbel.size)
      clear hb9
      go_wp2_with fail
      refine (rFit_any n (frm n (-(r : Int))) (frm_lt _ _) _).mono ?_
      rintro e w10 ⟨rfl, hb10⟩
      replace hbel := hbel.trans (hb10.mono hbel.size)
      clear hb10
      go_wp2
      go_ret2
      exact ⟨ret_pair2 (by rw [E7.out, ← frm_fit n q]; rfl) (by rw [E8.out, fit_self (frm_md n _)]; rfl), hbel⟩
end Go.Proofs.YtcodfkeidbeooaaDoor
