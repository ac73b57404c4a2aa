/- What the reference's functions on lists of bits compute: contracts. -/
import Derived.Test.YtcodfkeidbeooaaDoorBitKinds
import Derived.Test.YtcodfkeidbeooaaDoorBitList
import Derived.Test.YtcodfkeidbeooaaDoorSliceKit
namespace Go.Proofs.YtcodfkeidbeooaaDoor
open Go.RowKit

theorem infoInt : (Tryd.prog.info? 3).map (fun i => (i.zero, i.size, i.bytes)) = some (some (.int .i64 0), 1, 8) := by kernel_rfl

theorem rWidth_any (n : Int) (w : World) : Calls Tryd.prog 16 #[.int .i64 n] w fun e w' => e = .returned (.int .i64 (wd n : Nat)) ∧ w = w' := by
  by_cases h0 : n < 0
  · go_enter Tryd.func16, Tryd.ntmps16
    go_wp2
    all_goals
      go_ret
      refine ⟨ret_int ?_, rfl⟩
      unfold wd
      omega
  · by_cases h1 : n ≤ 64
    · go_enter Tryd.func16, Tryd.ntmps16
      go_wp2
      all_goals
        go_ret
        refine ⟨ret_int ?_, rfl⟩
        unfold wd
        omega
    · go_enter Tryd.func16, Tryd.ntmps16
      go_wp2
      all_goals
        go_ret
        refine ⟨ret_int ?_, rfl⟩
        unfold wd
        omega

theorem rOnes_any (n : Int) (w : World) : Calls Tryd.prog 24 #[.int .i64 n] w fun e w' => e = .returned (.int .u64 (mask n : Nat)) ∧ w = w' := by
  have hw := wd_le n
  go_enter Tryd.func24, Tryd.ntmps24
  go_wp2
  go_loop [3, 4] (fun x i => ∃ k y : Nat, k ≤ wd n ∧ i = .int .i64 k ∧ x = .int .u64 y ∧ Hid (y + 1 = 2 ^ k)) (fun _ i => wd n - (intOf i).toNat)
  case atStart => exact ⟨0, 0, by omega, rfl, rfl, rfl⟩
  case round =>
    obtain ⟨k, y, hk, rfl, rfl, hy⟩ := hrel
    by_cases hlt : k < wd n
    · have hb : 2 * y + 1 < 18446744073709551616 := by
        have h1 : 2 ^ k ≤ 2 ^ 63 := Nat.pow_le_pow_right (by omega) (by omega)
        have h2 := hy.out
        omega
      have hy2 : Hid (2 * y + 1 + 1 = 2 ^ (k + 1)) := by
        have h2 := hy.out
        show 2 * y + 1 + 1 = 2 ^ (k + 1)
        rw [Nat.pow_succ]; omega
      go_wp2_with (go_at_call 16; refine (rWidth_any _ _).mono ?_; rintro e w' ⟨rfl, rfl⟩)
      go_round
      case rel => exact ⟨k + 1, 2 * y + 1, by omega, by go_num, by go_num, hy2⟩
      case measure => simp [intOf]; omega
    · go_wp2_with (go_at_call 16; refine (rWidth_any _ _).mono ?_; rintro e w' ⟨rfl, rfl⟩)
      go_ret
      refine ⟨ret_int ?_, rfl⟩
      have h2 := hy.out
      have : k = wd n := by omega
      unfold mask md
      rw [← this, ← h2]
      simp

theorem bits_step {w : World} {base : Nat} {e : TypeId} {v : Value} {k x z : Nat} (hz : Hid (z = x / 2 ^ k)) (h : w.ownsRow base e 1 v (k + 1) (nums (bitsOf k x) ++ [Value.int .i64 ((z : Int) % 2)])) :
    w.ownsRow base e 1 v (k + 1) (nums (bitsOf (k + 1) x)) := by
  have hz := hz.out
  have e1 : ((z : Int) % 2) = ((x / 2 ^ k % 2 : Nat) : Int) := by rw [← hz]; simp
  rw [e1, nums_append, ← bitsOf_succ] at h
  exact h
theorem half_step {k x z : Nat} (hz : Hid (z = x / 2 ^ k)) : Hid (z / 2 = x / 2 ^ (k + 1)) := by
  have hz := hz.out
  show z / 2 = _
  rw [hz, Nat.div_div_eq_div_mul, Nat.pow_succ]

set_option maxHeartbeats 400000 in
theorem rBits_any (n : Int) (x : Nat) (hx : x < 18446744073709551616) (w : World) :
    Calls Tryd.prog 14 #[.int .i64 n, .int .u64 x] w fun e w' => ∃ v, e = .returned v ∧ w'.ownsRow w.heap.size 3 1 v (wd n) (nums (bitsOf (wd n) x)) ∧ Below w.heap.size w w' := by
  have hw := wd_le n
  go_enter Tryd.func14, Tryd.ntmps14
  go_wp2
  go_loopw [1, 5, 6] (fun y v i wr => ∃ k z : Nat, k ≤ wd n ∧ i = .int .i64 k ∧ y = .int .u64 z ∧ z < 18446744073709551616 ∧ Hid (z = x / 2 ^ k) ∧ wr.ownsRow w.heap.size 3 1 v k (nums (bitsOf k x)) ∧ Below w.heap.size w wr) (fun _ _ i _ => wd n - (intOf i).toNat)
  case atStart => exact ⟨0, x, by omega, rfl, rfl, hx, by show x = x / 2 ^ 0; simp, World.ownsRow_nil _ _ _ _, Below.refl _ _⟩
  case round =>
    obtain ⟨k, z, hk, rfl, rfl, hz, hzx, hown, hbel⟩ := hrel
    by_cases hlt : k < wd n
    · have hsz := hbel.size
      go_wp2_with (first
        | (go_at_call 16; refine (rWidth_any _ _).mono ?_; rintro e w' ⟨rfl, rfl⟩)
        | (at_builtin; refine wpList_append_one wr (by rfl) _ _ _ (by rfl) w.heap.size 3 _ 8 Tryd.underlying40 infoInt (by rfl) _ k _ (by rfl) hown _ (by rfl) (by rfl) (by omega) (by omega) hsz ?_; intro v1 w1 hown1 hb1))
      have R := bits_step hzx hown1
      have hz1 := half_step hzx
      have hbel1 := hbel.trans hb1
      go_roundw
      case rel => exact ⟨k + 1, z / 2, by omega, by go_num, by go_num, by omega, hz1, R, hbel1⟩
      case measure => simp [intOf]; omega
    · go_wp2_with (go_at_call 16; refine (rWidth_any _ _).mono ?_; rintro e w' ⟨rfl, rfl⟩)
      go_ret
      obtain rfl : k = wd n := by omega
      exact ⟨_, rfl, hown, hbel⟩

theorem word_step {l : List Nat} {k : Nat} (hl : ∀ b ∈ l, b ≤ 1) (h64 : l.length ≤ 64) (hk : k < l.length) :
    2 * ofBits (l.drop (k + 1)) + l.getD k 0 < 18446744073709551616 := by
  have h1 := ofBits_lt (l.drop k) fun b hb => hl b (List.mem_of_mem_drop hb)
  rw [ofBits_drop hk] at h1
  have h2 : 2 ^ (l.drop k).length ≤ 2 ^ 64 := Nat.pow_le_pow_right (by omega) (by simp; omega)
  omega

set_option maxHeartbeats 400000 in
theorem rWord_any (l : List Nat) (hl : ∀ b ∈ l, b ≤ 1) (h64 : l.length ≤ 64) (v : Value) (base : Nat) (w : World) (hown : w.ownsRow base 3 1 v l.length (nums l)) :
    Calls Tryd.prog 17 #[v] w fun e w' => e = .returned (.int .u64 (ofBits l : Nat)) ∧ w = w' := by
  have HL := Lib.hid hl
  clear hl
  rcases own_cases hown rfl with ⟨rfl, rfl⟩ | ⟨g, cap, rfl, hbase, hg, hc, hm, hcell⟩
  · go_enter Tryd.func17, Tryd.ntmps17
    go_wp2
    refine wp_loop_rounds 1 ?_
    rw [rounds_succ]
    go_wp2
    go_ret
    exact ⟨rfl, rfl⟩
  · have HC := Lib.hid hcell
    clear hcell hown
    go_enter Tryd.func17, Tryd.ntmps17
    go_wp2
    go_loop [3, 4] (fun x i => ∃ k y : Nat, k ≤ l.length ∧ i = .int .i64 ((k : Int) - 1) ∧ x = .int .u64 y ∧ Hid (y = ofBits (l.drop k))) (fun _ i => (intOf i + 1).toNat)
    case atStart => exact ⟨l.length, 0, by omega, rfl, rfl, by show 0 = ofBits (l.drop l.length); simp [ofBits]⟩
    case round =>
      obtain ⟨k, y, hk, rfl, rfl, hy⟩ := hrel
      rcases k with _ | k
      · go_wp2
        go_ret
        exact ⟨ret_int (by rw [hy.out]; simp), rfl⟩
      · have hc := HC.out k (by omega)
        have hs := word_step HL.out h64 (k := k) (by omega)
        rw [← hy.out] at hs
        have hb := HL.out
        have he : Hid (2 * y + l.getD k 0 = ofBits (l.drop k)) := by show _ = _; rw [ofBits_drop (by omega), hy.out]; omega
        clear hb
        generalize l.getD k 0 = d at *
        have e0 : ((k + 1 : Nat) : Int) - 1 = (k : Int) := by omega
        rw [e0]
        clear e0
        go_wp2
        go_round
        case rel => exact ⟨k, 2 * y + d, by omega, by go_num, by go_num, he⟩
        case measure => simp [intOf]

theorem rFit_any (n : Int) (x : Nat) (hx : x < 18446744073709551616) (w : World) :
    Calls Tryd.prog 22 #[.int .i64 n, .int .u64 x] w fun e w' => e = .returned (.int .u64 (fit n x : Nat)) ∧ Below w.heap.size w w' := by
  have h64 := wd_le n
  go_enter Tryd.func22, Tryd.ntmps22
  go_wp2_with fail
  refine (rBits_any n x hx _).mono ?_
  rintro e w1 ⟨v, rfl, hown, hbel⟩
  go_wp2_with fail
  refine (rWord_any (bitsOf (wd n) x) (fun b hb => bitsOf_le hb) (by rw [bitsOf_length]; exact h64) v _ _ (by rw [bitsOf_length]; exact hown)).mono ?_
  rintro e w' ⟨rfl, rfl⟩
  go_wp2
  go_ret
  exact ⟨ret_int (by rw [ofBits_bitsOf]; rfl), hbel⟩

/-- Whether the highest bit of the word is 1. -/
def neg (n : Int) (x : Nat) : Bool := decide (¬ 2 * fit n x < md n)
theorem neg_zero {n : Int} (h : wd n = 0) (x : Nat) : neg n x = false := by
  unfold neg fit md
  rw [h]
  simp [Nat.mod_one]
theorem neg_top {n : Int} {k x : Nat} (h : wd n = k + 1) : neg n x = ((((x / 2 ^ k % 2 : Nat) : Int)) == 1) := by
  have h1 := mod_succ x k
  have h2 := Nat.mod_lt x (Nat.two_pow_pos k)
  unfold neg fit md
  rw [h, h1, Nat.pow_succ]
  generalize 2 ^ k = m at *
  generalize x % m = r at *
  have hb : x / m % 2 = 0 ∨ x / m % 2 = 1 := by omega
  rcases hb with hb | hb
  · rw [hb]; simp; omega
  · rw [hb]; simp; omega

theorem rNegative_any (n : Int) (x : Nat) (hx : x < 18446744073709551616) (w : World) :
    Calls Tryd.prog 15 #[.int .i64 n, .int .u64 x] w fun e w' => e = .returned (.bool (neg n x)) ∧ Below w.heap.size w w' := by
  have h64 := wd_le n
  go_enter Tryd.func15, Tryd.ntmps15
  go_wp2_with fail
  refine (rBits_any n x hx _).mono ?_
  rintro e w1 ⟨v, rfl, hown, hbel⟩
  rcases hk : wd n with _ | k
  · have hz := neg_zero hk x
    rw [hk] at hown
    rcases own_cases hown rfl with ⟨rfl, _⟩ | ⟨g, cap, rfl, hbase, hg, hc, hm, hcell⟩
    · clear hk hown
      go_wp2
      go_ret
      exact ⟨ret_bool hz.symm, hbel⟩
    · clear hk hown hcell
      go_wp2
      go_ret
      exact ⟨ret_bool hz.symm, hbel⟩
  · have hz := Lib.hid (neg_top (x := x) hk)
    rw [hk] at hown
    rcases own_cases hown (bitsOf_length _ _).symm with ⟨rfl, h0⟩ | ⟨g, cap, rfl, hbase, hg, hc, hm, hcell⟩
    · rw [bitsOf_succ] at h0; simp at h0
    · have hcell := hcell k (by rw [bitsOf_length]; omega)
      rw [bitsOf_get x (by omega)] at hcell
      have h63 : k < 64 := by omega
      clear hk hown
      generalize x / 2 ^ k % 2 = d at *
      go_wp2
      go_ret
      exact ⟨ret_bool hz.out.symm, hbel⟩

theorem minus_eq (n : Int) (x : Nat) : fit n (u64w ((mask n : Int) - (fit n x : Int) + 1)) = frm n (-(x : Int)) := by
  rw [fit_u64w]
  apply frm_mod_congr
  have h0 := md_pos n
  have e : ((mask n : Nat) : Int) - ((fit n x : Nat) : Int) + 1 = (md n : Int) - (x : Int) % (md n : Int) := by
    unfold mask fit
    rw [Int.natCast_emod]
    omega
  rw [e, Int.sub_emod, Int.emod_self, Int.emod_emod, Int.zero_sub]
  have h := Int.sub_emod 0 (x : Int) (md n : Int)
  rw [Int.zero_sub, Int.zero_emod, Int.zero_sub] at h
  exact h.symm
theorem rMinus_any (n : Int) (x : Nat) (hx : x < 18446744073709551616) (w : World) :
    Calls Tryd.prog 39 #[.int .i64 n, .int .u64 x] w fun e w' => e = .returned (.int .u64 (frm n (-(x : Int)) : Nat)) ∧ Below w.heap.size w w' := by
  have hF : fit n x ≤ mask n := by have := fit_md n x; have := md_pos n; unfold mask; omega
  have hM := mask_lt n
  have HE := Lib.hid (minus_eq n x)
  go_enter Tryd.func39, Tryd.ntmps39
  go_wp2_with fail
  refine (rOnes_any n _).mono ?_
  rintro e w' ⟨rfl, rfl⟩
  go_wp2_with fail
  refine (rFit_any n x hx _).mono ?_
  rintro e w1 ⟨rfl, hb1⟩
  go_wp2_with fail
  rw [wrap_u64w]
  refine (rFit_any n _ (u64w_lt _) _).mono ?_
  rintro e w2 ⟨rfl, hb2⟩
  rw [HE.out]
  go_wp2
  go_ret
  exact ⟨rfl, hb1.trans (hb2.mono hb1.size)⟩

theorem minus_neg {n : Int} {x : Nat} (h : neg n x = true) : 1 ≤ frm n (-(x : Int)) ∧ frm n (-(x : Int)) ≤ 9223372036854775808 ∧ -(((frm n (-(x : Int)) : Nat) : Int)) = sgn n x := by
  have h0 := md_pos n
  have h1 := md_le n
  have hf := fit_md n x
  have hn : ¬ 2 * fit n x < md n := of_decide_eq_true h
  have e : ((frm n (-(x : Int)) : Nat) : Int) = (md n : Int) - (fit n x : Int) := by
    rw [← minus_eq, fit_u64w, frm_cast]
    have e : ((mask n : Nat) : Int) - ((fit n x : Nat) : Int) + 1 = (md n : Int) - (fit n x : Int) := by unfold mask; omega
    rw [e]
    exact Int.emod_eq_of_lt (by omega) (by omega)
  have hs : sgn n x = (fit n x : Int) - md n := by unfold sgn; rw [if_neg hn]
  rw [hs]
  omega
theorem sgn_pos {n : Int} {x : Nat} (h : neg n x = false) : ((fit n x : Nat) : Int) = sgn n x ∧ fit n x < 9223372036854775808 := by
  have hn : 2 * fit n x < md n := by
    have := of_decide_eq_false h
    omega
  have h1 := md_le n
  exact ⟨by unfold sgn; rw [if_pos hn], by omega⟩

theorem rSigned_any (n : Int) (x : Nat) (hx : x < 18446744073709551616) (w : World) :
    Calls Tryd.prog 30 #[.int .i64 n, .int .u64 x] w fun e w' => e = .returned (.int .i64 (sgn n x)) ∧ Below w.heap.size w w' := by
  rcases hb : neg n x with _ | _
  · have ⟨h1, h2⟩ := sgn_pos hb
    have H1 := Lib.hid h1
    clear h1
    go_enter Tryd.func30, Tryd.ntmps30
    go_wp2_with fail
    refine (rNegative_any n x hx _).mono ?_
    rintro e w1 ⟨rfl, hb1⟩
    go_wp2_with fail
    refine (rFit_any n x hx _).mono ?_
    rintro e w2 ⟨rfl, hb2⟩
    go_wp2
    go_ret
    exact ⟨ret_int H1.out, hb1.trans (hb2.mono hb1.size)⟩
  · have ⟨h1, h2, h3⟩ := minus_neg hb
    have H3 := Lib.hid h3
    clear h3
    go_enter Tryd.func30, Tryd.ntmps30
    go_wp2_with fail
    refine (rNegative_any n x hx _).mono ?_
    rintro e w1 ⟨rfl, hb1⟩
    go_wp2_with fail
    refine (rMinus_any n x hx _).mono ?_
    rintro e w2 ⟨rfl, hb2⟩
    generalize frm n (-(x : Int)) = m at *
    go_wp2
    go_ret
    exact ⟨ret_int (by rw [← H3.out]; omega), hb1.trans (hb2.mono hb1.size)⟩
end Go.Proofs.YtcodfkeidbeooaaDoor
