/- The law on division: the walk. -/
import Derived.Test.YtlnogenkhoclpaaBitDivMath
namespace Go.Proofs.Ytlnogenkhoclpaa
open Go.RowKit

theorem fit_bin' {op n : Int} {a b : Nat} (hn : 1 ≤ n ∧ n ≤ 64) (ha : a < md n) (hb : b < md n) : fit n (bin op n a b) = bin op n a b :=
  fit_self (bin_md (op := op) (show 0 < n by omega) ha hb)
theorem lt_of_md {n : Int} {a : Nat} (h : a < md n) : a < 18446744073709551616 := by have := md_le n; omega

set_option maxHeartbeats 2000000 in
set_option maxRecDepth 100000 in
theorem div_valid (n : Int) (hn : 1 ≤ n ∧ n ≤ 64) (a b : Nat) (ha : a < 18446744073709551616) (hb : b < 18446744073709551616) (w : World) :
    Calls Try.prog 4 #[.int .i64 n, .int .u64 (a : Int), .int .u64 (b : Int)] w fun e w' => e = .returned (.bool true) ∧ Below w.heap.size w w' := by
  have hd := decide_eq_true hn
  have HN := Lib.hid hn
  have HA := Lib.hid (fit_md n a)
  have HB := Lib.hid (fit_md n b)
  have hA := fit_lt n a
  have hB := fit_lt n b
  go_enter Try.func4, Try.ntmps4
  go_wp2_with (first
    | (go_at_call 11; refine (awake_any _).mono ?_; rintro e w' ⟨rfl, rfl⟩)
    | (go_at_call 16; refine (Fit_any _ _ (by assumption) _).mono ?_; rintro e w' ⟨rfl, rfl⟩)
    | (go_at_call 14; refine (rRight_any _ _).mono ?_; rintro e w' ⟨rfl, rfl⟩))
  clear ha hb hn
  generalize fit n a = A at *
  generalize fit n b = B at *
  have fA := fit_self HA.out
  have fB := fit_self HB.out
  have lM := mask_lt n
  -- the results of both rounds
  obtain ⟨q, hq⟩ : ∃ v, bin 5 n A B = v := ⟨_, rfl⟩
  obtain ⟨r, hr⟩ : ∃ v, bin 6 n A B = v := ⟨_, rfl⟩
  obtain ⟨q', hq'⟩ : ∃ v, bin 7 n A B = v := ⟨_, rfl⟩
  obtain ⟨r', hr'⟩ : ∃ v, bin 8 n A B = v := ⟨_, rfl⟩
  have Hn := HN.out
  have mq : q < md n := by rw [← hq]; exact bin_md (by omega) HA.out HB.out
  have mr : r < md n := by rw [← hr]; exact bin_md (by omega) HA.out HB.out
  have mq' : q' < md n := by rw [← hq']; exact bin_md (by omega) HA.out HB.out
  have mr' : r' < md n := by rw [← hr']; exact bin_md (by omega) HA.out HB.out
  obtain ⟨p, hp⟩ : ∃ v, bin 4 n q B = v := ⟨_, rfl⟩
  obtain ⟨p', hp'⟩ : ∃ v, bin 4 n q' B = v := ⟨_, rfl⟩
  have mp : p < md n := by rw [← hp]; exact bin_md (by omega) mq HB.out
  have mp' : p' < md n := by rw [← hp']; exact bin_md (by omega) mq' HB.out
  have hs : bin 2 n p r = A := by rw [← hp, ← hq, ← hr]; exact div_u HA.out
  have hs' : bin 2 n p' r' = A := by rw [← hp', ← hq', ← hr']; exact div_s HA.out HB.out
  have f1 := fit_self mq
  have f2 := fit_self mr
  have f3 := fit_self mq'
  have f4 := fit_self mr'
  have f5 := fit_self mp
  have f6 := fit_self mp'
  have l1 := lt_of_md mq
  have l2 := lt_of_md mr
  have l3 := lt_of_md mq'
  have l4 := lt_of_md mr'
  have l5 := lt_of_md mp
  have l6 := lt_of_md mp'
  have z1 : B = 0 → q = mask n := fun h => by rw [← hq]; show (if B = 0 then mask n else A / B) = _; rw [if_pos h]
  have z2 : B = 0 → A = r := fun h => by rw [← hr]; show _ = (if B = 0 then A else A % B); rw [if_pos h]
  have z3 : B = 0 → q' = mask n := fun h => by rw [← hq']; show (if B = 0 then mask n else frm n ((sgn n A).tdiv (sgn n B))) = _; rw [if_pos h]
  have z4 : B = 0 → A = r' := fun h => by rw [← hr']; show _ = (if B = 0 then A else frm n ((sgn n A).tmod (sgn n B))); rw [if_pos h]
  have zr : B ≠ 0 → r < B := fun h => by rw [← hr]; show (if B = 0 then A else A % B) < B; rw [if_neg h]; exact Nat.mod_lt _ (by omega)
  have zs : B ≠ 0 → SRem (sgn n A) (sgn n B) (sgn n r') := fun h => by rw [← hr', sgn_srem HB.out h]; exact srem_tmod _ _
  have zn : B ≠ 0 → sgn n B ≠ 0 := fun h => sgn_zero HB.out h
  have Z1 := Lib.hid z1
  have Z2 := Lib.hid z2
  have Z3 := Lib.hid z3
  have Z4 := Lib.hid z4
  have ZR := Lib.hid zr
  have ZS := Lib.hid zs
  have ZN := Lib.hid zn
  clear z1 z2 z3 z4 zr zs zn mq mr mq' mr' mp mp' Hn
  go_loopw [35] (fun i wr => ∃ k : Nat, k ≤ 2 ∧ i = .int .i64 k ∧ Below (w.heap.size + 1) (w.alloc (.cells #[.int .i64 5, .int .i64 6, .int .i64 7, .int .i64 8] 32)) wr) (fun i _ => 2 - (intOf i).toNat)
  case atStart => exact ⟨0, by omega, rfl, Below.refl _ _⟩
  case round =>
    obtain ⟨k, hk, rfl, hb⟩ := hrel
    have hz0 : w.heap.size < wr.heap.size := by have := hb.size; simp at this; omega
    have d0 : wr.cell? ⟨w.heap.size, 0, none⟩ = some (.int .i64 5) := by
      rw [hb.cell (p := ⟨w.heap.size, 0, none⟩) (by simp), World.cell?_alloc_at _ _ _ _ (by simp)]; rfl
    have d1 : wr.cell? ⟨w.heap.size, 1, none⟩ = some (.int .i64 6) := by
      rw [hb.cell (p := ⟨w.heap.size, 1, none⟩) (by simp), World.cell?_alloc_at _ _ _ _ (by simp)]; rfl
    have d2 : wr.cell? ⟨w.heap.size, 2, none⟩ = some (.int .i64 7) := by
      rw [hb.cell (p := ⟨w.heap.size, 2, none⟩) (by simp), World.cell?_alloc_at _ _ _ _ (by simp)]; rfl
    have d3 : wr.cell? ⟨w.heap.size, 3, none⟩ = some (.int .i64 8) := by
      rw [hb.cell (p := ⟨w.heap.size, 3, none⟩) (by simp), World.cell?_alloc_at _ _ _ _ (by simp)]; rfl
    have hbel : Below w.heap.size w wr := ((Below.refl _ _).alloc (Nat.le_refl _) _).trans (hb.mono (by omega))
    have hk3 : k = 0 ∨ k = 1 ∨ k = 2 := by omega
    clear hk
    rcases hk3 with rfl | rfl | rfl
    · by_cases hB0 : B = 0
      · have x1 := Z1.out hB0
        have x2 := Z2.out hB0
        subst x1 x2
        have hB1 : B ≤ 0 := by omega
        clear hB0
        go_wp2_with (first
          | (go_at_call 17; refine (Mask_any _ _).mono ?_; rintro e w' ⟨rfl, rfl⟩)
          | (go_at_call 12; refine (Binary_ok _ _ _ _ (by omega) HN.out (by assumption) (by assumption) _).mono ?_; rintro e w' ⟨rfl, rfl⟩))
        go_roundw
        case rel => exact ⟨1, by omega, rfl, hb.alloc (by omega) _⟩
        case measure => simp [intOf]
      · have x1 := ZR.out hB0
        go_wp2_with (first
          | (go_at_call 17; refine (Mask_any _ _).mono ?_; rintro e w' ⟨rfl, rfl⟩)
          | (go_at_call 12; refine (Binary_ok _ _ _ _ (by omega) HN.out (by assumption) (by assumption) _).mono ?_; rintro e w' ⟨rfl, rfl⟩))
        go_roundw
        case rel => exact ⟨1, by omega, rfl, hb.alloc (by omega) _⟩
        case measure => simp [intOf]
    · by_cases hB0 : B = 0
      · have x1 := Z3.out hB0
        have x2 := Z4.out hB0
        subst x1 x2
        have hB1 : B ≤ 0 := by omega
        clear hB0
        go_wp2_with (first
          | (go_at_call 17; refine (Mask_any _ _).mono ?_; rintro e w' ⟨rfl, rfl⟩)
          | (go_at_call 12; refine (Binary_ok _ _ _ _ (by omega) HN.out (by assumption) (by assumption) _).mono ?_; rintro e w' ⟨rfl, rfl⟩))
        go_roundw
        case rel => exact ⟨2, by omega, rfl, hb.alloc (by omega) _⟩
        case measure => simp [intOf]
      · have x1 := ZS.out hB0
        have x0 := ZN.out hB0
        have m1 := sgn_lo n A
        have m2 := sgn_hi n A
        have n1 := sgn_lo n B
        have n2 := sgn_hi n B
        have t1 := sgn_lo n r'
        have t2 := sgn_hi n r'
        obtain ⟨M, hM⟩ : ∃ v, sgn n A = v := ⟨_, rfl⟩
        obtain ⟨N, hN⟩ : ∃ v, sgn n B = v := ⟨_, rfl⟩
        obtain ⟨T, hT⟩ : ∃ v, sgn n r' = v := ⟨_, rfl⟩
        rw [hM, hN, hT] at x1
        rw [hN] at x0
        rw [hM] at m1 m2
        rw [hN] at n1 n2
        rw [hT] at t1 t2
        have hB1 : 1 ≤ B := by omega
        clear hB0
        have cN : 0 < N ∨ (N < 0 ∧ -9223372036854775807 ≤ N) ∨ N ≤ -9223372036854775808 := by omega
        have cT : (0 ≤ T ∧ T ≤ 0) ∨ (0 < T ∧ decide (T < 0) = false ∧ decide (M < 0) = false) ∨ (T < 0 ∧ decide (T < 0) = true ∧ decide (M < 0) = true) := by
          have h1 := x1.lo
          have h2 := x1.hi
          simp only [decide_eq_false_iff_not, decide_eq_true_iff]
          omega
        have bp : 0 < N → T < N ∧ -N < T := x1.p
        have bn : N < 0 → T < -N ∧ N < T := x1.q
        clear x1
        have BP := Lib.hid bp
        have BN := Lib.hid bn
        clear bp bn
        rcases cN with c1 | ⟨c1, c2⟩ | c1
        · have y1 := (BP.out c1).1
          have y2 := (BP.out c1).2
          rcases cT with ⟨e1, e2⟩ | ⟨e1, e2, e3⟩ | ⟨e1, e2, e3⟩
          all_goals
            go_wp2_with (first
              | (go_at_call 17; refine (Mask_any _ _).mono ?_; rintro e w' ⟨rfl, rfl⟩)
              | (go_at_call 12; refine (Binary_ok _ _ _ _ (by omega) HN.out (by assumption) (by assumption) _).mono ?_; rintro e w' ⟨rfl, rfl⟩)
              | (go_at_call 18; refine (Signed_any _ _ (by assumption) _).mono ?_; rintro e w' ⟨rfl, rfl⟩))
            go_roundw
            case rel => exact ⟨2, by omega, rfl, hb.alloc (by omega) _⟩
            case measure => simp [intOf]
        · have y1 := (BN.out c1).1
          have y2 := (BN.out c1).2
          rcases cT with ⟨e1, e2⟩ | ⟨e1, e2, e3⟩ | ⟨e1, e2, e3⟩
          all_goals
            go_wp2_with (first
              | (go_at_call 17; refine (Mask_any _ _).mono ?_; rintro e w' ⟨rfl, rfl⟩)
              | (go_at_call 12; refine (Binary_ok _ _ _ _ (by omega) HN.out (by assumption) (by assumption) _).mono ?_; rintro e w' ⟨rfl, rfl⟩)
              | (go_at_call 18; refine (Signed_any _ _ (by assumption) _).mono ?_; rintro e w' ⟨rfl, rfl⟩))
            go_roundw
            case rel => exact ⟨2, by omega, rfl, hb.alloc (by omega) _⟩
            case measure => simp [intOf]
        · have y1 := (BN.out (by omega)).1
          have y2 := (BN.out (by omega)).2
          have c2 : N < 0 := by omega
          have c3 : wrap64 (-N) = N := by rw [wrap64_eq]; omega
          rcases cT with ⟨e1, e2⟩ | ⟨e1, e2, e3⟩ | ⟨e1, e2, e3⟩
          all_goals
            go_wp2_with (first
              | (go_at_call 17; refine (Mask_any _ _).mono ?_; rintro e w' ⟨rfl, rfl⟩)
              | (go_at_call 12; refine (Binary_ok _ _ _ _ (by omega) HN.out (by assumption) (by assumption) _).mono ?_; rintro e w' ⟨rfl, rfl⟩)
              | (go_at_call 18; refine (Signed_any _ _ (by assumption) _).mono ?_; rintro e w' ⟨rfl, rfl⟩))
            go_roundw
            case rel => exact ⟨2, by omega, rfl, hb.alloc (by omega) _⟩
            case measure => simp [intOf]
    · go_wp2
      go_ret
      exact ⟨rfl, hbel⟩

theorem bitsDivision_walk (n : Int) (_hn : -9223372036854775808 ≤ n ∧ n ≤ 9223372036854775807) (a : Nat) (ha : a < 18446744073709551616) (b : Nat) (hb : b < 18446744073709551616) (w : World) :
    Calls Try.prog 4 #[.int .i64 n, .int .u64 (a : Int), .int .u64 (b : Int)] w fun e w' => e = .returned (.bool true) ∧ Below w.heap.size w w' := by
  by_cases hn : 1 ≤ n ∧ n ≤ 64
  · exact div_valid n hn a b ha hb w
  · have hd := decide_eq_false hn
    clear hn
    go_enter Try.func4, Try.ntmps4
    go_wp2_with (first
      | (go_at_call 11; refine (awake_any _).mono ?_; rintro e w' ⟨rfl, rfl⟩)
      | (go_at_call 14; refine (rRight_any _ _).mono ?_; rintro e w' ⟨rfl, rfl⟩))
    go_ret
    exact ⟨rfl, Below.refl _ _⟩
end Go.Proofs.Ytlnogenkhoclpaa
