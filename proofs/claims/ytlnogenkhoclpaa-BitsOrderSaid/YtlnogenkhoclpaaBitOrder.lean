/- The law on orders: the walk. -/
import Derived.Test.YtlnogenkhoclpaaBitComm
namespace Go.Proofs.Ytlnogenkhoclpaa
open Go.RowKit

theorem sgn_inj {w : Int} {a b : Nat} (ha : a < md w) (hb : b < md w) (h : sgn w a = sgn w b) : a = b := by
  have h1 : frm w (sgn w a) = a := by rw [frm_sgn, fit_self ha]
  have h2 : frm w (sgn w b) = b := by rw [frm_sgn, fit_self hb]
  rw [← h1, ← h2, h]
/-- What the law asks of seven results. -/
structure Ord (ab ba eq ne le bc ac : Nat) : Prop where
  one : 1 ≤ ab + ba + eq
  top : ab + ba + eq ≤ 1
  le1 : le ≤ ab + eq
  le2 : ab + eq ≤ le
  ne1 : 1 ≤ eq + ne
  ne2 : eq + ne ≤ 1
  tr : ab = 0 ∨ bc = 0 ∨ ac = 1
  bc1 : bc ≤ 1
  ac1 : ac ≤ 1
theorem b2n_true {p : Prop} [Decidable p] (h : p) : b2n (decide p) = 1 := by rw [decide_eq_true h]; rfl
theorem b2n_false {p : Prop} [Decidable p] (h : ¬ p) : b2n (decide p) = 0 := by rw [decide_eq_false h]; rfl
theorem b2n_not_true {p : Prop} [Decidable p] (h : p) : b2n (!decide p) = 0 := by rw [decide_eq_true h]; rfl
theorem b2n_not_false {p : Prop} [Decidable p] (h : ¬ p) : b2n (!decide p) = 1 := by rw [decide_eq_false h]; rfl
theorem ord_of (x y z : Int) (p : Prop) [Decidable p] (hp : p ↔ x = y) :
    Ord (b2n (decide (x < y))) (b2n (decide (y < x))) (b2n (decide p)) (b2n (!decide p)) (b2n (decide (x ≤ y))) (b2n (decide (y < z))) (b2n (decide (x < z))) := by
  have l1 := b2n_le (decide (y < z))
  have l2 := b2n_le (decide (x < z))
  rcases Int.lt_trichotomy x y with h | h | h
  · rw [b2n_true h, b2n_false (show ¬ y < x by omega), b2n_false (show ¬ p by rw [hp]; omega), b2n_not_false (show ¬ p by rw [hp]; omega), b2n_true (show x ≤ y by omega)]
    refine ⟨by omega, by omega, by omega, by omega, by omega, by omega, ?_, l1, l2⟩
    by_cases hz : y < z
    · exact .inr (.inr (b2n_true (by omega)))
    · exact .inr (.inl (b2n_false hz))
  · rw [b2n_false (show ¬ x < y by omega), b2n_false (show ¬ y < x by omega), b2n_true (show p by rw [hp]; omega), b2n_not_true (show p by rw [hp]; omega), b2n_true (show x ≤ y by omega)]
    exact ⟨by omega, by omega, by omega, by omega, by omega, by omega, .inl rfl, l1, l2⟩
  · rw [b2n_false (show ¬ x < y by omega), b2n_true h, b2n_false (show ¬ p by rw [hp]; omega), b2n_not_false (show ¬ p by rw [hp]; omega), b2n_false (show ¬ x ≤ y by omega)]
    exact ⟨by omega, by omega, by omega, by omega, by omega, by omega, .inl rfl, l1, l2⟩
theorem ord_u (n : Int) (x y z : Nat) : Ord (bin 17 n x y) (bin 17 n y x) (bin 15 n x y) (bin 16 n x y) (bin 18 n x y) (bin 17 n y z) (bin 17 n x z) := by
  have h := ord_of (x : Int) (y : Int) (z : Int) (x = y) (by omega)
  have e1 : ∀ a b : Nat, b2n (decide ((a : Int) < (b : Int))) = b2n (decide (a < b)) := fun a b => by rw [decide_eq_decide.2 (show (a : Int) < (b : Int) ↔ a < b from by omega)]
  have e2 : ∀ a b : Nat, b2n (decide ((a : Int) ≤ (b : Int))) = b2n (decide (a ≤ b)) := fun a b => by rw [decide_eq_decide.2 (show (a : Int) ≤ (b : Int) ↔ a ≤ b from by omega)]
  simp only [e1, e2] at h
  exact h
theorem ord_s {n : Int} {x y z : Nat} (hx : x < md n) (hy : y < md n) : Ord (bin 19 n x y) (bin 19 n y x) (bin 15 n x y) (bin 16 n x y) (bin 20 n x y) (bin 19 n y z) (bin 19 n x z) :=
  ord_of (sgn n x) (sgn n y) (sgn n z) (x = y) ⟨fun h => by rw [h], sgn_inj hx hy⟩

set_option maxHeartbeats 1000000 in
set_option maxRecDepth 100000 in
theorem order_valid (n : Int) (hn : 1 ≤ n ∧ n ≤ 64) (x y z : Nat) (hx : x < 18446744073709551616) (hy : y < 18446744073709551616) (hz : z < 18446744073709551616) (w : World) :
    Calls Try.prog 9 #[.int .i64 n, .agg #[.int .u64 (x : Int), .int .u64 (y : Int), .int .u64 (z : Int)]] w fun e w' => e = .returned (.bool true) ∧ Below w.heap.size w w' := by
  have hd := decide_eq_true hn
  have HN := Lib.hid hn
  have HU := Lib.hid (ord_u n (fit n x) (fit n y) (fit n z))
  have HS := Lib.hid (ord_s (z := fit n z) (fit_md n x) (fit_md n y))
  clear hn
  obtain ⟨ru0, hu0⟩ : ∃ v, bin 17 n (fit n x) (fit n y) = v := ⟨_, rfl⟩
  obtain ⟨ru1, hu1⟩ : ∃ v, bin 17 n (fit n y) (fit n x) = v := ⟨_, rfl⟩
  obtain ⟨ru2, hu2⟩ : ∃ v, bin 15 n (fit n x) (fit n y) = v := ⟨_, rfl⟩
  obtain ⟨ru3, hu3⟩ : ∃ v, bin 16 n (fit n x) (fit n y) = v := ⟨_, rfl⟩
  obtain ⟨ru4, hu4⟩ : ∃ v, bin 18 n (fit n x) (fit n y) = v := ⟨_, rfl⟩
  obtain ⟨ru5, hu5⟩ : ∃ v, bin 17 n (fit n y) (fit n z) = v := ⟨_, rfl⟩
  obtain ⟨ru6, hu6⟩ : ∃ v, bin 17 n (fit n x) (fit n z) = v := ⟨_, rfl⟩
  obtain ⟨rs0, hs0⟩ : ∃ v, bin 19 n (fit n x) (fit n y) = v := ⟨_, rfl⟩
  obtain ⟨rs1, hs1⟩ : ∃ v, bin 19 n (fit n y) (fit n x) = v := ⟨_, rfl⟩
  obtain ⟨rs4, hs4⟩ : ∃ v, bin 20 n (fit n x) (fit n y) = v := ⟨_, rfl⟩
  obtain ⟨rs5, hs5⟩ : ∃ v, bin 19 n (fit n y) (fit n z) = v := ⟨_, rfl⟩
  obtain ⟨rs6, hs6⟩ : ∃ v, bin 19 n (fit n x) (fit n z) = v := ⟨_, rfl⟩
  rw [hu0, hu1, hu2, hu3, hu4, hu5, hu6] at HU
  rw [hs0, hs1, hu2, hu3, hs4, hs5, hs6] at HS
  go_enter Try.func9, Try.ntmps9
  go_wp2_with (first
    | (go_at_call 11; refine (awake_any _).mono ?_; rintro e w' ⟨rfl, rfl⟩)
    | (go_at_call 14; refine (rRight_any _ _).mono ?_; rintro e w' ⟨rfl, rfl⟩))
  go_loopw [30] (fun i wr => ∃ k : Nat, k ≤ 2 ∧ i = .int .i64 k ∧ Below (w.heap.size + 2) ((w.alloc (.cells #[.int .u64 (x : Int), .int .u64 (y : Int), .int .u64 (z : Int)] 42)).alloc (.cells #[.int .i64 17, .int .i64 18, .int .i64 19, .int .i64 20] 32)) wr) (fun i _ => 2 - (intOf i).toNat)
  case atStart => exact ⟨0, by omega, rfl, Below.refl _ _⟩
  case round =>
    obtain ⟨k, hk, rfl, hb⟩ := hrel
    have hz0 : w.heap.size + 1 < wr.heap.size := by have := hb.size; simp at this; omega
    have c0 : wr.cell? ⟨w.heap.size, 0, none⟩ = some (.int .u64 (x : Int)) := by
      rw [hb.cell (p := ⟨w.heap.size, 0, none⟩) (by simp), World.cell?_alloc_past _ _ _ (by simp), World.cell?_alloc_at _ _ _ _ rfl]; rfl
    have c1 : wr.cell? ⟨w.heap.size, 1, none⟩ = some (.int .u64 (y : Int)) := by
      rw [hb.cell (p := ⟨w.heap.size, 1, none⟩) (by simp), World.cell?_alloc_past _ _ _ (by simp), World.cell?_alloc_at _ _ _ _ rfl]; rfl
    have c2 : wr.cell? ⟨w.heap.size, 2, none⟩ = some (.int .u64 (z : Int)) := by
      rw [hb.cell (p := ⟨w.heap.size, 2, none⟩) (by simp), World.cell?_alloc_past _ _ _ (by simp), World.cell?_alloc_at _ _ _ _ rfl]; rfl
    have d0 : wr.cell? ⟨w.heap.size + 1, 0, none⟩ = some (.int .i64 17) := by
      rw [hb.cell (p := ⟨w.heap.size + 1, 0, none⟩) (by simp), World.cell?_alloc_at _ _ _ _ (by simp)]; rfl
    have d1 : wr.cell? ⟨w.heap.size + 1, 1, none⟩ = some (.int .i64 18) := by
      rw [hb.cell (p := ⟨w.heap.size + 1, 1, none⟩) (by simp), World.cell?_alloc_at _ _ _ _ (by simp)]; rfl
    have d2 : wr.cell? ⟨w.heap.size + 1, 2, none⟩ = some (.int .i64 19) := by
      rw [hb.cell (p := ⟨w.heap.size + 1, 2, none⟩) (by simp), World.cell?_alloc_at _ _ _ _ (by simp)]; rfl
    have d3 : wr.cell? ⟨w.heap.size + 1, 3, none⟩ = some (.int .i64 20) := by
      rw [hb.cell (p := ⟨w.heap.size + 1, 3, none⟩) (by simp), World.cell?_alloc_at _ _ _ _ (by simp)]; rfl
    have f0 : ∀ o, (wr.alloc o).cell? ⟨w.heap.size, 0, none⟩ = some (.int .u64 (x : Int)) := fun o => by rw [World.cell?_alloc_past _ _ _ (show w.heap.size < wr.heap.size by omega)]; exact c0
    have f1 : ∀ o, (wr.alloc o).cell? ⟨w.heap.size, 1, none⟩ = some (.int .u64 (y : Int)) := fun o => by rw [World.cell?_alloc_past _ _ _ (show w.heap.size < wr.heap.size by omega)]; exact c1
    have f2 : ∀ o, (wr.alloc o).cell? ⟨w.heap.size, 2, none⟩ = some (.int .u64 (z : Int)) := fun o => by rw [World.cell?_alloc_past _ _ _ (show w.heap.size < wr.heap.size by omega)]; exact c2
    clear c0 c1 c2
    have hbel : Below w.heap.size w wr := (((Below.refl _ _).alloc (Nat.le_refl _) _).alloc (by simp) _).trans (hb.mono (by omega))
    have hk3 : k = 0 ∨ k = 1 ∨ k = 2 := by omega
    clear hk
    rcases hk3 with rfl | rfl | rfl
    · obtain ⟨o1, o2, o3, o4, o5, o6, o7, o8, o9⟩ := HU.out
      rcases (show ru0 ≤ 0 ∨ (1 ≤ ru0 ∧ ru5 ≤ 0) ∨ (1 ≤ ru0 ∧ 1 ≤ ru5 ∧ 1 ≤ ru6) by omega) with hh | hh | hh
      all_goals
        clear o7
        go_wp2_with (first
          | (go_at_call 12; refine (Binary_ok _ _ _ _ (by omega) HN.out (by assumption) (by assumption) _).mono ?_; rintro e w' ⟨rfl, rfl⟩))
        go_roundw
        case rel => exact ⟨1, by omega, rfl, hb.alloc (by omega) _⟩
        case measure => simp [intOf]
    · obtain ⟨o1, o2, o3, o4, o5, o6, o7, o8, o9⟩ := HS.out
      rcases (show rs0 ≤ 0 ∨ (1 ≤ rs0 ∧ rs5 ≤ 0) ∨ (1 ≤ rs0 ∧ 1 ≤ rs5 ∧ 1 ≤ rs6) by omega) with hh | hh | hh
      all_goals
        clear o7
        go_wp2_with (first
          | (go_at_call 12; refine (Binary_ok _ _ _ _ (by omega) HN.out (by assumption) (by assumption) _).mono ?_; rintro e w' ⟨rfl, rfl⟩))
        go_roundw
        case rel => exact ⟨2, by omega, rfl, hb.alloc (by omega) _⟩
        case measure => simp [intOf]
    · go_wp2
      go_ret
      exact ⟨rfl, hbel⟩

theorem bitsOrder_walk (n : Int) (_hn : -9223372036854775808 ≤ n ∧ n ≤ 9223372036854775807) (x : Nat) (hx : x < 18446744073709551616) (y : Nat) (hy : y < 18446744073709551616) (z : Nat) (hz : z < 18446744073709551616) (w : World) :
    Calls Try.prog 9 #[.int .i64 n, .agg #[.int .u64 (x : Int), .int .u64 (y : Int), .int .u64 (z : Int)]] w fun e w' => e = .returned (.bool true) ∧ Below w.heap.size w w' := by
  by_cases hn : 1 ≤ n ∧ n ≤ 64
  · exact order_valid n hn x y z hx hy hz w
  · have hd := decide_eq_false hn
    clear hn
    go_enter Try.func9, Try.ntmps9
    go_wp2_with (first
      | (go_at_call 11; refine (awake_any _).mono ?_; rintro e w' ⟨rfl, rfl⟩)
      | (go_at_call 14; refine (rRight_any _ _).mono ?_; rintro e w' ⟨rfl, rfl⟩))
    go_ret
    exact ⟨rfl, below1 _ _⟩
end Go.Proofs.Ytlnogenkhoclpaa
