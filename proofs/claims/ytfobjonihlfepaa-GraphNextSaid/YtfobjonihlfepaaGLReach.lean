/- The law on Reach: the walk. -/
import Derived.Test.YtfobjonihlfepaaGRReach
import Derived.Test.YtfobjonihlfepaaGOpen
import Derived.Deep.RegionHeld3
namespace Go.Proofs.Ytfobjonihlfepaa
open Go.RowKit
set_option linter.unusedVariables false

theorem row_eq {w w' : World} {E : Nat → Nat → Bool} {n : Nat} {fr : Int} {R R' : Nat → Bool} (h : ∀ u, u < n → (R u = true ↔ (0 ≤ fr ∧ fr < (n : Int)) ∧ ((u : Int) = fr ∨ Path E fr.toNat u))) (h' : ∀ u, u < n → (R' u = true ↔ (0 ≤ fr ∧ fr < (n : Int)) ∧ ((u : Int) = fr ∨ Path E fr.toNat u)))
    (u : Nat) (hu : u < n) : R' u = R u := by
  rw [Bool.eq_iff_iff, h u hu, h' u hu]

theorem below_of_drew {B : Nat} {w w' : World} (h : Below B w.drew w') : Below B w w' := ⟨h.os, h.tape, h.output, h.size, h.block⟩

set_option maxHeartbeats 4000000 in
set_option maxRecDepth 100000 in
theorem graphReach_walk (N : Int) (_hN : -9223372036854775808 ≤ N ∧ N ≤ 9223372036854775807) (x : Option Addr) (len cap : Nat) (hlen : len ≤ 9223372036854775807) (ls : List (Int × Int)) (fr : Int) (hfr : -9223372036854775808 ≤ fr ∧ fr ≤ 9223372036854775807) (w : World) (hL : LinksAt w x len ls) :
    Calls Try.prog 7 #[gr N x len cap, .int .i64 fr] w fun e w' => e = .returned (.bool true) ∧ Below w.heap.size w w' := by
  have hb := (Below.refl w.heap.size w).alloc (Nat.le_refl _) (.cells #[.int .i64 N, .slice x len cap] 24)
  have hn := nd_le N
  by_cases hfew : nd N ≤ 24 ∧ len ≤ 100
  · have q := fewB_true hfew
    have hL1 := links_below hL hb (Nat.le_refl _)
    have hfew2 := hfew.2
    clear hL hfew
    go_enter Try.func7, Try.ntmps7
    go_wp2_with fail
    refine (awake_any _).mono ?_
    rintro e w1 ⟨rfl, H⟩
    obtain ⟨c0, c1, s1⟩ := boxed2 H
    go_wp2_with fail
    refine (few_any N x len cap hlen _).mono ?_
    rintro e w2 ⟨rfl, h2⟩
    replace H := H.trans (h2.mono H.size)
    clear c0 c1 s1 h2
    obtain ⟨c0, c1, s1⟩ := boxed2 H
    have hL2 := links_below hL1 H (Nat.le_refl _)
    have hLE := Lib.hid (fun (W : World) (h : LinksAt W x len ls) => Reach_any N x len cap ls fr W h (by omega) hfr)
    have hLR := Lib.hid (fun (W : World) (h : LinksAt W x len ls) => rReach_any N x len cap ls fr W h (by omega) hfr)
    go_wp2
    go_region_held3 (fun w' => w'.cell? ⟨w.heap.size, 0, none⟩ = some (.int .i64 N) ∧ w'.cell? ⟨w.heap.size, 1, none⟩ = some (.slice x len cap))
      (first
        | go_keep
        | exact ⟨k0, k1⟩
        | exact ⟨j0, j1⟩)
      (first
        | (go_at_call 23; refine (hLE.out _ (by exact hL2)).mono ?_; rintro e w3 ⟨Br, R, rfl, hr3, hR3, hb3⟩; have hb3' := below_of_drew hb3; have H3 := H.trans (hb3'.mono H.size); have hk := boxed2 H3; have k0 := hk.1; have k1 := hk.2.1; have hL3 := links_below hL1 H3 (Nat.le_refl _); clear hk)
        | (go_at_call 24; refine (hLR.out _ (by exact hL3)).mono ?_; rintro e w4 ⟨Br4, R4, rfl, hr4, hR4, hb4⟩; have H4 := H3.trans (hb4.mono H3.size); have hk := boxed2 H4; have j0 := hk.1; have j1 := hk.2.1; clear hk))
    have hr3' := row_below hr3 hb4 hr3.lt
    have hRR := row_eq (w := w) (w' := w) hR3 hR4
    have HR3 := Lib.hid hr3'
    have HR4 := Lib.hid (World.rowIs.congr hr4 (fun u hu => congrArg Value.bool (hRR u hu)))
    have hbel := hb.trans (H4.mono (by simp))
    clear hr3 hr4 hr3' hRR hR3 hR4 hb3 hb3' hb4 hL1 hL2 hL3 H H3 H4 c0 c1 s1 k0 k1 j0 j1 hLE hLR
    generalize nd N = n at *
    go_wp2
    go_loopw [29] (fun i wr => ∃ k m : Nat, k ≤ n ∧ i = .int .i64 k ∧ Hid (wr = w4.drewN m)) (fun i _ => n - (intOf i).toNat)
    case atStart => exact ⟨0, 0, by omega, rfl, rfl⟩
    case round =>
      obtain ⟨k, m, hk, rfl, hw⟩ := hrel
      have hwr := hw.out
      subst hwr
      clear hw
      by_cases hkn : k < n
      · have e1 := HR3.out.cell hkn
        have e2 := HR4.out.cell hkn
        have hk0 : (0 : Int) ≤ (k : Int) := by omega
        have hk1 : (k : Int) < (n : Int) := by omega
        generalize R k = z at *
        go_wp2
        go_quiet (fail)
        cases z
        all_goals
          go_wp2
          go_roundw
          case rel => exact ⟨k + 1, m + nq, by omega, by go_num, by show _ = _; simp⟩
          case measure => simp [intOf]; omega
      · go_wp2
        go_ret
        exact ⟨rfl, ⟨hbel.os, hbel.tape, hbel.output, hbel.size, hbel.block⟩⟩
  · have q := fewB_false hfew
    clear hL hfew
    go_enter Try.func7, Try.ntmps7
    go_wp2_with fail
    refine (awake_any _).mono ?_
    rintro e w1 ⟨rfl, H⟩
    obtain ⟨c0, c1, s1⟩ := boxed2 H
    go_wp2_with fail
    refine (few_any N x len cap hlen _).mono ?_
    rintro e w2 ⟨rfl, h2⟩
    replace H := H.trans (h2.mono H.size)
    clear c0 c1 s1 h2
    go_wp2_with fail
    refine (awake_any _).mono ?_
    rintro e w3 ⟨rfl, h3⟩
    replace H := H.trans (h3.mono H.size)
    have hbel := hb.trans (H.mono (by simp))
    go_wp2
    go_ret
    exact ⟨rfl, hbel⟩
end Go.Proofs.Ytfobjonihlfepaa
