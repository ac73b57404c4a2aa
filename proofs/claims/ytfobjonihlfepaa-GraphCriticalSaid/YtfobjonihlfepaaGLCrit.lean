/- The law on Critical: the walk. -/
import Derived.Test.YtfobjonihlfepaaGCrit
import Derived.Test.YtfobjonihlfepaaGLLong
namespace Go.Proofs.Ytfobjonihlfepaa
open Go.RowKit
set_option linter.unusedVariables false

theorem listAt_below' {w w' : World} {B : Nat} {x : Option Addr} {l : List Nat} (h : ListAt w x l) (hb : Below B w w') (hB : w.heap.size ≤ B) : ListAt w' x l := listAt_below h hb hB
theorem take_sum (W : Nat → Int) {P : List Nat} {k : Nat} (hk : k < P.length) : sumW W (P.take (k + 1)) = sumW W (P.take k) + W (at0 P k) := by
  rw [take_at0 hk, sumW_append]; simp [sumW]

set_option maxHeartbeats 4000000 in
set_option maxRecDepth 100000 in
theorem graphCritical_walk (N : Int) (_hN : -9223372036854775808 ≤ N ∧ N ≤ 9223372036854775807) (x : Option Addr) (len cap : Nat) (hlen : len ≤ 9223372036854775807) (ls : List (Int × Int)) (xw : Option Addr) (lw cw : Nat) (hlw : lw ≤ 9223372036854775807) (zs : List Int) (w : World) (hL : LinksAt w x len ls) (hZ : WeightsAt w xw lw zs) :
    Calls Try.prog 10 #[gr N x len cap, .slice xw lw cw] w fun e w' => e = .returned (.bool true) ∧ Below w.heap.size w w' := by
  have hb := (Below.refl w.heap.size w).alloc (Nat.le_refl _) (.cells #[.int .i64 N, .slice x len cap] 24)
  have hn := nd_le N
  by_cases hfew : nd N ≤ 24 ∧ len ≤ 100
  · have q := fewB_true hfew
    have hL1 := links_below hL hb (Nat.le_refl _)
    have hZ1 := weights_below hZ hb (Nat.le_refl _)
    have hfew2 := hfew.2
    clear hL hfew hZ
    by_cases hw40 : lw ≤ 40
    · go_enter Try.func10, Try.ntmps10
      go_wp2_with fail
      refine (awake_any _).mono ?_
      rintro e w1 ⟨rfl, H⟩
      obtain ⟨c0, c1, s1⟩ := boxed2 H
      go_wp2_with fail
      refine (few_any N x len cap hlen _).mono ?_
      rintro e w2 ⟨rfl, h2⟩
      replace H := H.trans (h2.mono H.size)
      clear c0 c1 s1 h2
      obtain ⟨c0, c1, s1⟩ := boxed2 H
      have hL2 := links_below hL1 H (Nat.le_refl _)
      have hZ2 := weights_below hZ1 H (Nat.le_refl _)
      go_wp2_with fail
      refine (Critical_any N x len cap ls xw lw cw zs _ hL2 (by omega) hZ2 hlw).mono ?_
      rintro e w3 ⟨h3, hm⟩
      replace H := H.trans (h3.mono H.size)
      clear c0 c1 s1
      obtain ⟨c0, c1, s1⟩ := boxed2 H
      have hL3 := links_below hL1 H (Nat.le_refl _)
      have hZ3 := weights_below hZ1 H (Nat.le_refl _)
      have HLR := Lib.hid (rLongest_any N x len cap ls xw lw cw zs w3 hL3 (by omega) hZ3 hlw)
      have HL1 := Lib.hid hL1
      have HZ1 := Lib.hid hZ1
      clear hL1 hL2 hL3 hZ1 hZ2 hZ3 h3
      rcases hT : topo (edge ls (nd N)) (nd N) with _ | l
      · rw [hT] at hm
        subst hm
        have HT := Lib.hid hT
        clear hT
        go_wp2_with fail
        refine (HLR.out).mono ?_
        rintro e w4 ⟨h4, hm4⟩
        rw [HT.out] at hm4
        subst hm4
        have hbel := hb.trans ((H.trans (h4.mono H.size)).mono (by simp))
        clear H h4 c0 c1 s1
        go_wp2
        go_ret
        exact ⟨rfl, hbel⟩
      · rw [hT] at hm
        have HT := Lib.hid hT
        clear hT
        rcases hm with ⟨hn0, rfl⟩ | ⟨xp, cp, P, m, hn0, rfl, hP, hP0, hPn, hPm, hPe, hsum, hle, u, hu, hlu⟩
        · have HN0 := Lib.hid hn0
          clear hn0
          go_wp2_with fail
          refine (HLR.out).mono ?_
          rintro e w4 ⟨h4, hm4⟩
          rw [HT.out] at hm4
          obtain ⟨Bl2, rfl, hrow2⟩ := hm4
          have hbel := hb.trans ((H.trans (h4.mono H.size)).mono (by simp))
          rw [HN0.out]
          clear H h4 c0 c1 s1 hrow2
          go_wp2
          go_ret
          exact ⟨rfl, hbel⟩
        · have HP := Lib.hid (And.intro hP0 (And.intro hPm (And.intro hPe (And.intro hsum (And.intro hle hlu)))))
          clear hPm hPe hsum hle hlu
          go_wp2_with fail
          refine (HLR.out).mono ?_
          rintro e w4 ⟨h4, hm4⟩
          rw [HT.out] at hm4
          obtain ⟨Bl2, rfl, hrow2⟩ := hm4
          replace H := H.trans (h4.mono H.size)
          have hP4 := listAt_below hP h4 (Nat.le_refl _)
          clear hP h4 HLR c0 c1 s1
          obtain ⟨c0, c1, s1⟩ := boxed2 H
          have hL4 := links_below HL1.out H (Nat.le_refl _)
          have HMAT := Lib.hid (rMatrix_any N x len cap ls w4 hL4 (by omega))
          have hc00 := World.rowIs.cell hrow2 hn0
          have q1 : (nd N == 0) = false := by simp; omega
          have q2 : (((nd N : Nat) : Int) == 0) = false := by simp; omega
          have HROW := Lib.hid hrow2
          have HP4 := Lib.hid hP4
          clear hL4 hrow2 hP4
          generalize hEE : edge ls (nd N) = E at *
          generalize hnn : nd N = n at *
          clear hEE hnn
          go_wp2
          go_loop [10, 65] (fun mo i => ∃ (k : Nat) (z : Int), k ≤ n ∧ i = .int .i64 k ∧ mo = .int .i64 z ∧ Hid ((∀ v, v < k → lg E n (wt zs) l v ≤ z) ∧ ∃ v, v < n ∧ lg E n (wt zs) l v = z)) (fun _ i => n - (intOf i).toNat)
          case atStart => exact ⟨0, _, by omega, rfl, rfl, fun v h => by omega, 0, hn0, rfl⟩
          case round =>
            clear hc00
            obtain ⟨k, z, hk, rfl, rfl, hz⟩ := hrel
            by_cases hkn : k < n
            · have d1 := HROW.out.cell hkn
              have hz2 := Lib.hid (show ∀ z', z' = max z (lg E n (wt zs) l k) → ((∀ v, v < k + 1 → lg E n (wt zs) l v ≤ z') ∧ ∃ v, v < n ∧ lg E n (wt zs) l v = z') from fun z' hz' => by
                obtain ⟨h1, v0, h2, h3⟩ := hz.out
                refine ⟨fun v hv => ?_, ?_⟩
                · by_cases e : v = k
                  · subst e; omega
                  · have := h1 v (by omega); omega
                · by_cases hm : z ≤ lg E n (wt zs) l k
                  · exact ⟨k, hkn, by omega⟩
                  · exact ⟨v0, h2, by omega⟩)
              clear hz
              generalize lg E n (wt zs) l k = y at *
              go_wp2
              all_goals
                go_round
                case rel => exact ⟨k + 1, _, by omega, by go_num, rfl, hz2.out _ (by omega)⟩
                case measure => simp [intOf]; omega
            · obtain rfl : n = k := by omega
              have hmz : z = m := by
                obtain ⟨h1, v0, h2, h3⟩ := hz.out
                have a1 := HP.out.2.2.2.2.1 v0 h2
                have a2 := h1 u hu
                have a3 := HP.out.2.2.2.2.2
                omega
              have HMZ := Lib.hid hmz
              clear hz hmz
              go_wp2_with fail
              refine (HMAT.out).mono ?_
              rintro e w5 ⟨v, rfl, ⟨ym, cm, rfl, hM⟩, h5⟩
              have HM := Lib.hid hM
              have hP5 := Lib.hid (listAt_below HP4.out h5 (Nat.le_refl _))
              have hZ5 := Lib.hid (weights_below HZ1.out (H.trans (h5.mono H.size)) (Nat.le_refl _))
              have hbel := hb.trans ((H.trans (h5.mono H.size)).mono (by simp))
              clear hM h5 HMAT H c0 c1 s1
              go_wp2
              have hsb := fun k => sumW_bound (wt_bound zs) (P.take k)
              go_loopw [13, 79] (fun s i wr => ∃ k mq : Nat, k ≤ P.length ∧ i = .int .i64 k ∧ s = .int .i64 (sumW (wt zs) (P.take k)) ∧ Hid (wr = w5.drewN mq)) (fun _ i _ => P.length - (intOf i).toNat)
              case atStart => exact ⟨0, 0, by omega, rfl, by simp [sumW], rfl⟩
              case round =>
                obtain ⟨k, mq, hk, rfl, rfl, hw⟩ := hrel
                have hwr := hw.out
                subst hwr
                clear hw
                by_cases hkP : k < P.length
                · rcases hP5.out with h0 | ⟨g, hx, hg, hcells⟩
                  · omega
                  · rcases HM.out with h0 | ⟨B, hyB, hB, hrows⟩
                    · omega
                    · subst hx hyB
                      have e1 := hcells k hkP
                      have hcn : at0 P k < n := HP.out.2.1 _ (by rw [at0_eq hkP]; exact List.getElem_mem hkP)
                      have hZW := Lib.hid (fun (W : World) (hz : WeightsAt W xw lw zs) => rWeight_any xw lw cw zs (at0 P k) W hz hlw (by omega))
                      have hts := Lib.hid (take_sum (wt zs) hkP)
                      have hb1 := hsb k
                      have hb2 := hsb (k + 1)
                      rw [take_sum (wt zs) hkP] at hb2
                      have hwb := wt_bound zs (at0 P k)
                      have hkl : (P.take k).length ≤ 20000 := by simp; omega
                      have hkl2 : (P.take (k + 1)).length ≤ 20000 := by simp; omega
                      have hk0 : (0 : Int) ≤ (k : Int) := by omega
                      have hk1 : (k : Int) < (P.length : Int) := by omega
                      have hS1 : -30000000000000 ≤ sumW (wt zs) (P.take k) := by omega
                      have hS2 : sumW (wt zs) (P.take k) ≤ 30000000000000 := by omega
                      have q5 : decide (n ≤ at0 P k) = false := by simp; omega
                      have q6 : decide ((n : Int) ≤ ((at0 P k : Nat) : Int)) = false := by simp; omega
                      have q9 : decide (((at0 P k : Nat) : Int) < 0) = false := by simp
                      have HCE := Lib.hid hcells
                      have HRW := Lib.hid hrows
                      clear hb1 hb2 hsb hcells hrows hkl hkl2
                      by_cases hkz : k = 0
                      · have q7 : decide (0 < k) = false := by simp; omega
                        have q8 : decide ((0 : Int) < (k : Int)) = false := by simp; omega
                        generalize hcc : at0 P k = c at *
                        generalize hss : sumW (wt zs) (P.take k) = s at *
                        generalize hww : wt zs c = ww at *
                        clear hcc hss hww hkz
                        go_wp2
                        go_quiet (fail)
                        go_wp2_with (go_at_call 30; refine (hZW.out _ (by exact hZ5.out)).mono ?_; rintro e w' ⟨rfl, rfl⟩)
                        go_roundw
                        case rel => exact ⟨k + 1, mq + nq, by omega, by go_num, by rw [hts.out], by show _ = _; simp⟩
                        case measure => simp [intOf]; omega
                      · have q7 : decide (0 < k) = true := by simp; omega
                        have q8 : decide ((0 : Int) < (k : Int)) = true := by simp; omega
                        obtain ⟨j, hj⟩ : ∃ j, k = j + 1 := ⟨k - 1, by omega⟩
                        have hjP : j < P.length := by omega
                        have hcj : at0 P j < n := HP.out.2.1 _ (by rw [at0_eq hjP]; exact List.getElem_mem hjP)
                        have e2 := HCE.out j hjP
                        obtain ⟨g2, gc, e3, hg2, hr2⟩ := HRW.out (at0 P j) hcj
                        have e4 := hr2 (at0 P k) hcn
                        have hE := HP.out.2.2.1 j (by omega)
                        rw [← hj] at hE
                        rw [hE] at e4
                        have hj0 : (0 : Int) ≤ ((at0 P j : Nat) : Int) := by omega
                        have hj1 : ((at0 P j : Nat) : Int) < (n : Int) := by omega
                        have hw1 : IntKind.i64.wrap ((k : Int) - 1) = (j : Int) := by rw [IntKind.wrap_i64]; omega
                        have hjj0 : (0 : Int) ≤ (j : Int) := by omega
                        have hjj1 : (j : Int) < (P.length : Int) := by omega
                        have hjk : ((k : Int) - 1) = (j : Int) := by omega
                        clear hr2 hE
                        have HJ := Lib.hid hj
                        clear hj
                        generalize hcc : at0 P k = c at *
                        generalize hdd : at0 P j = d at *
                        generalize hss : sumW (wt zs) (P.take k) = s at *
                        generalize hww : wt zs c = ww at *
                        clear hcc hss hww hkz hdd
                        go_wp2
                        go_quiet (fail)
                        clear hw1 hjk
                        go_wp2_with (go_at_call 30; refine (hZW.out _ (by exact hZ5.out)).mono ?_; rintro e w' ⟨rfl, rfl⟩)
                        go_roundw
                        case rel => exact ⟨k + 1, mq + nq, by omega, by go_num, by rw [hts.out], by show _ = _; simp⟩
                        case measure => simp [intOf]; omega
                · obtain rfl : k = P.length := by omega
                  have hfin : sumW (wt zs) (P.take P.length) = m := by rw [List.take_length]; exact HP.out.2.2.2.1
                  rw [hfin]
                  have hzm := HMZ.out
                  subst hzm
                  have q5 : decide (0 < P.length) = true := by simp; omega
                  clear hfin hsb
                  go_wp2
                  go_ret
                  exact ⟨rfl, ⟨hbel.os, hbel.tape, hbel.output, hbel.size, hbel.block⟩⟩
    · go_enter Try.func10, Try.ntmps10
      go_wp2_with fail
      refine (awake_any _).mono ?_
      rintro e w1 ⟨rfl, H⟩
      obtain ⟨c0, c1, s1⟩ := boxed2 H
      go_wp2_with fail
      refine (few_any N x len cap hlen _).mono ?_
      rintro e w2 ⟨rfl, h2⟩
      replace H := H.trans (h2.mono H.size)
      clear c0 c1 s1 h2 hL1 hZ1
      go_wp2_with fail
      refine (awake_any _).mono ?_
      rintro e w3 ⟨rfl, h3⟩
      replace H := H.trans (h3.mono H.size)
      have hbel := hb.trans (H.mono (by simp))
      go_wp2
      go_ret
      exact ⟨rfl, hbel⟩
  · have q := fewB_false hfew
    clear hL hfew hZ
    go_enter Try.func10, Try.ntmps10
    go_wp2_with fail
    refine (awake_any _).mono ?_
    rintro e w1 ⟨rfl, H⟩
    obtain ⟨c0, c1, s1⟩ := boxed2 H
    go_wp2_with fail
    refine (few_any N x len cap hlen _).mono ?_
    rintro e w2 ⟨rfl, h2⟩
    replace H := H.trans (h2.mono H.size)
    clear c0 c1 s1 h2
    go_wp2_with fail
    refine (awake_any _).mono ?_
    rintro e w3 ⟨rfl, h3⟩
    replace H := H.trans (h3.mono H.size)
    have hbel := hb.trans (H.mono (by simp))
    go_wp2
    go_ret
    exact ⟨rfl, hbel⟩
end Go.Proofs.Ytfobjonihlfepaa
