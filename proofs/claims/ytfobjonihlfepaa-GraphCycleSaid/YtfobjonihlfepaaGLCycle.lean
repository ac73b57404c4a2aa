/- The law on Cycle: the walk. -/
import Derived.Test.YtfobjonihlfepaaCycAny
import Derived.Test.YtfobjonihlfepaaGMat
import Derived.Test.YtfobjonihlfepaaGLTopo
namespace Go.Proofs.Ytfobjonihlfepaa
open Go.RowKit
set_option linter.unusedVariables false

theorem cyc_next {E : Nat → Nat → Bool} {n : Nat} {C : List Nat} (h : IsCyc E n C) {i d : Nat} (hi : i < C.length) (hd : (i + 1 < C.length ∧ d = i + 1) ∨ (i + 1 = C.length ∧ d = 0)) : E (at0 C i) (at0 C d) = true := by
  rcases hd with ⟨h1, rfl⟩ | ⟨h1, rfl⟩
  · exact h.chain i h1
  · have := h.close
    rw [show C.length - 1 = i by omega] at this
    exact this
theorem cyc_diff {E : Nat → Nat → Bool} {n : Nat} {C : List Nat} (h : IsCyc E n C) {i k : Nat} (hi : i < C.length) (hk : k < i) : at0 C k ≠ at0 C i := by
  rw [at0_eq (by omega), at0_eq hi]
  intro e
  have := (List.getElem_inj h.nodup).1 e
  omega

set_option maxHeartbeats 4000000 in
set_option maxRecDepth 100000 in
theorem graphCycle_walk (N : Int) (_hN : -9223372036854775808 ≤ N ∧ N ≤ 9223372036854775807) (x : Option Addr) (len cap : Nat) (hlen : len ≤ 9223372036854775807) (ls : List (Int × Int)) (w : World) (hL : LinksAt w x len ls) :
    Calls Try.prog 5 #[gr N x len cap] w fun e w' => e = .returned (.bool true) ∧ Below w.heap.size w w' := by
  have hb := (Below.refl w.heap.size w).alloc (Nat.le_refl _) (.cells #[.int .i64 N, .slice x len cap] 24)
  by_cases hfew : nd N ≤ 24 ∧ len ≤ 100
  · have q := fewB_true hfew
    have hL1 := links_below hL hb (Nat.le_refl _)
    have hfew2 := hfew.2
    have hn24 := hfew.1
    have hcy := fun W h => Cycle_any N x len cap ls W h (by omega)
    have hto := fun W h => Topo_any N x len cap ls W h (by omega)
    have hma := fun W h => rMatrix_any N x len cap ls W h (by omega)
    clear hL hfew
    generalize hnn : nd N = n at *
    generalize hEE : edge ls n = E at *
    have HCY := Lib.hid hcy
    have HTO := Lib.hid hto
    have HMA := Lib.hid hma
    clear hcy hto hma hnn hEE
    go_enter Try.func5, Try.ntmps5
    go_wp2_with fail
    refine (awake_any _).mono ?_
    rintro e w1 ⟨rfl, H⟩
    obtain ⟨c0, c1, s1⟩ := boxed2 H
    go_wp2_with fail
    refine (few_any N x len cap hlen _).mono ?_
    rintro e w2 ⟨rfl, h2⟩
    replace H := H.trans (h2.mono H.size)
    clear c0 c1 s1 h2
    obtain ⟨c0, c1, s1⟩ := boxed2 H
    have hL2 := links_below hL1 H (Nat.le_refl _)
    go_wp2_with fail
    refine (HCY.out _ hL2).mono ?_
    rintro e w3 ⟨hres, h3⟩
    replace H := H.trans (h3.mono H.size)
    clear c0 c1 s1
    obtain ⟨c0, c1, s1⟩ := boxed2 H
    have hL3 := links_below hL1 H (Nat.le_refl _)
    rcases hres with ⟨rfl, hsome⟩ | ⟨C, g, j, cc, rfl, hC, hg, hcells⟩
    · have HS := Lib.hid hsome
      clear hsome
      go_wp2_with fail
      refine (HTO.out _ hL3).mono ?_
      rintro e w4 ⟨v, rfl, hown, h4⟩
      replace H := H.trans (h4.mono H.size)
      have hbel := hb.trans (H.mono (by simp))
      have hsm := HS.out
      clear c0 c1 s1 hown hL1 hL2 hL3 h3 h4 H
      generalize topo E n = T at *
      rw [hsm]
      go_wp2
      go_ret
      exact ⟨rfl, hbel⟩
    · have HNO := Lib.hid (topo_cyc hC)
      have HC := Lib.hid hC
      have HCE := Lib.hid hcells
      clear hC hcells
      go_wp2_with fail
      refine (HTO.out _ hL3).mono ?_
      rintro e w4 ⟨v, rfl, hown, h4⟩
      replace H := H.trans (h4.mono H.size)
      clear c0 c1 s1 hown
      obtain ⟨c0, c1, s1⟩ := boxed2 H
      have hL4 := links_below hL1 H (Nat.le_refl _)
      rw [HNO.out]
      have hce4 : Hid (∀ k, k < C.length → w4.cell? ⟨g, j + k, none⟩ = some (.int .i64 (at0 C k : Nat))) := Lib.hid fun k hk => (h4.cell (p := ⟨g, j + k, none⟩) (by exact hg)).trans (HCE.out k hk)
      have hg4 : g < w4.heap.size := Nat.lt_of_lt_of_le hg h4.size
      clear HCE
      go_wp2_with fail
      refine (HMA.out _ hL4).mono ?_
      rintro e w5 ⟨v5, rfl, ⟨ym, cm, rfl, hM⟩, h5⟩
      replace H := H.trans (h5.mono H.size)
      have hbel := hb.trans (H.mono (by simp))
      have hce5 : Hid (∀ k, k < C.length → w5.cell? ⟨g, j + k, none⟩ = some (.int .i64 (at0 C k : Nat))) := Lib.hid fun k hk => (h5.cell (p := ⟨g, j + k, none⟩) (by exact hg4)).trans (hce4.out k hk)
      have HM := Lib.hid hM
      have HBEL := Lib.hid hbel
      have hlc : C.length ≤ n := acc_le HC.out.nodup HC.out.lt
      have hpos := HC.out.pos
      clear c0 c1 s1 hL1 hL2 hL3 hL4 h3 h4 h5 H hce4 hM hbel hg hg4
      have hbnd := Lib.hid fun k (hk : k < C.length) => HC.out.lt (at0 C k) (by rw [at0_eq hk]; exact List.getElem_mem hk)
      have hnxt := Lib.hid fun i d (hi : i < C.length) hd => cyc_next HC.out (i := i) (d := d) hi hd
      have hdif := Lib.hid fun i k (hi : i < C.length) (hk : k < i) => cyc_diff HC.out (i := i) (k := k) hi hk
      generalize hll : C.length = lc at *
      clear hll
      go_wp2
      go_loopw [33] (fun i wr => ∃ k m : Nat, k ≤ lc ∧ i = .int .i64 k ∧ Hid (wr = w5.drewN m)) (fun i _ => lc - (intOf i).toNat)
      case atStart => exact ⟨0, 0, by omega, rfl, rfl⟩
      case round =>
        obtain ⟨i, m, hi, rfl, hw⟩ := hrel
        have hwr := hw.out
        subst hwr
        clear hw
        by_cases hil : i < lc
        · rcases HM.out with h0 | ⟨Bm, hym, hBm, hrows⟩
          · have := hbnd.out i hil; omega
          subst hym
          obtain ⟨d, hd, hdd⟩ : ∃ d, d < lc ∧ ((i + 1 < lc ∧ d = i + 1) ∨ (i + 1 = lc ∧ d = 0)) := by
            by_cases e : i + 1 < lc
            · exact ⟨i + 1, e, .inl ⟨e, rfl⟩⟩
            · exact ⟨0, by omega, .inr ⟨by omega, rfl⟩⟩
          have e1 := hce5.out i hil
          have e2 := hce5.out d hd
          have ha := hbnd.out i hil
          have hb' := hbnd.out d hd
          obtain ⟨gr', cr, e3, hgr, hr⟩ := hrows _ ha
          have e4 := hr _ hb'
          rw [hnxt.out i d hil hdd] at e4
          have hmod : Int.tmod ((i : Int) + 1) (lc : Int) = (d : Int) := by
            rcases hdd with ⟨h1, rfl⟩ | ⟨h1, rfl⟩
            · rw [Int.tmod_eq_of_lt (by omega) (by omega)]; omega
            · rw [show (i : Int) + 1 = (lc : Int) by omega, Int.tmod_self]; rfl
          have hlc0 : ¬ ((lc : Int) = 0) := by omega
          have hlc1 : ¬ (lc = 0) := by omega
          have hDI := Lib.hid fun k (hk : k < i) => hdif.out i k hil hk
          have hi0 : (0 : Int) ≤ (i : Int) := by omega
          have hi1 : (i : Int) < (lc : Int) := by omega
          have hd0 : (0 : Int) ≤ (d : Int) := by omega
          have hd1 : (d : Int) < (lc : Int) := by omega
          have hAI := Lib.hid (rfl : at0 C i = at0 C i)
          generalize haa : at0 C i = a at *
          have HAA := Lib.hid haa
          clear haa hAI
          generalize at0 C d = b at *
          have q5 : decide (n ≤ a) = false := by simp; omega
          have q6 : decide ((n : Int) ≤ (a : Int)) = false := by simp; omega
          have q7 : decide ((a : Int) < 0) = false := by simp
          have q8 : decide (n ≤ b) = false := by simp; omega
          have q9 : decide ((n : Int) ≤ (b : Int)) = false := by simp; omega
          have q10 : decide ((b : Int) < 0) = false := by simp
          have ha0 : (0 : Int) ≤ (a : Int) := by omega
          have ha1 : (a : Int) < (n : Int) := by omega
          have hb0 : (0 : Int) ≤ (b : Int) := by omega
          have hb1 : (b : Int) < (n : Int) := by omega
          clear hr hrows hdd
          go_wp2
          clear e2 e3 e4 hmod q5 q6 q7 q8 q9 q10 ha0 ha1 hb0 hb1 hd0 hd1
          go_loopw [82] (fun k wr => ∃ kk mq : Nat, kk ≤ i ∧ k = .int .i64 kk ∧ Hid (wr = w5.drewN mq)) (fun k _ => i - (intOf k).toNat)
          case atStart => exact ⟨0, m, by omega, rfl, rfl⟩
          case round =>
            obtain ⟨k, mq, hk, rfl, hw⟩ := hrel
            have hwr := hw.out
            subst hwr
            clear hw
            by_cases hki : k < i
            · have e5 := hce5.out k (by omega)
              have hne := hDI.out k hki
              have hk0 : (0 : Int) ≤ (k : Int) := by omega
              have hk1 : (k : Int) < (lc : Int) := by omega
              generalize at0 C k = z at *
              have hne2 : ¬ (z : Int) = (a : Int) := by omega
              go_wp2
              go_quiet (fail)
              go_wp2
              go_roundw
              case rel => exact ⟨k + 1, mq + nq, by omega, by go_num, by show _ = _; simp⟩
              case measure => simp [intOf]; omega
            · obtain rfl : i = k := by omega
              go_wp2
              go_roundw
              case rel => exact ⟨i + 1, mq, by omega, by go_num, rfl⟩
              case measure => simp [intOf]; omega
        · go_wp2
          have hbel := HBEL.out
          go_ret
          exact ⟨rfl, ⟨hbel.os, hbel.tape, hbel.output, hbel.size, hbel.block⟩⟩
  · have q := fewB_false hfew
    clear hL hfew
    go_enter Try.func5, Try.ntmps5
    go_wp2_with fail
    refine (awake_any _).mono ?_
    rintro e w1 ⟨rfl, H⟩
    obtain ⟨c0, c1, s1⟩ := boxed2 H
    go_wp2_with fail
    refine (few_any N x len cap hlen _).mono ?_
    rintro e w2 ⟨rfl, h2⟩
    replace H := H.trans (h2.mono H.size)
    clear c0 c1 s1 h2
    go_wp2_with fail
    refine (awake_any _).mono ?_
    rintro e w3 ⟨rfl, h3⟩
    replace H := H.trans (h3.mono H.size)
    have hbel := hb.trans (H.mono (by simp))
    go_wp2
    go_ret
    exact ⟨rfl, hbel⟩
end Go.Proofs.Ytfobjonihlfepaa
