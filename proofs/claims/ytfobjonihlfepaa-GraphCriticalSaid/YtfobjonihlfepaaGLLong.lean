/- The law on Longest: the walk; a list of weights that comes in, opened. -/
import Derived.Test.YtfobjonihlfepaaGLong
import Derived.Test.YtfobjonihlfepaaGOpen
namespace Go.Proofs.Ytfobjonihlfepaa
open Go.ChangeShapes Go.WideShapes Go.ChangeAt Go.RowKit
set_option linter.unusedVariables false

set_option maxRecDepth 100000 in
theorem open_weights {H : Type} {enc : TypeId × Value → H} {w : World} {base : Nat} {spare : Nat → Bool} {held : Bool} {r : Reach} {b0 : Nat} {v : Value} {d : DataW H} {p : List MemPlace}
    (hv : Value.okWide Try.prog w r b0 31 v) (h : DataW.Trod enc Try.prog w base spare held 31 v d p) :
    ∃ (x : Option Addr) (len cap : Nat) (zs : List Int), v = .slice x len cap ∧ len ≤ 9223372036854775807 ∧ WeightsAt w x len zs := by
  obtain ⟨a0, len0, cap0, rfl⟩ := okWide_slice Try.underlying31 hv
  obtain ⟨fuel, hf⟩ := h
  rcases open_ints Try.underlying31 Try.underlying3 (by kernel_rfl) hf with ⟨hcs, _⟩ | ⟨a, len, cap, zs, hcs, _, hl, hm, hz, _, hcell, hwz⟩
  · simp [Value.cells] at hcs
    obtain ⟨rfl, rfl, rfl⟩ := hcs
    exact ⟨none, 0, 0, [], rfl, by omega, rfl, .inl rfl⟩
  · simp [Value.cells] at hcs
    obtain ⟨rfl, rfl, rfl⟩ := hcs
    unfold maxLen at hm
    have hlz : len0 ≤ zs.length := by rw [hz]; split <;> omega
    refine ⟨some a, len0, cap0, zs.take len0, rfl, by omega, by simp; omega, ?_⟩
    by_cases h0 : len0 = 0
    · exact .inl h0
    · right
      have hc0 := hcell 0 (by omega)
      obtain ⟨b, o, s⟩ := a
      have hs : s = none := by simpa [Addr.add] using World.cell?_spot hc0
      subst hs
      refine ⟨b, o, rfl, ?_, fun i hi => ?_⟩
      · have := cell_lt hc0
        simpa [Addr.add] using this
      · have h1 := hcell i (by omega)
        rw [Go.WideShapes.add_plain] at h1
        have e : (zs.take len0).getD i 0 = zs.getD i 0 := by simp [List.getD, List.getElem?_take_of_lt hi]
        have hmem : zs.getD i 0 ∈ zs := by
          have : i < zs.length := by omega
          simp [List.getD, this]
        have hb := bounds_i64 (hwz _ hmem)
        rw [e]
        exact ⟨h1, hb⟩

/-- Two rows that read the same are one list of integers. -/
theorem intsAt_row {w : World} {b n : Nat} {f : Nat → Int} (h : intRow w b n f) : IntsAt w (some ⟨b, 0, none⟩) ((List.range n).map f) := by
  refine .inr ⟨b, rfl, h.lt, fun k hk => ?_⟩
  have hk' : k < n := by simpa using hk
  rw [h.cell hk']
  simp [List.getD, hk']

set_option maxHeartbeats 4000000 in
set_option maxRecDepth 100000 in
theorem graphLongest_walk (N : Int) (_hN : -9223372036854775808 ≤ N ∧ N ≤ 9223372036854775807) (x : Option Addr) (len cap : Nat) (hlen : len ≤ 9223372036854775807) (ls : List (Int × Int)) (xw : Option Addr) (lw cw : Nat) (hlw : lw ≤ 9223372036854775807) (zs : List Int) (w : World) (hL : LinksAt w x len ls) (hZ : WeightsAt w xw lw zs) :
    Calls Try.prog 9 #[gr N x len cap, .slice xw lw cw] w fun e w' => e = .returned (.bool true) ∧ Below w.heap.size w w' := by
  have hb := (Below.refl w.heap.size w).alloc (Nat.le_refl _) (.cells #[.int .i64 N, .slice x len cap] 24)
  have hn := nd_le N
  by_cases hfew : nd N ≤ 24 ∧ len ≤ 100
  · have q := fewB_true hfew
    have hL1 := links_below hL hb (Nat.le_refl _)
    have hZ1 := weights_below hZ hb (Nat.le_refl _)
    have hfew2 := hfew.2
    clear hL hfew hZ
    by_cases hw40 : lw ≤ 40
    · go_enter Try.func9, Try.ntmps9
      go_wp2_with fail
      refine (awake_any _).mono ?_
      rintro e w1 ⟨rfl, H⟩
      obtain ⟨c0, c1, s1⟩ := boxed2 H
      go_wp2_with fail
      refine (few_any N x len cap hlen _).mono ?_
      rintro e w2 ⟨rfl, h2⟩
      replace H := H.trans (h2.mono H.size)
      clear c0 c1 s1 h2
      obtain ⟨c0, c1, s1⟩ := boxed2 H
      have hL2 := links_below hL1 H (Nat.le_refl _)
      have hZ2 := weights_below hZ1 H (Nat.le_refl _)
      go_wp2_with fail
      refine (Longest_any N x len cap ls xw lw cw zs _ hL2 (by omega) hZ2 hlw).mono ?_
      rintro e w3 ⟨h3, hm⟩
      replace H := H.trans (h3.mono H.size)
      clear c0 c1 s1
      obtain ⟨c0, c1, s1⟩ := boxed2 H
      have hL3 := links_below hL1 H (Nat.le_refl _)
      have hZ3 := weights_below hZ1 H (Nat.le_refl _)
      have HLR := Lib.hid (rLongest_any N x len cap ls xw lw cw zs w3 hL3 (by omega) hZ3 hlw)
      clear hL1 hL2 hL3 hZ1 hZ2 hZ3 h3
      rcases hT : topo (edge ls (nd N)) (nd N) with _ | l
      · rw [hT] at hm
        subst hm
        have HT := Lib.hid hT
        clear hT
        go_wp2_with fail
        refine (HLR.out).mono ?_
        rintro e w4 ⟨h4, hm4⟩
        rw [HT.out] at hm4
        subst hm4
        have hbel := hb.trans ((H.trans (h4.mono H.size)).mono (by simp))
        have hy : IntsAt w4 none [] := .inl rfl
        clear H h4 c0 c1 s1
        go_wp2_with (go_at_call 16; refine (same_any none none 0 0 0 [] _ rfl hy hy (fun k => by simp) (by omega)).mono ?_; rintro e w' ⟨rfl, m, rfl⟩)
        go_ret
        exact ⟨rfl, ⟨hbel.os, hbel.tape, hbel.output, hbel.size, hbel.block⟩⟩
      · rw [hT] at hm
        obtain ⟨Bl, rfl, hrow⟩ := hm
        have hll : l.length = nd N := by have := (topoRun_lt (nd N) [] (fun a ha => by simp at ha) l hT).2; simpa using this
        have HLL := Lib.hid hll
        have HT := Lib.hid hT
        clear hT hll
        go_wp2_with fail
        refine (HLR.out).mono ?_
        rintro e w4 ⟨h4, hm4⟩
        rw [HT.out] at hm4
        obtain ⟨Bl2, rfl, hrow2⟩ := hm4
        have hbel := hb.trans ((H.trans (h4.mono H.size)).mono (by simp))
        have hy := intsAt_row (row_below hrow h4 hrow.lt)
        have hy2 := intsAt_row hrow2
        have hbd : ∀ k, -9223372036854775808 ≤ ((List.range (nd N)).map (lg (edge ls (nd N)) (nd N) (wt zs) l)).getD k 0 ∧ ((List.range (nd N)).map (lg (edge ls (nd N)) (nd N) (wt zs) l)).getD k 0 ≤ 9223372036854775807 := by
          intro k
          rcases Nat.lt_or_ge k (nd N) with hk | hk
          · have e : ((List.range (nd N)).map (lg (edge ls (nd N)) (nd N) (wt zs) l)).getD k 0 = lg (edge ls (nd N)) (nd N) (wt zs) l k := by simp [List.getD, hk]
            rw [e]
            have := lg_bound (E := edge ls (nd N)) (n := nd N) (wt_bound zs) l.length l rfl k
            have := HLL.out
            omega
          · have e : ((List.range (nd N)).map (lg (edge ls (nd N)) (nd N) (wt zs) l)).getD k 0 = 0 := by simp [List.getD, hk]
            omega
        have HBD := Lib.hid hbd
        have hlen6 : nd N ≤ 1000000 := by omega
        clear H h4 c0 c1 s1 hrow hrow2 hbd
        go_wp2_with (go_at_call 16; refine (same_any _ _ _ _ _ _ _ (by simp) hy hy2 HBD.out hlen6).mono ?_; rintro e w' ⟨rfl, m, rfl⟩)
        go_ret
        exact ⟨rfl, ⟨hbel.os, hbel.tape, hbel.output, hbel.size, hbel.block⟩⟩
    · go_enter Try.func9, Try.ntmps9
      go_wp2_with fail
      refine (awake_any _).mono ?_
      rintro e w1 ⟨rfl, H⟩
      obtain ⟨c0, c1, s1⟩ := boxed2 H
      go_wp2_with fail
      refine (few_any N x len cap hlen _).mono ?_
      rintro e w2 ⟨rfl, h2⟩
      replace H := H.trans (h2.mono H.size)
      clear c0 c1 s1 h2 hL1 hZ1
      go_wp2_with fail
      refine (awake_any _).mono ?_
      rintro e w3 ⟨rfl, h3⟩
      replace H := H.trans (h3.mono H.size)
      have hbel := hb.trans (H.mono (by simp))
      go_wp2
      go_ret
      exact ⟨rfl, hbel⟩
  · have q := fewB_false hfew
    clear hL hfew hZ
    go_enter Try.func9, Try.ntmps9
    go_wp2_with fail
    refine (awake_any _).mono ?_
    rintro e w1 ⟨rfl, H⟩
    obtain ⟨c0, c1, s1⟩ := boxed2 H
    go_wp2_with fail
    refine (few_any N x len cap hlen _).mono ?_
    rintro e w2 ⟨rfl, h2⟩
    replace H := H.trans (h2.mono H.size)
    clear c0 c1 s1 h2
    go_wp2_with fail
    refine (awake_any _).mono ?_
    rintro e w3 ⟨rfl, h3⟩
    replace H := H.trans (h3.mono H.size)
    have hbel := hb.trans (H.mono (by simp))
    go_wp2
    go_ret
    exact ⟨rfl, hbel⟩
end Go.Proofs.Ytfobjonihlfepaa
