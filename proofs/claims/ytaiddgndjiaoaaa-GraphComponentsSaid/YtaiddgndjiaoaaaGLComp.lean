/- The law on Components: the walk. -/
import Derived.Test.YtaiddgndjiaoaaaTarAny
import Derived.Test.YtaiddgndjiaoaaaGLTopo
namespace Go.Proofs.Ytaiddgndjiaoaaa
open Go.RowKit
set_option linter.unusedVariables false

def compL (E : Nat → Nat → Bool) (n : Nat) : List Int := ((List.range n).map (compB (wars E n))).map fun a : Nat => (a : Int)
theorem compL_length (E : Nat → Nat → Bool) (n : Nat) : (compL E n).length = n := by simp [compL]
theorem compL_bound (E : Nat → Nat → Bool) {n : Nat} (hn : n ≤ 20000) (k : Nat) : -9223372036854775808 ≤ (compL E n).getD k 0 ∧ (compL E n).getD k 0 ≤ 9223372036854775807 :=
  nums_bound (n := n) (fun v hv => by
    obtain ⟨u, hu, rfl⟩ := List.mem_map.1 hv
    have := compB_le (wars E n) u
    have := List.mem_range.1 hu
    omega) hn k
theorem compL_row {E : Nat → Nat → Bool} {n : Nat} {w : World} {B : Nat} (h : w.rowIs B 3 n (fun u => .int .i64 (compB (wars E n) u : Int))) : IntsAt w (some ⟨B, 0, none⟩) (compL E n) := by
  refine .inr ⟨B, rfl, h.lt, fun k hk => ?_⟩
  rw [compL_length] at hk
  rw [h.cell hk]
  simp [compL, List.getD, hk]
theorem compL_opp {E : Nat → Nat → Bool} {n : Nat} (hE : ∀ a b, E a b = true → a < n ∧ b < n) : compL (opp E) n = compL E n := by
  unfold compL
  rw [funext (comp_opp hE)]
theorem nd_nd (N : Int) : nd ((nd N : Nat) : Int) = nd N := by unfold nd; omega

set_option maxHeartbeats 4000000 in
set_option maxRecDepth 100000 in
theorem graphComponents_walk (N : Int) (_hN : -9223372036854775808 ≤ N ∧ N ≤ 9223372036854775807) (x : Option Addr) (len cap : Nat) (hlen : len ≤ 9223372036854775807) (ls : List (Int × Int)) (w : World) (hL : LinksAt w x len ls) :
    Calls Try.prog 6 #[gr N x len cap] w fun e w' => e = .returned (.bool true) ∧ Below w.heap.size w w' := by
  have hb := (Below.refl w.heap.size w).alloc (Nat.le_refl _) (.cells #[.int .i64 N, .slice x len cap] 24)
  by_cases hfew : nd N ≤ 24 ∧ len ≤ 100
  · have q := fewB_true hfew
    have hL1 := links_below hL hb (Nat.le_refl _)
    have hfew2 := hfew.2
    have hn24 := hfew.1
    have hE : ∀ a b, edge ls (nd N) a b = true → a < nd N ∧ b < nd N := edge_lt'
    have hcm := fun W h => Components_any N x len cap ls W h (by omega)
    have hrc := fun W h => rComponents_any N x len cap ls W h (by omega)
    have htn := fun W h => Turn_any N x len cap ls W h (by omega) (by omega)
    have htl : (turnTo (adj (opp (edge ls (nd N))) (nd N)) (nd N)).length ≤ 1000000 := by
      have h1 := turnTo_len (L := adj (opp (edge ls (nd N))) (nd N)) (n := nd N) (fun b => adj_length _ _ _) (nd N)
      have h2 : nd N * nd N ≤ 24 * 24 := Nat.mul_le_mul hn24 hn24
      omega
    have hct : ∀ (y : Option Addr) (c : Nat) (W : World), LinksAt W y (turnTo (adj (opp (edge ls (nd N))) (nd N)) (nd N)).length ((turnTo (adj (opp (edge ls (nd N))) (nd N)) (nd N)).map fun p => ((p.1 : Int), (p.2 : Int))) →
        Calls Try.prog 19 #[gr (nd N : Nat) y (turnTo (adj (opp (edge ls (nd N))) (nd N)) (nd N)).length c] W fun e w' => ∃ Bl : Nat, e = .returned (.slice (some ⟨Bl, 0, none⟩) (nd N) (nd N)) ∧ IntsAt w' (some ⟨Bl, 0, none⟩) (compL (edge ls (nd N)) (nd N)) ∧ Below W.heap.size W w' := by
      intro y c W h
      refine (Components_any (nd N : Nat) y _ c _ W h htl).mono ?_
      rintro e w' ⟨Bl, rfl, hr, hb⟩
      rw [nd_nd, edge_turn] at hr
      rw [nd_nd]
      exact ⟨Bl, rfl, compL_opp hE ▸ compL_row hr, hb⟩
    clear hL hfew
    have hnn := nd_le N
    have HBD := Lib.hid (compL_bound (edge ls (nd N)) hnn)
    have HLS := Lib.hid (compL_length (edge ls (nd N)) (nd N))
    have hrc2 : ∀ (W : World), LinksAt W x len ls → Calls Try.prog 20 #[gr N x len cap] W fun e w' => ∃ y c, e = .returned (.slice y (nd N) c) ∧ IntsAt w' y (compL (edge ls (nd N)) (nd N)) ∧ Below W.heap.size W w' := by
      intro W h
      refine (hrc W h).mono ?_
      rintro e w' ⟨v, rfl, ho, hb⟩
      have hlen : ((List.range (nd N)).map (compB (wars (edge ls (nd N)) (nd N)))).length = nd N := by simp
      have ho2 : w'.ownsRow W.heap.size 3 1 v ((List.range (nd N)).map (compB (wars (edge ls (nd N)) (nd N)))).length (nums ((List.range (nd N)).map (compB (wars (edge ls (nd N)) (nd N))))) := by rw [hlen]; exact ho
      obtain ⟨y, c, rfl, hy⟩ := intsAt_own ho2
      exact ⟨y, c, by rw [List.length_map, hlen], hy, hb⟩
    have hcm2 : ∀ (W : World), LinksAt W x len ls → Calls Try.prog 19 #[gr N x len cap] W fun e w' => ∃ Bl : Nat, e = .returned (.slice (some ⟨Bl, 0, none⟩) (nd N) (nd N)) ∧ IntsAt w' (some ⟨Bl, 0, none⟩) (compL (edge ls (nd N)) (nd N)) ∧ Below W.heap.size W w' := by
      intro W h
      refine (hcm W h).mono ?_
      rintro e w' ⟨Bl, rfl, hr, hb⟩
      exact ⟨Bl, rfl, compL_row hr, hb⟩
    clear hcm hrc htl hE
    generalize compL (edge ls (nd N)) (nd N) = CL at *
    generalize turnTo (adj (opp (edge ls (nd N))) (nd N)) (nd N) = TT at *
    have HCM := Lib.hid hcm2
    have HRC := Lib.hid hrc2
    have HTN := Lib.hid htn
    have HCT := Lib.hid hct
    clear hcm2 hrc2 htn hct
    have hnm : nd N ≤ 1000000 := by omega
    go_enter Try.func6, Try.ntmps6
    go_wp2_with fail
    refine (awake_any _).mono ?_
    rintro e w1 ⟨rfl, H⟩
    obtain ⟨c0, c1, s1⟩ := boxed2 H
    go_wp2_with fail
    refine (few_any N x len cap hlen _).mono ?_
    rintro e w2 ⟨rfl, h2⟩
    replace H := H.trans (h2.mono H.size)
    clear c0 c1 s1 h2
    obtain ⟨c0, c1, s1⟩ := boxed2 H
    have hL2 := links_below hL1 H (Nat.le_refl _)
    go_wp2_with fail
    refine (HCM.out _ hL2).mono ?_
    rintro e w3 ⟨B3, rfl, hy3, h3⟩
    replace H := H.trans (h3.mono H.size)
    clear c0 c1 s1 h3
    obtain ⟨c0, c1, s1⟩ := boxed2 H
    have hL3 := links_below hL1 H (Nat.le_refl _)
    go_wp2_with fail
    refine (HRC.out _ hL3).mono ?_
    rintro e w4 ⟨y4, cc4, rfl, hy4, h4⟩
    replace H := H.trans (h4.mono H.size)
    clear c0 c1 s1
    obtain ⟨c0, c1, s1⟩ := boxed2 H
    have hL4 := links_below hL1 H (Nat.le_refl _)
    have hy34 := intsAt_below hy3 h4 (Nat.le_refl _)
    go_wp2_with fail
    refine (same_any (some ⟨B3, 0, none⟩) y4 (nd N) (nd N) cc4 CL w4 HLS.out hy34 hy4 HBD.out hnm).mono ?_
    rintro e w5 ⟨rfl, m5, rfl⟩
    have bdr : Below w4.heap.size w4 (w4.drewN m5) := ⟨rfl, rfl, rfl, Nat.le_refl _, fun _ _ => rfl⟩
    have hL5 := links_below hL4 bdr (Nat.le_refl _)
    have hy5 := intsAt_below hy34 bdr (Nat.le_refl _)
    replace H := H.trans (bdr.mono H.size)
    clear c0 c1 s1 hy3 hy4 hy34 h4 hL1 hL2 hL3 hL4 bdr
    generalize w4.drewN m5 = w6 at *
    obtain ⟨c0, c1, s1⟩ := boxed2 H
    go_wp2_with (go_at_call 13; refine (HTN.out _ (by exact hL5)).mono ?_; rintro e w7 ⟨yt, ct, rfl, hL7, h7⟩)
    replace H := H.trans (h7.mono H.size)
    have hy7 := intsAt_below hy5 h7 (Nat.le_refl _)
    go_wp2_with (go_at_call 19; refine (HCT.out _ _ _ (by exact hL7)).mono ?_; rintro e w8 ⟨B8, rfl, hy8, h8⟩)
    replace H := H.trans (h8.mono H.size)
    have hy78 := intsAt_below hy7 h8 (Nat.le_refl _)
    have hbel := hb.trans (H.mono (by simp))
    go_wp2_with (go_at_call 14; refine (same_any (some ⟨B8, 0, none⟩) (some ⟨B3, 0, none⟩) (nd N) (nd N) (nd N) CL w8 HLS.out hy8 hy78 HBD.out hnm).mono ?_; rintro e w9 ⟨rfl, m9, rfl⟩)
    go_ret
    exact ⟨rfl, ⟨hbel.os, hbel.tape, hbel.output, hbel.size, hbel.block⟩⟩
  · have q := fewB_false hfew
    clear hL hfew
    go_enter Try.func6, Try.ntmps6
    go_wp2_with fail
    refine (awake_any _).mono ?_
    rintro e w1 ⟨rfl, H⟩
    obtain ⟨c0, c1, s1⟩ := boxed2 H
    go_wp2_with fail
    refine (few_any N x len cap hlen _).mono ?_
    rintro e w2 ⟨rfl, h2⟩
    replace H := H.trans (h2.mono H.size)
    clear c0 c1 s1 h2
    go_wp2_with fail
    refine (awake_any _).mono ?_
    rintro e w3 ⟨rfl, h3⟩
    replace H := H.trans (h3.mono H.size)
    have hbel := hb.trans (H.mono (by simp))
    go_wp2
    go_ret
    exact ⟨rfl, hbel⟩
end Go.Proofs.Ytaiddgndjiaoaaa
