/- The law on Next: the walk. -/
import Derived.Test.YtfobjonihlfepaaGLReach
import Derived.Test.YtfobjonihlfepaaGLTopo
import Derived.Test.YtfobjonihlfepaaGRNext
import Derived.Test.YtfobjonihlfepaaGTurn
import Derived.Deep.RegionHeld3
namespace Go.Proofs.Ytfobjonihlfepaa
open Go.RowKit
set_option linter.unusedVariables false

theorem turnTo_pre (L : Nat → List Nat) (i : Nat) : ∀ d, turnTo L i <+: turnTo L (i + d) := by
  intro d
  induction d with
  | zero => exact List.prefix_refl _
  | succ d ih => exact ih.trans (by rw [← Nat.add_assoc, turnTo_succ]; exact List.prefix_append _ _)
theorem revTo_pre (E : Nat → Nat → Bool) (b i : Nat) : ∀ d, revTo E i b <+: revTo E (i + d) b := by
  intro d
  induction d with
  | zero => exact List.prefix_refl _
  | succ d ih =>
    refine ih.trans ?_
    rw [← Nat.add_assoc, revTo_succ]
    split
    · exact List.prefix_append _ _
    · exact List.prefix_refl _
theorem getElem?_pre {α : Type} {l m : List α} (h : l <+: m) {i : Nat} {x : α} (hx : l[i]? = some x) : m[i]? = some x := by
  obtain ⟨r, rfl⟩ := h
  obtain ⟨hi, _⟩ := List.getElem?_eq_some_iff.1 hx
  rw [List.getElem?_append_left hi]
  exact hx
/-- Where the link from b to a stands in the turned graph. -/
theorem link_here {E : Nat → Nat → Bool} {n a b : Nat} (ha : a < n) (hb : b < n) (hE : E a b = true) :
    (turnTo (adj (opp E) n) n)[(turnTo (adj (opp E) n) b).length + (revTo E a b).length]? = some (b, a) := by
  have h1 : (revTo E n b)[(revTo E a b).length]? = some a := by
    have h := revTo_pre E b (a + 1) (n - (a + 1))
    rw [show a + 1 + (n - (a + 1)) = n by omega] at h
    refine getElem?_pre h ?_
    rw [revTo_succ, if_pos hE]
    simp
  have h2 := turnTo_pre (adj (opp E) n) (b + 1) (n - (b + 1))
  rw [show b + 1 + (n - (b + 1)) = n by omega] at h2
  refine getElem?_pre h2 ?_
  rw [turnTo_succ, List.getElem?_append_right (by omega), Nat.add_sub_cancel_left, List.getElem?_map, ← revTo_adj, h1]
  rfl
theorem turn_cnt_le {E : Nat → Nat → Bool} {n b : Nat} (hb : b < n) (hn : n ≤ 24) : (turnTo (adj (opp E) n) b).length ≤ 576 := by
  have h1 := turnTo_len (L := adj (opp E) n) (n := n) (fun b => adj_length _ _ _) b
  have h2 : b * n ≤ 24 * 24 := Nat.mul_le_mul (by omega) (by omega)
  omega
theorem ints_of_list {w : World} {x : Option Addr} {l : List Nat} (h : ListAt w x l) : IntsAt w x (l.map fun a : Nat => (a : Int)) := by
  rcases h with h0 | ⟨g, hx, hg, hc⟩
  · exact .inl (by simpa using h0)
  · refine .inr ⟨g, hx, hg, fun k hk => ?_⟩
    have hk' : k < l.length := by simpa using hk
    rw [hc k hk', at0_eq hk']
    simp [List.getD, hk']

/-- What the law's loops read. -/
def NextAt (w : World) (n : Nat) (E : Nat → Nat → Bool) (Bg : Nat) (yw : Option Addr) (p : Nat) (yt : Option Addr) (ct : Nat) : Prop :=
  AdjAt w Bg n (adj E n) ∧ (n = 0 ∨ ∃ B, yw = some ⟨B, 0, none⟩ ∧ AdjAt w B n (adj E n)) ∧
  w.cell? ⟨p, 0, none⟩ = some (.int .i64 (n : Int)) ∧ w.cell? ⟨p, 1, none⟩ = some (.slice yt (turnTo (adj (opp E) n) n).length ct) ∧
  LinksAt w yt (turnTo (adj (opp E) n) n).length ((turnTo (adj (opp E) n) n).map fun p => ((p.1 : Int), (p.2 : Int)))
theorem nextAt_drew {w : World} {n : Nat} {E : Nat → Nat → Bool} {Bg : Nat} {yw : Option Addr} {p : Nat} {yt : Option Addr} {ct : Nat} (h : NextAt w n E Bg yw p yt ct) (m : Nat) : NextAt (w.drewN m) n E Bg yw p yt ct := by
  have hb : Below w.heap.size w (w.drewN m) := ⟨rfl, rfl, rfl, Nat.le_refl _, fun _ _ => rfl⟩
  obtain ⟨h1, h2, h3, h4, h5⟩ := h
  refine ⟨adjAt_below h1 hb (Nat.le_refl _), ?_, h3, h4, links_below h5 hb (Nat.le_refl _)⟩
  rcases h2 with h | ⟨B, e, h⟩
  · exact .inl h
  · exact .inr ⟨B, e, adjAt_below h hb (Nat.le_refl _)⟩

set_option maxHeartbeats 4000000 in
set_option maxRecDepth 100000 in
theorem graphNext_walk (N : Int) (_hN : -9223372036854775808 ≤ N ∧ N ≤ 9223372036854775807) (x : Option Addr) (len cap : Nat) (hlen : len ≤ 9223372036854775807) (ls : List (Int × Int)) (w : World) (hL : LinksAt w x len ls) :
    Calls Try.prog 3 #[gr N x len cap] w fun e w' => e = .returned (.bool true) ∧ Below w.heap.size w w' := by
  have hb := (Below.refl w.heap.size w).alloc (Nat.le_refl _) (.cells #[.int .i64 N, .slice x len cap] 24)
  by_cases hfew : nd N ≤ 24 ∧ len ≤ 100
  · have q := fewB_true hfew
    have hL1 := links_below hL hb (Nat.le_refl _)
    have hfew2 := hfew.2
    have hn24 := hfew.1
    have hne : ∀ (W : World), LinksAt W x len ls → Calls Try.prog 13 #[gr N x len cap] W fun e w' => ∃ B, e = .returned (.slice (some ⟨B, 0, none⟩) (nd N) (nd N)) ∧ AdjAt w' B (nd N) (adj (edge ls (nd N)) (nd N)) ∧ Below W.heap.size W w' := by
      intro W h
      refine (Next_any N x len cap ls W h (by omega)).mono ?_
      rintro e w1 ⟨v, rfl, hadj, hb1⟩
      obtain ⟨B, rfl, hB, hA⟩ := adjAt_of hadj
      exact ⟨B, rfl, hA, hb1⟩
    have hrn := fun W h => rNext_any N x len cap ls W h (by omega)
    have htn := fun W h => Turn_any N x len cap ls W h (by omega) (by omega)
    clear hL hfew
    generalize hnn : nd N = n at *
    generalize hEE : edge ls n = E at *
    have hLE := Lib.hid hne
    have hLR := Lib.hid hrn
    have hLT := Lib.hid htn
    clear hne hrn htn hnn hEE
    go_enter Try.func3, Try.ntmps3
    go_wp2_with fail
    refine (awake_any _).mono ?_
    rintro e w1 ⟨rfl, H⟩
    obtain ⟨c0, c1, s1⟩ := boxed2 H
    go_wp2_with fail
    refine (few_any N x len cap hlen _).mono ?_
    rintro e w2 ⟨rfl, h2⟩
    replace H := H.trans (h2.mono H.size)
    clear c0 c1 s1 h2
    obtain ⟨c0, c1, s1⟩ := boxed2 H
    have hL2 := links_below hL1 H (Nat.le_refl _)
    go_wp2
    go_region_held3 (fun w' => w'.cell? ⟨w.heap.size, 0, none⟩ = some (.int .i64 N) ∧ w'.cell? ⟨w.heap.size, 1, none⟩ = some (.slice x len cap))
      (first
        | go_keep
        | exact ⟨k0, k1⟩
        | exact ⟨j0, j1⟩)
      (first
        | (go_at_call 13; refine (hLE.out _ (by exact hL2)).mono ?_; rintro e w3 ⟨Bg, rfl, hA3, hb3⟩; have hb3' := below_of_drew hb3; have H3 := H.trans (hb3'.mono H.size); have hk := boxed2 H3; have k0 := hk.1; have k1 := hk.2.1; have hL3 := links_below hL1 H3 (Nat.le_refl _); clear hk)
        | (go_at_call 14; refine (hLR.out _ (by exact hL3)).mono ?_; rintro e w4 ⟨yw, cw, rfl, hA4, hb4⟩; have H4 := H3.trans (hb4.mono H3.size); have hk := boxed2 H4; have j0 := hk.1; have j1 := hk.2.1; clear hk))
    have hA3' := adjAt_below hA3 hb4 (Nat.le_refl _)
    have hL4 := links_below hL1 H4 (Nat.le_refl _)
    clear hA3 hb3 hb3' hb4 hL1 hL2 hL3 H H3 c0 c1 s1 k0 k1 hLE hLR
    go_wp2_with (go_at_call 15; refine (hLT.out _ (by exact hL4)).mono ?_; rintro e w5 ⟨yt, ct, rfl, hLT5, hb5⟩)
    have hA5 := adjAt_below hA3' hb5 (Nat.le_refl _)
    have hbx : Below w5.heap.size w5 (w5.alloc (.cells #[.int .i64 (n : Int), .slice yt (turnTo (adj (opp E) n) n).length ct] 24)) := (Below.refl _ _).alloc (Nat.le_refl _) _
    have hNA : NextAt (w5.alloc (.cells #[.int .i64 (n : Int), .slice yt (turnTo (adj (opp E) n) n).length ct] 24)) n E Bg yw w5.heap.size yt ct := by
      have hx := boxed2 (w := w5) (a := .int .i64 (n : Int)) (b := .slice yt (turnTo (adj (opp E) n) n).length ct) (t := 24) (Below.refl _ _)
      refine ⟨adjAt_below hA5 hbx (Nat.le_refl _), ?_, hx.1, hx.2.1, links_below hLT5 hbx (Nat.le_refl _)⟩
      rcases hA4 with h | ⟨B, e, h⟩
      · exact .inl h
      · exact .inr ⟨B, e, adjAt_below (adjAt_below h hb5 (Nat.le_refl _)) hbx (Nat.le_refl _)⟩
    have hbel : Below w.heap.size w (w5.alloc (.cells #[.int .i64 (n : Int), .slice yt (turnTo (adj (opp E) n) n).length ct] 24)) := by
      have h4 := H4.trans (hb5.mono H4.size)
      exact (hb.trans (h4.mono (by simp))).alloc (by have := h4.size; simp at this; omega) _
    have HNA := Lib.hid hNA
    have HBL := Lib.hid hbel
    clear hA5 hbx hNA hbel hA3' hL4 hA4 H4 hb5 hLT5 j0 j1 hLT
    generalize (w5.alloc (.cells #[.int .i64 (n : Int), .slice yt (turnTo (adj (opp E) n) n).length ct] 24)) = ws at *
    generalize w5.heap.size = p at *
    go_loopw [6, 38] (fun c i wr => ∃ b cc m : Nat, b ≤ n ∧ i = .int .i64 b ∧ c = .int .i64 cc ∧ Hid (cc = (turnTo (adj (opp E) n) b).length) ∧ Hid (wr = ws.drewN m)) (fun _ i _ => n - (intOf i).toNat)
    case atStart => exact ⟨0, 0, 0, by omega, rfl, rfl, Lib.hid (by simp [turnTo]), rfl⟩
    case round =>
      obtain ⟨b, cc, m, hbn, rfl, rfl, hcc, hw⟩ := hrel
      have hNB : NextAt wr n E Bg yw p yt ct := by rw [hw.out]; exact nextAt_drew HNA.out m
      by_cases hlt : b < n
      · have HNB := Lib.hid hNB
        obtain ⟨hG, hW, -, -, -⟩ := hNB
        rcases hW with h0 | ⟨Bw, hyw, hW⟩
        · omega
        subst hyw
        have HW := Lib.hid hW
        obtain ⟨xg, cg, e1, hlg⟩ := hG.2 b hlt
        obtain ⟨xw, cw2, e2, hlw⟩ := hW.2 b hlt
        have hSM : ∀ k, Calls Try.prog 16 #[.slice xg (adj E n b).length cg, .slice xw (adj E n b).length cw2] (wr.drewN k) fun e w' => e = .returned (.bool true) ∧ ∃ m, w' = (wr.drewN k).drewN m := by
          intro k
          have hbk : Below wr.heap.size wr (wr.drewN k) := ⟨rfl, rfl, rfl, Nat.le_refl _, fun _ _ => rfl⟩
          exact same_any xg xw (adj E n b).length cg cw2 ((adj E n b).map fun a : Nat => (a : Int)) _ (by simp) (intsAt_below (ints_of_list hlg) hbk (Nat.le_refl _)) (intsAt_below (ints_of_list hlw) hbk (Nat.le_refl _)) (nums_bound (l := adj E n b) (n := n) (fun a ha => (adj_mem.1 ha).1) (by omega)) (by have := adj_length E n b; omega)
        have HSM := Lib.hid hSM
        clear hSM hlg hlw hG hW
        have hk0 : (0 : Int) ≤ (b : Int) := by omega
        have hk1 : (b : Int) < (n : Int) := by omega
        go_wp2
        go_quiet ((go_at_call 16; first | exact Calls.quiet_of (HSM.out _) | exact quiet_add (HSM.out _)))
        have hwq : wr.drewN nq = ws.drewN (m + nq) := by rw [hw.out]; simp
        have HWQ := Lib.hid hwq
        have HNQ := Lib.hid (nextAt_drew HNB.out nq)
        have HWB : Hid (AdjAt (wr.drewN nq) Bw n (adj E n)) := Lib.hid (adjAt_below HW.out (C := wr.heap.size) ⟨rfl, rfl, rfl, Nat.le_refl _, fun _ _ => rfl⟩ (Nat.le_refl _))
        clear hwq HNB HW HSM e1 e2 hw hk0 hk1
        generalize wr.drewN nq = wq at *
        have h576 := turn_cnt_le (E := E) hlt hn24
        go_wp2
        go_loopw [6, 53] (fun c i wv => ∃ a cd : Nat, a ≤ n ∧ i = .int .i64 a ∧ c = .int .i64 cd ∧ Hid (cd = (turnTo (adj (opp E) n) b).length + (revTo E a b).length) ∧ Hid (wv = wq)) (fun _ i _ => n - (intOf i).toNat)
        case atStart => exact ⟨0, cc, by omega, rfl, rfl, Lib.hid (by rw [hcc.out]; simp [revTo]), rfl⟩
        case round =>
          obtain ⟨a, cd, han, rfl, rfl, hcd, hwv⟩ := hrel
          obtain rfl : wq = wr := hwv.out.symm
          clear hwv
          by_cases hla : a < n
          · obtain ⟨xa, ca, e3, hla3⟩ := HWB.out.2 a hla
            have hal := adj_length E n a
            have HL3 := Lib.hid hla3
            clear hla3
            have hk0 : (0 : Int) ≤ (a : Int) := by omega
            have hk1 : (a : Int) < (n : Int) := by omega
            go_wp2
            go_loopw [6, 61] (fun c i wv => ∃ k ce : Nat, k ≤ (adj E n a).length ∧ i = .int .i64 k ∧ c = .int .i64 ce ∧ Hid (ce = (turnTo (adj (opp E) n) b).length + (revMid E n a k b).length) ∧ Hid (wv = wq)) (fun _ i _ => (adj E n a).length - (intOf i).toNat)
            case atStart => exact ⟨0, cd, by omega, rfl, rfl, Lib.hid (by rw [revMid_zero]; exact hcd.out), rfl⟩
            case round =>
              obtain ⟨k, ce, hkl, rfl, rfl, hce, hwv⟩ := hrel
              obtain rfl : wq = wr := hwv.out.symm
              clear hwv
              by_cases hk : k < (adj E n a).length
              · rcases HL3.out with h0 | ⟨g, hxa, hg, hc⟩
                · omega
                subst hxa
                have e4 := hc k hk
                clear hc
                have hj0 : (0 : Int) ≤ (k : Int) := by omega
                have hj1 : (k : Int) < ((adj E n a).length : Int) := by omega
                have hst := revMid_step (E := E) (n := n) (i := a) (b := b) hk
                have hrl := revMid_len E n a k b
                by_cases hz : at0 (adj E n a) k = b
                · have hEab : E a b = true := by
                    have h1 : at0 (adj E n a) k ∈ adj E n a := by rw [at0_eq hk]; exact List.getElem_mem hk
                    rw [hz] at h1
                    exact (adj_mem.1 h1).2
                  have hnt := at0_not_take (adj_nodup E n a) hk
                  rw [hz] at hnt e4
                  have hmid : revMid E n a k b = revTo E a b := by unfold revMid; rw [if_neg hnt]
                  have hlink := link_here (E := E) hla hlt hEab
                  rw [if_pos hz.symm] at hst
                  obtain ⟨-, -, -, hT1, hLk⟩ := HNQ.out
                  have hceq := hce.out
                  rw [hmid] at hceq
                  rw [← hceq] at hlink
                  obtain ⟨hcl, -⟩ := List.getElem?_eq_some_iff.1 hlink
                  rcases hLk.2 with h0 | ⟨bt, ot, hyt, hbt, hcell⟩
                  · omega
                  subst hyt
                  obtain ⟨f, t, hft, e5, e6, -⟩ := hcell ce hcl
                  rw [List.getElem?_map, hlink] at hft
                  simp only [Option.map_some, Option.some.injEq, Prod.mk.injEq] at hft
                  obtain ⟨rfl, rfl⟩ := hft
                  have HST := Lib.hid hst
                  have hce24 : ce ≤ 1000 := by have := hce.out; omega
                  have q7 : decide ((turnTo (adj (opp E) n) n).length ≤ ce) = false := by simp; omega
                  have q8 : decide (((turnTo (adj (opp E) n) n).length : Int) ≤ (ce : Int)) = false := by simp; omega
                  have hi0 : (0 : Int) ≤ (ce : Int) := by omega
                  have hi1 : (ce : Int) < ((turnTo (adj (opp E) n) n).length : Int) := by omega
                  clear hst hrl hnt hmid hlink hceq hLk hcell hEab hz
                  go_wp2
                  go_roundw
                  case rel => exact ⟨k + 1, ce + 1, by omega, by go_num, by go_num, Lib.hid (by rw [HST.out, List.length_append, hce.out]; simp; omega), by first | exact Lib.hid rfl | exact Lib.hid trivial⟩
                  case measure => simp [intOf]; omega
                · rw [if_neg (fun h => hz h.symm)] at hst
                  have HST := Lib.hid hst
                  generalize at0 (adj E n a) k = z at *
                  have hz2 : ¬ (z : Int) = (b : Int) := by omega
                  clear hst hrl
                  go_wp2
                  go_roundw
                  case rel => exact ⟨k + 1, ce, by omega, by go_num, rfl, Lib.hid (by rw [HST.out]; exact hce.out), by first | exact Lib.hid rfl | exact Lib.hid trivial⟩
                  case measure => simp [intOf]; omega
              · have hce2 := hce.out
                obtain rfl : (adj E n a).length = k := by omega
                rw [revMid_end hlt] at hce2
                have HCE := Lib.hid hce2
                clear hce2
                go_wp2
                go_roundw
                case rel => exact ⟨a + 1, ce, by omega, by go_num, rfl, HCE, by first | exact Lib.hid rfl | exact Lib.hid trivial⟩
                case measure => simp [intOf]; omega
          · obtain rfl : n = a := by omega
            have hcd2 : cd = (turnTo (adj (opp E) n) (b + 1)).length := by rw [hcd.out, turnTo_succ, List.length_append, List.length_map, revTo_adj]
            have HCD := Lib.hid hcd2
            clear hcd2
            go_wp2
            go_roundw
            case rel => exact ⟨b + 1, cd, m + nq, by omega, by go_num, rfl, HCD, HWQ⟩
            case measure => simp [intOf]; omega
      · obtain rfl : n = b := by omega
        obtain ⟨-, -, -, hT1, -⟩ := hNB
        have hbel := HBL.out
        have hwr := hw.out
        have hcc' := hcc.out
        subst hcc'
        subst hwr
        go_wp2
        go_ret
        exact ⟨rfl, ⟨hbel.os, hbel.tape, hbel.output, hbel.size, hbel.block⟩⟩
  · have q := fewB_false hfew
    clear hL hfew
    go_enter Try.func3, Try.ntmps3
    go_wp2_with fail
    refine (awake_any _).mono ?_
    rintro e w1 ⟨rfl, H⟩
    obtain ⟨c0, c1, s1⟩ := boxed2 H
    go_wp2_with fail
    refine (few_any N x len cap hlen _).mono ?_
    rintro e w2 ⟨rfl, h2⟩
    replace H := H.trans (h2.mono H.size)
    clear c0 c1 s1 h2
    go_wp2_with fail
    refine (awake_any _).mono ?_
    rintro e w3 ⟨rfl, h3⟩
    replace H := H.trans (h3.mono H.size)
    have hbel := hb.trans (H.mono (by simp))
    go_wp2
    go_ret
    exact ⟨rfl, hbel⟩
end Go.Proofs.Ytfobjonihlfepaa
