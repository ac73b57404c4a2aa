/- Critical: contract of the code. -/
import Derived.Test.YtfobjonihlfepaaCMath
import Derived.Test.YtfobjonihlfepaaGLong
namespace Go.Proofs.Ytfobjonihlfepaa
open Go.RowKit
set_option linter.unusedVariables false

/-- What Critical hands back. -/
def CritRes (E : Nat → Nat → Bool) (n : Nat) (W : Nat → Int) (base : Nat) (w : World) (e : Ending) (w' : World) : Prop :=
  Below base w w' ∧ match topo E n with
  | none => e = .returned (.tuple #[.slice none 0 0, .int .i64 0, .bool false])
  | some l => (n = 0 ∧ e = .returned (.tuple #[.slice none 0 0, .int .i64 0, .bool true])) ∨
    ∃ (x : Option Addr) (c : Nat) (P : List Nat) (m : Int), 0 < n ∧ e = .returned (.tuple #[.slice x P.length c, .int .i64 m, .bool true]) ∧ ListAt w' x P ∧ 0 < P.length ∧ P.length ≤ n ∧ (∀ v, v ∈ P → v < n) ∧ (∀ i, i + 1 < P.length → E (at0 P i) (at0 P (i + 1)) = true) ∧
      sumW W P = m ∧ (∀ u, u < n → lg E n W l u ≤ m) ∧ ∃ u, u < n ∧ lg E n W l u = m

/-- The walk backwards: what has been collected, and the node at hand. -/
def CritAt (E : Nat → Nat → Bool) (n : Nat) (W : Nat → Int) (l : List Nat) (m : Int) (u0 : Nat) (Q : List Nat) (b : Int) : Prop :=
  Back E Q ∧ (∀ v, v ∈ Q → v < n) ∧ ((b = -1 ∧ 0 < Q.length ∧ Q.length ≤ n ∧ sumW W Q = m) ∨
    ∃ c : Nat, b = (c : Int) ∧ c < n ∧ (Q = [] ∨ E c (at0 Q (Q.length - 1)) = true) ∧ sumW W Q + lg E n W l c = m ∧ Q.length + l.idxOf c ≤ l.idxOf u0)
theorem crit_step {E : Nat → Nat → Bool} {n : Nat} {W : Nat → Int} {l : List Nat} {m : Int} {u0 c : Nat} {Q : List Nat} {b' : Int} (hto : Tord E n l) (hn : l.idxOf u0 < n) (hall : ∀ u, u < n → u ∈ l) (h : CritAt E n W l m u0 Q (c : Int)) (hf : From E (lg E n W l) l c (lg E n W l c - W c) b') :
    CritAt E n W l m u0 (Q ++ [c]) b' ∧ c < n ∧ Q.length < n ∧ (b' = -1 ∨ ∃ p : Nat, b' = (p : Int) ∧ p < n ∧ l.idxOf p < l.idxOf c) := by
  obtain ⟨h1, h2, h3⟩ := h
  rcases h3 with ⟨h3, _⟩ | ⟨c', h3, h4, h5, h6, h7⟩
  · omega
  · obtain rfl : c' = c := by omega
    have hb := back_snoc h1 h5
    have hmem : ∀ v, v ∈ Q ++ [c'] → v < n := fun v hv => by
      rcases List.mem_append.1 hv with hv | hv
      · exact h2 v hv
      · simp at hv; omega
    have hs : sumW W (Q ++ [c']) = sumW W Q + W c' := by rw [sumW_append]; simp [sumW]
    have hlen : (Q ++ [c']).length = Q.length + 1 := by simp
    refine ⟨⟨hb, hmem, ?_⟩, h4, by omega, ?_⟩
    · rcases hf with ⟨e1, e2⟩ | ⟨p, hp, e1, e2, e3⟩
      · exact .inl ⟨e1, by omega, by omega, by omega⟩
      · have hpn := (tord_mem hto hp).1
        have hlt := idx_lt hto hpn (hall c' h4) e2
        refine .inr ⟨p, e1, hpn, .inr ?_, by omega, by omega⟩
        rw [hlen, Nat.add_sub_cancel, at0_append_end]
        exact e2
    · rcases hf with ⟨e1, e2⟩ | ⟨p, hp, e1, e2, e3⟩
      · exact .inl e1
      · have hpn := (tord_mem hto hp).1
        exact .inr ⟨p, e1, hpn, idx_lt hto hpn (hall c' h4) e2⟩
/-- How far the walk may still go. -/
def critM (l : List Nat) (v : Value) : Nat := if intOf v < 0 then 0 else l.idxOf (intOf v).toNat + 1

theorem critM_at (l : List Nat) (c : Nat) : critM l (.int .i64 (c : Int)) = l.idxOf c + 1 := by
  show (if (c : Int) < 0 then 0 else l.idxOf ((c : Int)).toNat + 1) = _
  rw [if_neg (by omega), Int.toNat_natCast]
theorem critM_end (l : List Nat) : critM l (.int .i64 (-1)) = 0 := rfl
theorem reverse_own (l : List Nat) (v : Value) (base : Nat) (w : World) (hown : w.ownsRow base 3 1 v l.length (nums l)) (hl : l.length < 16777216) (h0 : 0 < l.length) :
    Calls Try.prog 51 #[v] w fun e w' => e = .returned (.tuple #[]) ∧ w'.ownsRow base 3 1 v l.reverse.length (nums l.reverse) ∧ w.grownBy w' v.ownBlock := by
  rcases hown.2 with ⟨hv, h00⟩ | ⟨g, cap, cur, hv, hg, hh, hc, hm, hs, ht⟩
  · omega
  · subst hv
    have hlen : (l.map fun x : Nat => (x : Int)).length = l.length := by simp
    have hH : Go.Sort.Holds (Value.int .i64) w g 0 (l.map fun x : Nat => (x : Int)).toArray := Go.holds_of_blockI hh (by rw [hlen, ← nums_ints]; simpa using ht)
    have h := Try.slices_Reverse_int g 0 cap (l.map fun x : Nat => (x : Int)) w hH (by rw [hlen]; omega)
    rw [hlen] at h
    refine h.mono ?_
    rintro e w' ⟨rfl, n, rfl⟩
    refine ⟨rfl, ?_, ?_⟩
    · have h1 := Go.ownsRow_sortedI (w := w) (n := n) (os := #[]) (ss := l.map fun x : Nat => (x : Int)) (ts := (l.map fun x : Nat => (x : Int)).reverse) (by simp) hg hh (by rw [hlen]; exact hc) hm hs
      have e1 : (l.map fun x : Nat => (x : Int)).reverse.map (Value.int .i64) = nums l.reverse := by simp [nums, ← List.map_reverse]
      rw [e1] at h1
      simpa using h1
    · have := Go.grownBy_sortedI (w := w) (g := g) (n := n) (os := #[]) (l.map fun x : Nat => (x : Int)).reverse.toArray
      show w.grownBy _ (some g)
      simpa using this

set_option maxHeartbeats 4000000 in
set_option maxRecDepth 100000 in
theorem Critical_any (N : Int) (x : Option Addr) (len cap : Nat) (ls : List (Int × Int)) (xw : Option Addr) (lw cw : Nat) (zs : List Int) (w : World) (hL : LinksAt w x len ls) (hlen : len ≤ 1000000) (hZ : WeightsAt w xw lw zs) (hlw : lw ≤ 9223372036854775807) :
    Calls Try.prog 29 #[gr N x len cap, .slice xw lw cw] w fun e w' => CritRes (edge ls (nd N)) (nd N) (wt zs) w.heap.size w e w' := by
  have hb := (Below.refl w.heap.size w).alloc (Nat.le_refl _) (.cells #[.int .i64 N, .slice x len cap] 24)
  have hL1 := links_below hL hb (Nat.le_refl _)
  have hZ1 := weights_below hZ hb (Nat.le_refl _)
  have hn := nd_le N
  have hfar := fun W h hz => farthest_any N x len cap ls xw lw cw zs W h hlen hz hlw
  clear hL hZ
  generalize hnn : nd N = n at *
  generalize hEE : edge ls n = E at *
  have HF := Lib.hid hfar
  clear hfar hnn hEE
  go_enter Try.func29, Try.ntmps29
  go_wp2_with fail
  refine (HF.out _ hL1 hZ1).mono ?_
  rintro e w1 ⟨hb1, hm⟩
  have hbel0 := hb.trans (hb1.mono (by simp))
  clear hL1 hZ1 hb1 hb
  rcases hT : topo E n with _ | l
  · rw [hT] at hm
    subst hm
    have HT := Lib.hid hT
    clear hT
    go_wp2
    go_ret3
    refine ⟨hbel0, ?_⟩
    rw [HT.out]
    rfl
  · rw [hT] at hm
    obtain ⟨Bl, Bb, bf, rfl, hrow, hbf, hfrom⟩ := hm
    have HT := Lib.hid hT
    have HROW := Lib.hid hrow
    have HBF := Lib.hid (And.intro hbf hfrom)
    clear hT hrow hbf hfrom
    by_cases h0 : n = 0
    · have hn0 : n ≤ 0 := by omega
      have q1 : (n == 0) = true := by simp [h0]
      have q2 : (((n : Nat) : Int) == 0) = true := by simp [h0]
      have H0 := Lib.hid h0
      clear h0
      go_wp2
      go_ret3
      refine ⟨hbel0, ?_⟩
      rw [HT.out]
      exact .inl ⟨H0.out, rfl⟩
    · have q1 : (n == 0) = false := by simp [h0]
      have q2 : (((n : Nat) : Int) == 0) = false := by simp [h0]
      have hn1 : 0 < n := by omega
      clear h0
      have hcells : ∀ j, j < ((List.range n).map (lg E n (wt zs) l)).length → w1.cell? ⟨Bl, 0 + j, none⟩ = some (.int .i64 (((List.range n).map (lg E n (wt zs) l)).getD j 0)) := by
        intro j hj
        have hj' : j < n := by simpa using hj
        rw [Nat.zero_add, HROW.out.cell hj']
        simp [List.getD, hj']
      have hlz : ((List.range n).map (lg E n (wt zs) l)).length = n := by simp
      have hget : ∀ u, u < n → ((List.range n).map (lg E n (wt zs) l)).getD u 0 = lg E n (wt zs) l u := fun u hu => by simp [List.getD, hu]
      have hmx := Try.slices_Max_int Bl 0 n n _ w1 hn1 (by rw [hlz]; exact Nat.le_refl _) (by omega) hcells
      have hix := fun z => Try.slices_Index_int Bl 0 n n _ z w1 (by rw [hlz]; exact Nat.le_refl _) (by omega) hcells
      have hspec := maxOf_spec ((List.range n).map (lg E n (wt zs) l)) n hn1 (by rw [hlz]; exact Nat.le_refl _)
      obtain ⟨u0, hu0, hidx, hmax⟩ := idx_of_max ((List.range n).map (lg E n (wt zs) l)) (by rw [hlz]; exact hn1)
      rw [hlz] at hidx hmax hu0
      generalize hMM : Lib.maxOf (((List.range n).map (lg E n (wt zs) l)).take n) = m at *
      have hi2 := hix m
      rw [hidx] at hi2
      have HMX := Lib.hid hmx
      have HIX := Lib.hid hi2
      have hmaxu : lg E n (wt zs) l u0 = m := by rw [← hget u0 hu0]; exact hmax
      have hle : ∀ u, u < n → lg E n (wt zs) l u ≤ m := fun u hu => by rw [← hget u hu]; exact hspec.1 u hu
      have hto := topo_tord HT.out
      have hll : l.length = n := by have := (topoRun_lt n [] (fun a ha => by simp at ha) l HT.out).2; simpa using this
      have hall : ∀ u, u < n → u ∈ l := all_mem (topo_nodup HT.out) (fun u hu => (tord_mem hto hu).1) hll
      have hidn : l.idxOf u0 < n := by rw [← hll]; exact List.idxOf_lt_length_of_mem (hall u0 hu0)
      have HC0 : Hid (CritAt E n (wt zs) l m u0 [] (u0 : Int)) := ⟨back_nil E, fun v h => by simp at h, .inr ⟨u0, rfl, hu0, .inl rfl, by simp [sumW, hmaxu], by simp⟩⟩
      have HALL := Lib.hid (And.intro hto (And.intro hidn hall))
      have HLE := Lib.hid (And.intro hle hmaxu)
      clear hcells hlz hget hmx hix hspec hidx hmax hMM hi2 hmaxu hle hto hll hall hidn
      go_wp2_with (first
        | (go_at_call 49; refine (HMX.out).mono ?_; rintro e w' ⟨rfl, hw'⟩; obtain rfl : w1 = w' := hw'.symm)
        | (go_at_call 50; refine (HIX.out).mono ?_; rintro e w' ⟨rfl, hw'⟩; obtain rfl : w1 = w' := hw'.symm))
      go_loopw [4, 9] (fun pv v wr => ∃ (Q : List Nat) (b : Int), v = .int .i64 b ∧ Hid (CritAt E n (wt zs) l m u0 Q b) ∧ Hid (wr.ownsRow w1.heap.size 3 1 pv Q.length (nums Q)) ∧ (b = -1 ∨ ∃ p : Nat, b = (p : Int) ∧ p < n) ∧ Below w1.heap.size w1 wr) (fun _ v _ => critM l v)
      case atStart => exact ⟨[], (u0 : Int), rfl, HC0, World.ownsRow_nil _ _ _ _, .inr ⟨u0, rfl, hu0⟩, Below.refl _ _⟩
      case round =>
        clear HC0
        obtain ⟨Q, b, rfl, hca, hown, hb, hbel⟩ := hrel
        obtain ⟨pv, rfl⟩ : ∃ pv : Value, pv = u4 := ⟨_, rfl⟩
        rcases hb with rfl | ⟨c, rfl, hcn⟩
        · have h3 := hca.out.2.2
          rcases h3 with ⟨_, hq1, hq2, hq3⟩ | ⟨c, hc, _⟩
          · have HRV := Lib.hid (reverse_own Q pv w1.heap.size wr hown.out (by omega) hq1)
            have HQ := Lib.hid (And.intro hq1 (And.intro hq2 hq3))
            have HO := Lib.hid hown.out
            clear hq1 hq2 hq3 hown
            go_wp2_with (go_at_call 51; refine (HRV.out).mono ?_; rintro e w4 ⟨rfl, ho4, hg4⟩)
            go_ret3
            have hbel4 : Below w1.heap.size w1 w4 := hbel.grown hg4 hbel.size (fun q hq => (HO.out.lt q hq).1)
            obtain ⟨x', c', hv', hla⟩ := listAt_own ho4
            refine ⟨hbel0.trans (hbel4.mono hbel0.size), ?_⟩
            rw [HT.out]
            refine .inr ⟨x', c', Q.reverse, m, hn1, by rw [← hv']; rfl, hla, by simpa using HQ.out.1, by simpa using HQ.out.2.1, fun v hv => hca.out.2.1 v (by simpa using hv), fun i hi => back_path hca.out.1 hi, by rw [sumW_reverse]; exact HQ.out.2.2, HLE.out.1, u0, hu0, HLE.out.2⟩
          · omega
        · have hst := crit_step HALL.out.1 HALL.out.2.1 HALL.out.2.2 hca.out (HBF.out.2 c hcn)
          have hql := hst.2.2.1
          have HST := Lib.hid hst
          have CB := Lib.hid (show ∀ w3 : World, wr.grownBy w3 pv.ownBlock → w3.cell? ⟨Bb, c, none⟩ = some (.int .i64 (bf c)) from fun w3 hg => by
            have hlt := HBF.out.1.lt
            have h1 := World.cell?_of_block (w := wr) (w' := w3) (a := ⟨Bb, c, none⟩) (hg.block Bb (by have := hbel.size; omega) (fun e => by have := (hown.out.lt _ e.symm).1; omega))
            rw [h1, hbel.cell (by exact hlt)]
            exact HBF.out.1.cell hcn)
          have HOB := Lib.hid (fun q hq => (hown.out.lt q hq).1)
          have hown' := hown.out
          have hsz1 := hbel.size
          have q3 : (((c : Nat) : Int) == -1) = false := by simp
          have q4 : (((c : Nat) : Int) != -1) = true := by simp
          clear hst hca hown
          go_wp2_with (at_builtin; refine wpList_append_at wr (by rfl) _ _ _ (by rfl) w1.heap.size 3 _ 8 Try.underlying31 infoNum (by rfl) pv Q.length (nums Q) (by rfl) hown' _ (by rfl) wr.heap.size (by rfl) (by rfl) (by omega) (by omega) hsz1 ?_; intro g3 c3 w3 ho3 hg3 hl3; have hcb3 := CB.out _ hg3)
          rw [nums_append] at ho3
          have HO3 := Lib.hid ho3
          have hb3 := hbel.grown hg3 hsz1 (fun q hq => HOB.out q hq)
          have hbc := HST.out.2.2.2
          clear ho3 hg3 hl3 hcb3 hown'
          go_roundw
          case rel =>
            refine ⟨Q ++ [c], bf c, rfl, HST.out.1, by simpa using HO3, ?_, hb3⟩
            rcases hbc with h | ⟨p, h1, h2, _⟩
            · exact .inl h
            · exact .inr ⟨p, h1, h2⟩
          case measure =>
            rcases hbc with h | ⟨p, h1, h2, h3⟩
            · rw [h, critM_end, critM_at]; omega
            · rw [h1, critM_at, critM_at]; omega
end Go.Proofs.Ytfobjonihlfepaa
