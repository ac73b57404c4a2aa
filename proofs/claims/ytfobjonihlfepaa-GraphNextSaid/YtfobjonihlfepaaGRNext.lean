/- The reference's lists of successors: contract. -/
import Derived.Test.YtfobjonihlfepaaGMat
import Derived.Test.YtfobjonihlfepaaGRev
namespace Go.Proofs.Ytfobjonihlfepaa
open Go.RowKit
set_option linter.unusedVariables false

/-- A table of lists in the making, appended list by list. -/
def Rws (w : World) (base : Nat) (vo : Value) (k : Nat) (L : Nat → List Nat) : Prop :=
  ∃ (A : Nat → Option Addr) (C : Nat → Nat), w.ownsRow base 31 1 vo k ((List.range k).map fun i => .slice (A i) (L i).length (C i)) ∧
    ∀ i, i < k → (L i).length = 0 ∨ ∃ g, A i = some ⟨g, 0, none⟩ ∧ some g ≠ vo.ownBlock ∧ g < w.heap.size ∧ ∀ j, j < (L i).length → w.cell? ⟨g, j, none⟩ = some (.int .i64 (at0 (L i) j : Nat))
theorem rws_nil (w : World) (base : Nat) (L : Nat → List Nat) : Rws w base (.slice none 0 0) 0 L := ⟨fun _ => none, fun _ => 0, World.ownsRow_nil _ _ _ _, fun i h => by omega⟩
theorem rws_below {w w' : World} {base : Nat} {vo : Value} {k : Nat} {L : Nat → List Nat} (h : Rws w base vo k L) (hb : Below w.heap.size w w') : Rws w' base vo k L := by
  obtain ⟨A, C, h1, h2⟩ := h
  refine ⟨A, C, own_below h1 hb (Nat.le_refl _), fun i hi => ?_⟩
  rcases h2 i hi with h | ⟨g, h3, h4, h5, h6⟩
  · exact .inl h
  · exact .inr ⟨g, h3, h4, Nat.lt_of_lt_of_le h5 hb.size, fun j hj => by rw [hb.cell (by exact h5)]; exact h6 j hj⟩
theorem rws_push {w w' : World} {base : Nat} {vo : Value} {k g3 c3 : Nat} {L : Nat → List Nat} {x : Option Addr} {c : Nat} {A : Nat → Option Addr} {C : Nat → Nat} (h2 : ∀ i, i < k → (L i).length = 0 ∨ ∃ g, A i = some ⟨g, 0, none⟩ ∧ some g ≠ vo.ownBlock ∧ g < w.heap.size ∧ ∀ j, j < (L i).length → w.cell? ⟨g, j, none⟩ = some (.int .i64 (at0 (L i) j : Nat)))
    (hx : (L k).length = 0 ∨ ∃ g, x = some ⟨g, 0, none⟩ ∧ some g ≠ vo.ownBlock ∧ g < w.heap.size ∧ ∀ j, j < (L k).length → w.cell? ⟨g, j, none⟩ = some (.int .i64 (at0 (L k) j : Nat)))
    (ho : w'.ownsRow base 31 1 (.slice (some ⟨g3, 0, none⟩) (k + 1) c3) (k + 1) (((List.range k).map fun i => .slice (A i) (L i).length (C i)) ++ [.slice x (L k).length c])) (hg : w.grownBy w' vo.ownBlock) (hl : some g3 = vo.ownBlock ∨ ∀ g', some g3 = some g' → w.heap.size ≤ g') :
    Rws w' base (.slice (some ⟨g3, 0, none⟩) (k + 1) c3) (k + 1) L := by
  have hne : ∀ g, g < w.heap.size → some g ≠ vo.ownBlock → some g ≠ some g3 := by
    intro g hlt hne e
    rcases hl with h | h
    · exact hne (e.trans h)
    · have := h g e.symm; omega
  refine ⟨fun i => if i = k then x else A i, fun i => if i = k then c else C i, ?_, fun i hi => ?_⟩
  · have e : (List.range (k + 1)).map (fun i => Value.slice (if i = k then x else A i) (L i).length (if i = k then c else C i)) = ((List.range k).map fun i => .slice (A i) (L i).length (C i)) ++ [.slice x (L k).length c] := by
      rw [List.range_succ, List.map_append]
      congr 1
      · refine List.map_congr_left fun a ha => ?_
        have : a ≠ k := by have := List.mem_range.1 ha; omega
        simp [this]
      · simp
    rw [e]
    exact ho
  · have hx2 : (L i).length = 0 ∨ ∃ g, (if i = k then x else A i) = some ⟨g, 0, none⟩ ∧ some g ≠ vo.ownBlock ∧ g < w.heap.size ∧ ∀ j, j < (L i).length → w.cell? ⟨g, j, none⟩ = some (.int .i64 (at0 (L i) j : Nat)) := by
      by_cases e : i = k
      · subst e; rw [if_pos rfl]; exact hx
      · rw [if_neg e]; exact h2 i (by omega)
    rcases hx2 with h | ⟨g, h3, h4, h5, h6⟩
    · exact .inl h
    · exact .inr ⟨g, h3, hne g h5 h4, Nat.lt_of_lt_of_le h5 hg.size, fun j hj => hg.cell (h6 j hj) h4⟩
theorem rws_at {w : World} {base : Nat} {vo : Value} {n : Nat} {L : Nat → List Nat} (h : Rws w base vo n L) : ∃ y c, vo = .slice y n c ∧ (n = 0 ∨ ∃ B, y = some ⟨B, 0, none⟩ ∧ AdjAt w B n L) := by
  obtain ⟨A, C, h1, h2⟩ := h
  rcases h1.2 with ⟨hv, h0⟩ | ⟨g, cap, cur, hv, hg, hh, _⟩
  · exact ⟨none, 0, by rw [hv, h0], .inl h0⟩
  · subst hv
    refine ⟨_, cap, rfl, .inr ⟨g, rfl, (Array.getElem?_eq_some_iff.1 hh).1, fun i hi => ⟨A i, C i, ?_, ?_⟩⟩⟩
    · rw [h1.cellAt i (by omega)]; simp [hi]
    · rcases h2 i hi with h | ⟨g', h3, h4, h5, h6⟩
      · exact .inl h
      · exact .inr ⟨g', h3, h5, h6⟩
/-- The successors of a among the first j nodes. -/
def adjTo (E : Nat → Nat → Bool) (j a : Nat) : List Nat := (List.range j).filter (E a)
theorem adjTo_succ (E : Nat → Nat → Bool) (j a : Nat) : adjTo E (j + 1) a = if E a j then adjTo E j a ++ [j] else adjTo E j a := by
  unfold adjTo
  rw [List.range_succ, List.filter_append]
  by_cases h : E a j = true <;> simp [h]
theorem adjTo_len (E : Nat → Nat → Bool) (j a : Nat) : (adjTo E j a).length ≤ j := by
  unfold adjTo
  have := List.length_filter_le (E a) (List.range j)
  simpa using this

set_option maxHeartbeats 4000000 in
set_option maxRecDepth 100000 in
theorem rNext_any (N : Int) (x : Option Addr) (len cap : Nat) (ls : List (Int × Int)) (w : World) (hL : LinksAt w x len ls) (hlen : len ≤ 1000000) :
    Calls Try.prog 14 #[gr N x len cap] w fun e w' => ∃ y c, e = .returned (.slice y (nd N) c) ∧ (nd N = 0 ∨ ∃ B, y = some ⟨B, 0, none⟩ ∧ AdjAt w' B (nd N) (adj (edge ls (nd N)) (nd N))) ∧ Below w.heap.size w w' := by
  have hb := (Below.refl w.heap.size w).alloc (Nat.le_refl _) (.cells #[.int .i64 N, .slice x len cap] 24)
  have hL1 := links_below hL hb (Nat.le_refl _)
  have hn := nd_le N
  have hmat := fun W h => rMatrix_any N x len cap ls W h hlen
  clear hL
  generalize hnn : nd N = n at *
  generalize hEE : edge ls n = E at *
  have HMAT := Lib.hid hmat
  clear hmat hnn hEE
  go_enter Try.func14, Try.ntmps14
  go_wp2_with fail
  refine (HMAT.out _ hL1).mono ?_
  rintro e w1 ⟨v, rfl, ⟨ym, cm, rfl, hM⟩, hb1⟩
  have hs1 := hb1.size
  have hsz : w.heap.size ≤ w1.heap.size := by simp at hs1; omega
  have hb2 := hb.trans (hb1.mono (by simp))
  have HM := Lib.hid hM
  clear hM hL1 hb1 hs1 hb
  go_wp2
  go_loopw [4, 12] (fun vo i wr => ∃ k : Nat, k ≤ n ∧ i = .int .i64 k ∧ Hid (Rws wr w1.heap.size vo k (adj E n)) ∧ Below w1.heap.size w1 wr) (fun _ i _ => n - (intOf i).toNat)
  case atStart => exact ⟨0, by omega, rfl, rws_nil _ _ _, Below.refl _ _⟩
  case round =>
    obtain ⟨k, hk, rfl, hR, hbel⟩ := hrel
    obtain ⟨wo, rfl⟩ : ∃ wo : World, wo = wr := ⟨_, rfl⟩
    obtain ⟨vo, rfl⟩ : ∃ vo : Value, vo = u4 := ⟨_, rfl⟩
    by_cases hkn : k < n
    · rcases HM.out with h0 | ⟨B, hyB, hB, hrows⟩
      · omega
      · subst hyB
        obtain ⟨g, gc, h1, hg, h2⟩ := hrows k hkn
        have HR1 := Lib.hid h1
        have HR2 := Lib.hid h2
        have hws := hbel.size
        clear hrows h1 h2
        go_wp2
        go_loopw [6, 17] (fun vl i wr => ∃ j : Nat, j ≤ n ∧ i = .int .i64 j ∧ Hid (wr.ownsRow wo.heap.size 3 1 vl (adjTo E j k).length (nums (adjTo E j k))) ∧ Below wo.heap.size wo wr) (fun _ i _ => n - (intOf i).toNat)
        case atStart => exact ⟨0, by omega, rfl, World.ownsRow_nil _ _ _ _, Below.refl _ _⟩
        case round =>
          obtain ⟨j, hj, rfl, hown, hbi⟩ := hrel
          obtain ⟨vl, rfl⟩ : ∃ vl : Value, vl = u6 := ⟨_, rfl⟩
          have hbw := hbel.trans (hbi.mono hws)
          by_cases hjn : j < n
          · have c1 : wr.cell? ⟨B, k, none⟩ = some (.slice (some ⟨g, 0, none⟩) n gc) := by rw [hbw.cell (by exact hB)]; exact HR1.out
            have c2 : wr.cell? ⟨g, j, none⟩ = some (.bool (E k j)) := by rw [hbw.cell (by exact hg)]; exact HR2.out j hjn
            have HA := Lib.hid (adjTo_succ E j k)
            have hal := adjTo_len E j k
            have hsz2 := hbi.size
            have hk0 : (0 : Int) ≤ (k : Int) := by omega
            rcases hE : E k j with _ | _
            · rw [hE] at c2
              have HA2 : Hid (wr.ownsRow wo.heap.size 3 1 vl (adjTo E (j + 1) k).length (nums (adjTo E (j + 1) k))) := by
                have e : adjTo E (j + 1) k = adjTo E j k := by rw [HA.out, hE]; rfl
                rw [e]; exact hown
              clear hE HA hown
              go_wp2
              go_roundw
              case rel => exact ⟨j + 1, by omega, by go_num, HA2, hbi⟩
              case measure => simp [intOf]; omega
            · rw [hE] at c2
              have HA2 : Hid (adjTo E (j + 1) k = adjTo E j k ++ [j]) := by show _ = _; rw [HA.out, hE]; rfl
              have hown' := hown.out
              clear hE HA hown
              go_wp2_with (at_builtin; refine wpList_append_at wr (by rfl) _ _ _ (by rfl) wo.heap.size 3 _ 8 Try.underlying31 infoNum (by rfl) vl _ _ (by rfl) hown' _ (by rfl) wr.heap.size (by rfl) (by rfl) (by omega) (by omega) hsz2 ?_; intro g3 c3 w3 ho3 hg3 hl3)
              have hb3 := hbi.grown hg3 hsz2 (fun q hq => (hown'.lt q hq).1)
              rw [nums_append, ← HA2.out] at ho3
              have e1 : (adjTo E j k).length + 1 = (adjTo E (j + 1) k).length := by rw [HA2.out]; simp
              rw [e1] at ho3 ⊢
              have HO3 := Lib.hid ho3
              clear ho3 hg3 hl3 e1 hown'
              go_roundw
              case rel => exact ⟨j + 1, by omega, by go_num, HO3, hb3⟩
              case measure => simp [intOf]; omega
          · obtain rfl : n = j := by omega
            have hadj : adjTo E n k = adj E n k := rfl
            rw [hadj] at hown
            obtain ⟨xl, cl, hvl, hla⟩ := listAt_own hown.out
            obtain ⟨A, C, r1, r2⟩ := rws_below hR.out hbi
            have hvlt : ∀ q, vo.ownBlock = some q → q < wo.heap.size := by
              obtain ⟨A', C', s1, _⟩ := hR.out
              exact fun q hq => (s1.lt q hq).2
            have hx : (adj E n k).length = 0 ∨ ∃ g, xl = some ⟨g, 0, none⟩ ∧ some g ≠ vo.ownBlock ∧ g < wr.heap.size ∧ ∀ j, j < (adj E n k).length → wr.cell? ⟨g, j, none⟩ = some (.int .i64 (at0 (adj E n k) j : Nat)) := by
              rcases hla with h | ⟨g', h3, h4, h5⟩
              · exact .inl h
              · refine .inr ⟨g', h3, fun e => ?_, h4, h5⟩
                have a1 := hvlt g' e.symm
                have a2 := (hown.out.lt g' (by rw [hvl, h3]; rfl)).1
                omega
            subst hvl
            have HP := Lib.hid (fun (w3 : World) (g3 c3 : Nat) ho hg hl => rws_push (w' := w3) (base := w1.heap.size) (g3 := g3) (c3 := c3) (c := cl) (C := C) r2 hx ho hg hl)
            have hsz3 : w1.heap.size ≤ wr.heap.size := Nat.le_trans hws hbi.size
            have HV := Lib.hid (fun q hq => (r1.lt q hq).1)
            clear r2 hx hla hvlt hown hadj
            go_wp2_with (at_builtin; refine wpList_append_at wr (by rfl) _ _ _ (by rfl) w1.heap.size 31 _ 24 Try.underlying27 infoRow (by rfl) vo k _ (by rfl) r1 _ (by rfl) wr.heap.size (by rfl) (by rfl) (by omega) (by omega) hsz3 ?_; intro g3 c3 w3 ho3 hg3 hl3)
            have hR3 := Lib.hid (HP.out w3 g3 c3 ho3 hg3 hl3)
            have hb3 := hbw.grown hg3 hsz3 (fun q hq => HV.out q hq)
            clear ho3 hg3 hl3 HP HV r1
            go_roundw
            case rel => exact ⟨k + 1, by omega, by go_num, hR3, hb3⟩
            case measure => simp [intOf]; omega
    · obtain rfl : n = k := by omega
      obtain ⟨y, c, hvo, hA⟩ := rws_at hR.out
      subst hvo
      have HA := Lib.hid hA
      clear hA hR
      go_wp2
      go_ret
      exact ⟨y, c, rfl, HA.out, hb2.trans (hbel.mono hsz)⟩
end Go.Proofs.Ytfobjonihlfepaa
