/- The library's sort and compact at a list of numbers that the call owns. -/
import Derived.Test.YtaiddgndjiaoaaaLawKit
import Derived.Test.YtaiddgndjiaoaaaTabKit
import Derived.Test.YtaiddgndjiaoaaaShelf
import Derived.Sort.OwnSortedInts
import Derived.Lib.RowBridge
namespace Go.Proofs.Ytaiddgndjiaoaaa
open Go.RowKit

theorem ints_nat {zs : List Int} (h : ∀ z ∈ zs, 0 ≤ z) : zs.map (Value.int .i64) = nums (zs.map Int.toNat) := by
  induction zs with
  | nil => rfl
  | cons a t ih =>
    have ha := h a (by simp)
    simp only [nums, List.map_cons] at ih ⊢
    rw [ih fun z hz => h z (List.mem_cons_of_mem _ hz)]
    congr 2
    omega
theorem nums_ints (l : List Nat) : nums l = (l.map fun x : Nat => (x : Int)).map (Value.int .i64) := by simp [nums]

theorem sort_own (l : List Nat) (v : Value) (base : Nat) (w : World) (hown : w.ownsRow base 3 1 v l.length (nums l)) (hl : l.length < 16777216) :
    Calls Try.prog 28 #[v] w fun e w' => e = .returned (.tuple #[]) ∧ ∃ l' : List Nat, l'.Perm l ∧ l'.Pairwise (· ≤ ·) ∧ w'.ownsRow base 3 1 v l'.length (nums l') ∧ w.grownBy w' v.ownBlock := by
  rcases hown.2 with ⟨hv, h0⟩ | ⟨g, cap, cur, hv, hg, hh, hc, hm, hs, ht⟩
  · subst hv
    have hnil : l = [] := List.eq_nil_of_length_eq_zero h0
    subst hnil
    refine (Try.slices_Sort_int_none none 0 w).mono ?_
    rintro e w' ⟨rfl, rfl⟩
    exact ⟨rfl, [], List.Perm.refl _, List.Pairwise.nil, hown, World.grownBy.refl _ _⟩
  · subst hv
    have hlen : (l.map fun x : Nat => (x : Int)).length = l.length := by simp
    have hH : Go.Sort.Holds (Value.int .i64) w g 0 (l.map fun x : Nat => (x : Int)).toArray := Go.holds_of_blockI hh (by rw [hlen, ← nums_ints]; simpa using ht)
    have hlt : g < w.heap.size := (Array.getElem?_eq_some_iff.1 hh).1
    have h := Try.slices_Sort_int g 0 cap (l.map fun x : Nat => (x : Int)) w hH hlt (by rw [hlen]; omega)
    rw [hlen] at h
    refine h.mono ?_
    rintro e w' ⟨rfl, n, os, rfl⟩
    have hp : ((l.map fun x : Nat => (x : Int)).mergeSort fun x y => decide (x ≤ y)).Perm (l.map fun x : Nat => (x : Int)) := List.mergeSort_perm _ _
    have hpw := List.pairwise_mergeSort (le := fun x y : Int => decide (x ≤ y)) (fun a b c h1 h2 => by simp at *; omega) (fun a b => by simp; omega) (l.map fun x : Nat => (x : Int))
    generalize ((l.map fun x : Nat => (x : Int)).mergeSort fun x y => decide (x ≤ y)) = zs at *
    have hpos : ∀ z ∈ zs, 0 ≤ z := by
      intro z hz
      have := hp.mem_iff.1 hz
      obtain ⟨x, _, rfl⟩ := List.mem_map.1 this
      omega
    have hzl : zs.length = l.length := by rw [hp.length_eq]; simp
    have hperm : (zs.map Int.toNat).Perm l := by
      have := hp.map Int.toNat
      have e1 : (l.map fun x : Nat => (x : Int)).map Int.toNat = l := by simp [List.map_map, Function.comp_def]
      rwa [e1] at this
    refine ⟨rfl, zs.map Int.toNat, hperm, ?_, ?_, Go.grownBy_sortedI _⟩
    · rw [List.pairwise_map]
      refine hpw.imp_of_mem ?_
      intro a b ha hb h1
      have := hpos a ha
      simp at h1
      omega
    · have := Go.ownsRow_sortedI (w := w) (n := n) (os := os) (ss := l.map fun x : Nat => (x : Int)) (ts := zs) (by rw [hzl, hlen]) hg hh (by rw [hlen]; exact hc) hm hs
      rw [ints_nat hpos] at this
      simpa [hzl] using this

theorem compact_sorted : ∀ (m : Nat) (d : Array Int), m ≤ d.size → (d.toList.take m).Pairwise (· ≤ ·) →
    (Lib.compactUpTo d m).Pairwise (· < ·) ∧ (∀ x, x ∈ Lib.compactUpTo d m ↔ x ∈ d.toList.take m) := by
  intro m
  induction m with
  | zero => intro d _ _; simp [Lib.compactUpTo]
  | succ m ih =>
    intro d hm hp
    have hd : d.toList.take (m + 1) = d.toList.take m ++ [d[m]!] := by
      rw [List.take_succ_eq_append_getElem (show m < d.toList.length by simp; omega)]
      congr 2
      rw [getElem!_pos d m (by omega)]
      simp
    rw [hd] at hp ⊢
    have hp' := List.pairwise_append.1 hp
    obtain ⟨i1, i2⟩ := ih d (by omega) hp'.1
    rw [Lib.compactUpTo_succ]
    by_cases hk : Lib.keeps d m = true
    · rw [if_pos hk]
      refine ⟨List.pairwise_append.2 ⟨i1, List.pairwise_singleton _ _, fun a ha b hb => ?_⟩, fun x => ?_⟩
      rotate_left
      · rw [List.mem_append, List.mem_append, i2]
      simp at hb
      subst hb
      have ha' := (i2 a).1 ha
      have hle := hp'.2.2 a ha' (d[m]!) (List.mem_singleton.2 rfl)
      rcases Nat.eq_zero_or_pos m with h0 | h0
      · subst h0; simp at ha'
      · have hne : d[m]! ≠ d[m - 1]! := by
          have := of_decide_eq_true hk
          exact this.resolve_left (by omega)
        -- every element before is at most the one just before
        have hlast : a ≤ d[m - 1]! := by
          obtain ⟨j, hj, rfl⟩ := List.mem_iff_getElem.1 ha'
          have hjm : j < m := by simp at hj; omega
          have e1 : (d.toList.take m)[m - 1]'(by simp; omega) = d[m - 1]! := by
            rw [getElem!_pos d (m - 1) (by omega)]; simp
          rcases Nat.lt_or_ge j (m - 1) with h2 | h2
          · have := List.pairwise_iff_getElem.1 hp'.1 j (m - 1) hj (by simp; omega) h2
            rw [e1] at this
            exact this
          · have h3 : j = m - 1 := by omega
            subst h3
            rw [e1]
            exact Int.le_refl _
        have hstep : d[m - 1]! ≤ d[m]! := by
          refine hp'.2.2 _ ?_ _ (List.mem_singleton.2 rfl)
          have e1 : d[m - 1]! = (d.toList.take m)[m - 1]'(by simp; omega) := by
            rw [getElem!_pos d (m - 1) (by omega)]; simp
          rw [e1]
          exact List.getElem_mem _
        omega
    · rw [if_neg hk]
      have hk' : ¬ (m = 0 ∨ d[m]! ≠ d[m - 1]!) := fun h => hk (decide_eq_true h)
      have h0 : m ≠ 0 := fun h => hk' (.inl h)
      have he : d[m]! = d[m - 1]! := Decidable.byContradiction fun h => hk' (.inr h)
      simp only [List.append_nil]
      refine ⟨i1, fun x => ?_⟩
      rw [i2 x]
      constructor
      · intro h; exact List.mem_append_left _ h
      · intro h
        rcases List.mem_append.1 h with h | h
        · exact h
        · simp at h
          subst h
          rw [he]
          have e1 : d[m - 1]! = (d.toList.take m)[m - 1]'(by simp; omega) := by
            rw [getElem!_pos d (m - 1) (by omega)]; simp
          rw [e1]
          exact List.getElem_mem _

theorem compact_own (l : List Nat) (hs : l.Pairwise (· ≤ ·)) (v : Value) (base : Nat) (w : World) (hown : w.ownsRow base 3 1 v l.length (nums l)) (hl : l.length < 16777216) :
    Calls Try.prog 29 #[v] w fun e w' => ∃ v', e = .returned v' ∧ v'.ownBlock = v.ownBlock ∧ w.grownBy w' v.ownBlock ∧ ∃ l' : List Nat, l'.Pairwise (· < ·) ∧ (∀ x, x ∈ l' ↔ x ∈ l) ∧ w'.ownsRow base 3 1 v' l'.length (nums l') := by
  rcases hown.2 with ⟨hv, h0⟩ | ⟨g, cap, cur, hv, hg, hh, hc, hm, hsz, ht⟩
  · subst hv
    have hnil : l = [] := List.eq_nil_of_length_eq_zero h0
    subst hnil
    refine (Try.slices_Compact_int_empty none 0 w).mono ?_
    rintro e w' ⟨rfl, rfl⟩
    exact ⟨_, rfl, rfl, World.grownBy.refl _ _, [], List.Pairwise.nil, fun x => by simp, hown⟩
  · subst hv
    have hlen : (l.map fun x : Nat => (x : Int)).length = l.length := by simp
    have hH : Go.Sort.Holds (Value.int .i64) w g 0 (l.map fun x : Nat => (x : Int)).toArray := Go.holds_of_blockI hh (by rw [hlen, ← nums_ints]; simpa using ht)
    have h := Try.slices_Compact_int g 0 cap (l.map fun x : Nat => (x : Int)) w hH (by rw [hlen]; omega) (by rw [hlen]; exact hc)
    have hcs := compact_sorted l.length (l.map fun x : Nat => (x : Int)).toArray (by simp) (by
      have e1 : (l.map fun x : Nat => (x : Int)).toArray.toList.take l.length = l.map fun x : Nat => (x : Int) := List.take_of_length_le (by simp)
      rw [e1, List.pairwise_map]
      exact hs.imp fun h => by omega)
    have e0 : Lib.compact (l.map fun x : Nat => (x : Int)) = Lib.compactUpTo (l.map fun x : Nat => (x : Int)).toArray l.length := by unfold Lib.compact; rw [hlen]
    rw [e0] at h
    have hle : (Lib.compactUpTo (l.map fun x : Nat => (x : Int)).toArray l.length).length ≤ l.length := by rw [← e0]; have := Lib.compact_length_le (l.map fun x : Nat => (x : Int)); rwa [hlen] at this
    have e1 : (l.map fun x : Nat => (x : Int)).toArray.toList.take l.length = l.map fun x : Nat => (x : Int) := List.take_of_length_le (by simp)
    rw [e1] at hcs
    generalize Lib.compactUpTo (l.map fun x : Nat => (x : Int)).toArray l.length = zs at *
    rw [hlen] at h
    refine h.mono ?_
    rintro e w' ⟨rfl, q, rfl⟩
    have hpos : ∀ z ∈ zs, 0 ≤ z := by
      intro z hz
      have := (hcs.2 z).1 hz
      obtain ⟨x, _, rfl⟩ := List.mem_map.1 this
      omega
    have hgs : w.grownBy (Go.Sort.putRow (Value.int .i64) (Go.Sort.ahead w q) g 0 (zs ++ List.replicate (l.length - zs.length) 0).toArray) (some g) := by
      have := Go.grownBy_sortedI (w := w) (g := g) (n := q) (os := #[]) (zs ++ List.replicate (l.length - zs.length) 0).toArray
      simpa using this
    refine ⟨_, rfl, rfl, hgs, zs.map Int.toNat, ?_, fun x => ?_, ?_⟩
    · rw [List.pairwise_map]
      refine hcs.1.imp_of_mem ?_
      intro a b ha hb h1
      have := hpos a ha
      omega
    · constructor
      · intro hx
        obtain ⟨z, hz, rfl⟩ := List.mem_map.1 hx
        obtain ⟨y, hy, rfl⟩ := List.mem_map.1 ((hcs.2 z).1 hz)
        simpa using hy
      · intro hx
        refine List.mem_map.2 ⟨(x : Int), (hcs.2 _).2 (List.mem_map.2 ⟨x, hx, rfl⟩), by simp⟩
    · have h1 := Go.ownsRow_sortedI (w := w) (n := q) (os := #[]) (ss := l.map fun x : Nat => (x : Int)) (ts := zs ++ List.replicate (l.length - zs.length) 0) (by simp; omega) hg hh (by rw [hlen]; exact hc) hm hsz
      rcases h1.2 with ⟨h2, _⟩ | ⟨g', cap', cur', hv', hg', hh', hc', hm', hsz', ht'⟩
      · cases h2
      · cases hv'
        refine ⟨by simp [nums], .inr ⟨g, cap, cur', by simp, hg', by simpa using hh', by simp; omega, hm', hsz', ?_⟩⟩
        have h3 : cur'.toList.take zs.length = (cur'.toList.take (l.length * 1)).take zs.length := by
          rw [List.take_take]; congr 1; omega
        have h4 : (l.map fun x : Nat => (x : Int)).length * 1 = l.length * 1 := by rw [hlen]
        rw [h4] at ht'
        rw [ht'] at h3
        rw [← ints_nat hpos]
        simp only [List.length_map, Nat.mul_one]
        rw [h3, List.map_append]
        simp
end Go.Proofs.Ytaiddgndjiaoaaa
