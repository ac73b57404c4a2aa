/- The reference's closure: contract. -/
import Derived.Test.YtaiddgndjiaoaaaGMat
import Derived.Test.YtaiddgndjiaoaaaMatKit2
namespace Go.Proofs.Ytaiddgndjiaoaaa
open Go.RowKit
set_option linter.unusedVariables false

/-- A matrix without a node. -/
def cut (M : Nat → Nat → Bool) (wo : Int) (a b : Nat) : Bool := M a b && !(decide ((a : Int) = wo)) && !(decide ((b : Int) = wo))
/-- The cut matrix in the making: of row k the columns from j on are still the matrix's own. -/
def cutTo (M : Nat → Nat → Bool) (wo : Int) (k j a b : Nat) : Bool := if a = k ∧ j ≤ b then M a b else cut M wo a b
theorem cutTo_start (M : Nat → Nat → Bool) (wo : Int) (k a b : Nat) : (if a = k then M k else cut M wo a) b = cutTo M wo k 0 a b := by
  unfold cutTo
  by_cases h : a = k
  · subst h; simp
  · simp [h]
theorem cutTo_end {M : Nat → Nat → Bool} {wo : Int} {k n a b : Nat} (hb : b < n) : cutTo M wo k n a b = cut M wo a b := by
  unfold cutTo
  rw [if_neg (by omega)]
theorem cutTo_step {M : Nat → Nat → Bool} {wo : Int} {k j a b : Nat} : cutTo M wo k (j + 1) a b = if a = k ∧ b = j then cut M wo k j else cutTo M wo k j a b := by
  unfold cutTo
  by_cases h : a = k ∧ b = j
  · obtain ⟨rfl, rfl⟩ := h
    rw [if_neg (by omega), if_pos ⟨rfl, rfl⟩]
  · rw [if_neg h]
    by_cases h2 : a = k ∧ j ≤ b
    · rw [if_pos h2, if_pos (by omega)]
    · rw [if_neg h2, if_neg (by omega)]
theorem cut_yes {M : Nat → Nat → Bool} {wo : Int} {a b : Nat} (h : (a : Int) = wo ∨ (b : Int) = wo) : cut M wo a b = false := by
  unfold cut
  rcases h with h | h <;> simp [h]
theorem cut_no {M : Nat → Nat → Bool} {wo : Int} {a b : Nat} (h1 : ¬ (a : Int) = wo) (h2 : ¬ (b : Int) = wo) : cut M wo a b = M a b := by
  unfold cut
  simp [h1, h2]
/-- Warshall's round k in the midst: rows below i are done, of row i the columns below j. -/
def wmid (M : Nat → Nat → Bool) (k i j a b : Nat) : Bool := if a < i then wars M (k + 1) a b else if a = i then (if b < j then wars M (k + 1) a b else wars M k a b) else wars M k a b
theorem wmid_row {M : Nat → Nat → Bool} {k i j a : Nat} : wmid M k i j a k = wars M k a k := by
  unfold wmid
  rw [wars_row]
  split
  · rfl
  · split
    · split <;> rfl
    · rfl
theorem wmid_col {M : Nat → Nat → Bool} {k i j b : Nat} : wmid M k i j k b = wars M k k b := by
  unfold wmid
  rw [wars_col]
  split
  · rfl
  · split
    · split <;> rfl
    · rfl
theorem wmid_step {M : Nat → Nat → Bool} {k i j a b : Nat} : wmid M k i (j + 1) a b = if a = i ∧ b = j then wars M (k + 1) i j else wmid M k i j a b := by
  unfold wmid
  by_cases h1 : a < i
  · rw [if_pos h1, if_neg (by omega), if_pos h1]
  · rw [if_neg h1, if_neg h1]
    by_cases h2 : a = i
    · subst h2
      by_cases h3 : b = j
      · subst h3; simp
      · by_cases h4 : b < j
        · simp [h3, h4]; intro; omega
        · simp [h3, h4]; intro; omega
    · simp [h2]
theorem wmid_end {M : Nat → Nat → Bool} {k i n a b : Nat} (hb : b < n) : wmid M k i n a b = wmid M k (i + 1) 0 a b := by
  unfold wmid
  by_cases h1 : a < i
  · rw [if_pos h1, if_pos (by omega)]
  · by_cases h2 : a = i
    · subst h2; simp [hb]
    · rw [if_neg h1, if_neg h2, if_neg (by omega)]
      split <;> simp
theorem wmid_start {M : Nat → Nat → Bool} {k a b : Nat} : wmid M k 0 0 a b = wars M k a b := by
  unfold wmid
  simp
theorem wmid_done {M : Nat → Nat → Bool} {k n a b : Nat} (ha : a < n) : wmid M k n 0 a b = wars M (k + 1) a b := by
  unfold wmid
  rw [if_pos ha]

set_option maxHeartbeats 4000000 in
set_option maxRecDepth 100000 in
theorem rClosure_any (x : Option Addr) (n cap : Nat) (M : Nat → Nat → Bool) (wo : Int) (hwo : -9223372036854775808 ≤ wo ∧ wo ≤ 9223372036854775807) (w : World) (hM : MatAt w x n M) (hn : n ≤ 20000) :
    Calls Try.prog 37 #[.slice x n cap, .int .i64 wo] w fun e w' => ∃ v, e = .returned v ∧ (∃ y c, v = .slice y n c ∧ MatAt w' y n (wars (cut M wo) n)) ∧ Below w.heap.size w w' := by
  have HM := Lib.hid hM
  clear hM
  go_enter Try.func37, Try.ntmps37
  go_wp2
  go_loopw [5, 13] (fun v i wr => ∃ k : Nat, k ≤ n ∧ i = .int .i64 k ∧ Hid (Mat wr w.heap.size 39 4 v k n (cut M wo)) ∧ Below w.heap.size w wr) (fun _ i _ => n - (intOf i).toNat)
  case atStart => exact ⟨0, by omega, rfl, mat_nil _ _ _ _ _ _, Below.refl _ _⟩
  case round =>
    obtain ⟨k, hk, rfl, hMk, hbel⟩ := hrel
    obtain ⟨vo, rfl⟩ : ∃ vo : Value, vo = u5 := ⟨_, rfl⟩
    have hws := hbel.size
    by_cases hkn : k < n
    · rcases HM.out with h0 | ⟨B, hyB, hB, hrows⟩
      · omega
      · subst hyB
        obtain ⟨g, gc, h1, hg, h2⟩ := hrows k hkn
        have c1 : wr.cell? ⟨B, k, none⟩ = some (.slice (some ⟨g, 0, none⟩) n gc) := by rw [hbel.cell (by exact hB)]; exact h1
        have hk0 : (0 : Int) ≤ (k : Int) := by omega
        have hk1 : (k : Int) < (n : Int) := by omega
        have c1a : (wr.alloc (.cells #[] 4)).cell? ⟨B, k, none⟩ = some (.slice (some ⟨g, 0, none⟩) n gc) := by
          rw [((Below.refl wr.heap.size wr).alloc (Nat.le_refl _) _).cell (by show B < wr.heap.size; omega)]; exact c1
        have hnews : ∀ j u, ((List.range n).map fun b => Value.bool (M k b))[j]? = some u → (wr.alloc (.cells #[] 4)).cell? ((⟨g, 0, none⟩ : Addr).add j) = some u := by
          intro j u hj
          have hjn : j < n := by have := (List.getElem?_eq_some_iff.1 hj).1; simpa using this
          rw [Go.WideShapes.add_plain, ((Below.refl wr.heap.size wr).alloc (Nat.le_refl _) _).cell (by show g < wr.heap.size; omega), hbel.cell (by exact hg)]
          simp [hjn] at hj
          rw [← hj, Nat.zero_add]
          exact h2 j hjn
        have hone : ∀ u ∈ (List.range n).map fun b => Value.bool (M k b), u.oneCell' = true := by
          intro u hu
          obtain ⟨b, _, rfl⟩ := List.mem_map.1 hu
          rfl
        have hown1 : (wr.alloc (.cells #[] 4)).ownsRow wr.heap.size 4 1 (.slice (some ⟨wr.heap.size, 0, none⟩) 0 0) 0 [] := World.ownsRow_made wr #[] 0 (Nat.le_refl _) (by unfold maxLen; omega) (by simp)
        obtain ⟨i0, hi0, hz0, hz1, hz2⟩ := info_parts infoBool
        obtain ⟨G, C, m1, m2, m3⟩ := hMk.out
        have HP := Lib.hid (fun (w2 w3 : World) (g2 g3 c2 c3 : Nat) hb12 hg2 hr o2 hg hl => mat_push (w' := w3) (w := w2) (g := g2) (vo' := .slice (some ⟨g3, 0, none⟩) (k + 1) c3) (c := c2) (f := M k) m1 m2 m3 hb12 hg2 hws hr hg hl o2)
        have HO := Lib.hid (fun (w2 : World) (hb12 : Below wr.heap.size wr w2) => own_below m1 hb12 (Nat.le_refl _))
        have CB := Lib.hid (show ∀ w2 : World, (wr.alloc (.cells #[] 4)).grownBy w2 (some wr.heap.size) → Below wr.heap.size wr w2 from fun w2 hg2 =>
          ((Below.refl wr.heap.size wr).alloc (Nat.le_refl _) _).grown hg2 (by simp) (fun q hq => by injection hq with e; omega))
        have HV := Lib.hid (fun q hq => (m1.lt q hq).1)
        have HH2 := Lib.hid h2
        clear h1 c1 m1 m2 m3 hMk h2
        go_wp2_with (first
          | (at_builtin; refine wpList_append_lies (w := wr.alloc (.cells #[] 4)) (by rfl) (.tmp 17) (.tmp 21) _ (by rfl) wr.heap.size 4 i0 (.bool false) 1 1 Try.underlying39 hi0 hz0 hz1 hz2 (by rfl) (by decide) (.slice (some ⟨wr.heap.size, 0, none⟩) 0 0) 0 [] (by rfl) hown1 ⟨g, 0, none⟩ n gc ((List.range n).map fun b => Value.bool (M k b)) (by rfl) (by simp) hnews hone (by omega) (by unfold maxLen; omega) (by omega) (by simp) (wr.heap.size + 1) (by simp) ?_; intro g2 cap2 w2 ho2 hgr2 hat2 hlt2; have hb12 := CB.out w2 hgr2; have hsz2 : w.heap.size ≤ w2.heap.size := Nat.le_trans hws hb12.size; have hown2 := HO.out w2 hb12)
          | (at_builtin; refine wpList_append_at w2 (by rfl) (.tmp 16) (.tmp 23) _ (by rfl) w.heap.size 39 _ 24 Try.underlying37 infoBRow (by rfl) vo k _ (by rfl) hown2 _ (by rfl) w2.heap.size (by rfl) (by rfl) (by omega) (by omega) hsz2 ?_; intro g3 c3 w3 ho3 hg3 hl3))
        have hr2 : BRow w2 4 g2 n (M k) := brow_own (by simpa using ho2)
        have hg2 : wr.heap.size ≤ g2 := by
          rcases hat2 with h | h
          · have e : some wr.heap.size = some g2 := h
            injection e with e; omega
          · omega
        have hMp : Hid (Mat w3 w.heap.size 39 4 (.slice (some ⟨g3, 0, none⟩) (k + 1) c3) (k + 1) n (cutTo M wo k 0)) :=
          mat_congr (HP.out w2 w3 g2 g3 cap2 c3 hb12 hg2 hr2 (by simpa using ho3) hg3 hl3) fun a b _ _ => cutTo_start M wo k a b
        have hbel3 : Below w.heap.size w w3 := (hbel.trans (hb12.mono hws)).grown hg3 hsz2 (fun q hq => HV.out q hq)
        clear ho2 hgr2 hat2 hlt2 hb12 hsz2 hown2 hr2 hg2 ho3 hg3 hl3 HP HO HV CB hnews hone hown1 c1a hbel hws
        have hg3b : g3 < w3.heap.size ∧ w.heap.size ≤ g3 := by
          rcases mat_val hMp.out with ⟨h0, _⟩ | ⟨_, B', cap', hv, h1, h2⟩
          · omega
          · injection hv with hv; injection hv with hv; injection hv with hv; subst hv
            exact ⟨h2, h1⟩
        go_loopw [27] (fun i wr => ∃ j : Nat, j ≤ n ∧ i = .int .i64 j ∧ Hid (Mat wr w.heap.size 39 4 (.slice (some ⟨g3, 0, none⟩) (k + 1) c3) (k + 1) n (cutTo M wo k j)) ∧ Below w.heap.size w wr) (fun i _ => n - (intOf i).toNat)
        case atStart => exact ⟨0, by omega, rfl, hMp, hbel3⟩
        case round =>
          clear hMp hbel3
          obtain ⟨j, hj, rfl, hMj, hbel⟩ := hrel
          by_cases hjn : j < n
          · obtain ⟨G, C, o1, o2, o3, o4, o5⟩ := mat_open hMj.out
            have d1 := o1 k (by omega)
            have d2 := o2 k j (by omega) hjn
            have d3 := o3 k j (by omega)
            have hset := Lib.hid (o5 k j (cut M wo k j) (cutTo M wo k (j + 1)) (by omega) hjn (fun a b _ _ => cutTo_step))
            have hbel2 := hbel.setCell (p := ⟨G k, j, none⟩) (o4 k (by omega)) (.bool false)
            have hMj' := hMj.out
            clear o1 o2 o3 o4 o5
            by_cases e1 : (k : Int) = wo
            · have hy : cut M wo k j = false := cut_yes (.inl e1)
              rw [hy] at hset
              have q1 : ((k : Int) == wo) = true := by simp [e1]
              clear e1 hy
              go_wp2
              go_roundw
              case rel => exact ⟨j + 1, by omega, by go_num, hset, hbel2⟩
              case measure => simp [intOf]; omega
            · have q1 : ((k : Int) == wo) = false := by simp [e1]
              by_cases e2 : (j : Int) = wo
              · have hy : cut M wo k j = false := cut_yes (.inr e2)
                rw [hy] at hset
                have q2 : ((j : Int) == wo) = true := by simp [e2]
                clear e1 e2 hy
                go_wp2
                go_roundw
                case rel => exact ⟨j + 1, by omega, by go_num, hset, hbel2⟩
                case measure => simp [intOf]; omega
              · have q2 : ((j : Int) == wo) = false := by simp [e2]
                have hM2 : Hid (Mat wr w.heap.size 39 4 (.slice (some ⟨g3, 0, none⟩) (k + 1) c3) (k + 1) n (cutTo M wo k (j + 1))) := mat_congr hMj' fun a b _ _ => by
                  rw [cutTo_step]
                  by_cases h : a = k ∧ b = j
                  · obtain ⟨rfl, rfl⟩ := h
                    rw [if_pos ⟨rfl, rfl⟩, cut_no e1 e2]
                    simp [cutTo]
                  · rw [if_neg h]
                clear e1 e2 hMj'
                go_wp2
                go_roundw
                case rel => exact ⟨j + 1, by omega, by go_num, hM2, hbel⟩
                case measure => simp [intOf]; omega
          · obtain rfl : n = j := by omega
            have hM2 : Hid (Mat wr w.heap.size 39 4 (.slice (some ⟨g3, 0, none⟩) (k + 1) c3) (k + 1) n (cut M wo)) := mat_congr hMj.out fun a b _ hb => cutTo_end hb
            clear hMj
            go_wp2
            go_roundw
            case rel => exact ⟨k + 1, by omega, by go_num, hM2, hbel⟩
            case measure => simp [intOf]; omega
    · obtain rfl : n = k := by omega
      obtain ⟨y, c, hvo, hy⟩ := mat_shape hMk.out
      subst hvo
      have HY := Lib.hid hy
      have hM0 : Hid (Mat wr w.heap.size 39 4 (.slice y n c) n n (wars (cut M wo) 0)) := hMk
      clear hMk hy HM hwo
      generalize hCM : cut M wo = Cm at *
      have HCM := Lib.hid hCM
      clear hCM
      obtain ⟨wp, rfl⟩ : ∃ wp : World, wp = wr := ⟨_, rfl⟩
      go_wp2
      go_loopw [48] (fun i wr => ∃ K : Nat, K ≤ n ∧ i = .int .i64 K ∧ Hid (Mat wr w.heap.size 39 4 (.slice y n c) n n (wars Cm K)) ∧ Below w.heap.size w wr) (fun i _ => n - (intOf i).toNat)
      case atStart => exact ⟨0, by omega, rfl, hM0, hbel⟩
      case round =>
        clear hM0 hbel
        obtain ⟨K, hK, rfl, hMK, hbel⟩ := hrel
        obtain ⟨wp, rfl⟩ : ∃ wp : World, wp = wr := ⟨_, rfl⟩
        by_cases hKn : K < n
        · obtain ⟨Bo, hyB, hB1, hB2⟩ := HY.out (by omega)
          subst hyB
          have hM0 : Hid (Mat wp w.heap.size 39 4 (.slice (some ⟨Bo, 0, none⟩) n c) n n (wmid Cm K 0 0)) := mat_congr hMK.out fun a b _ _ => wmid_start.symm
          clear hMK
          go_wp2
          go_loopw [53] (fun i wr => ∃ I : Nat, I ≤ n ∧ i = .int .i64 I ∧ Hid (Mat wr w.heap.size 39 4 (.slice (some ⟨Bo, 0, none⟩) n c) n n (wmid Cm K I 0)) ∧ Below w.heap.size w wr) (fun i _ => n - (intOf i).toNat)
          case atStart => exact ⟨0, by omega, rfl, hM0, hbel⟩
          case round =>
            clear hM0 hbel
            obtain ⟨I, hI, rfl, hMI, hbel⟩ := hrel
            obtain ⟨wp, rfl⟩ : ∃ wp : World, wp = wr := ⟨_, rfl⟩
            by_cases hIn : I < n
            · go_wp2
              go_loopw [58] (fun i wr => ∃ J : Nat, J ≤ n ∧ i = .int .i64 J ∧ Hid (Mat wr w.heap.size 39 4 (.slice (some ⟨Bo, 0, none⟩) n c) n n (wmid Cm K I J)) ∧ Below w.heap.size w wr) (fun i _ => n - (intOf i).toNat)
              case atStart => exact ⟨0, by omega, rfl, hMI, hbel⟩
              case round =>
                clear hMI hbel
                obtain ⟨J, hJ, rfl, hMJ, hbel⟩ := hrel
                by_cases hJn : J < n
                · obtain ⟨G, C, o1, o2, o3, o4, o5⟩ := mat_open hMJ.out
                  have d1 := o1 I hIn
                  have d2 := o1 K hKn
                  have d3 := o2 I K hIn hKn
                  have d4 := o2 K J hKn hJn
                  have d5 := o2 I J hIn hJn
                  have d6 := o3 I J hIn
                  rw [wmid_row] at d3
                  rw [wmid_col] at d4
                  have hset := Lib.hid (o5 I J true (wmid Cm K I (J + 1)) hIn hJn)
                  have hbel2 := hbel.setCell (p := ⟨G I, J, none⟩) (o4 I hIn) (.bool true)
                  have hMJ' := hMJ.out
                  have hsame : wars Cm (K + 1) I J = wars Cm K I J → Hid (Mat wr w.heap.size 39 4 (.slice (some ⟨Bo, 0, none⟩) n c) n n (wmid Cm K I (J + 1))) := fun e => mat_congr hMJ' fun a b _ _ => by
                    rw [wmid_step]
                    by_cases h : a = I ∧ b = J
                    · obtain ⟨rfl, rfl⟩ := h
                      rw [if_pos ⟨rfl, rfl⟩, e]
                      simp [wmid]
                    · rw [if_neg h]
                  clear o1 o2 o3 o4 o5 hMJ hMJ'
                  have hI0 : (0 : Int) ≤ (I : Int) := by omega
                  have hK0 : (0 : Int) ≤ (K : Int) := by omega
                  rcases hE1 : wars Cm K I K with _ | _
                  · have hM2 := hsame (by simp [wars, hE1])
                    rw [hE1] at d3
                    clear hE1 hsame hset
                    go_wp2
                    go_roundw
                    case rel => exact ⟨J + 1, by omega, by go_num, hM2, hbel⟩
                    case measure => simp [intOf]; omega
                  · rcases hE2 : wars Cm K K J with _ | _
                    · have hM2 := hsame (by simp [wars, hE2])
                      rw [hE1] at d3
                      rw [hE2] at d4
                      clear hE1 hE2 hsame hset
                      go_wp2
                      go_roundw
                      case rel => exact ⟨J + 1, by omega, by go_num, hM2, hbel⟩
                      case measure => simp [intOf]; omega
                    · have hM2 := Lib.hid (hset.out (fun a b _ _ => by
                        rw [wmid_step]
                        by_cases h : a = I ∧ b = J
                        · obtain ⟨rfl, rfl⟩ := h
                          rw [if_pos ⟨rfl, rfl⟩, if_pos ⟨rfl, rfl⟩]
                          simp [wars, hE1, hE2]
                        · rw [if_neg h, if_neg h]))
                      rw [hE1] at d3
                      rw [hE2] at d4
                      clear hE1 hE2 hsame hset
                      go_wp2
                      go_roundw
                      case rel => exact ⟨J + 1, by omega, by go_num, hM2, hbel2⟩
                      case measure => simp [intOf]; omega
                · obtain rfl : n = J := by omega
                  have hM2 : Hid (Mat wr w.heap.size 39 4 (.slice (some ⟨Bo, 0, none⟩) n c) n n (wmid Cm K (I + 1) 0)) := mat_congr hMJ.out fun a b _ hb => wmid_end hb
                  clear hMJ
                  go_wp2
                  go_roundw
                  case rel => exact ⟨I + 1, by omega, by go_num, hM2, hbel⟩
                  case measure => simp [intOf]; omega
            · obtain rfl : n = I := by omega
              have hM2 : Hid (Mat wp w.heap.size 39 4 (.slice (some ⟨Bo, 0, none⟩) n c) n n (wars Cm (K + 1))) := mat_congr hMI.out fun a b ha _ => wmid_done ha
              clear hMI
              go_wp2
              go_roundw
              case rel => exact ⟨K + 1, by omega, by go_num, hM2, hbel⟩
              case measure => simp [intOf]; omega
        · obtain rfl : n = K := by omega
          have hMA := mat_at hMK.out
          have HMA := Lib.hid hMA
          clear hMA hMK
          go_wp2
          go_ret
          have e := HCM.out
          subst e
          obtain ⟨x', c', he, hm⟩ := HMA.out
          exact ⟨_, rfl, ⟨x', c', he, hm⟩, hbel⟩
end Go.Proofs.Ytaiddgndjiaoaaa
