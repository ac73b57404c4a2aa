/- The successors of all nodes: contract of package graph's Next. -/
import Derived.Test.YtaiddgndjiaoaaaGA
import Derived.Test.YtaiddgndjiaoaaaSortKit
import Derived.Deep.RegionLaw
import Derived.Outline
namespace Go.Proofs.Ytaiddgndjiaoaaa
open Go.RowKit

/-- The links of a graph as they lie in memory. -/
def LinksAt (w : World) (x : Option Addr) (len : Nat) (ls : List (Int × Int)) : Prop :=
  ls.length = len ∧ (len = 0 ∨ ∃ b o, x = some ⟨b, o, none⟩ ∧ b < w.heap.size ∧ ∀ i, i < len → ∃ f t, ls[i]? = some (f, t) ∧
    w.cell? ⟨b, o + i * 2, none⟩ = some (.int .i64 f) ∧ w.cell? ⟨b, o + i * 2 + 1, none⟩ = some (.int .i64 t) ∧ -9223372036854775808 ≤ f ∧ f ≤ 9223372036854775807 ∧ -9223372036854775808 ≤ t ∧ t ≤ 9223372036854775807)
theorem links_below {w w' : World} {B : Nat} {x : Option Addr} {len : Nat} {ls : List (Int × Int)} (h : LinksAt w x len ls) (hb : Below B w w') (hB : w.heap.size ≤ B) : LinksAt w' x len ls := by
  refine ⟨h.1, ?_⟩
  rcases h.2 with h0 | ⟨b, o, hx, hlt, hc⟩
  · exact .inl h0
  · refine .inr ⟨b, o, hx, Nat.lt_of_lt_of_le hlt hb.size, fun i hi => ?_⟩
    obtain ⟨f, t, h1, h2, h3, h4⟩ := hc i hi
    exact ⟨f, t, h1, by rw [hb.cell (by show b < B; omega)]; exact h2, by rw [hb.cell (by show b < B; omega)]; exact h3, h4⟩

/-- Behind an append to a table's slice the element's own cells, and the table's, read as before. -/
theorem put_keep {wr w3 : World} {B : Nat} {t e tl : TypeId} {n : Nat} {U : Nat → Value} {L : Nat → List Nat} (u1 : wr.rowIs B t n U) (u2 : ∀ i, i < n → wr.ownsRow (B + 1) e 1 (U i) (L i).length (nums (L i))) {f : Nat} (hf : f < n) {a b : Value}
    (hg : (wr.alloc (.cells #[a, b] tl)).grownBy w3 (U f).ownBlock) :
    w3.cell? ⟨wr.heap.size, 0, none⟩ = some a ∧ w3.cell? ⟨wr.heap.size, 1, none⟩ = some b ∧ w3.cell? ⟨B, f, none⟩ = some (U f) ∧ w3.frozen? ⟨B, f, none⟩ = false := by
  have hs : (wr.alloc (.cells #[a, b] tl)).heap.size = wr.heap.size + 1 := by simp
  have n1 : some wr.heap.size ≠ (U f).ownBlock := fun e1 => by have := (u2 f hf).lt _ e1.symm; omega
  have n2 : some B ≠ (U f).ownBlock := fun e1 => by have := (u2 f hf).lt _ e1.symm; omega
  have hB := u1.lt
  have k1 : w3.heap[wr.heap.size]? = (wr.alloc (.cells #[a, b] tl)).heap[wr.heap.size]? := hg.block _ (by omega) n1
  have k2 := row_grown (u1.alloc (.cells #[a, b] tl)) hg n2
  refine ⟨?_, ?_, k2.cell hf, k2.frozen f⟩
  · simp only [World.cell?, k1, heap_alloc_new]; rfl
  · simp only [World.cell?, k1, heap_alloc_new]; rfl

/-- The table in the midst of the second loop: the lists below j are sorted and free of duplicates. -/
def mid (ls : List (Int × Int)) (n j : Nat) (a : Nat) : List Nat := if a < j then adj (edge ls n) n a else col ls n ls.length a
theorem mid_hi {ls : List (Int × Int)} {n j a : Nat} (h : j ≤ a) : mid ls n j a = col ls n ls.length a := by unfold mid; rw [if_neg (by omega)]
theorem mid_lo {ls : List (Int × Int)} {n j a : Nat} (h : a < j) : mid ls n j a = adj (edge ls n) n a := by unfold mid; rw [if_pos h]
theorem mid_step {ls : List (Int × Int)} {n j a : Nat} (h : a ≠ j) : mid ls n j a = mid ls n (j + 1) a := by
  unfold mid
  by_cases h1 : a < j
  · rw [if_pos h1, if_pos (by omega)]
  · rw [if_neg h1, if_neg (by omega)]

set_option maxHeartbeats 1000000 in
theorem Next_any (N : Int) (x : Option Addr) (len cap : Nat) (ls : List (Int × Int)) (w : World) (hL : LinksAt w x len ls) (hlen : len ≤ 1000000) :
    Calls Try.prog 11 #[gr N x len cap] w fun e w' => ∃ v, e = .returned v ∧ Adj w' w.heap.size 31 3 v (nd N) (adj (edge ls (nd N)) (nd N)) ∧ Below w.heap.size w w' := by
  have hb := (Below.refl w.heap.size w).alloc (Nat.le_refl _) (.cells #[.int .i64 N, .slice x len cap] 24)
  have hn := nd_le N
  have hmk := fun W => run_make_row' (P := Try.prog) 27 31 (.slice none 0 0) 24 Try.underlying27 infoRow rfl .i64 .i64 (nd N) (by omega) (by omega) W
  go_enter Try.func11, Try.ntmps11
  go_wp2_with fail
  refine (nodes_any N x len cap _).mono ?_
  rintro e w1 ⟨rfl, hb1⟩
  have hb2 := hb.trans (hb1.mono hb.size)
  obtain ⟨hc0, hc1, hs1⟩ := boxed2 hb1
  generalize hnn : nd N = n at *
  have HN := Lib.hid hnn
  clear hnn
  go_wp2
  have hrow : (w1.alloc (.cells (madeCells #[.slice none 0 0] n) 31)).rowIs w1.heap.size 31 n (fun _ => .slice none 0 0) := World.rowIs_made _ _ _ _
  have hls := lists_made (e := 3) hrow
  have HLK := Lib.hid hL
  clear hL hmk hrow
  go_loopw [15] (fun i wr => ∃ k : Nat, k ≤ len ∧ i = .int .i64 k ∧ Lists wr w1.heap.size 31 3 n (col ls n k) ∧ Below w1.heap.size w1 wr) (fun i _ => len - (intOf i).toNat)
  case atStart => exact ⟨0, by omega, rfl, lists_congr hls (fun i _ => (col_zero ls n i).symm), (Below.refl _ _).alloc (Nat.le_refl _) _⟩
  case round =>
    obtain ⟨k, hk, rfl, hLi, hbel⟩ := hrel
    by_cases hlt : k < len
    · rcases HLK.out.2 with h0 | ⟨b, o, hx, hlt', hcells⟩
      · omega
      · subst hx
        obtain ⟨f, t, he, hcf, hct, hf1, hf2, ht1, ht2⟩ := hcells k hlt
        have HE := Lib.hid he
        clear he hcells
        have hcf1 : wr.cell? ⟨b, o + k * 2, none⟩ = some (.int .i64 f) := by rw [hbel.cell (by show b < w1.heap.size; omega), hb2.cell (by exact hlt')]; exact hcf
        have hct1 : wr.cell? ⟨b, o + k * 2 + 1, none⟩ = some (.int .i64 t) := by rw [hbel.cell (by show b < w1.heap.size; omega), hb2.cell (by exact hlt')]; exact hct
        clear hcf hct
        have hws := hbel.size
        have hstep := Lib.hid (fun a => col_step (a := a) (n := n) (by have := HLK.out.1; omega) HE.out)
        by_cases hfn : 0 ≤ f ∧ f < (n : Int)
        · by_cases htn : 0 ≤ t ∧ t < (n : Int)
          · obtain ⟨f', rfl⟩ := Int.eq_ofNat_of_zero_le hfn.1
            obtain ⟨t', rfl⟩ := Int.eq_ofNat_of_zero_le htn.1
            have q1 : decide (f' < n) = true := by simp; omega
            have q2 : decide (t' < n) = true := by simp; omega
            have hf'n : f' < n := by omega
            have ht'n : t' < n := by omega
            have hf'2 : (f' : Int) < (n : Int) := by omega
            have hwsz : w1.heap.size < wr.heap.size := lists_lt hLi
            obtain ⟨U, u1, u2, u3⟩ := hLi
            have hcU := u1.cell hf'n
            have hfU := (u1.alloc (.cells #[.int .i64 (f' : Int), .int .i64 (t' : Int)] 33)).frozen f'
            have hown := (u2 f' hf'n).alloc (.cells #[.int .i64 (f' : Int), .int .i64 (t' : Int)] 33)
            have KEEP := Lib.hid (fun (w3 : World) => put_keep (w3 := w3) (a := .int .i64 (f' : Int)) (b := .int .i64 (t' : Int)) (tl := 33) u1 u2 hf'n)
            have PUT := Lib.hid (fun (w3 : World) (v : Value) => lists_put (w1 := w3) (v := v) (l := col ls n k f' ++ [t']) (u1.alloc (.cells #[.int .i64 (f' : Int), .int .i64 (t' : Int)] 33)) (fun i hi => (u2 i hi).alloc _) u3 hf'n)
            have UB := Lib.hid (fun g (hg : (U f').ownBlock = some g) => ((u2 f' hf'n).lt g hg).1)
            clear u1 u2 u3 hfn htn
            have hcl : (col ls n k f').length < 16777216 := by have := col_length ls n k f'; have := HLK.out.1; omega
            have hsz : w1.heap.size + 1 ≤ (wr.alloc (.cells #[.int .i64 (f' : Int), .int .i64 (t' : Int)] 33)).heap.size := by simp; omega
            go_wp2_with (go_at_call 27; refine (isNode_any _ _ _).mono ?_; rintro e w' ⟨rfl, rfl⟩)
            go_region_law
              ((refine step_append_at _ (by rfl) _ _ _ (by rfl) (w1.heap.size + 1) 3 _ 8 Try.underlying31 infoNum (by rfl) (U f') _ _ (by rfl) hown _ (by rfl) (wr.heap.size + 1) (by simp) (by rfl) hcl (by omega) hsz ?_; intro g3 c3 w3 hown3 hg3 hloc3; have hfz := (KEEP.out _ hg3).2.2.2; have hcz := (KEEP.out _ hg3).2.2.1; have hcy := (KEEP.out _ hg3).2.1; have hcx := (KEEP.out _ hg3).1))
            all_goals
              have HO := Lib.hid hown3
              have HG := Lib.hid hg3
              have hloc := Lib.hid hloc3
              clear hown3 hg3 hloc3 hfz hcz hcy hcx q1 q2
              have hnew : Lists (w3.setCell ⟨w1.heap.size, f', none⟩ (.slice (some ⟨g3, 0, none⟩) ((col ls n k f').length + 1) c3)) w1.heap.size 31 3 n (col ls n (k + 1)) := by
                have h1 := HO.out
                rw [nums_append] at h1
                have h2 := PUT.out w3 (.slice (some ⟨g3, 0, none⟩) ((col ls n k f').length + 1) c3) (by simpa using h1) HG.out hloc.out
                refine lists_congr h2 fun i hi => ?_
                rw [hstep.out i]
                by_cases hif : i = f'
                · subst hif
                  rw [if_pos rfl, if_pos ⟨rfl, by omega, by omega⟩]
                  simp
                · rw [if_neg hif, if_neg]
                  intro h
                  omega
              have hbel2 : Below w1.heap.size w1 (w3.setCell ⟨w1.heap.size, f', none⟩ (.slice (some ⟨g3, 0, none⟩) ((col ls n k f').length + 1) c3)) := by
                refine Below.setCell ((hbel.alloc hws (.cells #[.int .i64 (f' : Int), .int .i64 (t' : Int)] 33)).grown HG.out ?_ ?_) (Nat.le_refl _) _
                · simp; omega
                · intro g hg
                  have := UB.out g hg
                  omega
              go_wp2
              go_roundw
              case rel => exact ⟨k + 1, by omega, by go_num, hnew, hbel2⟩
              case measure => simp [intOf]; omega
          · have q1 : (decide (0 ≤ f) && decide (f < (n : Int))) = true := by simp; omega
            have q2 : (decide (0 ≤ t) && decide (t < (n : Int))) = false := by
              rw [Bool.and_eq_false_iff, decide_eq_false_iff_not, decide_eq_false_iff_not]; omega
            clear hfn htn
            have hnew : Lists (wr.alloc (.cells #[.int .i64 f, .int .i64 t] 33)) w1.heap.size 31 3 n (col ls n (k + 1)) :=
              lists_congr (lists_below hLi ((Below.refl wr.heap.size wr).alloc (Nat.le_refl _) _)) fun i _ => by rw [hstep.out i, if_neg]; intro h; have := h.2; simp [this] at q2
            have hbel2 := hbel.alloc hws (.cells #[.int .i64 f, .int .i64 t] 33)
            go_wp2_with (go_at_call 27; refine (isNode_any _ _ _).mono ?_; rintro e w' ⟨rfl, rfl⟩)
            go_roundw
            case rel => exact ⟨k + 1, by omega, by go_num, hnew, hbel2⟩
            case measure => simp [intOf]; omega
        · have q1 : (decide (0 ≤ f) && decide (f < (n : Int))) = false := by
            rw [Bool.and_eq_false_iff, decide_eq_false_iff_not, decide_eq_false_iff_not]; omega
          have hnew : Lists (wr.alloc (.cells #[.int .i64 f, .int .i64 t] 33)) w1.heap.size 31 3 n (col ls n (k + 1)) :=
              lists_congr (lists_below hLi ((Below.refl wr.heap.size wr).alloc (Nat.le_refl _) _)) fun i hi => by rw [hstep.out i, if_neg]; intro h; exact hfn ⟨by omega, by omega⟩
          have hbel2 := hbel.alloc hws (.cells #[.int .i64 f, .int .i64 t] 33)
          clear hfn
          go_wp2_with (go_at_call 27; refine (isNode_any _ _ _).mono ?_; rintro e w' ⟨rfl, rfl⟩)
          go_roundw
          case rel => exact ⟨k + 1, by omega, by go_num, hnew, hbel2⟩
          case measure => simp [intOf]; omega
    · obtain rfl : k = len := by omega
      clear hlt hk hc0 hc1
      have hlk := Lib.hid HLK.out.1
      obtain ⟨wo, rfl⟩ : ∃ wo : World, wo = wr := ⟨_, rfl⟩
      have hLi0 : Lists wo w1.heap.size 31 3 n (mid ls n 0) := lists_congr hLi fun i _ => by rw [mid_hi (by omega), hlk.out]
      clear hLi
      go_wp2
      go_loopw [44] (fun i wr => ∃ j : Nat, j ≤ n ∧ i = .int .i64 j ∧ Lists wr w1.heap.size 31 3 n (mid ls n j) ∧ Below w1.heap.size w1 wr) (fun i _ => n - (intOf i).toNat)
      case atStart => exact ⟨0, by omega, rfl, hLi0, hbel⟩
      case round =>
        obtain ⟨j, hj, rfl, hLi, hbel⟩ := hrel
        by_cases hjn : j < n
        · have hw1r := lists_lt hLi
          obtain ⟨U, u1, u2, u3⟩ := hLi
          have hcU := u1.cell hjn
          have hown := u2 j hjn
          rw [mid_hi (Nat.le_refl j)] at hown
          have PUT := Lib.hid (fun (w3 : World) (v : Value) (l : List Nat) => lists_put (w1 := w3) (v := v) (l := l) u1 u2 u3 hjn)
          have UB := Lib.hid (fun g (hg : (U j).ownBlock = some g) => ((u2 j hjn).lt g hg).1)
          have hne : some w1.heap.size ≠ (U j).ownBlock := fun e1 => by have := UB.out _ e1.symm; omega
          have NE := Lib.hid hne
          have U1 := Lib.hid u1
          have hcl : (col ls n ls.length j).length < 16777216 := by have := col_length ls n ls.length j; have := hlk.out; omega
          clear u1 u2 u3 hne
          go_wp2_with fail
          refine (sort_own _ (U j) _ _ hown hcl).mono ?_
          rintro e w2 ⟨rfl, l', hp, hs, hown2, hg2⟩
          have hcU2 := (row_grown U1.out hg2 NE.out).cell hjn
          have HP := Lib.hid hp
          have HS := Lib.hid hs
          have HG2 := Lib.hid hg2
          have hcl2 : l'.length < 16777216 := by rw [hp.length_eq]; exact hcl
          clear hp hs hg2 hown hcU
          go_wp2_with fail
          refine (compact_own l' HS.out (U j) _ _ hown2 hcl2).mono ?_
          rintro e w3 ⟨v', rfl, hvb, hg3, l'', hpw, hmem, hown3⟩
          have hgg := grown_trans HG2.out hg3
          have U3 := row_grown U1.out hgg NE.out
          have hcU3 := U3.cell hjn
          have hfU3 := U3.frozen j
          have hnew := PUT.out w3 v' l'' hown3 hgg (.inl hvb)
          have hbel2 : Below w1.heap.size w1 (w3.setCell ⟨w1.heap.size, j, none⟩ v') :=
            Below.setCell (hbel.grown hgg (by omega) (fun g hg => by have := UB.out g hg; omega)) (Nat.le_refl _) _
          have hnew2 : Lists (w3.setCell ⟨w1.heap.size, j, none⟩ v') w1.heap.size 31 3 n (mid ls n (j + 1)) := by
            refine lists_congr hnew fun i hi => ?_
            by_cases hij : i = j
            · subst hij
              rw [if_pos rfl, mid_lo (by omega)]
              exact adj_of hjn hpw fun x => by rw [hmem, HP.out.mem_iff]
            · rw [if_neg hij]
              exact mid_step hij
          have HNEW := Lib.hid hnew2
          obtain ⟨a', n', c', rfl⟩ := own_shape hown3
          clear hcU2 hown2 hown3 hvb hg3 hpw hmem hgg U3 hnew hnew2
          go_wp2
          go_roundw
          case rel => exact ⟨j + 1, by omega, by go_num, HNEW.out, hbel2⟩
          case measure => simp [intOf]; omega
        · obtain rfl : j = n := by omega
          go_wp2
          go_ret
          have HNN := HN.out
          subst HNN
          refine ⟨_, rfl, ?_, hb2.trans (hbel.mono (by omega))⟩
          exact adj_of_lists (lists_congr hLi fun i hi => mid_lo hi) (by omega)
end Go.Proofs.Ytaiddgndjiaoaaa
