/- The reference's matrix of links: contract. -/
import Derived.Test.YtaiddgndjiaoaaaMatKit
import Derived.Test.YtaiddgndjiaoaaaGNext
import Derived.Test.YtaiddgndjiaoaaaGSort1
namespace Go.Proofs.Ytaiddgndjiaoaaa
open Go.RowKit
set_option linter.unusedVariables false

theorem infoBRow : (Try.prog.info? 39).map (fun i => (i.zero, i.size, i.bytes)) = some (some (.slice none 0 0), 1, 24) := by kernel_rfl
theorem infoBool : (Try.prog.info? 4).map (fun i => (i.zero, i.size, i.bytes)) = some (some (.bool false), 1, 1) := by kernel_rfl

theorem edge_zero (ls : List (Int × Int)) (n a b : Nat) : edge (ls.take 0) n a b = false := by simp [edge]
theorem edge_step {ls : List (Int × Int)} {n k a b : Nat} {f t : Int} (hk : k < ls.length) (he : ls[k]? = some (f, t)) :
    edge (ls.take (k + 1)) n a b = (edge (ls.take k) n a b || (decide (a < n) && decide (b < n) && (decide (f = (a : Int)) && decide (t = (b : Int))))) := by
  have e : ls.take (k + 1) = ls.take k ++ [(f, t)] := by
    rw [List.take_succ_eq_append_getElem hk]
    rw [List.getElem?_eq_getElem hk] at he
    injection he with he
    rw [he]
  unfold edge
  rw [e, List.any_append]
  cases decide (a < n) <;> cases decide (b < n) <;> simp

set_option maxHeartbeats 4000000 in
set_option maxRecDepth 100000 in
theorem rMatrix_any (N : Int) (x : Option Addr) (len cap : Nat) (ls : List (Int × Int)) (w : World) (hL : LinksAt w x len ls) (hlen : len ≤ 1000000) :
    Calls Try.prog 18 #[gr N x len cap] w fun e w' => ∃ v, e = .returned v ∧ (∃ y c, v = .slice y (nd N) c ∧ MatAt w' y (nd N) (edge ls (nd N))) ∧ Below w.heap.size w w' := by
  have hb := (Below.refl w.heap.size w).alloc (Nat.le_refl _) (.cells #[.int .i64 N, .slice x len cap] 24)
  have hn := nd_le N
  have hmk := fun W => run_make_row' (P := Try.prog) 39 4 (.bool false) 1 Try.underlying39 infoBool rfl .i64 .i64 (nd N) (by omega) (by omega) W
  go_enter Try.func18, Try.ntmps18
  go_wp2_with fail
  refine (rNodes_any N x len cap _).mono ?_
  rintro e w1 ⟨rfl, hb1⟩
  have hb2 := hb.trans (hb1.mono hb.size)
  obtain ⟨hc0, hc1, hs1⟩ := boxed2 hb1
  generalize hnn : nd N = n at *
  have HN := Lib.hid hnn
  have HLK := Lib.hid hL
  clear hnn hL hc0 hb1 hb
  go_wp2
  go_loopw [4, 11] (fun v i wr => ∃ k : Nat, k ≤ n ∧ i = .int .i64 k ∧ Hid (Mat wr w1.heap.size 39 4 v k n (fun _ _ => false)) ∧ Below w1.heap.size w1 wr) (fun _ i _ => n - (intOf i).toNat)
  case atStart => exact ⟨0, by omega, rfl, mat_nil _ _ _ _ _ _, Below.refl _ _⟩
  case round =>
    obtain ⟨k, hk, rfl, hM, hbel⟩ := hrel
    have hws := hbel.size
    by_cases hkn : k < n
    · obtain ⟨G, C, m1, m2, m3⟩ := hM.out
      have hown := m1.alloc (.cells (madeCells #[.bool false] n) 4)
      have hsz : w1.heap.size ≤ (wr.alloc (.cells (madeCells #[.bool false] n) 4)).heap.size := by simp; omega
      have HP := Lib.hid (fun (w3 : World) (g3 c3 : Nat) o2 hg hl => mat_push (w' := w3) (vo' := .slice (some ⟨g3, 0, none⟩) (k + 1) c3) (c := n) m1 m2 m3 ((Below.refl wr.heap.size wr).alloc (Nat.le_refl _) (.cells (madeCells #[.bool false] n) 4)) (Nat.le_refl _) hws
        (brow_of (f := fun _ => false) (World.rowIs_made wr (.bool false) n 4)) hg hl o2)
      have HB := Lib.hid (fun (w3 : World) (hg : (wr.alloc (.cells (madeCells #[.bool false] n) 4)).grownBy w3 u4.ownBlock) => (hbel.alloc hws (.cells (madeCells #[.bool false] n) 4)).grown hg hsz (fun q hq => (m1.lt q hq).1))
      clear m1 m2 m3 hM
      go_wp2_with (at_builtin; refine wpList_append_at (wr.alloc (.cells (madeCells #[.bool false] n) 4)) (by rfl) _ _ _ (by rfl) w1.heap.size 39 _ 24 Try.underlying37 infoBRow (by rfl) _ k _ (by rfl) hown _ (by rfl) (wr.heap.size + 1) (by simp) (by rfl) (by omega) (by omega) hsz ?_; intro g3 c3 w3 ho3 hg3 hl3)
      have hM3 : Hid (Mat w3 w1.heap.size 39 4 (.slice (some ⟨g3, 0, none⟩) (k + 1) c3) (k + 1) n (fun _ _ => false)) :=
        mat_congr (HP.out w3 g3 c3 ho3 hg3 hl3) fun a b _ _ => by by_cases e : a = k <;> simp [e]
      have hb3 := HB.out w3 hg3
      clear ho3 hg3 hl3
      go_roundw
      case rel => exact ⟨k + 1, by omega, by go_num, hM3, hb3⟩
      case measure => simp [intOf]; omega
    · obtain rfl : n = k := by omega
      clear hmk
      obtain ⟨y, c, rfl, hy⟩ := mat_shape hM.out
      have HY := Lib.hid hy
      have hM0 : Hid (Mat wr w1.heap.size 39 4 (.slice y n c) n n (edge (ls.take 0) n)) := mat_congr hM.out fun a b _ _ => (edge_zero ls n a b).symm
      clear hM hy
      obtain ⟨wo, rfl⟩ : ∃ wo : World, wo = wr := ⟨_, rfl⟩
      have hcL : wo.cell? ⟨w.heap.size, 1, none⟩ = some (.slice x len cap) := by rw [hbel.cell (by exact hs1)]; exact hc1
      go_wp2
      clear hcL
      go_loopw [22] (fun i wr => ∃ k : Nat, k ≤ len ∧ i = .int .i64 k ∧ Hid (Mat wr w1.heap.size 39 4 (.slice y n c) n n (edge (ls.take k) n)) ∧ Below w1.heap.size w1 wr) (fun i _ => len - (intOf i).toNat)
      case atStart => exact ⟨0, by omega, rfl, hM0, hbel⟩
      case round =>
        clear hM0 hbel hws
        obtain ⟨k, hk, rfl, hM, hbel⟩ := hrel
        have hcL : wr.cell? ⟨w.heap.size, 1, none⟩ = some (.slice x len cap) := by rw [hbel.cell (by exact hs1)]; exact hc1
        by_cases hlt : k < len
        · rcases HLK.out.2 with h0 | ⟨b, o, hx, hlt', hcells⟩
          · omega
          · subst hx
            obtain ⟨f, t, he, hcf, hct, hf1, hf2, ht1, ht2⟩ := hcells k hlt
            have hcf1 : wr.cell? ⟨b, o + k * 2, none⟩ = some (.int .i64 f) := by rw [hbel.cell (by show b < w1.heap.size; omega), hb2.cell (by exact hlt')]; exact hcf
            have hct1 : wr.cell? ⟨b, o + k * 2 + 1, none⟩ = some (.int .i64 t) := by rw [hbel.cell (by show b < w1.heap.size; omega), hb2.cell (by exact hlt')]; exact hct
            have hstep := Lib.hid (fun a c => edge_step (a := a) (b := c) (n := n) (by have := HLK.out.1; omega) he)
            have hk1 : (0 : Int) ≤ (k : Int) := by omega
            have hk2 : (k : Int) < (len : Int) := by omega
            clear hcells hcf hct he
            go_wp2
            go_quiet (fail)
            have hM' := hM.out
            clear hcf1 hct1 hcL hM
            have hbq : Below w1.heap.size w1 (wr.drewN nq) := ⟨hbel.os, hbel.tape, hbel.output, hbel.size, hbel.block⟩
            have hMq : Hid (Mat (wr.drewN nq) w1.heap.size 39 4 (.slice y n c) n n (edge (ls.take k) n)) := hM'
            clear hM' hbel
            generalize wr.drewN nq = wq at *
            by_cases hok : 0 ≤ f ∧ f < (n : Int) ∧ 0 ≤ t ∧ t < (n : Int)
            · obtain ⟨f', rfl⟩ := Int.eq_ofNat_of_zero_le hok.1
              obtain ⟨t', rfl⟩ := Int.eq_ofNat_of_zero_le hok.2.2.1
              have hfn : f' < n := by omega
              have htn : t' < n := by omega
              obtain ⟨B, hyB, hB1, hB2⟩ := HY.out (by omega)
              subst hyB
              obtain ⟨g, gc, hcB, hcg, hfg, hg1, hg2, hset⟩ := mat_set hMq.out hfn htn
              have hcB := hcB B c rfl
              have hM2 := Lib.hid (hset true (edge (ls.take (k + 1)) n) (fun i j hi hj => by
                rw [hstep.out i j]
                by_cases hij : i = f' ∧ j = t'
                · obtain ⟨rfl, rfl⟩ := hij
                  simp [hi, hj]
                · rw [if_neg hij]
                  have : (decide ((f' : Int) = (i : Int)) && decide ((t' : Int) = (j : Int))) = false := by
                    rw [Bool.and_eq_false_iff, decide_eq_false_iff_not, decide_eq_false_iff_not]
                    omega
                  simp [this]))
              have hb4 : Below w1.heap.size w1 (wq.setCell ⟨g, t', none⟩ (.bool true)) := hbq.setCell (by exact hg1) _
              clear hset hok hMq
              go_wp2
              go_roundw
              case rel => exact ⟨k + 1, by omega, by go_num, hM2, hb4⟩
              case measure => simp [intOf]; omega
            · have hM2 : Hid (Mat wq w1.heap.size 39 4 (.slice y n c) n n (edge (ls.take (k + 1)) n)) := mat_congr hMq.out fun i j hi hj => by
                rw [hstep.out i j]
                have : (decide (f = (i : Int)) && decide (t = (j : Int))) = false := by
                  rw [Bool.and_eq_false_iff, decide_eq_false_iff_not, decide_eq_false_iff_not]
                  omega
                simp [this]
              have hcase : f < 0 ∨ (0 ≤ f ∧ (n : Int) ≤ f) ∨ (0 ≤ f ∧ f < (n : Int) ∧ t < 0) ∨ (0 ≤ f ∧ f < (n : Int) ∧ 0 ≤ t ∧ (n : Int) ≤ t) := by omega
              clear hMq hok
              rcases hcase with h1 | ⟨h1, h2⟩ | ⟨h1, h2, h3⟩ | ⟨h1, h2, h3, h4⟩
              all_goals
                go_wp2
                go_roundw
                case rel => exact ⟨k + 1, by omega, by go_num, hM2, hbq⟩
                case measure => simp [intOf]; omega
        · have hlk := HLK.out.1
          obtain rfl : len = k := by omega
          have hMA := mat_at hM.out
          rw [← hlk, List.take_length] at hMA
          have HMA := Lib.hid hMA
          have HLE := Lib.hid hlk
          clear hMA hM hlk
          go_wp2
          go_ret
          have HNN := HN.out
          subst HNN
          obtain ⟨x', c', he, hm⟩ := HMA.out
          exact ⟨_, rfl, ⟨x', c', he, hm⟩, hb2.trans (hbel.mono (by omega))⟩
end Go.Proofs.Ytaiddgndjiaoaaa
