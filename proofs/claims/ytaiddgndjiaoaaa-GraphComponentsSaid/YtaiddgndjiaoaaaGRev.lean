/- The predecessors of all nodes, and the turned graph: contracts of the code. -/
import Derived.Test.YtaiddgndjiaoaaaGTopo
import Derived.Test.YtaiddgndjiaoaaaGReach
namespace Go.Proofs.Ytaiddgndjiaoaaa
open Go.RowKit
set_option linter.unusedVariables false

/-- The predecessors of b below i. -/
def revTo (E : Nat → Nat → Bool) (i b : Nat) : List Nat := (List.range i).filter fun p => E p b
/-- In the midst of node i's list: its first k successors have got it. -/
def revMid (E : Nat → Nat → Bool) (n i k b : Nat) : List Nat := if b ∈ (adj E n i).take k then revTo E i b ++ [i] else revTo E i b
theorem revMid_zero (E : Nat → Nat → Bool) (n i b : Nat) : revMid E n i 0 b = revTo E i b := by simp [revMid]
theorem revTo_succ (E : Nat → Nat → Bool) (i b : Nat) : revTo E (i + 1) b = if E i b then revTo E i b ++ [i] else revTo E i b := by
  unfold revTo
  rw [List.range_succ, List.filter_append]
  by_cases h : E i b = true <;> simp [h]
theorem revMid_end {E : Nat → Nat → Bool} {n i b : Nat} (hb : b < n) : revMid E n i (adj E n i).length b = revTo E (i + 1) b := by
  unfold revMid
  rw [List.take_length, revTo_succ]
  by_cases h : E i b = true
  · rw [if_pos (adj_mem.2 ⟨hb, h⟩), if_pos h]
  · rw [if_neg (fun h1 => h (adj_mem.1 h1).2), if_neg h]
theorem revMid_step {E : Nat → Nat → Bool} {n i k b : Nat} (hk : k < (adj E n i).length) : revMid E n i (k + 1) b = if b = at0 (adj E n i) k then revMid E n i k b ++ [i] else revMid E n i k b := by
  have h1 := at0_not_take (adj_nodup E n i) hk
  unfold revMid
  rw [take_at0 hk]
  by_cases e : b = at0 (adj E n i) k
  · rw [if_pos (by simp [e]), if_pos e, if_neg (by rw [e]; exact h1)]
  · rw [if_neg e]; simp [e]
theorem revTo_len (E : Nat → Nat → Bool) (i b : Nat) : (revTo E i b).length ≤ i := by
  unfold revTo
  have := List.length_filter_le (fun p => E p b) (List.range i)
  simpa using this
theorem revMid_len (E : Nat → Nat → Bool) (n i k b : Nat) : (revMid E n i k b).length ≤ i + 1 := by
  have := revTo_len E i b
  unfold revMid
  split
  · simp; omega
  · omega
/-- The graph with its links turned. -/
def opp (E : Nat → Nat → Bool) (a b : Nat) : Bool := E b a
theorem revTo_adj (E : Nat → Nat → Bool) (n b : Nat) : revTo E n b = adj (opp E) n b := rfl

/-- One element is appended to one slice of a table in a plain region. -/
theorem put_plain {wr w3 : World} {B : Nat} {t e : TypeId} {n : Nat} {U : Nat → Value} {L : Nat → List Nat} (u1 : wr.rowIs B t n U) (u2 : ∀ i, i < n → wr.ownsRow (B + 1) e 1 (U i) (L i).length (nums (L i))) {f : Nat} (hf : f < n)
    (hg : wr.grownBy w3 (U f).ownBlock) : w3.cell? ⟨B, f, none⟩ = some (U f) ∧ w3.frozen? ⟨B, f, none⟩ = false := by
  have n2 : some B ≠ (U f).ownBlock := fun e1 => by have := (u2 f hf).lt _ e1.symm; omega
  have k2 := row_grown u1 hg n2
  exact ⟨k2.cell hf, k2.frozen f⟩

set_option maxHeartbeats 4000000 in
set_option maxRecDepth 100000 in
theorem reversed_any (E : Nat → Nat → Bool) (n B : Nat) (w : World) (hA : AdjAt w B n (adj E n)) (hn : n ≤ 20000) :
    Calls Try.prog 30 #[.slice (some ⟨B, 0, none⟩) n n] w fun e w' => ∃ v, e = .returned v ∧ Adj w' w.heap.size 31 3 v n (adj (opp E) n) ∧ Below w.heap.size w w' := by
  have hmk := fun W => run_make_row' (P := Try.prog) 27 31 (.slice none 0 0) 24 Try.underlying27 infoRow rfl .i64 .i64 n (by omega) (by omega) W
  have hBlt : B < w.heap.size := hA.1
  have HA := Lib.hid hA
  clear hA
  have hrow : (w.alloc (.cells (madeCells #[.slice none 0 0] n) 31)).rowIs w.heap.size 31 n (fun _ => .slice none 0 0) := World.rowIs_made _ _ _ _
  have hls : Hid (Lists (w.alloc (.cells (madeCells #[.slice none 0 0] n) 31)) w.heap.size 31 3 n (revTo E 0)) := lists_congr (lists_made (e := 3) hrow) fun i _ => by simp [revTo]
  have hb0 : Below w.heap.size w (w.alloc (.cells (madeCells #[.slice none 0 0] n) 31)) := (Below.refl _ _).alloc (Nat.le_refl _) _
  clear hrow
  go_enter Try.func30, Try.ntmps30
  go_wp2
  clear hmk
  go_loopw [13] (fun i wr => ∃ k : Nat, k ≤ n ∧ i = .int .i64 k ∧ Hid (Lists wr w.heap.size 31 3 n (revTo E k)) ∧ Below w.heap.size w wr) (fun i _ => n - (intOf i).toNat)
  case atStart => exact ⟨0, by omega, rfl, hls, hb0⟩
  case round =>
    clear hls hb0
    obtain ⟨i, hi, rfl, hl, hbel⟩ := hrel
    obtain ⟨wo, rfl⟩ : ∃ wo : World, wo = wr := ⟨_, rfl⟩
    by_cases hin : i < n
    · obtain ⟨x, c, hcx, hlx⟩ := HA.out.2 i hin
      have hcx1 : wo.cell? ⟨B, i, none⟩ = some (.slice x (adj E n i).length c) := by rw [hbel.cell (by exact hBlt)]; exact hcx
      have HLX := Lib.hid hlx
      have hlen := adj_length E n i
      clear hcx hlx
      go_wp2
      clear hcx1
      go_loopw [20] (fun i' wr => ∃ k : Nat, k ≤ (adj E n i).length ∧ i' = .int .i64 k ∧ Hid (Lists wr w.heap.size 31 3 n (revMid E n i k)) ∧ Below w.heap.size w wr) (fun i' _ => (adj E n i).length - (intOf i').toNat)
      case atStart => exact ⟨0, by omega, rfl, lists_congr hl.out fun b _ => (revMid_zero E n i b).symm, hbel⟩
      case round =>
        clear hl hbel
        obtain ⟨k, hk, rfl, hl, hbel⟩ := hrel
        by_cases hkl : k < (adj E n i).length
        · rcases HLX.out with h0 | ⟨g, hx, hg, hcells⟩
          · omega
          · subst hx
            have hck : wr.cell? ⟨g, k, none⟩ = some (.int .i64 (at0 (adj E n i) k : Nat)) := by rw [hbel.cell (by exact hg)]; exact hcells k hkl
            have hun := (at0_adj hkl).1
            have hst := Lib.hid (fun b => revMid_step (b := b) hkl)
            obtain ⟨U, u1, u2, u3⟩ := hl.out
            generalize hu : at0 (adj E n i) k = u at *
            clear hu
            have hcU := u1.cell hun
            have hown := u2 u hun
            have KEEP := Lib.hid (fun (w3 : World) hg3 => put_plain (w3 := w3) u1 u2 hun hg3)
            have PUT := Lib.hid (fun (w3 : World) (v : Value) => lists_put (w1 := w3) (v := v) (l := revMid E n i k u ++ [i]) u1 u2 u3 hun)
            have UB := Lib.hid (fun q (hq : (U u).ownBlock = some q) => ((u2 u hun).lt q hq).1)
            have hcl : (revMid E n i k u).length < 16777216 := by have := revMid_len E n i k u; omega
            have hsz : w.heap.size + 1 ≤ wr.heap.size := u1.lt
            clear u1 u2 u3 hcells hl
            go_wp2_with (at_builtin; refine wpList_append_at wr (by rfl) _ _ _ (by rfl) (w.heap.size + 1) 3 _ 8 Try.underlying31 infoNum (by rfl) (U u) _ _ (by rfl) hown _ (by rfl) wr.heap.size (by rfl) (by rfl) hcl (by omega) hsz ?_; intro g3 c3 w3 ho3 hg3 hl3; have hfz := (KEEP.out _ hg3).2; have hcz := (KEEP.out _ hg3).1)
            have hnew : Hid (Lists (w3.setCell ⟨w.heap.size, u, none⟩ (.slice (some ⟨g3, 0, none⟩) ((revMid E n i k u).length + 1) c3)) w.heap.size 31 3 n (revMid E n i (k + 1))) := by
              rw [nums_append] at ho3
              refine lists_congr (PUT.out w3 (.slice (some ⟨g3, 0, none⟩) ((revMid E n i k u).length + 1) c3) (by simpa using ho3) hg3 hl3) fun b _ => ?_
              rw [hst.out b]
              by_cases e : b = u
              · subst e; rfl
              · rw [if_neg e, if_neg e]
            have hb3 : Below w.heap.size w (w3.setCell ⟨w.heap.size, u, none⟩ (.slice (some ⟨g3, 0, none⟩) ((revMid E n i k u).length + 1) c3)) :=
              (hbel.grown hg3 hbel.size (fun q hq => by have := UB.out q hq; omega)).setCell (p := ⟨w.heap.size, u, none⟩) (Nat.le_refl _) _
            clear ho3 hg3 hl3 hfz hcz hown hcU
            go_roundw
            case rel => exact ⟨k + 1, by omega, by go_num, hnew, hb3⟩
            case measure => simp [intOf]; omega
        · obtain rfl : (adj E n i).length = k := by omega
          have hl2 : Hid (Lists wr w.heap.size 31 3 n (revTo E (i + 1))) := lists_congr hl.out fun b hb => revMid_end hb
          clear hl
          go_wp2
          go_roundw
          case rel => exact ⟨i + 1, by omega, by go_num, hl2, hbel⟩
          case measure => simp [intOf]; omega
    · obtain rfl : n = i := by omega
      go_wp2
      go_ret
      exact ⟨_, rfl, adj_of_lists hl.out (Nat.le_refl _), hbel⟩
end Go.Proofs.Ytaiddgndjiaoaaa
