/- The turned graph: contract of the code. -/
import Derived.Test.YtaiddgndjiaoaaaGRev
namespace Go.Proofs.Ytaiddgndjiaoaaa
open Go.RowKit
set_option linter.unusedVariables false

def lcells (ps : List (Nat × Nat)) : List Value := ps.flatMap fun p => [.int .i64 (p.1 : Int), .int .i64 (p.2 : Int)]
theorem lcells_length (ps : List (Nat × Nat)) : (lcells ps).length = ps.length * 2 := by
  induction ps with
  | nil => rfl
  | cons a t ih => simp only [lcells, List.flatMap_cons, List.length_append] at ih ⊢; rw [ih]; simp; omega
theorem lcells_snoc (ps : List (Nat × Nat)) (a b : Nat) : lcells ps ++ [.int .i64 (a : Int), .int .i64 (b : Int)] = lcells (ps ++ [(a, b)]) := by simp [lcells]
theorem lcells_get : ∀ (ps : List (Nat × Nat)) (i : Nat) (h : i < ps.length), (lcells ps)[i * 2]? = some (.int .i64 (ps[i].1 : Int)) ∧ (lcells ps)[i * 2 + 1]? = some (.int .i64 (ps[i].2 : Int)) := by
  intro ps
  induction ps with
  | nil => intro i h; simp at h
  | cons a t ih =>
    intro i h
    match i with
    | 0 => simp [lcells]
    | i + 1 =>
      have := ih i (by simpa using h)
      have e1 : (i + 1) * 2 = i * 2 + 1 + 1 := by omega
      have e2 : lcells (a :: t) = .int .i64 (a.1 : Int) :: .int .i64 (a.2 : Int) :: lcells t := by simp [lcells]
      rw [e1, e2]
      simpa using this
/-- The links of the turned graph out of the nodes below i. -/
def turnTo (L : Nat → List Nat) (i : Nat) : List (Nat × Nat) := (List.range i).flatMap fun b => (L b).map fun a => (b, a)
theorem turnTo_succ (L : Nat → List Nat) (i : Nat) : turnTo L (i + 1) = turnTo L i ++ (L i).map fun a => (i, a) := by
  unfold turnTo
  rw [List.range_succ, List.flatMap_append]
  simp
theorem turnTo_len {L : Nat → List Nat} {n : Nat} (h : ∀ b, (L b).length ≤ n) : ∀ i, (turnTo L i).length ≤ i * n := by
  intro i
  induction i with
  | zero => simp [turnTo]
  | succ i ih =>
    rw [turnTo_succ, List.length_append, List.length_map]
    have := h i
    rw [Nat.succ_mul]
    omega
def turnMid (L : Nat → List Nat) (i k : Nat) : List (Nat × Nat) := turnTo L i ++ ((L i).take k).map fun a => (i, a)
theorem turnMid_zero (L : Nat → List Nat) (i : Nat) : turnMid L i 0 = turnTo L i := by simp [turnMid]
theorem turnMid_end (L : Nat → List Nat) (i : Nat) : turnMid L i (L i).length = turnTo L (i + 1) := by rw [turnMid, List.take_length, turnTo_succ]
theorem turnMid_step {L : Nat → List Nat} {i k : Nat} (hk : k < (L i).length) : turnMid L i (k + 1) = turnMid L i k ++ [(i, at0 (L i) k)] := by
  unfold turnMid
  rw [take_at0 hk]
  simp
theorem infoLink : (Try.prog.info? 33).map (fun i => (i.zero, i.size, i.bytes)) = some (some (.agg #[.int .i64 0, .int .i64 0]), 2, 16) := by kernel_rfl

theorem turnTo_mem {L : Nat → List Nat} {i : Nat} {p : Nat × Nat} (h : p ∈ turnTo L i) : p.1 < i ∧ p.2 ∈ L p.1 := by
  unfold turnTo at h
  obtain ⟨b, hb, hp⟩ := List.mem_flatMap.1 h
  obtain ⟨a, ha, rfl⟩ := List.mem_map.1 hp
  exact ⟨List.mem_range.1 hb, ha⟩
/-- Links that the code owns, as links in memory. -/
theorem links_own {w : World} {base : Nat} {e : TypeId} {va : Option Addr} {vc : Nat} {ps : List (Nat × Nat)} {M : Nat} (h : w.ownsRow base e 2 (.slice va ps.length vc) ps.length (lcells ps)) (hM : M ≤ 1000000) (hps : ∀ p ∈ ps, p.1 < M ∧ p.2 < M) :
    LinksAt w va ps.length (ps.map fun p => ((p.1 : Int), (p.2 : Int))) := by
  refine ⟨by simp, ?_⟩
  rcases h.2 with ⟨hv, h0⟩ | ⟨g, cap, cur, hv, hb, hh, hc, hm, hs, ht⟩
  · exact .inl h0
  · injection hv with hv1 hv2 hv3
    subst hv1
    refine .inr ⟨g, 0, rfl, (Array.getElem?_eq_some_iff.1 hh).1, fun i hi => ?_⟩
    have hget := lcells_get ps i hi
    have hmem := hps _ (List.getElem_mem hi)
    have c1 : w.cell? ⟨g, i * 2, none⟩ = (lcells ps)[i * 2]? := h.cellAt (i * 2) (by omega)
    have c2 : w.cell? ⟨g, i * 2 + 1, none⟩ = (lcells ps)[i * 2 + 1]? := h.cellAt (i * 2 + 1) (by omega)
    refine ⟨(ps[i].1 : Int), (ps[i].2 : Int), by simp [hi], ?_, ?_, by omega, by omega, by omega, by omega⟩
    · rw [Nat.zero_add, c1, hget.1]
    · rw [Nat.zero_add, c2, hget.2]

/-- The variable that holds the turned graph. -/
structure TurnAt (w wr : World) (pt n : Nat) (vl : Value) (ps : List (Nat × Nat)) : Prop where
  box : wr.rowIs pt 24 2 (fun i => if i = 0 then .int .i64 (n : Int) else vl)
  own : wr.ownsRow (pt + 1) 33 2 vl ps.length (lcells ps)
  bel : Below pt w wr
theorem TurnAt.bel' {w wr : World} {pt n : Nat} {vl : Value} {ps : List (Nat × Nat)} (h : TurnAt w wr pt n vl ps) : pt ≤ wr.heap.size := by have := h.box.lt; omega
theorem own_shape2 {w : World} {base : Nat} {e : TypeId} {size : Nat} {v : Value} {n : Nat} {xs : List Value} (h : w.ownsRow base e size v n xs) : ∃ a c, v = .slice a n c := by
  rcases h.2 with ⟨hv, h0⟩ | ⟨g, cap, cur, hv, _⟩
  · exact ⟨none, 0, by rw [hv, h0]⟩
  · exact ⟨_, _, hv⟩

/-- A link has been appended and stored. -/
theorem turn_put {w wr w3 : World} {pt n g3 c3 : Nat} {vl : Value} {ps : List (Nat × Nat)} {a b : Nat} (h : TurnAt w wr pt n vl ps) (ho : w3.ownsRow (pt + 1) 33 2 (.slice (some ⟨g3, 0, none⟩) (ps.length + 1) c3) (ps.length + 1) (lcells ps ++ [.int .i64 (a : Int), .int .i64 (b : Int)])) (hg : wr.grownBy w3 vl.ownBlock) :
    TurnAt w (w3.setCell ⟨pt, 1, none⟩ (.slice (some ⟨g3, 0, none⟩) (ps.length + 1) c3)) pt n (.slice (some ⟨g3, 0, none⟩) (ps.length + 1) c3) (ps ++ [(a, b)]) := by
  have hne : some pt ≠ vl.ownBlock := fun e => by have := (h.own.lt _ e.symm).1; omega
  refine ⟨((row_grown h.box hg hne).set 1 _).congr fun i hi => ?_, ?_, (h.bel.grown hg h.bel' (fun q hq => by have := (h.own.lt q hq).1; omega)).setCell (p := ⟨pt, 1, none⟩) (Nat.le_refl _) _⟩
  · have : i = 0 ∨ i = 1 := by omega
    rcases this with rfl | rfl <;> simp
  · rw [lcells_snoc] at ho
    have e : (ps ++ [(a, b)]).length = ps.length + 1 := by simp
    rw [e]
    exact ownsRow_setCell_below ho (by show pt < pt + 1; omega) _
theorem turn_keep {w wr w3 : World} {pt n : Nat} {vl : Value} {ps : List (Nat × Nat)} (h : TurnAt w wr pt n vl ps) (hg : wr.grownBy w3 vl.ownBlock) : w3.cell? ⟨pt, 1, none⟩ = some vl ∧ w3.frozen? ⟨pt, 1, none⟩ = false := by
  have hne : some pt ≠ vl.ownBlock := fun e => by have := (h.own.lt _ e.symm).1; omega
  have k := row_grown h.box hg hne
  exact ⟨k.cell (i := 1) (by omega), k.frozen 1⟩

set_option maxHeartbeats 4000000 in
set_option maxRecDepth 100000 in
theorem Turn_any (N : Int) (x : Option Addr) (len cap : Nat) (ls : List (Int × Int)) (w : World) (hL : LinksAt w x len ls) (hlen : len ≤ 1000000) (hN : nd N ≤ 1000) :
    Calls Try.prog 13 #[gr N x len cap] w fun e w' => ∃ y c, e = .returned (gr (nd N : Nat) y (turnTo (adj (opp (edge ls (nd N))) (nd N)) (nd N)).length c) ∧
      LinksAt w' y (turnTo (adj (opp (edge ls (nd N))) (nd N)) (nd N)).length ((turnTo (adj (opp (edge ls (nd N))) (nd N)) (nd N)).map fun p => ((p.1 : Int), (p.2 : Int))) ∧ Below w.heap.size w w' := by
  have hb := (Below.refl w.heap.size w).alloc (Nat.le_refl _) (.cells #[.int .i64 N, .slice x len cap] 24)
  have hnext := fun W h => Next_any N x len cap ls W h hlen
  generalize hnn : nd N = n at *
  generalize hEE : edge ls n = E at *
  have HNX := Lib.hid hnext
  clear hnext hnn hEE
  go_enter Try.func13, Try.ntmps13
  have hb0 : Below w.heap.size w ((w.alloc (.cells #[.int .i64 N, .slice x len cap] 24)).alloc (.cells #[.int .i64 0, .slice none 0 0] 24)) := hb.alloc (by simp) _
  have hL1 := links_below hL hb0 (Nat.le_refl _)
  go_wp2_with fail
  refine (HNX.out _ hL1).mono ?_
  rintro e w1 ⟨v, rfl, hadj, hb1⟩
  obtain ⟨B, rfl, hB, hA⟩ := adjAt_of hadj
  have hrc1 : w1.rowIs (w.heap.size + 1) 24 2 (fun i => if i = 0 then .int .i64 0 else .slice none 0 0) := by
    have h1 : (w.alloc (.cells #[.int .i64 N, .slice x len cap] 24)).heap.size = w.heap.size + 1 := by simp
    have h2 := World.rowIs_alloc (w.alloc (.cells #[.int .i64 N, .slice x len cap] 24)) #[.int .i64 0, .slice none 0 0] 24 (fun i => if i = 0 then .int .i64 0 else .slice none 0 0) (fun j hj => by
      have : j = 0 ∨ j = 1 := by simp at hj; omega
      rcases this with rfl | rfl <;> rfl)
    rw [h1] at h2
    exact row_below h2 hb1 (by simp)
  have hs1 := hb1.size
  have hsz : w.heap.size + 2 ≤ w1.heap.size := by simp at hs1; omega
  have hb2 := hb0.trans (hb1.mono (by simp; omega))
  clear hadj hL1 hb1 hs1 hb0 hb
  go_wp2_with fail
  refine (reversed_any E n B _ hA (by omega)).mono ?_
  rintro e w2 ⟨v, rfl, hadj2, hb3⟩
  obtain ⟨B2, rfl, hB2, hA2⟩ := adjAt_of hadj2
  have hrc2 := row_below hrc1 hb3 (by omega)
  have hsz2 : w.heap.size + 2 ≤ w2.heap.size := Nat.le_trans hsz hb3.size
  have hb4 := hb2.trans (hb3.mono (by omega))
  have hB2lt : B2 < w2.heap.size := hA2.1
  have HA2 := Lib.hid hA2
  have HRC := Lib.hid hrc2
  have HLEN : ∀ b, (adj (opp E) n b).length ≤ n := fun b => adj_length _ _ _
  have HLN := Lib.hid HLEN
  generalize hLL : adj (opp E) n = L at *
  have HLL := Lib.hid hLL
  clear hadj2 hA hA2 hrc1 hrc2 hb3 hb2 HLEN hLL hL
  have hT0 : Hid (TurnAt w2 (w2.alloc (.cells #[.int .i64 (n : Int), .slice none 0 0] 24)) w2.heap.size n (.slice none 0 0) (turnTo L 0)) := by
    refine ⟨World.rowIs_alloc w2 #[.int .i64 (n : Int), .slice none 0 0] 24 _ (fun j hj => by
      have : j = 0 ∨ j = 1 := by simp at hj; omega
      rcases this with rfl | rfl <;> rfl), World.ownsRow_nil _ _ _ _, (Below.refl _ _).alloc (Nat.le_refl _) _⟩
  go_wp2
  go_loopw [17] (fun i wr => ∃ (k : Nat) (vl : Value), k ≤ n ∧ i = .int .i64 k ∧ Hid (TurnAt w2 wr w2.heap.size n vl (turnTo L k))) (fun i _ => n - (intOf i).toNat)
  case atStart => exact ⟨0, _, by omega, rfl, hT0⟩
  case round =>
    clear hT0
    obtain ⟨i, vl, hi, rfl, hT⟩ := hrel
    obtain ⟨wo, rfl⟩ : ∃ wo : World, wo = wr := ⟨_, rfl⟩
    by_cases hin : i < n
    · obtain ⟨xl, c, hcx, hlx⟩ := HA2.out.2 i hin
      have hcx1 : wo.cell? ⟨B2, i, none⟩ = some (.slice xl (L i).length c) := by rw [hT.out.bel.cell (by exact hB2lt)]; exact hcx
      have HLX := Lib.hid hlx
      have hlen2 := HLN.out i
      clear hcx hlx
      go_wp2
      clear hcx1
      go_loopw [24] (fun i' wr => ∃ (k : Nat) (vl : Value), k ≤ (L i).length ∧ i' = .int .i64 k ∧ Hid (TurnAt w2 wr w2.heap.size n vl (turnMid L i k))) (fun i' _ => (L i).length - (intOf i').toNat)
      case atStart => exact ⟨0, vl, by omega, rfl, by rw [turnMid_zero]; exact hT.out⟩
      case round =>
        clear hT
        obtain ⟨k, vl, hk, rfl, hT⟩ := hrel
        by_cases hkl : k < (L i).length
        · rcases HLX.out with h0 | ⟨g, hx, hg, hcells⟩
          · omega
          · subst hx
            have hck : wr.cell? ⟨g, k, none⟩ = some (.int .i64 (at0 (L i) k : Nat)) := by rw [hT.out.bel.cell (by exact hg)]; exact hcells k hkl
            have hst := Lib.hid (turnMid_step hkl)
            clear hcells
            generalize hu : at0 (L i) k = u at *
            clear hu
            have hc1 := hT.out.box.cell (i := 1) (by omega)
            have hc1' : wr.cell? ⟨w2.heap.size, 1, none⟩ = some vl := hc1
            obtain ⟨va, vc, hvl⟩ := own_shape2 hT.out.own
            have hown := hT.out.own.alloc (.cells #[.int .i64 (i : Int), .int .i64 (u : Int)] 33)
            have hplen : (turnMid L i k).length ≤ 3000000 := by
              have h1 := turnTo_len HLN.out i
              have h2 : (turnMid L i k).length ≤ (turnTo L i).length + n := by
                unfold turnMid
                rw [List.length_append, List.length_map, List.length_take]
                omega
              have h3 : i * n ≤ 1000 * 1000 := Nat.mul_le_mul (by omega) (by omega)
              omega
            have HT := Lib.hid (fun (w3 : World) (hg3 : (wr.alloc (.cells #[.int .i64 (i : Int), .int .i64 (u : Int)] 33)).grownBy w3 vl.ownBlock) => turn_keep hT.out (grown_trans (World.grownBy_alloc wr _ _) hg3))
            have HP := Lib.hid (fun (w3 : World) (g3 c3 : Nat) ho (hg3 : (wr.alloc (.cells #[.int .i64 (i : Int), .int .i64 (u : Int)] 33)).grownBy w3 vl.ownBlock) => turn_put (a := i) (b := u) (g3 := g3) (c3 := c3) hT.out ho (grown_trans (World.grownBy_alloc wr _ _) hg3))
            have hsz3 : w2.heap.size + 1 ≤ wr.heap.size := hT.out.box.lt
            obtain ⟨i0, hi0, hz0, hz1, hz2⟩ := info_parts infoLink
            clear hc1 hT
            subst hvl
            go_wp2_with (at_builtin; refine wpList_append_lies (w := wr.alloc (.cells #[.int .i64 (i : Int), .int .i64 (u : Int)] 33)) (by rfl) _ _ _ (by rfl) (w2.heap.size + 1) 33 i0 (.agg #[.int .i64 0, .int .i64 0]) 2 16 Try.underlying22 hi0 hz0 hz1 hz2 (by rfl) (by decide) (.slice va (turnMid L i k).length vc) (turnMid L i k).length (lcells (turnMid L i k)) (by rfl) hown ⟨wr.heap.size, 0, none⟩ 1 1 [.int .i64 (i : Int), .int .i64 (u : Int)] (by rfl) (by rfl) (World.news_of_block (cs := #[.int .i64 (i : Int), .int .i64 (u : Int)]) (t := 33) (fr := (0, 0)) (heap_alloc_new wr _)) (by intro z hz; simp at hz; rcases hz with rfl | rfl <;> rfl) (by decide) (by unfold maxLen; omega) (by omega) (by simp; omega) (wr.heap.size + 1) (by simp) ?_; intro g3 c3 w3 ho3 hg3 hat3 hlt3; have hcz := (HT.out _ hg3).1; have hfz := (HT.out _ hg3).2)
            have hT3 := Lib.hid (HP.out w3 g3 c3 ho3 hg3)
            rw [← hst.out] at hT3
            clear ho3 hg3 hat3 hlt3 hcz hfz HP HT hown
            go_roundw
            case rel => exact ⟨k + 1, _, by omega, by go_num, hT3⟩
            case measure => simp [intOf]; omega
        · obtain rfl : (L i).length = k := by omega
          rw [turnMid_end] at hT
          go_wp2
          go_roundw
          case rel => exact ⟨i + 1, vl, by omega, by go_num, hT⟩
          case measure => simp [intOf]; omega
    · obtain rfl : n = i := by omega
      have hc0 := hT.out.box.cell (i := 0) (by omega)
      have hc1 := hT.out.box.cell (i := 1) (by omega)
      have hc0' : wo.cell? ⟨w2.heap.size, 0, none⟩ = some (.int .i64 (n : Int)) := hc0
      have hc1' : wo.cell? ⟨w2.heap.size, 1, none⟩ = some vl := hc1
      obtain ⟨va, vc, hvl⟩ := own_shape2 hT.out.own
      subst hvl
      have hr := row_below HRC.out hT.out.bel (by omega)
      have hd0 : wo.cell? ⟨w.heap.size + 1, 0, none⟩ = some (.int .i64 0) := hr.cell (i := 0) (by omega)
      have hd1 : wo.cell? ⟨w.heap.size + 1, 1, none⟩ = some (.slice none 0 0) := hr.cell (i := 1) (by omega)
      have hf0 := hr.frozen 0
      have hf1 := hr.frozen 1
      have HTT := Lib.hid hT.out
      clear hc0 hc1 hr hT
      go_wp2
      have hwo := HTT.out.own
      have hE2 := HLL.out
      subst hE2
      have hbig : Below w.heap.size w ((wo.setCell ⟨w.heap.size + 1, 0, none⟩ (.int .i64 (n : Int))).setCell ⟨w.heap.size + 1, 1, none⟩ (.slice va (turnTo (adj (opp E) n) n).length vc)) :=
        ((hb4.trans (HTT.out.bel.mono (by omega))).setCell (p := ⟨w.heap.size + 1, 0, none⟩) (by show w.heap.size ≤ w.heap.size + 1; omega) _).setCell (p := ⟨w.heap.size + 1, 1, none⟩) (by show w.heap.size ≤ w.heap.size + 1; omega) _
      have hown2 : ((wo.setCell ⟨w.heap.size + 1, 0, none⟩ (.int .i64 (n : Int))).setCell ⟨w.heap.size + 1, 1, none⟩ (.slice va (turnTo (adj (opp E) n) n).length vc)).ownsRow (w2.heap.size + 1) 33 2 (.slice va (turnTo (adj (opp E) n) n).length vc) (turnTo (adj (opp E) n) n).length (lcells (turnTo (adj (opp E) n) n)) :=
        ownsRow_setCell_below (ownsRow_setCell_below hwo (by show w.heap.size + 1 < w2.heap.size + 1; omega) _) (by show w.heap.size + 1 < w2.heap.size + 1; omega) _
      have hLA := links_own (M := n) hown2 (by omega) (fun p hp => ⟨(turnTo_mem hp).1, (adj_mem.1 (turnTo_mem hp).2).1⟩)
      have e0 : ((wo.setCell ⟨w.heap.size + 1, 0, none⟩ (.int .i64 (n : Int))).setCell ⟨w.heap.size + 1, 1, none⟩ (.slice va (turnTo (adj (opp E) n) n).length vc)).cell? ⟨w.heap.size + 1, 0, none⟩ = some (.int .i64 (n : Int)) :=
        (World.cell?_setCell_other (wo.setCell ⟨w.heap.size + 1, 0, none⟩ (.int .i64 (n : Int))) ⟨w.heap.size + 1, 1, none⟩ ⟨w.heap.size + 1, 0, none⟩ _ (by simp)).trans (World.cell?_setCell_same wo ⟨w.heap.size + 1, 0, none⟩ _ hd0)
      have e1 : ((wo.setCell ⟨w.heap.size + 1, 0, none⟩ (.int .i64 (n : Int))).setCell ⟨w.heap.size + 1, 1, none⟩ (.slice va (turnTo (adj (opp E) n) n).length vc)).cell? ⟨w.heap.size + 1, 1, none⟩ = some (.slice va (turnTo (adj (opp E) n) n).length vc) :=
        World.cell?_setCell_same _ _ _ ((World.cell?_setCell_other wo ⟨w.heap.size + 1, 0, none⟩ ⟨w.heap.size + 1, 1, none⟩ _ (by simp)).trans hd1)
      refine bodyPost_ret (v := .agg #[.int .i64 (n : Int), .slice va (turnTo (adj (opp E) n) n).length vc]) (by simp [results, Try.results13, go_sem, e0, e1]) rfl ?_
      exact ⟨va, vc, rfl, hLA, hbig⟩
end Go.Proofs.Ytaiddgndjiaoaaa
