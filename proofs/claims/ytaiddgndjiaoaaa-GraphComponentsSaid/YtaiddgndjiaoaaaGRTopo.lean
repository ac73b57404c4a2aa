/- The reference's topological order, and the comparison of two lists: contracts. -/
import Derived.Test.YtaiddgndjiaoaaaGMat
import Derived.Test.YtaiddgndjiaoaaaGTopo
namespace Go.Proofs.Ytaiddgndjiaoaaa
open Go.RowKit
set_option linter.unusedVariables false

/-- Integers as a slice lies in memory. -/
def IntsAt (w : World) (x : Option Addr) (l : List Int) : Prop := l.length = 0 ∨ ∃ g, x = some ⟨g, 0, none⟩ ∧ g < w.heap.size ∧ ∀ k, k < l.length → w.cell? ⟨g, k, none⟩ = some (.int .i64 (l.getD k 0))
theorem intsAt_below {w w' : World} {B : Nat} {x : Option Addr} {l : List Int} (h : IntsAt w x l) (hb : Below B w w') (hB : w.heap.size ≤ B) : IntsAt w' x l := by
  rcases h with h | ⟨g, hx, hg, hc⟩
  · exact .inl h
  · exact .inr ⟨g, hx, Nat.lt_of_lt_of_le hg hb.size, fun k hk => by rw [hb.cell (by show g < B; omega)]; exact hc k hk⟩
theorem intsAt_own {w : World} {base : Nat} {e : TypeId} {v : Value} {l : List Nat} (h : w.ownsRow base e 1 v l.length (nums l)) : ∃ x c, v = .slice x (l.map fun a : Nat => (a : Int)).length c ∧ IntsAt w x (l.map fun a : Nat => (a : Int)) := by
  obtain ⟨x, c, hv, hl⟩ := listAt_own h
  refine ⟨x, c, by simpa using hv, ?_⟩
  rcases hl with h0 | ⟨g, hx, hg, hc⟩
  · exact .inl (by simpa using h0)
  · refine .inr ⟨g, hx, hg, fun k hk => ?_⟩
    have hk' : k < l.length := by simpa using hk
    rw [hc k hk', at0_eq hk']
    simp [List.getD, hk']

set_option maxHeartbeats 1000000 in
theorem same_any (x y : Option Addr) (n c d : Nat) (l : List Int) (w : World) (hn : l.length = n) (hx : IntsAt w x l) (hy : IntsAt w y l) (hb : ∀ k, -9223372036854775808 ≤ l.getD k 0 ∧ l.getD k 0 ≤ 9223372036854775807) (hl : n ≤ 1000000) :
    Calls Try.prog 14 #[.slice x n c, .slice y n d] w fun e w' => e = .returned (.bool true) ∧ ∃ m, w' = w.drewN m := by
  have HX := Lib.hid hx
  have HY := Lib.hid hy
  have HN := Lib.hid hn
  clear hx hy hn hb
  go_enter Try.func14, Try.ntmps14
  go_wp2
  go_loopw [13] (fun i wr => ∃ k m : Nat, k ≤ n ∧ i = .int .i64 k ∧ Hid (wr = w.drewN m)) (fun i _ => n - (intOf i).toNat)
  case atStart => exact ⟨0, 0, by omega, rfl, rfl⟩
  case round =>
    obtain ⟨k, m, hk, rfl, hw⟩ := hrel
    have hwr := hw.out
    subst hwr
    clear hw
    by_cases hlt : k < n
    · rcases HX.out with h0 | ⟨g, hx, hg, hc⟩
      · have := HN.out; omega
      · rcases HY.out with h0 | ⟨g2, hy, hg2, hc2⟩
        · have := HN.out; omega
        · subst hx hy
          have c1 := hc k (by have := HN.out; omega)
          have c2 := hc2 k (by have := HN.out; omega)
          have hk0 : (0 : Int) ≤ (k : Int) := by omega
          have hk1 : (k : Int) < (n : Int) := by omega
          clear hc hc2
          generalize l.getD k 0 = z at *
          go_wp2
          go_quiet (fail)
          go_wp2
          go_roundw
          case rel => exact ⟨k + 1, m + nq, by omega, by go_num, by show _ = _; simp⟩
          case measure => simp [intOf]; omega
    · go_wp2
      go_ret
      exact ⟨rfl, m, rfl⟩

/-- The least free node among the last d, or -1. -/
def lfr (E : Nat → Nat → Bool) (n : Nat) (acc : List Nat) : Nat → Int
  | 0 => -1
  | d + 1 => if freeb E n acc (n - (d + 1)) then ((n - (d + 1) : Nat) : Int) else lfr E n acc d
theorem lfr_range {E : Nat → Nat → Bool} {n : Nat} {acc : List Nat} : ∀ d, d ≤ n → lfr E n acc d = match (List.range' (n - d) d).find? (freeb E n acc) with | some v => (v : Int) | none => -1 := by
  intro d
  induction d with
  | zero => intro _; rfl
  | succ d ih =>
    intro hd
    rw [List.range'_succ, List.find?_cons, lfr]
    have e : n - (d + 1) + 1 = n - d := by omega
    rw [e]
    cases h : freeb E n acc (n - (d + 1)) with
    | true => simp
    | false => simp [ih (by omega)]
theorem lfr_next {E : Nat → Nat → Bool} {n : Nat} {acc : List Nat} : lfr E n acc n = match nextOf E n acc with | some v => (v : Int) | none => -1 := by
  rw [lfr_range n (Nat.le_refl n), Nat.sub_self, nextOf, List.range_eq_range']
theorem lfr_lo {E : Nat → Nat → Bool} {n : Nat} {acc : List Nat} : ∀ d, -1 ≤ lfr E n acc d ∧ lfr E n acc d ≤ n := by
  intro d
  induction d with
  | zero => simp only [lfr]; omega
  | succ d ih =>
    simp only [lfr]
    split
    · omega
    · exact ih
/-- Whether v is free, as far as the first p nodes tell. -/
def frp (E : Nat → Nat → Bool) (acc : List Nat) (v p : Nat) : Bool := !(acc.contains v) && (List.range p).all fun q => !(E q v) || acc.contains q
theorem frp_zero (E : Nat → Nat → Bool) (acc : List Nat) (v : Nat) : frp E acc v 0 = !(acc.contains v) := by simp [frp]
theorem frp_succ (E : Nat → Nat → Bool) (acc : List Nat) (v p : Nat) : frp E acc v (p + 1) = (frp E acc v p && (!(E p v) || acc.contains p)) := by
  simp only [frp, List.range_succ, List.all_append, List.all_cons, List.all_nil, Bool.and_true]
  cases (!(acc.contains v)) <;> simp
theorem frp_end (E : Nat → Nat → Bool) (n : Nat) (acc : List Nat) (v : Nat) : frp E acc v n = freeb E n acc v := rfl

set_option maxHeartbeats 4000000 in
set_option maxRecDepth 100000 in
theorem rTopo_any (N : Int) (x : Option Addr) (len cap : Nat) (ls : List (Int × Int)) (w : World) (hL : LinksAt w x len ls) (hlen : len ≤ 1000000) :
    Calls Try.prog 16 #[gr N x len cap] w fun e w' => TopoRes (edge ls (nd N)) (nd N) w.heap.size w e w' := by
  have hb := (Below.refl w.heap.size w).alloc (Nat.le_refl _) (.cells #[.int .i64 N, .slice x len cap] 24)
  have hL1 := links_below hL hb (Nat.le_refl _)
  have hn := nd_le N
  have hmk := fun W => run_make_row' (P := Try.prog) 39 4 (.bool false) 1 Try.underlying39 infoBool rfl .i64 .i64 (nd N) (by omega) (by omega) W
  have hmat := fun W h => rMatrix_any N x len cap ls W h hlen
  clear hL
  generalize hnn : nd N = n at *
  generalize hEE : edge ls n = E at *
  have HMAT := Lib.hid hmat
  clear hmat hnn hEE
  go_enter Try.func16, Try.ntmps16
  go_wp2_with fail
  refine (HMAT.out _ hL1).mono ?_
  rintro e w1 ⟨v, rfl, ⟨y, c, rfl, hM⟩, hb1⟩
  have hs1 := hb1.size
  have hsz : w.heap.size ≤ w1.heap.size := by simp at hs1; omega
  have hb2 := hb.trans (hb1.mono (by simp))
  have HM := Lib.hid hM
  clear hM hL1 hb1 hs1 hb
  have hr0 : (w1.alloc (.cells (madeCells #[.bool false] n) 4)).rowIs w1.heap.size 4 n (fun _ => .bool false) := World.rowIs_made _ _ _ _
  have hR0 : Hid ((w1.alloc (.cells (madeCells #[.bool false] n) 4)).rowIs w1.heap.size 4 n (fun u => .bool (([] : List Nat).contains u))) := hr0.congr fun u _ => by simp
  have hB0 : Below w1.heap.size w1 (w1.alloc (.cells (madeCells #[.bool false] n) 4)) := (Below.refl _ _).alloc (Nat.le_refl _) _
  clear hr0
  go_wp2
  clear hmk
  go_loopw [6, 18] (fun vo i wr => ∃ (k : Nat) (acc : List Nat), k ≤ n ∧ i = .int .i64 k ∧ Hid (acc.length = k ∧ (∀ v, v ∈ acc → v < n) ∧ topoRun E n (n - k) acc = topo E n ∧ wr.rowIs w1.heap.size 4 n (fun u => .bool (acc.contains u)) ∧ wr.ownsRow (w1.heap.size + 1) 3 1 vo acc.length (nums acc)) ∧ Below w1.heap.size w1 wr) (fun _ i _ => n - (intOf i).toNat)
  case atStart => exact ⟨0, [], by omega, rfl, ⟨rfl, fun v h => by simp at h, rfl, hR0.out, World.ownsRow_nil _ _ _ _⟩, hB0⟩
  case round =>
    clear hR0 hB0
    obtain ⟨k, acc, hk, rfl, hh, hbel⟩ := hrel
    obtain ⟨wo, rfl⟩ : ∃ wo : World, wo = wr := ⟨_, rfl⟩
    obtain ⟨vo, rfl⟩ : ∃ vo : Value, vo = u6 := ⟨_, rfl⟩
    by_cases hkn : k < n
    · have hn1 : (1 : Int) ≤ (n : Int) := by omega
      go_wp2
      go_loop [7, 8] (fun nx v => ∃ d : Nat, d ≤ n ∧ v = .int .i64 ((n : Int) - 1 - d) ∧ nx = .int .i64 (lfr E n acc d)) (fun _ v => (intOf v + 1).toNat)
      case atStart => exact ⟨0, by omega, by simp, rfl⟩
      case round =>
        obtain ⟨d, hd, rfl, rfl⟩ := hrel
        by_cases hdn : d < n
        · obtain ⟨v, hv⟩ : ∃ v : Nat, v = n - (d + 1) := ⟨_, rfl⟩
          have hvn : v < n := by omega
          have hvd : (n : Int) - 1 - d = (v : Int) := by omega
          have hcv := hh.out.2.2.2.1.cell hvn
          rw [hvd]
          have HV := Lib.hid hv
          have HVD := Lib.hid hvd
          clear hv hvd
          rcases HM.out with h0 | ⟨B, hyB, hB, hrows⟩
          · omega
          · subst hyB
            go_wp2
            go_loop [9, 34] (fun fr p' => ∃ p : Nat, p ≤ n ∧ p' = .int .i64 p ∧ fr = .bool (frp E acc v p)) (fun _ p' => n - (intOf p').toNat)
            case atStart => exact ⟨0, by omega, rfl, by rw [frp_zero]; simp⟩
            case round =>
              obtain ⟨p, hp, rfl, rfl⟩ := hrel
              by_cases hpn : p < n
              · obtain ⟨g, gc, h1, hg, h2⟩ := hrows p hpn
                have c1 : wo.cell? ⟨B, p, none⟩ = some (.slice (some ⟨g, 0, none⟩) n gc) := by rw [hbel.cell (by exact hB)]; exact h1
                have c2 : wo.cell? ⟨g, v, none⟩ = some (.bool (E p v)) := by rw [hbel.cell (by exact hg)]; exact h2 v hvn
                have c3 := hh.out.2.2.2.1.cell hpn
                have HF := Lib.hid (frp_succ E acc v p)
                clear h1 h2
                clear hh hbel
                rcases hE : E p v with _ | _
                · have HF2 : Hid (frp E acc v (p + 1) = frp E acc v p) := by show _ = _; rw [HF.out, hE]; simp
                  rw [hE] at c2
                  clear hE HF
                  go_wp2
                  go_round
                  case rel => exact ⟨p + 1, by omega, by go_num, by rw [HF2.out]⟩
                  case measure => simp [intOf]; omega
                · rcases hC : acc.contains p with _ | _
                  · have HF2 : Hid (frp E acc v (p + 1) = false) := by show _ = _; rw [HF.out, hE, hC]; simp
                    rw [hE] at c2
                    rw [hC] at c3
                    clear hE HF hC
                    go_wp2
                    go_round
                    case rel => exact ⟨p + 1, by omega, by go_num, by rw [HF2.out]⟩
                    case measure => simp [intOf]; omega
                  · have HF2 : Hid (frp E acc v (p + 1) = frp E acc v p) := by show _ = _; rw [HF.out, hE, hC]; simp
                    rw [hE] at c2
                    rw [hC] at c3
                    clear hE HF hC
                    go_wp2
                    go_round
                    case rel => exact ⟨p + 1, by omega, by go_num, by rw [HF2.out]⟩
                    case measure => simp [intOf]; omega
              · obtain rfl : n = p := by omega
                rw [frp_end]
                have HL : Hid (lfr E n acc (d + 1) = if freeb E n acc v then (v : Int) else lfr E n acc d) := by show _ = _; rw [lfr, HV.out]
                have HVI := Lib.hid (show ((v : Int) - 1 = (n : Int) - 1 - ((d + 1 : Nat) : Int)) by have := HVD.out; omega)
                clear hrows hcv
                rcases hf : freeb E n acc v with _ | _
                · have HL2 : Hid (lfr E n acc (d + 1) = lfr E n acc d) := by show _ = _; rw [HL.out, hf]; simp
                  clear hf HL
                  go_wp2
                  go_round
                  case rel => exact ⟨d + 1, by omega, by rw [← HVI.out], by rw [HL2.out]⟩
                  case measure => simp [intOf]
                · have HL2 : Hid (lfr E n acc (d + 1) = (v : Int)) := by show _ = _; rw [HL.out, hf]; simp
                  clear hf HL
                  go_wp2
                  go_round
                  case rel => exact ⟨d + 1, by omega, by rw [← HVI.out], by rw [HL2.out]⟩
                  case measure => simp [intOf]
        · obtain rfl : n = d := by omega
          rw [lfr_next]
          rcases hnx : nextOf E n acc with _ | v
          · have hrun := hh.out.2.2.1
            have e : n - k = (n - k - 1) + 1 := by omega
            rw [e, topoRun, hnx] at hrun
            have HR := Lib.hid hrun.symm
            clear hrun e hnx
            go_wp2
            go_ret2
            refine ⟨.slice none 0 0, ?_, ?_, hb2.trans (hbel.mono hsz)⟩
            · rw [HR.out]; rfl
            · rw [HR.out]; exact World.ownsRow_nil _ _ _ _
          · have hvn : v < n := by
              have := List.mem_of_find?_eq_some hnx
              simpa using this
            have hrun := hh.out.2.2.1
            have e : n - k = (n - (k + 1)) + 1 := by omega
            rw [e, topoRun, hnx] at hrun
            have HR := Lib.hid hrun
            have hcv := hh.out.2.2.2.1.cell hvn
            have hfv := World.rowIs.frozen hh.out.2.2.2.1 v
            have hal := hh.out.1
            have hord : wo.ownsRow (w1.heap.size + 1) 3 1 vo k (nums acc) := by
              have := hh.out.2.2.2.2
              rwa [hal] at this
            have hord2 := ownsRow_setCell_below hord (a := ⟨w1.heap.size, v, none⟩) (by show w1.heap.size < w1.heap.size + 1; omega) (.bool true)
            have hw1 := hh.out.2.2.2.1.lt
            have hrow2 : Hid ((wo.setCell ⟨w1.heap.size, v, none⟩ (.bool true)).rowIs w1.heap.size 4 n (fun u => .bool ((acc ++ [v]).contains u))) := (World.rowIs.set hh.out.2.2.2.1 v (.bool true)).congr fun u hu => by
              by_cases e1 : u = v
              · subst e1; simp
              · simp [e1]
            have hbel2 := Lib.hid (hbel.setCell (p := ⟨w1.heap.size, v, none⟩) (Nat.le_refl _) (.bool true))
            have hsz2 : w1.heap.size + 1 ≤ (wo.setCell ⟨w1.heap.size, v, none⟩ (.bool true)).heap.size := by simp [World.setCell]; omega
            have HMEM := Lib.hid hh.out.2.1
            have HAL := Lib.hid hal
            have hv0 : (0 : Int) ≤ (v : Int) := by omega
            clear hrun e hnx hh hal hord hbel
            go_wp2_with (at_builtin; refine wpList_append_at (wo.setCell ⟨w1.heap.size, v, none⟩ (.bool true)) (by rfl) _ _ _ (by rfl) (w1.heap.size + 1) 3 _ 8 Try.underlying31 infoNum (by rfl) vo k (nums acc) (by rfl) hord2 _ (by rfl) wo.heap.size (by simp [World.setCell]) (by rfl) (by omega) (by omega) hsz2 ?_; intro g3 c3 w3 ho3 hg3 hl3)
            have hg4 := Lib.hid hg3
            have hrow3 : Hid (w3.rowIs w1.heap.size 4 n (fun u => .bool ((acc ++ [v]).contains u))) := row_grown hrow2.out hg3 (fun e => by have := hord2.lt _ e.symm; omega)
            have hb3 : Below w1.heap.size w1 w3 := hbel2.out.grown hg3 (by omega) (fun q hq => by have := hord2.lt q hq; omega)
            rw [nums_append] at ho3
            have HO3 := Lib.hid ho3
            clear ho3 hg3 hl3 hord2
            go_roundw
            case rel =>
              refine ⟨k + 1, acc ++ [v], by omega, by go_num, ⟨by simp [HAL.out], fun u hu => ?_, HR.out, hrow3.out, ?_⟩, hb3⟩
              · rcases List.mem_append.1 hu with hu | hu
                · exact HMEM.out u hu
                · simp at hu; omega
              · have := HO3.out
                simpa [HAL.out] using this
            case measure => simp [intOf]; omega
    · obtain rfl : n = k := by omega
      have hrun := hh.out.2.2.1
      rw [Nat.sub_self, topoRun] at hrun
      have HR := Lib.hid hrun.symm
      have HO := Lib.hid hh.out.2.2.2.2
      clear hrun hh
      go_wp2
      go_ret2
      refine ⟨vo, ?_, ?_, hb2.trans (hbel.mono hsz)⟩
      · rw [HR.out]; rfl
      · rw [HR.out]; exact own_mono HO.out (by omega)
end Go.Proofs.Ytaiddgndjiaoaaa
