/- Package graph's Reach: contract. -/
import Derived.Test.YtaiddgndjiaoaaaGTopo
import Derived.Test.YtaiddgndjiaoaaaMatKit2
import Derived.Laws.EntriesVeiled
namespace Go.Proofs.Ytaiddgndjiaoaaa
open Go.RowKit
set_option linter.unusedVariables false

theorem infoBool2 : (Try.prog.info? 4).map (fun i => (i.zero, i.size, i.bytes)) = some (some (.bool false), 1, 1) := by kernel_rfl

theorem grown_setCell (w : World) (g i : Nat) (u : Value) : w.grownBy (w.setCell ⟨g, i, none⟩ u) (some g) :=
  ⟨rfl, rfl, rfl, by simp [World.setCell], fun k _ hk => Below.heap_setCell _ _ _ _ (fun e => hk (by rw [e]))⟩
theorem cell_grown {w w' : World} {row : Option Nat} {p i : Nat} {v : Value} (hg : w.grownBy w' row) (h : w.cell? ⟨p, i, none⟩ = some v) (hne : some p ≠ row) : w'.cell? ⟨p, i, none⟩ = some v := hg.cell h hne

set_option maxHeartbeats 4000000 in
set_option maxRecDepth 100000 in
theorem walkR_any (E : Nat → Nat → Bool) (n : Nat) (hn : n ≤ 20000) (w0 : World) (B pr pn pw Br : Nat) (hA : AdjAt w0 B n (adj E n)) (hE : ∀ a b, E a b = true → a < n ∧ b < n) (hBr : w0.heap.size ≤ Br) (n1 : some pr ≠ some Br) (n2 : some pn ≠ some Br) (n3 : some pw ≠ some Br) :
    ∀ (m : Nat) (R : Nat → Bool) (v : Nat) (w : World), unmarked R n < m → v < n → R v = false → Below w0.heap.size w0 w → w.cell? ⟨pr, 0, none⟩ = some (.slice (some ⟨Br, 0, none⟩) n n) → w.cell? ⟨pn, 0, none⟩ = some (.slice (some ⟨B, 0, none⟩) n n) →
      w.cell? ⟨pw, 0, none⟩ = some (.func (Fn.func 38) #[] #[.pointer (some ⟨pr, 0, none⟩), .pointer (some ⟨pn, 0, none⟩), .pointer (some ⟨pw, 0, none⟩)]) → w.rowIs Br 4 n (fun u => .bool (R u)) →
      Calls Try.prog 38 #[.int .i64 (v : Int), .pointer (some ⟨pr, 0, none⟩), .pointer (some ⟨pn, 0, none⟩), .pointer (some ⟨pw, 0, none⟩)] w fun e w' => e = .returned (.tuple #[]) ∧ ∃ R', Walked E R v R' ∧ w'.rowIs Br 4 n (fun u => .bool (R' u)) ∧ w.grownBy w' (some Br) := by
  intro m
  induction m with
  | zero => intro R v w h; omega
  | succ m ih =>
    intro R v w hm hv hRv hbel c1 c2 c3 hrow
    have cv := hrow.cell hv
    have fv := hrow.frozen v
    have hg1 := grown_setCell w Br v (.bool true)
    have d1 := cell_grown hg1 c1 n1
    have d2 := cell_grown hg1 c2 n2
    obtain ⟨x, c, hcx, hlx⟩ := hA.2 v hv
    have hbel1 := hbel.setCell (p := ⟨Br, v, none⟩) hBr (.bool true)
    have hB : B < w0.heap.size := hA.1
    have d4 : (w.setCell ⟨Br, v, none⟩ (.bool true)).cell? ⟨B, v, none⟩ = some (.slice x (adj E n v).length c) := by rw [hbel1.cell (by exact hB)]; exact hcx
    have hrow1 : (w.setCell ⟨Br, v, none⟩ (.bool true)).rowIs Br 4 n (fun u => .bool (if u = v then true else R u)) := (hrow.set v (.bool true)).congr fun u _ => by by_cases e : u = v <;> simp [e]
    have hum : unmarked (fun u => if u = v then true else R u) n < m := by
      have := unmarked_lt (R := R) (R' := fun u => if u = v then true else R u) (fun u h => by simp [h]) hv hRv (by simp)
      omega
    have HW : Hid (Walking E R v ((adj E n v).take 0) (fun u => if u = v then true else R u) ∧ (w.setCell ⟨Br, v, none⟩ (.bool true)).rowIs Br 4 n (fun u => .bool (if u = v then true else R u)) ∧ w.grownBy (w.setCell ⟨Br, v, none⟩ (.bool true)) (some Br)) := ⟨by simpa using walking_start E R v, hrow1, hg1⟩
    have HUM := Lib.hid hum
    have HLX := Lib.hid hlx
    have HC := Lib.hid (And.intro c1 (And.intro c2 (And.intro c3 hbel)))
    have IH := Lib.hid ih
    have hlen := adj_length E n v
    have hv0 : (0 : Int) ≤ (v : Int) := by omega
    have hv1 : (v : Int) < (n : Int) := by omega
    have HRV := Lib.hid hRv
    clear c2 hg1 hcx hlx hbel1 hrow1 hum ih hrow c3 hRv
    go_enter Try.func38, Try.ntmps38
    go_wp2
    clear cv fv d1 d2 d4
    go_loopw [15] (fun i wr => ∃ (k : Nat) (R' : Nat → Bool), k ≤ (adj E n v).length ∧ i = .int .i64 k ∧ Hid (Walking E R v ((adj E n v).take k) R' ∧ wr.rowIs Br 4 n (fun u => .bool (R' u)) ∧ w.grownBy wr (some Br))) (fun i _ => (adj E n v).length - (intOf i).toNat)
    case atStart => exact ⟨0, _, by omega, rfl, HW⟩
    case round =>
      obtain ⟨k, R', hk, rfl, hh⟩ := hrel
      have c1 := cell_grown hh.out.2.2 HC.out.1 n1
      have c3 := cell_grown hh.out.2.2 HC.out.2.2.1 n3
      by_cases hkl : k < (adj E n v).length
      · rcases HLX.out with h0 | ⟨g, hx, hg, hcells⟩
        · omega
        · subst hx
          have hbw : Below w0.heap.size w0 wr := HC.out.2.2.2.grown hh.out.2.2 (HC.out.2.2.2.size) (fun q hq => by injection hq with e; omega)
          have hck : wr.cell? ⟨g, k, none⟩ = some (.int .i64 (at0 (adj E n v) k : Nat)) := by rw [hbw.cell (by exact hg)]; exact hcells k hkl
          have hun := (at0_adj hkl).1
          have hEu := Lib.hid (at0_adj hkl).2
          have hta := Lib.hid (take_at0 hkl)
          have hcu := hh.out.2.1.cell hun
          clear hcells
          generalize hu : at0 (adj E n v) k = u at *
          clear hu
          rcases hRu : R' u with _ | _
          · rw [hRu] at hcu
            have HRu := Lib.hid hRu
            have hul : unmarked R' n < m := by
              have h1 := hh.out.1.old
              have := unmarked_lt (R := R) (R' := R') h1 hv HRV.out hh.out.1.at_v
              have h2 := hm
              omega
            have HUL := Lib.hid hul
            have HBW := Lib.hid hbw
            clear hRu hul hbw
            have c2 := cell_grown hh.out.2.2 HC.out.2.1 n2
            go_wp2_with fail
            refine (IH.out R' u wr HUL.out hun HRu.out HBW.out c1 c2 c3 hh.out.2.1).mono ?_
            rintro e w2 ⟨rfl, R2, hW2, hr2, hg2⟩
            have hh2 : Hid (Walking E R v ((adj E n v).take (k + 1)) R2 ∧ w2.rowIs Br 4 n (fun u => .bool (R2 u)) ∧ w.grownBy w2 (some Br)) := ⟨by rw [hta.out]; exact walking_step hh.out.1 hEu.out hW2, hr2, grown_trans hh.out.2.2 hg2⟩
            clear hh hW2 hr2 hg2
            go_wp2
            go_roundw
            case rel => exact ⟨k + 1, R2, by omega, by go_num, hh2⟩
            case measure => simp [intOf]; omega
          · rw [hRu] at hcu
            have hh2 : Hid (Walking E R v ((adj E n v).take (k + 1)) R' ∧ wr.rowIs Br 4 n (fun u => .bool (R' u)) ∧ w.grownBy wr (some Br)) := ⟨by rw [hta.out]; exact walking_skip hh.out.1 hRu, hh.out.2⟩
            clear hRu hh hbw
            go_wp2
            go_roundw
            case rel => exact ⟨k + 1, R', by omega, by go_num, hh2⟩
            case measure => simp [intOf]; omega
      · obtain rfl : (adj E n v).length = k := by omega
        have hh2 := hh.out
        rw [List.take_length] at hh2
        have hh3 := Lib.hid hh2
        clear hh2 hh
        go_wp2
        go_end0
        exact ⟨rfl, R', walking_end hE hh3.out.1, hh3.out.2.1, hh3.out.2.2⟩

/-- What Reach hands back: a row of booleans. -/
def ReachRes (E : Nat → Nat → Bool) (n : Nat) (fr : Int) (base : Nat) (w : World) (e : Ending) (w' : World) : Prop :=
  ∃ (Br : Nat) (R : Nat → Bool), e = .returned (.slice (some ⟨Br, 0, none⟩) n n) ∧ w'.rowIs Br 4 n (fun u => .bool (R u)) ∧ (∀ u, u < n → (R u = true ↔ (0 ≤ fr ∧ fr < (n : Int)) ∧ ((u : Int) = fr ∨ Path E fr.toNat u))) ∧ Below base w w'
theorem edge_lt' {ls : List (Int × Int)} {n : Nat} : ∀ a b, edge ls n a b = true → a < n ∧ b < n := fun _ _ => edge_lt

set_option maxHeartbeats 4000000 in
set_option maxRecDepth 100000 in
theorem Reach_any (N : Int) (x : Option Addr) (len cap : Nat) (ls : List (Int × Int)) (fr : Int) (w : World) (hL : LinksAt w x len ls) (hlen : len ≤ 1000000) (hfr : -9223372036854775808 ≤ fr ∧ fr ≤ 9223372036854775807) :
    Calls Try.prog 21 #[gr N x len cap, .int .i64 fr] w fun e w' => ReachRes (edge ls (nd N)) (nd N) fr w.heap.size w e w' := by
  have hb := (Below.refl w.heap.size w).alloc (Nat.le_refl _) (.cells #[.int .i64 N, .slice x len cap] 24)
  have hL1 := links_below hL hb (Nat.le_refl _)
  have hn := nd_le N
  have hnext := fun W h => Next_any N x len cap ls W h hlen
  have hmk := fun W => run_make_row' (P := Try.prog) 39 4 (.bool false) 1 Try.underlying39 infoBool2 rfl .i64 .i64 (nd N) (by omega) (by omega) W
  clear hL
  generalize hnn : nd N = n at *
  generalize hEE : edge ls n = E at *
  have HNX := Lib.hid hnext
  have HEE := Lib.hid hEE
  clear hnext hnn hEE
  go_enter Try.func21, Try.ntmps21
  go_wp2_with fail
  refine (HNX.out _ hL1).mono ?_
  rintro e w1 ⟨v, rfl, hadj, hb1⟩
  obtain ⟨B, rfl, hB, hA⟩ := adjAt_of hadj
  have hEl : ∀ a b, E a b = true → a < n ∧ b < n := by rw [← HEE.out]; exact edge_lt'
  have hs1 := hb1.size
  have hsz : w.heap.size ≤ w1.heap.size := by simp at hs1; omega
  have hb2 := hb.trans (hb1.mono (by simp))
  clear hadj hL1 hb hb1 hs1
  have hbig : Below w1.heap.size w1 ((((w1.alloc (.cells #[.slice (some ⟨B, 0, none⟩) n n] 27)).alloc (.cells (madeCells #[.bool false] n) 4)).alloc (.cells #[.slice (some ⟨w1.heap.size + 1, 0, none⟩) n n] 39)).alloc (.cells #[.func (Fn.func 38) #[] #[.pointer (some ⟨w1.heap.size + 1 + 1, 0, none⟩), .pointer (some ⟨w1.heap.size, 0, none⟩), .pointer (some ⟨w1.heap.size + 1 + 1 + 1, 0, none⟩)]] 55)) :=
    ((((Below.refl w1.heap.size w1).alloc (Nat.le_refl _) _).alloc (by simp) _).alloc (by simp; omega) _).alloc (by simp; omega) _
  by_cases hfr2 : 0 ≤ fr ∧ fr < (n : Int)
  · have q1 : (decide (0 ≤ fr) && decide (fr < (n : Int))) = true := by simp [hfr2]
    obtain ⟨f, rfl⟩ := Int.eq_ofNat_of_zero_le hfr2.1
    have hfn : f < n := by omega
    have q2 : decide (f < n) = true := by simp [hfn]
    clear q1
    go_wp2_with (go_at_call 27; refine (isNode_any _ _ _).mono ?_; rintro e w' ⟨rfl, rfl⟩)
    have HBIG := Lib.hid hbig
    clear hbig
    refine (walkR_any E n (by omega) w1 B (w1.heap.size + 1 + 1) w1.heap.size (w1.heap.size + 1 + 1 + 1) (w1.heap.size + 1) hA hEl (by omega) (fun e => by injection e with e; omega) (fun e => by injection e with e; omega) (fun e => by injection e with e; omega) (unmarked (fun _ => false) n + 1) (fun _ => false) f _ (by omega) hfn rfl HBIG.out (by go_simp) (by go_simp) (by go_simp) ?_).mono ?_
    · have h1 : (w1.alloc (.cells #[.slice (some ⟨B, 0, none⟩) n n] 27)).heap.size = w1.heap.size + 1 := by simp
      have := World.rowIs_made (w1.alloc (.cells #[.slice (some ⟨B, 0, none⟩) n n] 27)) (.bool false) n 4
      rw [h1] at this
      exact (this.alloc _).alloc _
    · rintro e w2 ⟨rfl, R', hW, hr, hg⟩
      have hcr := cell_grown (p := w1.heap.size + 1 + 1) (i := 0) (v := .slice (some ⟨w1.heap.size + 1, 0, none⟩) n n) hg (by go_simp) (fun e => by injection e with e; omega)
      have hbel : Below w.heap.size w w2 := (hb2.trans (HBIG.out.mono hsz)).grown hg (by simp; omega) (fun q hq => by injection hq with e; omega)
      have HRES := Lib.hid (And.intro hr (walked_all hW))
      clear hr hW hg HBIG
      go_wp2
      go_ret
      refine ⟨_, R', rfl, HRES.out.1, fun u hu => ?_, hbel⟩
      rw [HRES.out.2 u]
      constructor
      · rintro (rfl | h)
        · exact ⟨by omega, .inl rfl⟩
        · exact ⟨by omega, .inr h⟩
      · rintro ⟨_, h | h⟩
        · exact .inl (by omega)
        · exact .inr h
  · have q1 : (decide (0 ≤ fr) && decide (fr < (n : Int))) = false := by
      rw [Bool.and_eq_false_iff, decide_eq_false_iff_not, decide_eq_false_iff_not]; omega
    have hrow : ((((w1.alloc (.cells #[.slice (some ⟨B, 0, none⟩) n n] 27)).alloc (.cells (madeCells #[.bool false] n) 4)).alloc (.cells #[.slice (some ⟨w1.heap.size + 1, 0, none⟩) n n] 39)).alloc (.cells #[.func (Fn.func 38) #[] #[.pointer (some ⟨w1.heap.size + 1 + 1, 0, none⟩), .pointer (some ⟨w1.heap.size, 0, none⟩), .pointer (some ⟨w1.heap.size + 1 + 1 + 1, 0, none⟩)]] 55)).rowIs (w1.heap.size + 1) 4 n (fun _ => .bool false) := by
      have h1 : (w1.alloc (.cells #[.slice (some ⟨B, 0, none⟩) n n] 27)).heap.size = w1.heap.size + 1 := by simp
      have := World.rowIs_made (w1.alloc (.cells #[.slice (some ⟨B, 0, none⟩) n n] 27)) (.bool false) n 4
      rw [h1] at this
      exact (this.alloc _).alloc _
    have HROW := Lib.hid hrow
    have hbel := hb2.trans (hbig.mono hsz)
    have HFR := Lib.hid hfr2
    clear hrow hbig hfr2
    go_wp2_with (go_at_call 27; refine (isNode_any _ _ _).mono ?_; rintro e w' ⟨rfl, rfl⟩)
    go_ret
    refine ⟨_, fun _ => false, rfl, HROW.out, fun u hu => ?_, hbel⟩
    constructor
    · intro h; cases h
    · rintro ⟨h, _⟩; exact absurd h HFR.out
end Go.Proofs.Ytaiddgndjiaoaaa
