/- The queue's methods, and the library's heap over it: contracts. -/
import Derived.Test.YtaiddgndjiaoaaaGA
import Derived.Test.YtaiddgndjiaoaaaHMath
import Derived.Deep.RegionHeld3
import Derived.Deep.RegionLaw
import Derived.BigRegion
import Derived.Outline
namespace Go.Proofs.Ytaiddgndjiaoaaa
open Go.RowKit
set_option linter.unusedVariables false

theorem qlen_any (a : Option Addr) (n cap : Nat) (w : World) : Calls Try.prog 45 #[.slice a n cap] w fun e w' => e = .returned (.int .i64 (n : Int)) ∧ w = w' := by
  go_enter Try.func45, Try.ntmps45
  go_wp2
  go_ret
  exact ⟨rfl, rfl⟩

/-- A slice in one block from its beginning on, whose first cells are the list. -/
theorem qless_any (g n cap : Nat) (q : List Nat) (i j : Nat) (hi : i < n) (hj : j < n) (w : World) (hq : ∀ k, k < n → w.cell? ⟨g, k, none⟩ = some (.int .i64 (at0 q k : Nat))) (hn : n ≤ 1000000) :
    Calls Try.prog 89 #[.slice (some ⟨g, 0, none⟩) n cap, .int .i64 (i : Int), .int .i64 (j : Int)] w fun e w' => e = .returned (.bool (decide (at0 q i < at0 q j))) ∧ ∃ m, w' = w.drewN m := by
  have c1 := hq i hi
  have c2 := hq j hj
  have hi1 : (0 : Int) ≤ (i : Int) := by omega
  have hj1 : (0 : Int) ≤ (j : Int) := by omega
  have hi2 : (i : Int) < (n : Int) := by omega
  have hj2 : (j : Int) < (n : Int) := by omega
  clear hq
  generalize at0 q i = x at *
  generalize at0 q j = y at *
  go_enter Try.func89, Try.ntmps89
  go_wp2
  go_quiet (fail)
  go_wp2
  go_ret
  exact ⟨r_bool (by simp), _, rfl⟩

theorem nums_set (q : List Nat) (i x : Nat) : (nums q).set i (.int .i64 (x : Int)) = nums (q.set i x) := by simp [nums, List.map_set]
theorem nums_at {q : List Nat} {k : Nat} (h : k < q.length) : (nums q)[k]? = some (.int .i64 (at0 q k : Nat)) := by simp [nums, at0, List.getD, List.getElem?_eq_getElem h]

set_option maxHeartbeats 1000000 in
theorem qswap_any (g cap : Nat) (q : List Nat) (base i j : Nat) (hi : i < q.length) (hj : j < q.length) (w : World) (hown : w.ownsRow base 3 1 (.slice (some ⟨g, 0, none⟩) q.length cap) q.length (nums q)) (hn : q.length ≤ 1000000) :
    Calls Try.prog 92 #[.slice (some ⟨g, 0, none⟩) q.length cap, .int .i64 (i : Int), .int .i64 (j : Int)] w fun e w' => e = .returned (.tuple #[]) ∧
      w'.ownsRow base 3 1 (.slice (some ⟨g, 0, none⟩) q.length cap) q.length (nums (swp q i j)) ∧ w.grownBy w' (some g) := by
  have c1 := hown.cellAt i (by omega)
  have c2 := hown.cellAt j (by omega)
  rw [nums_at hi] at c1
  rw [nums_at hj] at c2
  have f1 := hown.frozenAt i
  have f2 := hown.frozenAt j
  have s1 := (hown.drew).stored i (.int .i64 (at0 q j : Nat))
  have s2 := s1.1.stored j (.int .i64 (at0 q i : Nat))
  rw [nums_set, nums_set] at s2
  have hgr := Lib.hid (grown_trans (grown_trans (grown_drew (World.grownBy.refl w (some g))) s1.2) s2.2)
  have S2 := Lib.hid s2.1
  have hi1 : (0 : Int) ≤ (i : Int) := by omega
  have hj1 : (0 : Int) ≤ (j : Int) := by omega
  have hi2 : (i : Int) < (q.length : Int) := by omega
  have hj2 : (j : Int) < (q.length : Int) := by omega
  have c2s : ∃ z, (w.setCell ⟨g, i, none⟩ (.int .i64 (at0 q j : Nat))).cell? ⟨g, j, none⟩ = some z := by
    by_cases hij : i = j
    · subst hij
      exact ⟨_, World.cell?_setCell_same _ _ _ c1⟩
    · refine ⟨_, (World.cell?_setCell_other w ⟨g, i, none⟩ ⟨g, j, none⟩ _ ?_).trans c2⟩
      intro h
      injection h with _ h
      omega
  obtain ⟨z, hz⟩ := c2s
  have f3 : (w.setCell ⟨g, i, none⟩ (.int .i64 (at0 q j : Nat))).frozen? ⟨g, j, none⟩ = false := by simpa using f2
  show Calls _ _ _ _ (fun e w' => e = .returned (.tuple #[]) ∧ _ ∧ _)
  unfold swp at *
  clear s1 s2 hown
  generalize at0 q i = x at *
  generalize at0 q j = y at *
  go_enter Try.func92, Try.ntmps92
  go_wp2
  go_region
  all_goals
    go_end0
    exact ⟨rfl, S2.out, hgr.out⟩

/-- Blocks other than p and a row's, and all that is new, are as they were. -/
structure Keeps (w w' : World) (p : Nat) (row : Option Nat) : Prop where
  os : w'.os = w.os
  tape : w'.tape = w.tape
  output : w'.output = w.output
  size : w.heap.size ≤ w'.heap.size
  block : ∀ k, k < w.heap.size → k ≠ p → some k ≠ row → w'.heap[k]? = w.heap[k]?
theorem Keeps.refl (w : World) (p : Nat) (row : Option Nat) : Keeps w w p row := ⟨rfl, rfl, rfl, Nat.le_refl _, fun _ _ _ _ => rfl⟩
theorem Keeps.of_grown {w w' : World} {row : Option Nat} (h : w.grownBy w' row) (p : Nat) : Keeps w w' p row := ⟨h.os, h.tape, h.output, h.size, fun k hk _ hr => h.block k hk hr⟩
theorem Keeps.setCell {w w' : World} {p : Nat} {row : Option Nat} (h : Keeps w w' p row) (i : Nat) (v : Value) : Keeps w (w'.setCell ⟨p, i, none⟩ v) p row :=
  ⟨h.os, h.tape, h.output, by simpa [World.setCell] using h.size, fun k hk hp hr => (Below.heap_setCell _ _ _ _ hp).trans (h.block k hk hp hr)⟩
theorem Keeps.drewN {w w' : World} {p : Nat} {row : Option Nat} (h : Keeps w w' p row) (m : Nat) : Keeps w (w'.drewN m) p row := ⟨h.os, h.tape, h.output, h.size, h.block⟩
def Moved (w : World) (v v' : Value) : Prop := v'.ownBlock = v.ownBlock ∨ ∀ g, v'.ownBlock = some g → w.heap.size ≤ g
theorem Keeps.trans {a b c : World} {p : Nat} {v v' : Value} (h : Keeps a b p v.ownBlock) (hm : Moved a v v') (k : Keeps b c p v'.ownBlock) : Keeps a c p v.ownBlock :=
  ⟨k.os.trans h.os, k.tape.trans h.tape, k.output.trans h.output, Nat.le_trans h.size k.size, fun i hi hp hr => (k.block i (Nat.lt_of_lt_of_le hi h.size) hp (fun e => by
    rcases hm with hm | hm
    · rw [hm] at e; exact hr e
    · have := hm i e.symm; omega)).trans (h.block i hi hp hr)⟩
theorem Moved.trans {a b : World} {v v' v'' : Value} (h : Moved a v v') (hs : a.heap.size ≤ b.heap.size) (k : Moved b v' v'') : Moved a v v'' := by
  rcases k with k | k
  · rcases h with h | h
    · exact .inl (k.trans h)
    · exact .inr fun g hg => h g (k ▸ hg)
  · exact .inr fun g hg => Nat.le_trans hs (k g hg)
/-- A queue: its box, and the list that its slice owns. -/
def QueueAt (w : World) (p : Nat) (v : Value) (q : List Nat) : Prop := w.rowIs p 65 1 (fun _ => v) ∧ w.ownsRow (p - 1) 3 1 v q.length (nums q) ∧ some p ≠ v.ownBlock
theorem own_set_other {w : World} {base : Nat} {e : TypeId} {size : Nat} {v : Value} {n : Nat} {xs : List Value} (h : w.ownsRow base e size v n xs) {p : Nat} (hne : some p ≠ v.ownBlock) (i : Nat) (u : Value) : (w.setCell ⟨p, i, none⟩ u).ownsRow base e size v n xs :=
  h.kept (row := some p) ⟨rfl, rfl, rfl, by simp [World.setCell], fun k _ hk => Below.heap_setCell _ _ _ _ (fun e => hk (by rw [e]))⟩ (.inr fun e => hne e.symm)
theorem queue_put {w w1 : World} {p : Nat} {v v1 : Value} {q q1 : List Nat} (h : QueueAt w p v q) (ho : w1.ownsRow (p - 1) 3 1 v1 q1.length (nums q1)) (hn1 : some p ≠ v1.ownBlock) (hg : w.grownBy w1 v.ownBlock) : QueueAt (w1.setCell ⟨p, 0, none⟩ v1) p v1 q1 ∧ Keeps w (w1.setCell ⟨p, 0, none⟩ v1) p v.ownBlock := by
  have hne : some p ≠ v.ownBlock := h.2.2
  refine ⟨⟨((row_grown h.1 hg hne).set 0 v1).congr fun i hi => ?_, own_set_other ho hn1 _ _, hn1⟩, (Keeps.of_grown hg p).setCell 0 v1⟩
  have : i = 0 := by omega
  subst this; simp
theorem own_take {w : World} {base : Nat} {e : TypeId} {g n cap m : Nat} {q : List Nat} (h : w.ownsRow base e 1 (.slice (some ⟨g, 0, none⟩) n cap) n (nums q)) (hm : m ≤ n) : w.ownsRow base e 1 (.slice (some ⟨g, 0, none⟩) m cap) m (nums (q.take m)) := by
  have hl : q.length = n := by have := h.1; simpa [nums] using this
  rcases h.2 with ⟨h1, _⟩ | ⟨g', cap', cur, hv, hb, hh, hc, hm', hs, ht⟩
  · cases h1
  · cases hv
    refine ⟨by simp [nums]; omega, .inr ⟨g, cap, cur, rfl, hb, hh, by omega, hm', hs, ?_⟩⟩
    have : cur.toList.take (m * 1) = (cur.toList.take (n * 1)).take m := by rw [List.take_take]; congr 1; omega
    rw [this, ht]
    simp [nums, List.map_take]

theorem assert_int (x : Int) (w : World) : (Instr.typeAssert (.iface 3 (.int .i64 x)) 20 3 false).run Try.prog w = .ok (.int .i64 x) w := by kernel_rfl

set_option maxHeartbeats 1000000 in
theorem qpush_any (p : Nat) (v : Value) (q : List Nat) (x : Nat) (w : World) (hQ : QueueAt w p v q) (hq : q.length < 1000000) :
    Calls Try.prog 91 #[.pointer (some ⟨p, 0, none⟩), .iface 3 (.int .i64 (x : Int))] w fun e w' => e = .returned (.tuple #[]) ∧ ∃ v', QueueAt w' p v' (q ++ [x]) ∧ Moved w v v' ∧ Keeps w w' p v.ownBlock := by
  have hc := hQ.1.cell (i := 0) (by omega)
  have hf := hQ.1.frozen 0
  have hlt := hQ.1.lt
  have hown := hQ.2.1
  have hsz : p - 1 ≤ w.heap.size := by omega
  have hne : some p ≠ v.ownBlock := hQ.2.2
  have KC := Lib.hid (fun (w3 : World) (hg : w.grownBy w3 v.ownBlock) => (row_grown hQ.1 hg hne).cell (i := 0) (by omega))
  have KF := Lib.hid (fun (w3 : World) (hg : w.grownBy w3 v.ownBlock) => (row_grown hQ.1 hg hne).frozen 0)
  have PUT := Lib.hid (fun (w3 : World) (v1 : Value) ho hn1 hg => queue_put (w1 := w3) (v1 := v1) (q1 := q ++ [x]) hQ ho hn1 hg)
  have HNE := Lib.hid hne
  clear hQ hne
  obtain ⟨va, vn, vc, rfl⟩ := own_shape hown
  have hta := assert_int (x : Int)
  go_enter Try.func91, Try.ntmps91
  go_wp2
  go_region_law
    ((refine step_append_at _ (by rfl) _ _ _ (by rfl) (p - 1) 3 _ 8 Try.underlying65 infoNum (by rfl) _ _ _ (by rfl) hown _ (by rfl) w.heap.size (by simp) (by rfl) (by omega) (by omega) hsz ?_; intro g3 c3 w3 hown3 hg3 hloc3; have hcz := KC.out _ hg3; have hfz := KF.out _ hg3))
  all_goals
    rw [nums_append] at hown3
    have P := PUT.out w3 (.slice (some ⟨g3, 0, none⟩) (q.length + 1) c3) (by simpa using hown3) (fun e => by
      rcases hloc3 with h | h
      · exact HNE.out (e.trans h)
      · have := h p e.symm; omega) hg3
    have M : Moved w (.slice va vn vc) (.slice (some ⟨g3, 0, none⟩) (q.length + 1) c3) := hloc3
    have P' := Lib.hid P
    have M' := Lib.hid M
    clear P M hown3 hg3 hloc3 hcz hfz
    go_end0
    exact ⟨rfl, _, P'.out.1, M'.out, P'.out.2⟩

set_option maxHeartbeats 1000000 in
theorem qpop_any (p : Nat) (v : Value) (q : List Nat) (x : Nat) (w : World) (hQ : QueueAt w p v (q ++ [x])) (hq : q.length < 1000000) :
    Calls Try.prog 90 #[.pointer (some ⟨p, 0, none⟩)] w fun e w' => e = .returned (.iface 3 (.int .i64 (x : Int))) ∧ ∃ v', QueueAt w' p v' q ∧ v'.ownBlock = v.ownBlock ∧ Keeps w w' p v.ownBlock := by
  have hc := hQ.1.cell (i := 0) (by omega)
  have hf := hQ.1.frozen 0
  have hown := hQ.2.1
  rcases hown.2 with ⟨_, h0⟩ | ⟨g, cap, cur, hv, hb, hh, hcc, hm, hs, ht⟩
  · simp at h0
  subst hv
  clear hh hb hs ht
  have hx := hown.cellAt q.length (by simp)
  rw [nums_at (by simp)] at hx
  have e1 : at0 (q ++ [x]) q.length = x := by simp [at0]
  rw [e1] at hx
  have hle : (q ++ [x]).length = q.length + 1 := by simp
  have hcc' : q.length + 1 ≤ cap := by simpa using hcc
  have ho := own_take (m := q.length) hown (by omega)
  rw [List.take_left] at ho
  rw [hle] at hown hQ ⊢
  have hl1 : ((q.length : Int) + 1) ≤ 1000000 := by omega
  have hcap : ((q.length : Int) + 1) ≤ (cap : Int) := by omega
  have P := Lib.hid (queue_put (v1 := .slice (some ⟨g, 0, none⟩) q.length cap) (q1 := q) hQ ho hQ.2.2 (World.grownBy.refl _ _))
  clear hQ hown ho e1 hle hcc hcc'
  go_enter Try.func90, Try.ntmps90
  go_wp2
  go_ret
  exact ⟨rfl, _, P.out.1, rfl, P.out.2⟩
end Go.Proofs.Ytaiddgndjiaoaaa
