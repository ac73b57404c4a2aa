/- Syntax trees in memory: a node's cells, its Kids in a block; lists of nodes in the making. Nothing of the program stands here. -/
import Derived.Test.YthdbaligapdbeaaGreatDoorMgPsMath
import Derived.Test.YthdbaligapdbeaaGreatDoorMgSliceKit
import Derived.Deep.AppendLies
namespace Go.Proofs.YthdbaligapdbeaaGreatDoor
open Go Go.RowKit
set_option linter.unusedVariables false

def lcells (l : Lab) (v : Value) : List Value := [.int .i64 l.kind, .string (str l.name), .int .u64 l.num, .int .i64 l.wd, .bool l.sg, .int .i64 l.op, .int .i64 l.fac, .int .i64 l.pip, .int .i64 l.unr, .int .i64 l.line, v]
theorem lcells_length (l : Lab) (v : Value) : (lcells l v).length = 11 := rfl

inductive TreeAt (w : World) : (Nat → Prop) → List Value → Tree → Prop
 | nil (P : Nat → Prop) (l : Lab) : TreeAt w P (lcells l (.slice none 0 0)) (.node l [])
 | mk (P : Nat → Prop) (l : Lab) (a : Addr) (n cap : Nat) (C : Nat → List Value) (ks : List Tree) (hn : n = ks.length) (hc : n ≤ cap) (hm : cap ≤ maxLen) (hP : 0 < n → P a.block)
   (hcell : ∀ i, i < n → ∀ j, j < 11 → w.cell? (a.add (i * 11 + j)) = (C i)[j]?) (hk : ∀ i (h : i < ks.length), TreeAt w P (C i) ks[i]) : TreeAt w P (lcells l (.slice (some a) n cap)) (.node l ks)
theorem TreeAt.length {w : World} {P : Nat → Prop} {cs : List Value} {t : Tree} (h : TreeAt w P cs t) : cs.length = 11 := by
 cases h <;> exact lcells_length _ _
theorem add_block (a : Addr) (k : Nat) : (a.add k).block = a.block := by unfold Addr.add; split <;> rfl
theorem cell_block_lt {w : World} {a : Addr} {v : Value} (h : w.cell? a = some v) : a.block < w.heap.size := by
 unfold World.cell? at h
 rcases hb : w.heap[a.block]? with _ | o
 ·rw [hb] at h; simp at h
 ·exact (Array.getElem?_eq_some_iff.1 hb).1
theorem cell_same {w w' : World} {a : Addr} (h : w'.heap[a.block]? = w.heap[a.block]?) : w'.cell? a = w.cell? a := by
 unfold World.cell?
 rw [h]
theorem TreeAt.first {w : World} {P : Nat → Prop} {cs : List Value} {t : Tree} (h : TreeAt w P cs t) : ∃ v, cs[0]? = some v := by
 have := h.length
 exact ⟨cs[0], List.getElem?_eq_getElem (by omega)⟩
theorem TreeAt.keep {w w' : World} {P Q : Nat → Prop} {cs : List Value} {t : Tree} (h : TreeAt w P cs t) (hs : ∀ g, P g → g < w.heap.size → w'.heap[g]? = w.heap[g]?) (hq : ∀ g, P g → g < w.heap.size → Q g) : TreeAt w' Q cs t := by
 induction h with
 | nil l => exact .nil Q l
 | mk l a n cap C ks hn hc hm hP hcell hk ih =>
  have hlt : 0 < n → a.block < w.heap.size := fun h0 => by
   obtain ⟨v, hv⟩ := (hk 0 (by omega)).first
   have h1 := hcell 0 h0 0 (by omega)
   rw [hv] at h1
   have := cell_block_lt h1
   rwa [add_block] at this
  refine .mk Q l a n cap C ks hn hc hm (fun h0 => hq _ (hP h0) (hlt h0)) (fun i hi j hj => ?_) fun i hi => ih i hi
  rw [← hcell i hi j hj]
  refine cell_same ?_
  rw [add_block]
  exact hs _ (hP (by omega)) (hlt (by omega))
theorem TreeAt.mono {w : World} {P Q : Nat → Prop} {cs : List Value} {t : Tree} (h : TreeAt w P cs t) (hq : ∀ g, P g → g < w.heap.size → Q g) : TreeAt w Q cs t := h.keep (fun _ _ _ => rfl) hq

def flat (C : Nat → List Value) (n : Nat) : List Value := (List.range n).flatMap C
theorem flat_length {C : Nat → List Value} : ∀ n, (∀ i, i < n → (C i).length = 11) → (flat C n).length = n * 11 := by
 intro n
 induction n with
 | zero => intro _; rfl
 | succ n ih =>
  intro h
  unfold flat at ih ⊢
  rw [List.range_succ, List.flatMap_append, List.length_append, ih fun i hi => h i (by omega)]
  simp [h n (by omega)]
  omega
theorem flat_get {C : Nat → List Value} : ∀ n, (∀ i, i < n → (C i).length = 11) → ∀ i j, i < n → j < 11 → (flat C n)[i * 11 + j]? = (C i)[j]? := by
 intro n
 induction n with
 | zero => intro _ i j hi; omega
 | succ n ih =>
  intro h i j hi hj
  have hl := flat_length n fun i hi => h i (by omega)
  have he : flat C (n + 1) = flat C n ++ C n := by unfold flat; rw [List.range_succ, List.flatMap_append]; simp
  rw [he]
  by_cases hin : i < n
  ·rw [List.getElem?_append_left (by omega), ih (fun i hi => h i (by omega)) i j hin hj]
  ·obtain rfl : i = n := by omega
   rw [List.getElem?_append_right (by omega), hl]
   congr 1
   omega
theorem flat_congr {C D : Nat → List Value} {n : Nat} (h : ∀ i, i < n → C i = D i) : flat C n = flat D n := by
 unfold flat
 have : ∀ l : List Nat, (∀ i ∈ l, C i = D i) → l.flatMap C = l.flatMap D := by
  intro l
  induction l with
  | nil => intro _; rfl
  | cons a l ih => intro h; rw [List.flatMap_cons, List.flatMap_cons, h a (by simp), ih fun i hi => h i (by simp [hi])]
 exact this _ fun i hi => h i (List.mem_range.1 hi)
theorem flat_snoc {C : Nat → List Value} {n : Nat} {cs : List Value} : flat C n ++ cs = flat (fun i => if i = n then cs else C i) (n + 1) := by
 have he : flat (fun i => if i = n then cs else C i) (n + 1) = flat (fun i => if i = n then cs else C i) n ++ cs := by
  conv => lhs; unfold flat
  rw [List.range_succ, List.flatMap_append]
  simp [flat]
 rw [he, flat_congr (C := fun i => if i = n then cs else C i) (D := C) fun i hi => by simp; omega]

def Kids (w : World) (base : Nat) (v : Value) (ks : List Tree) : Prop :=
 ∃ C : Nat → List Value, w.ownsRow base 27 11 v ks.length (flat C ks.length) ∧ ∀ i (h : i < ks.length), TreeAt w (fun g => base ≤ g ∧ some g ≠ v.ownBlock) (C i) ks[i]
theorem kids_nil (w : World) (base : Nat) : Kids w base (.slice none 0 0) [] := ⟨fun _ => [], World.ownsRow_nil _ _ _ _, fun i h => by simp at h⟩
theorem Kids.own {w : World} {base : Nat} {v : Value} {ks : List Tree} (h : Kids w base v ks) : ∃ xs, w.ownsRow base 27 11 v ks.length xs := by
 obtain ⟨C, h1, _⟩ := h
 exact ⟨_, h1⟩
theorem Kids.shape {w : World} {base : Nat} {v : Value} {ks : List Tree} (h : Kids w base v ks) : ∃ x c, v = .slice x ks.length c := by
 obtain ⟨C, h1, _⟩ := h
 rcases h1.2 with ⟨hv, h0⟩ | ⟨g, cap, cur, hv, _⟩
 ·exact ⟨none, 0, by rw [hv, h0]⟩
 ·exact ⟨_, _, hv⟩
theorem Kids.tree {w : World} {base : Nat} {v : Value} {ks : List Tree} (h : Kids w base v ks) (l : Lab) : TreeAt w (base ≤ ·) (lcells l v) (.node l ks) := by
 obtain ⟨C, h1, h2⟩ := h
 have hC : ∀ i, i < ks.length → (C i).length = 11 := fun i hi => (h2 i hi).length
 rcases h1.2 with ⟨hv, h0⟩ | ⟨g, cap, cur, hv, hb, hh, hc, hm, _⟩
 ·obtain rfl : ks = [] := List.eq_nil_of_length_eq_zero h0
  subst hv
  exact .nil _ _
 ·subst hv
  refine .mk _ l _ _ _ C ks rfl hc hm (fun _ => hb) (fun i hi j hj => ?_) fun i hi => (h2 i hi).mono fun g hg _ => hg.1
  have ha : (⟨g, 0, none⟩ : Addr).add (i * 11 + j) = ⟨g, i * 11 + j, none⟩ := by unfold Addr.add; split <;> simp_all
  rw [ha, h1.cellAt _ (by omega), flat_get _ hC i j hi hj]
theorem Kids.keep {w w' : World} {base : Nat} {v : Value} {ks : List Tree} (h : Kids w base v ks) (hs : ∀ g, base ≤ g → g < w.heap.size → w'.heap[g]? = w.heap[g]?) : Kids w' base v ks := by
 obtain ⟨C, h1, h2⟩ := h
 refine ⟨C, ⟨h1.1, ?_⟩, fun i hi => (h2 i hi).keep (fun g hg hl => hs g hg.1 hl) fun g hg _ => hg⟩
 rcases h1.2 with hn | ⟨g, cap, cur, hv, hg, hh, r⟩
 ·exact .inl hn
 ·exact .inr ⟨g, cap, cur, hv, hg, by rw [hs g hg (Array.getElem?_eq_some_iff.1 hh).1]; exact hh, r⟩
theorem Kids.base {w : World} {base base' : Nat} {v : Value} {ks : List Tree} (h : Kids w base v ks) (hb : base' ≤ base) : Kids w base' v ks := by
 obtain ⟨C, h1, h2⟩ := h
 exact ⟨C, own_mono h1 hb, fun i hi => (h2 i hi).mono fun g hg _ => ⟨by omega, hg.2⟩⟩
theorem kids_push {w0 w w' : World} {base : Nat} {v : Value} {ks : List Tree} {C : Nat → List Value} {cs : List Value} {t : Tree} {g c : Nat}
  (k1 : w0.ownsRow base 27 11 v ks.length (flat C ks.length)) (k2 : ∀ i (h : i < ks.length), TreeAt w0 (fun g => base ≤ g ∧ some g ≠ v.ownBlock) (C i) ks[i])
  (hb : ∀ g, base ≤ g → g < w0.heap.size → w.heap[g]? = w0.heap[g]?) (hsz : w0.heap.size ≤ w.heap.size) (hbase : base ≤ w0.heap.size) (ht : TreeAt w (w0.heap.size ≤ ·) cs t)
  (hg : w.grownBy w' v.ownBlock) (hl : v.ownBlock = some g ∨ w.heap.size ≤ g)
  (ho : w'.ownsRow base 27 11 (.slice (some ⟨g, 0, none⟩) (ks.length + 1) c) (ks.length + 1) (flat C ks.length ++ cs)) : Kids w' base (.slice (some ⟨g, 0, none⟩) (ks.length + 1) c) (ks ++ [t]) := by
 have hvo : ∀ q, v.ownBlock = some q → q < w0.heap.size := fun q hq => (k1.lt q hq).2
 have hout : ∀ q, q < w.heap.size → some q ≠ v.ownBlock → some q ≠ (Value.slice (some ⟨g, 0, none⟩) (ks.length + 1) c).ownBlock := by
  intro q hq hne
  show some q ≠ some g
  rcases hl with hl | hl
  ·rw [← hl]; exact hne
  ·intro e; injection e with e; omega
 refine ⟨fun i => if i = ks.length then cs else C i, ?_, fun i hi => ?_⟩
 ·rw [flat_snoc] at ho
  simpa using ho
 ·rw [List.length_append] at hi
  by_cases hik : i = ks.length
  ·subst hik
   simp only [if_pos, List.getElem_append_right (Nat.le_refl _)]
   simp only [Nat.sub_self, List.getElem_cons_zero]
   refine ht.keep (fun q hq hlt => hg.block q hlt ?_) fun q hq hlt => ⟨by omega, hout q hlt ?_⟩
   ·intro e; have := hvo q e.symm; omega
   ·intro e; have := hvo q e.symm; omega
  ·have hi' : i < ks.length := by simp at hi; omega
   simp only [if_neg hik, List.getElem_append_left hi']
   refine ((k2 i hi').keep (w' := w) (Q := fun g => (base ≤ g ∧ some g ≠ v.ownBlock) ∧ g < w.heap.size) (fun q hq hlt => hb q hq.1 hlt) fun q hq hlt => ⟨hq, by omega⟩).keep (fun q hq hlt => hg.block q hlt hq.1.2) fun q hq hlt => ⟨hq.1.1, hout q hlt hq.1.2⟩
end Go.Proofs.YthdbaligapdbeaaGreatDoor
