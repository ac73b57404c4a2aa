/- Two trees are the same: mathematics. -/
import Derived.Test.YtkliclihpobmiaaGreatDoorMgPsRCnt
namespace Go.Proofs.YtkliclihpobmiaaGreatDoor
open Go Go.RowKit
set_option linter.unusedVariables false

def sameL (a b : Lab) : Bool := decide (a.kind = b.kind) && (decide (a.name = b.name) && (decide (a.num = b.num) && (decide (a.wd = b.wd) && (decide (a.sg = b.sg) && (decide (a.op = b.op) && (decide (a.fac = b.fac) && (decide (a.pip = b.pip) && decide (a.unr = b.unr))))))))
mutual
def sameT : Tree → Tree → Bool
 | .node a ks, .node b us => sameL a b && sameTs ks us
def sameTs : List Tree → List Tree → Bool
 | [], [] => true
 | t :: r, u :: s => sameT t u && sameTs r s
 | _, _ => false
end
mutual
def lineT : Tree → Tree → Bool
 | .node a ks, .node b us => decide (a.line = b.line) && lineTs ks us
def lineTs : List Tree → List Tree → Bool
 | [], [] => true
 | t :: r, u :: s => lineT t u && lineTs r s
 | _, _ => false
end
theorem sameL_iff {a b : Lab} : sameL a b = true ↔ a.kind = b.kind ∧ a.name = b.name ∧ a.num = b.num ∧ a.wd = b.wd ∧ a.sg = b.sg ∧ a.op = b.op ∧ a.fac = b.fac ∧ a.pip = b.pip ∧ a.unr = b.unr := by
 simp [sameL]
theorem sameL_refl (a : Lab) : sameL a a = true := sameL_iff.2 ⟨rfl, rfl, rfl, rfl, rfl, rfl, rfl, rfl, rfl⟩
theorem all_pair {f : Tree → Tree → Bool} {g : List Tree → List Tree → Bool} (h0 : g [] [] = true) (h1 : ∀ t r u s, g (t :: r) (u :: s) = (f t u && g r s)) (h2 : ∀ t r, g (t :: r) [] = false) (h3 : ∀ t r, g [] (t :: r) = false) :
  ∀ (ks us : List Tree), g ks us = true ↔ ks.length = us.length ∧ ∀ i, i < ks.length → f (kat ks i) (kat us i) = true
 | [], [] => by simp [h0]
 | t :: r, [] => by simp [h2]
 | [], u :: s => by simp [h3]
 | t :: r, u :: s => by
  rw [h1, Bool.and_eq_true, all_pair h0 h1 h2 h3 r s]
  constructor
  ·rintro ⟨h, hl, hr⟩
   refine ⟨by simp [hl], fun i hi => ?_⟩
   cases i with
   | zero => exact h
   | succ i => exact hr i (by simpa using hi)
  ·rintro ⟨hl, hr⟩
   exact ⟨hr 0 (by simp), by simpa using hl, fun i hi => hr (i + 1) (by simpa using hi)⟩
theorem sameTs_iff (ks us : List Tree) : sameTs ks us = true ↔ ks.length = us.length ∧ ∀ i, i < ks.length → sameT (kat ks i) (kat us i) = true :=
 all_pair (by rw [sameTs]) (fun _ _ _ _ => by rw [sameTs]) (fun _ _ => by rw [sameTs]; all_goals (intros; simp_all)) (fun _ _ => by rw [sameTs]; all_goals (intros; simp_all)) ks us
theorem lineTs_iff (ks us : List Tree) : lineTs ks us = true ↔ ks.length = us.length ∧ ∀ i, i < ks.length → lineT (kat ks i) (kat us i) = true :=
 all_pair (by rw [lineTs]) (fun _ _ _ _ => by rw [lineTs]) (fun _ _ => by rw [lineTs]; all_goals (intros; simp_all)) (fun _ _ => by rw [lineTs]; all_goals (intros; simp_all)) ks us
theorem sameT_lab {a b : Lab} {ks us : List Tree} (h : sameL a b = false) : sameT (.node a ks) (.node b us) = false := by rw [sameT, h]; rfl
theorem sameT_len {a b : Lab} {ks us : List Tree} (h : ks.length ≠ us.length) : sameT (.node a ks) (.node b us) = false := by
 rw [sameT]
 have : sameTs ks us = false := Bool.eq_false_iff.2 fun k => h ((sameTs_iff ks us).1 k).1
 rw [this, Bool.and_false]
theorem sameT_kid {a b : Lab} {ks us : List Tree} {i : Nat} (hi : i < ks.length) (h : sameT (kat ks i) (kat us i) = false) : sameT (.node a ks) (.node b us) = false := by
 rw [sameT]
 have : sameTs ks us = false := Bool.eq_false_iff.2 fun k => by rw [((sameTs_iff ks us).1 k).2 i hi] at h; cases h
 rw [this, Bool.and_false]
theorem sameT_all {a b : Lab} {ks us : List Tree} (hl : sameL a b = true) (h : ks.length = us.length) (hk : ∀ i, i < ks.length → sameT (kat ks i) (kat us i) = true) : sameT (.node a ks) (.node b us) = true := by
 rw [sameT, hl, (sameTs_iff ks us).2 ⟨h, hk⟩]; rfl
theorem lineT_lab {a b : Lab} {ks us : List Tree} (h : a.line ≠ b.line) : lineT (.node a ks) (.node b us) = false := by rw [lineT, decide_eq_false h]; rfl
theorem lineT_len {a b : Lab} {ks us : List Tree} (h : ks.length ≠ us.length) : lineT (.node a ks) (.node b us) = false := by
 rw [lineT]
 have : lineTs ks us = false := Bool.eq_false_iff.2 fun k => h ((lineTs_iff ks us).1 k).1
 rw [this, Bool.and_false]
theorem lineT_kid {a b : Lab} {ks us : List Tree} {i : Nat} (hi : i < ks.length) (h : lineT (kat ks i) (kat us i) = false) : lineT (.node a ks) (.node b us) = false := by
 rw [lineT]
 have : lineTs ks us = false := Bool.eq_false_iff.2 fun k => by rw [((lineTs_iff ks us).1 k).2 i hi] at h; cases h
 rw [this, Bool.and_false]
theorem lineT_all {a b : Lab} {ks us : List Tree} (hl : a.line = b.line) (h : ks.length = us.length) (hk : ∀ i, i < ks.length → lineT (kat ks i) (kat us i) = true) : lineT (.node a ks) (.node b us) = true := by
 rw [lineT, (lineTs_iff ks us).2 ⟨h, hk⟩, decide_eq_true hl]; rfl
theorem lab_of {l m : Lab} {v u : Value} (h : lcells l v = lcells m u) : l = m ∧ v = u := by
 obtain ⟨a0, a1, a2, a3, a4, a5, a6, a7, a8, a9⟩ := l
 obtain ⟨b0, b1, b2, b3, b4, b5, b6, b7, b8, b9⟩ := m
 unfold lcells at h
 simp only [List.cons.injEq, Value.int.injEq, Value.string.injEq, Value.bool.injEq, true_and, and_true] at h
 obtain ⟨h0, h1, h2, h3, h4, h5, h6, h7, h8, h9, h10⟩ := h
 rw [h0, str_inj h1, h2, h3, h4, h5, h6, h7, h8, h9]
 exact ⟨rfl, h10⟩
structure PairSt (f : Tree → Tree → Bool) (W wr : World) (ks us : List Tree) (j : Nat) : Prop where
 all : ∀ i, i < j → f (kat ks i) (kat us i) = true
 bel : Below W.heap.size W wr
end Go.Proofs.YtkliclihpobmiaaGreatDoor
