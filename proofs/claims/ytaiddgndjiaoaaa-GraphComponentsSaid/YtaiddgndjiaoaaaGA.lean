/- The number of nodes, and the tests on it: contracts. -/
import Derived.Test.YtaiddgndjiaoaaaLawKit
import Derived.Test.YtaiddgndjiaoaaaTabKit
import Derived.Test.YtaiddgndjiaoaaaGMath
import Derived.BigQuiet
import Derived.Deep.QuietTactic
namespace Go.Proofs.Ytaiddgndjiaoaaa
open Go.RowKit

theorem bcell {W w1 : World} {B : Nat} (hb : Below B W w1) : (∀ b o, b < B → w1.cell? ⟨b, o, none⟩ = W.cell? ⟨b, o, none⟩) ∧ (∀ b o, b < B → w1.frozen? ⟨b, o, none⟩ = W.frozen? ⟨b, o, none⟩) :=
  ⟨fun b o h => hb.cell (p := ⟨b, o, none⟩) h, fun b o h => hb.frozen (p := ⟨b, o, none⟩) h⟩

/-- A box of two cells, made first, reads as it did. -/
theorem boxed2 {w w1 : World} {a b : Value} {t : TypeId} (hb : Below (w.alloc (.cells #[a, b] t)).heap.size (w.alloc (.cells #[a, b] t)) w1) :
    w1.cell? ⟨w.heap.size, 0, none⟩ = some a ∧ w1.cell? ⟨w.heap.size, 1, none⟩ = some b ∧ w.heap.size < w1.heap.size := by
  have hs := hb.size
  have h1 : (w.alloc (.cells #[a, b] t)).heap.size = w.heap.size + 1 := by simp
  rw [h1] at hs
  refine ⟨?_, ?_, by omega⟩
  · rw [hb.cell (by rw [h1]; show w.heap.size < _; omega)]; simp only [World.cell?, heap_alloc_new]; rfl
  · rw [hb.cell (by rw [h1]; show w.heap.size < _; omega)]; simp only [World.cell?, heap_alloc_new]; rfl

theorem infoRow : (Try.prog.info? 31).map (fun i => (i.zero, i.size, i.bytes)) = some (some (.slice none 0 0), 1, 24) := by kernel_rfl
theorem infoNum : (Try.prog.info? 3).map (fun i => (i.zero, i.size, i.bytes)) = some (some (.int .i64 0), 1, 8) := by kernel_rfl

/-- The number of nodes. -/
def nd (N : Int) : Nat := (max 0 (min N 20000)).toNat
theorem nd_le (N : Int) : nd N ≤ 20000 := by unfold nd; omega
/-- A graph's value: a number and a slice of links. -/
abbrev gr (N : Int) (x : Option Addr) (len cap : Nat) : Value := .agg #[.int .i64 N, .slice x len cap]

theorem nodes_any (N : Int) (x : Option Addr) (len cap : Nat) (w : World) :
    Calls Try.prog 26 #[gr N x len cap] w fun e w' => e = .returned (.int .i64 (nd N : Nat)) ∧ Below w.heap.size w w' := by
  have hb := (Below.refl w.heap.size w).alloc (Nat.le_refl _) (.cells #[.int .i64 N, .slice x len cap] 24)
  have h1 : ((nd N : Nat) : Int) = max 0 (min N 20000) := by unfold nd; omega
  rw [h1]
  clear h1
  go_enter Try.func26, Try.ntmps26
  go_wp2
  all_goals
    go_ret
    exact ⟨r_int (by omega), hb⟩
theorem isNode_any (n v : Int) (w : World) :
    Calls Try.prog 27 #[.int .i64 n, .int .i64 v] w fun e w' => e = .returned (.bool (decide (0 ≤ v) && decide (v < n))) ∧ w = w' := by
  by_cases h0 : 0 ≤ v
  · have q0 : decide (0 ≤ v) = true := decide_eq_true h0
    go_enter Try.func27, Try.ntmps27
    go_wp2
    go_ret
    exact ⟨r_bool (by simp [q0]), rfl⟩
  · have q0 : decide (0 ≤ v) = false := decide_eq_false h0
    go_enter Try.func27, Try.ntmps27
    go_wp2
    go_ret
    exact ⟨r_bool (by simp), rfl⟩

theorem rNodes_any (N : Int) (x : Option Addr) (len cap : Nat) (w : World) :
    Calls Try.prog 34 #[gr N x len cap] w fun e w' => e = .returned (.int .i64 (nd N : Nat)) ∧ Below w.heap.size w w' := by
  have hb := (Below.refl w.heap.size w).alloc (Nat.le_refl _) (.cells #[.int .i64 N, .slice x len cap] 24)
  have h1 : ((nd N : Nat) : Int) = max 0 (min N 20000) := by unfold nd; omega
  rw [h1]
  clear h1
  go_enter Try.func34, Try.ntmps34
  go_wp2
  all_goals
    go_ret
    exact ⟨r_int (by omega), hb⟩
theorem rFew_any (N n m : Int) (x : Option Addr) (len cap : Nat) (_hl : len ≤ 9223372036854775807) (w : World) :
    Calls Try.prog 25 #[gr N x len cap, .int .i64 n, .int .i64 m] w fun e w' => e = .returned (.bool (decide ((nd N : Int) ≤ n) && decide ((len : Int) ≤ m))) ∧ Below w.heap.size w w' := by
  have hb := (Below.refl w.heap.size w).alloc (Nat.le_refl _) (.cells #[.int .i64 N, .slice x len cap] 24)
  have hn := nd_le N
  by_cases h0 : (nd N : Int) ≤ n
  · have q0 : decide ((nd N : Int) ≤ n) = true := decide_eq_true h0
    go_enter Try.func25, Try.ntmps25
    go_wp2_with (go_at_call 34; refine (rNodes_any _ _ _ _ _).mono ?_; rintro e w1 ⟨rfl, hb1⟩; obtain ⟨hc, hf⟩ := bcell hb1)
    go_ret
    exact ⟨r_bool (by simp [q0]), hb.trans (hb1.mono hb.size)⟩
  · have q0 : decide ((nd N : Int) ≤ n) = false := decide_eq_false h0
    go_enter Try.func25, Try.ntmps25
    go_wp2_with (go_at_call 34; refine (rNodes_any _ _ _ _ _).mono ?_; rintro e w1 ⟨rfl, hb1⟩; obtain ⟨hc, hf⟩ := bcell hb1)
    go_ret
    exact ⟨r_bool (by simp [q0]), hb.trans (hb1.mono hb.size)⟩
/-- Whether a graph is small enough for the statements. -/
def fewB (N : Int) (len : Nat) : Bool := decide (nd N ≤ 24) && decide (len ≤ 100)
theorem fewB_true {N : Int} {len : Nat} (h : nd N ≤ 24 ∧ len ≤ 100) : fewB N len = true := by simp [fewB, h]
theorem fewB_false {N : Int} {len : Nat} (h : ¬ (nd N ≤ 24 ∧ len ≤ 100)) : fewB N len = false := by
  unfold fewB
  rw [Bool.and_eq_false_iff, decide_eq_false_iff_not, decide_eq_false_iff_not]
  omega
theorem few_any (N : Int) (x : Option Addr) (len cap : Nat) (hl : len ≤ 9223372036854775807) (w : World) :
    Calls Try.prog 10 #[gr N x len cap] w fun e w' => e = .returned (.bool (fewB N len)) ∧ Below w.heap.size w w' := by
  have hb := (Below.refl w.heap.size w).alloc (Nat.le_refl _) (.cells #[.int .i64 N, .slice x len cap] 24)
  go_enter Try.func10, Try.ntmps10
  go_wp2_with (go_at_call 25; refine (rFew_any _ _ _ _ _ _ hl _).mono ?_; rintro e w1 ⟨rfl, hb1⟩)
  go_ret
  refine ⟨r_bool ?_, hb.trans (hb1.mono hb.size)⟩
  unfold fewB
  congr 1
  · exact decide_eq_decide.2 (by omega)
  · exact decide_eq_decide.2 (by omega)
end Go.Proofs.Ytaiddgndjiaoaaa
