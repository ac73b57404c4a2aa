/- The library's slices.Min over a list of nodes, wherever it begins: contract. -/
import Derived.Test.YtaiddgndjiaoaaaCompMath
import Derived.Test.YtaiddgndjiaoaaaCyMath
namespace Go.Proofs.Ytaiddgndjiaoaaa
open Go.RowKit
set_option linter.unusedVariables false

/-- m is the least of the first k numbers of l. -/
def LeastTo (l : List Nat) (k m : Nat) : Prop := (∃ i, i < k ∧ at0 l i = m) ∧ ∀ i, i < k → m ≤ at0 l i

set_option maxHeartbeats 1000000 in
theorem min_any (g j c : Nat) (l : List Nat) (w : World) (hpos : 0 < l.length) (hl : l.length ≤ 1000000) (hb : ∀ i, i < l.length → at0 l i ≤ 1000000) (hc : ∀ i, i < l.length → w.cell? ⟨g, j + i, none⟩ = some (.int .i64 (at0 l i : Nat))) :
    Calls Try.prog 36 #[.slice (some ⟨g, j, none⟩) l.length c] w fun e w' => ∃ m : Nat, e = .returned (.int .i64 (m : Int)) ∧ LeastTo l l.length m ∧ ∃ q, w' = w.drewN q := by
  have c0 := hc 0 hpos
  rw [Nat.add_zero] at c0
  have HC := Lib.hid hc
  have HB := Lib.hid hb
  clear hc hb
  generalize hn : l.length = n at *
  clear hn
  have hst : Hid (LeastTo l 1 (at0 l 0)) := by
    refine Lib.hid ⟨⟨0, by omega, rfl⟩, fun i hi => ?_⟩
    have : i = 0 := by omega
    subst this
    exact Nat.le_refl _
  have q0 : ¬ ((n : Int) < 1) := by omega
  have q1 : decide ((n : Int) < 1) = false := by simp; omega
  have z0 : (0 : Int) < (n : Int) := by omega
  go_enter Try.func36, Try.ntmps36
  go_wp2
  go_loopw [3, 4] (fun mm i wr => ∃ (m k q : Nat), 1 ≤ k ∧ k ≤ n ∧ mm = .int .i64 (m : Int) ∧ i = .int .i64 (k : Int) ∧ Hid (LeastTo l k m) ∧ Hid (wr = w.drewN q)) (fun _ i _ => n - (intOf i).toNat)
  case atStart => exact ⟨at0 l 0, 1, 0, by omega, by omega, rfl, rfl, hst, by first | exact Lib.hid rfl | exact Lib.hid trivial⟩
  case round =>
    obtain ⟨m, k, q, hk1, hkn, rfl, rfl, hm, hw⟩ := hrel
    have hwr := hw.out
    subst hwr
    clear hw
    by_cases hk : k < n
    · have e1 := HC.out k hk
      have hk0 : (0 : Int) ≤ (k : Int) := by omega
      have hk2 : (k : Int) < (n : Int) := by omega
      have hnew : Hid (LeastTo l (k + 1) (min m (at0 l k))) := by
        obtain ⟨⟨i, hi, h1⟩, h2⟩ := hm.out
        refine Lib.hid ⟨?_, fun y hy => ?_⟩
        · by_cases h : at0 l k < m
          · exact ⟨k, by omega, by omega⟩
          · exact ⟨i, by omega, by omega⟩
        · by_cases e : y = k
          · subst e; omega
          · have := h2 y (by omega); omega
      generalize at0 l k = z at *
      have hmm : min (m : Int) (z : Int) = ((min m z : Nat) : Int) := by omega
      clear hm
      go_wp2
      refine ⟨⟨min m z, k + 1, q, by omega, by omega, rfl, by go_num, hnew, by first | exact Lib.hid rfl | exact Lib.hid trivial⟩, ?_⟩
      simp [intOf]; omega
    · obtain rfl : n = k := by omega
      go_wp2
      go_ret
      exact ⟨m, rfl, hm.out, q, rfl⟩
end Go.Proofs.Ytaiddgndjiaoaaa
