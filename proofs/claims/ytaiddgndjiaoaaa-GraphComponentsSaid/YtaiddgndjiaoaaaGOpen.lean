/- A graph that comes in as an argument, opened to its number of nodes and its links. -/
import Derived.Test.YtaiddgndjiaoaaaGNext
import Derived.Lib.SmallJoins
import Derived.Deep.SlicePairs
namespace Go.Proofs.Ytaiddgndjiaoaaa
open Go.ChangeShapes Go.WideShapes Go.ChangeAt Go.RowKit Go.Joins Go.Deep
set_option linter.unusedVariables false

theorem cell_lt {w : World} {a : Addr} {v : Value} (h : w.cell? a = some v) : a.block < w.heap.size := by
  unfold World.cell? at h
  rcases hb : w.heap[a.block]? with _ | o
  · rw [hb] at h; simp at h
  · exact (Array.getElem?_eq_some_iff.1 hb).1

set_option maxRecDepth 100000 in
theorem open_graph {H : Type} {enc : TypeId × Value → H} {w : World} {base : Nat} {spare : Nat → Bool} {held : Bool} {r : Reach} {b0 : Nat} {v : Value} {d : DataW H} {p : List MemPlace}
    (hv : Value.okWide Try.prog w r b0 24 v) (h : DataW.Trod enc Try.prog w base spare held 24 v d p) :
    ∃ (N : Int) (x : Option Addr) (len cap : Nat) (ls : List (Int × Int)), v = gr N x len cap ∧ (-9223372036854775808 ≤ N ∧ N ≤ 9223372036854775807) ∧ len ≤ 9223372036854775807 ∧ LinksAt w x len ls := by
  obtain ⟨v0, v1, y0, y1, n, rfl, _, _, h0, h1⟩ := open_agg2 Try.underlying24 (by kernel_rfl) (by kernel_rfl) hv h
  obtain ⟨N, e0, _, wN⟩ := DataW.trod_int Try.underlying3 h0
  simp at e0
  subst e0
  have bN := bounds_i64 wN
  rcases open_slice_pairs Try.underlying22 Try.underlying33 (by kernel_rfl) rfl rfl (by kernel_rfl) (by kernel_rfl) h1 with ⟨e1, _⟩ | ⟨a, len, cap, m, k, V0, V1, D0, D1, P0, P1, e1, _, hl, hm, hmm, _, hc⟩
  · simp at e1
    subst e1
    exact ⟨N, none, 0, 0, [], rfl, bN, by omega, rfl, .inl rfl⟩
  · simp at e1
    subst e1
    have hlm : len ≤ m := by rw [hmm]; split <;> omega
    have each : ∀ i, i < len → ∃ q : Int × Int, w.cell? (a.add (i * 2)) = some (.int .i64 q.1) ∧ w.cell? (a.add (i * 2 + 1)) = some (.int .i64 q.2) ∧ -9223372036854775808 ≤ q.1 ∧ q.1 ≤ 9223372036854775807 ∧ -9223372036854775808 ≤ q.2 ∧ q.2 ≤ 9223372036854775807 := by
      intro i hi
      obtain ⟨c0, c1, t0, t1⟩ := hc i (by omega)
      obtain ⟨f, f0, _, wf⟩ := DataW.trod_int Try.underlying3 t0
      obtain ⟨t, g0, _, wt⟩ := DataW.trod_int Try.underlying3 t1
      simp at f0 g0
      have b1 := bounds_i64 wf
      have b2 := bounds_i64 wt
      exact ⟨(f, t), by rw [c0, f0], by rw [c1, g0], b1.1, b1.2, b2.1, b2.2⟩
    obtain ⟨q, hq⟩ := choose_lt each
    unfold maxLen at hm
    refine ⟨N, some a, len, cap, (List.range len).map q, rfl, bN, by omega, by simp, ?_⟩
    by_cases h0 : len = 0
    · exact .inl h0
    · right
      have hc0 := (hq 0 (by omega)).1
      obtain ⟨b, o, s⟩ := a
      have hs : s = none := by simpa [Addr.add] using World.cell?_spot hc0
      subst hs
      refine ⟨b, o, rfl, ?_, fun i hi => ?_⟩
      · have := cell_lt hc0
        simpa [Addr.add] using this
      · obtain ⟨g0, g1, g2⟩ := hq i hi
        rw [Go.WideShapes.add_plain] at g0 g1
        exact ⟨(q i).1, (q i).2, by simp [hi], g0, by rw [Nat.add_assoc]; exact g1, g2⟩
end Go.Proofs.Ytaiddgndjiaoaaa
