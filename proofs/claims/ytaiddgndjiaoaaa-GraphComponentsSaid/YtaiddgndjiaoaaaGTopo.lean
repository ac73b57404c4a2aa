/- Package graph's Topo, and the fixed example of the statements: contracts. -/
import Derived.Test.YtaiddgndjiaoaaaGSort2
import Derived.Test.YtaiddgndjiaoaaaGNext
namespace Go.Proofs.Ytaiddgndjiaoaaa
open Go.RowKit
set_option linter.unusedVariables false

set_option maxHeartbeats 1000000 in
theorem Topo_any (N : Int) (x : Option Addr) (len cap : Nat) (ls : List (Int × Int)) (w : World) (hL : LinksAt w x len ls) (hlen : len ≤ 1000000) :
    Calls Try.prog 15 #[gr N x len cap] w fun e w' => TopoRes (edge ls (nd N)) (nd N) w.heap.size w e w' := by
  have hb := (Below.refl w.heap.size w).alloc (Nat.le_refl _) (.cells #[.int .i64 N, .slice x len cap] 24)
  have hL1 := links_below hL hb (Nat.le_refl _)
  clear hL
  go_enter Try.func15, Try.ntmps15
  go_wp2_with fail
  refine (Next_any N x len cap ls _ hL1 hlen).mono ?_
  rintro e w1 ⟨v, rfl, hadj, hb1⟩
  obtain ⟨B, rfl, hB, hA⟩ := adjAt_of hadj
  have hs1 := hb1.size
  clear hadj
  go_wp2_with fail
  refine (sorted_any (edge ls (nd N)) (nd N) B _ hA (nd_le N)).mono ?_
  rintro e w2 ⟨v, rfl, hown, hb2⟩
  have hsz : w.heap.size ≤ w1.heap.size := by simp at hs1; omega
  have hbel := hb.trans ((hb1.mono (by simp)).trans (hb2.mono hsz))
  go_wp2
  go_ret2
  exact ⟨v, rfl, own_mono hown hsz, hbel⟩

/-- The fixed example's links. -/
theorem awake_topo : topo (edge [(1, 0)] 2) 2 = some [1, 0] := by decide +kernel
set_option maxHeartbeats 1000000 in
theorem awake_any (w : World) : Calls Try.prog 9 #[] w fun e w' => e = .returned (.bool true) ∧ Below w.heap.size w w' := by
  have hb := (Below.refl w.heap.size w).alloc (Nat.le_refl _) (.cells #[.int .i64 1, .int .i64 0] 33)
  have hL : LinksAt (w.alloc (.cells #[.int .i64 1, .int .i64 0] 33)) (some ⟨w.heap.size, 0, none⟩) 1 [(1, 0)] := by
    refine ⟨rfl, .inr ⟨w.heap.size, 0, rfl, by simp, fun i hi => ?_⟩⟩
    obtain rfl : i = 0 := by omega
    refine ⟨1, 0, rfl, ?_, ?_, by omega, by omega, by omega, by omega⟩
    · simp only [World.cell?, heap_alloc_new]; rfl
    · simp only [World.cell?, heap_alloc_new]; rfl
  have HN : nd 2 = 2 := rfl
  go_enter Try.func9, Try.ntmps9
  go_wp2_with fail
  refine (Topo_any 2 _ 1 1 [(1, 0)] _ hL (by omega)).mono ?_
  rintro e w2 ⟨v, rfl, hown, hb2⟩
  rw [HN, awake_topo] at hown
  rw [HN, awake_topo]
  simp only [Option.getD_some] at hown
  rcases hown.2 with ⟨_, h0⟩ | ⟨g, cap, cur, hv, hg, hh, hc, _⟩
  · simp at h0
  · subst hv
    have hbel := hb.trans (hb2.mono (by simp))
    have hc0 := hown.cellAt 0 (by simp)
    rw [nums_at (by simp)] at hc0
    have e0 : at0 [1, 0] 0 = 1 := rfl
    rw [e0] at hc0
    clear hh hown hL hb2
    simp only [List.length_cons, List.length_nil, Option.isSome_some] at *
    go_wp2
    go_ret
    exact ⟨rfl, hbel⟩
end Go.Proofs.Ytaiddgndjiaoaaa
