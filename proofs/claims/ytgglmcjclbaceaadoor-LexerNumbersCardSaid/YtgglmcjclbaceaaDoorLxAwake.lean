/- Tokens in memory; the example that each law begins with. -/
import Derived.Test.YtgglmcjclbaceaaDoorLxVars
namespace Go.Proofs.YtgglmcjclbaceaaDoor
open Go Go.RowKit
set_option linter.unusedVariables false

def tat (ts : List Tok) (i : Nat) : Tok := ts.getD i ⟨0, [], 0, 0, 0⟩
theorem tat_get {ts : List Tok} {i : Nat} (h : i < ts.length) : tat ts i = ts[i] := by simp [tat, List.getD, h]
/-- The tokens lie in block g. -/
def TkIn (w : World) (g : Nat) (ts : List Tok) : Prop := g < w.heap.size ∧ ∀ i, i < ts.length →
  w.cell? ⟨g, i * 5, none⟩ = some (.int .i64 ((tat ts i).kind : Int)) ∧ w.cell? ⟨g, i * 5 + 1, none⟩ = some (.string (str (tat ts i).text)) ∧ w.cell? ⟨g, i * 5 + 2, none⟩ = some (.int .u64 ((tat ts i).num : Int)) ∧
  w.cell? ⟨g, i * 5 + 3, none⟩ = some (.int .i64 ((tat ts i).pos : Int)) ∧ w.cell? ⟨g, i * 5 + 4, none⟩ = some (.int .i64 ((tat ts i).line : Int))
theorem toks_own {w : World} {base : Nat} {e : TypeId} {v : Value} {ts : List Tok} (h : w.ownsRow base e 5 v ts.length (tcells ts)) : (ts = [] ∧ v = .slice none 0 0) ∨ ∃ g c, v = .slice (some ⟨g, 0, none⟩) ts.length c ∧ base ≤ g ∧ TkIn w g ts := by
  rcases h.2 with ⟨hv, h0⟩ | ⟨g, cap, cur, hv, hb, hh, r⟩
  · exact .inl ⟨List.eq_nil_of_length_eq_zero h0, hv⟩
  · refine .inr ⟨g, cap, hv, hb, (Array.getElem?_eq_some_iff.1 hh).1, fun i hi => ?_⟩
    have hl := tcells_length ts
    subst hv
    have c : ∀ j, j < 5 → w.cell? ⟨g, i * 5 + j, none⟩ = (tcell ts[i])[j]? := fun j hj => by
      rw [← tcells_get ts i j hi hj]
      exact h.cellAt (i * 5 + j) (by omega)
    rw [tat_get hi]
    exact ⟨c 0 (by omega), c 1 (by omega), c 2 (by omega), c 3 (by omega), c 4 (by omega)⟩
theorem TkIn.below {w w' : World} {g B : Nat} {ts : List Tok} (h : TkIn w g ts) (hb : Below B w w') (hg : g < B) : TkIn w' g ts := by
  refine ⟨Nat.lt_of_lt_of_le h.1 hb.size, fun i hi => ?_⟩
  have := h.2 i hi
  rw [hb.cell (p := ⟨g, i * 5, none⟩) hg, hb.cell (p := ⟨g, i * 5 + 1, none⟩) hg, hb.cell (p := ⟨g, i * 5 + 2, none⟩) hg, hb.cell (p := ⟨g, i * 5 + 3, none⟩) hg, hb.cell (p := ⟨g, i * 5 + 4, none⟩) hg]
  exact this

theorem lex_awake : lexAll [97, 60, 60] = ([⟨1, [97], 0, 0, 1⟩, ⟨4, [60, 60], 0, 1, 1⟩], 3, 0) := by decide +kernel

set_option maxHeartbeats 1000000 in
set_option maxRecDepth 100000 in
theorem awake_any (w : World) (V : Vs w) : Calls Tryd.prog 11 #[] w fun e w' => e = .returned (.bool true) ∧ Below w.heap.size w w' := by
  have H := Lib.hid (lex_any [97, 60, 60] (by decide) w V)
  rw [lex_awake] at H
  clear V
  go_enter Tryd.func11, Tryd.ntmps11
  go_wp2_with fail
  refine H.out.mono ?_
  rintro e w1 ⟨v, rfl, hown, hb⟩
  rcases toks_own hown with ⟨h, _⟩ | ⟨g, c, rfl, hg, hT⟩
  · cases h
  · have h1 := hT.2 1 (by decide)
    have c1 : w1.cell? ⟨g, 6, none⟩ = some (.string (str [60, 60])) := h1.2.1
    have q : ((str [60, 60]).toList == [60, 60]) = true := by rw [str_toList]; rfl
    clear hown hT h1 H
    go_wp2
    go_ret
    exact ⟨by simp, hb⟩
end Go.Proofs.YtgglmcjclbaceaaDoor
