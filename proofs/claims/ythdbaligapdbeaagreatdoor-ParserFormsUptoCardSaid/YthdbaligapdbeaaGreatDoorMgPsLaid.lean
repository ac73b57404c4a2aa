/- What the listed variables give: the library's two errors are errors. -/
import Derived.Test.YthdbaligapdbeaaGreatDoorMgLxLex
import Derived.Stop.LaidErr
import Derived.Test.YthdbaligapdbeaaGreatDoorMgPsPut
import Derived.Deep.Slices
import Derived.Lib.LaidTab
namespace Go.Proofs.YthdbaligapdbeaaGreatDoor
open Go Go.RowKit
set_option linter.unusedVariables false

theorem gSyn : Tryz.prog.globalNamed "strconv.ErrSyntax" = some 12 := by kernel_rfl
theorem gSynT : (Tryz.prog.globals[12]?).map (·.type) = some 148 := by kernel_rfl
theorem gRng : Tryz.prog.globalNamed "strconv.ErrRange" = some 13 := by kernel_rfl
theorem gRngT : (Tryz.prog.globals[13]?).map (·.type) = some 148 := by kernel_rfl
theorem cellsE : Tryz.prog.cellsOf 217 = 1 := by kernel_rfl
theorem cellsS : Tryz.prog.cellsOf 9 = 1 := by kernel_rfl
theorem starE : "*" ++ "errors.errorString" = "*errors.errorString" := by decide
theorem rowE (u : TypeId) (h : Tryz.prog.typeName? 3 u = some "*errors.errorString") : u = 215 :=
 typeName_ptr_named (nm := "errors.errorString") (by rw [starE]; kernel_rfl) (by kernel_rfl) (by decide) u (by rw [starE]; exact h)
theorem vs_of_laid {W : World} {t1 t2 : List UInt8} {r : List (String × DataW Unit)} (hL : laidMet Tryz.prog (("strconv.ErrRange", .iface "*errors.errorString" (.ptr (.agg [.lit (.string t1)]))) :: ("strconv.ErrSyntax", .iface "*errors.errorString" (.ptr (.agg [.lit (.string t2)]))) :: r) W) : Vs W := by
 obtain ⟨a0, s0, hv0, -, -, -⟩ := laid_sentinel hL gRng gRngT Tryz.underlying148 rowE Tryz.underlying215 Tryz.underlying217 rfl rfl Tryz.underlying9 cellsE cellsS
 obtain ⟨a1, s1, hv1, -, -, -⟩ := laid_sentinel hL.tail gSyn gSynT Tryz.underlying148 rowE Tryz.underlying215 Tryz.underlying217 rfl rfl Tryz.underlying9 cellsE cellsS
 exact ⟨⟨_, _, by have h0 := World.var?_cell gSyn hv1 0; simpa using h0⟩, ⟨_, _, by have h0 := World.var?_cell gRng hv0 0; simpa using h0⟩⟩
end Go.Proofs.YthdbaligapdbeaaGreatDoor
/- What the listed variables give: the library's two errors, and the table of operators. -/
namespace Go.Proofs.YthdbaligapdbeaaGreatDoor
open Go Go.RowKit Go.Deep Go.ChangeShapes
set_option linter.unusedVariables false

def opD (p : List UInt8 × Nat) : DataW Unit := .agg [.lit (.string p.1), .lit (.int .i64 (p.2 : Int))]
def rowD (l : Nat) : DataW Unit := .slice ((levelOps l).map opD) []
set_option maxRecDepth 100000 in
theorem row_of_trod {enc : TypeId × Value → Unit} {w : World} {base : Nat} {spare : Nat → Bool} {held : Bool} {fuel : Nat} {cs : List Value} {ops : List (List UInt8 × Nat)} {p : List MemPlace}
  (h : DataW.trod enc Tryz.prog w base spare held fuel 121 cs = some (.slice (ops.map opD) [], p)) : ∃ v, cs = [v] ∧ LvAt w v ops := by
 rcases open_slice Tryz.underlying121 h with ⟨_, h0⟩ | ⟨a, len, cap, m, n, D, Pl, hcs, hb, hl, hm, hmm, hx, hi⟩
 ·simp at h0
 ·have hx1 := congrArg Prod.fst hx
  have hx3 : ops.map opD = (List.range len).map D := (DataW.slice.inj hx1).1
  have hlen : len = ops.length := by
   have := congrArg List.length hx3
   simpa using this.symm
  subst hlen
  have hlm : ops.length ≤ m := by rw [hmm]; split <;> omega
  refine ⟨_, hcs, a, cap, rfl, fun j hj => ?_⟩
  obtain ⟨cs', hc, ht⟩ := hi j (by omega)
  have hD : D j = opD ops[j] := by
   have := congrArg (fun l : List (DataW Unit) => l[j]?) hx3
   simp [hj] at this
   exact this.symm
  obtain ⟨xs, n', _, hx5, hl5, hlx, hf⟩ := DataW.trod_struct Tryz.underlying124 ht
  have hC : Tryz.prog.cellsOf 124 = 2 := by kernel_rfl
  rw [hC] at hc hl5
  obtain ⟨_, hcl, hat⟩ := World.cells?_some hc
  have hxs : xs.map (·.1) = [.lit (.string ops[j].1), .lit (.int .i64 (ops[j].2 : Int))] := by
   have h1 : D j = .agg (xs.map (·.1)) := congrArg Prod.fst hx5
   rw [hD] at h1
   exact (DataW.agg.inj h1).symm
  match xs, hxs with
  | [y0, y1], hxs =>
   simp at hxs
   match cs', hl5 with
   | [u0, u1], _ =>
    have f0 : DataW.trod enc Tryz.prog w base spare held n' 9 (List.take (Tryz.prog.cellsOf 9) (List.drop 0 [u0, u1])) = some y0 := hf 0 _ rfl
    have f1 : DataW.trod enc Tryz.prog w base spare held n' 3 (List.take (Tryz.prog.cellsOf 3) (List.drop 1 [u0, u1])) = some y1 := hf 1 _ rfl
    have hs1 : Tryz.prog.cellsOf 9 = 1 := by kernel_rfl
    have hi1 : Tryz.prog.cellsOf 3 = 1 := by kernel_rfl
    obtain ⟨s, e1, e2, _⟩ := DataW.trod_string Tryz.underlying9 f0
    obtain ⟨z, e3, e4, _⟩ := DataW.trod_int Tryz.underlying3 f1
    rw [hs1] at e1
    rw [hi1] at e3
    simp at e1 e3
    have hy0 := hxs.1
    have hy1 := hxs.2
    rw [e2] at hy0
    rw [e4] at hy1
    simp at hy0 hy1
    have h0 := hat 0 (by omega)
    have h1 := hat 1 (by omega)
    rw [add_add] at h0 h1
    refine ⟨?_, ?_⟩
    ·refine (show w.cell? (a.add (j * 2)) = _ from h0).trans ?_
     simp
     rw [e1, ← hy0, str_of]
    ·refine (show w.cell? (a.add (j * 2 + 1)) = _ from h1).trans ?_
     simp
     rw [e3, hy1]
set_option maxRecDepth 100000 in
theorem lv_of_laid {W : World} {r : List (String × DataW Unit)} (hL : laidMet Tryz.prog (("jacquard/parser.levels", .agg ((List.range 11).map rowD)) :: r) W) : Lv W := by
 obtain ⟨ps, ⟨g0, t0, cs0, f0, p0, q0, hg0, ht0, hv0, hd0, _, _⟩, _, _⟩ := hL
 have hg : Tryz.prog.globalNamed "jacquard/parser.levels" = some 9 := by kernel_rfl
 have ht : (Tryz.prog.globals[9]?).map (·.type) = some 122 := by kernel_rfl
 obtain rfl := Option.some.inj (hg.symm.trans hg0)
 obtain rfl := Option.some.inj (ht.symm.trans ht0)
 obtain ⟨ys, m, _, hx, hl, hlen, hget⟩ := DataW.trod_array Tryz.underlying122 hd0
 have hce : Tryz.prog.cellsOf 121 = 1 := by kernel_rfl
 intro l hl11
 have h1 := hget l hl11
 rw [hce] at h1
 have hys : ys[l]? = some (ys[l]'(by omega)) := List.getElem?_eq_getElem (by omega)
 rw [hys] at h1
 have hx0 := congrArg Prod.fst hx
 have hx1 : (List.range 11).map rowD = ys.map (·.1) := DataW.agg.inj hx0
 have hy : (ys[l]'(by omega)).1 = rowD l := by
  have := congrArg (fun q : List (DataW Unit) => q[l]?) hx1
  simp [hl11, hys] at this
  exact this.symm
 obtain ⟨y, hyy⟩ : ∃ y, y = ys[l]'(by omega) := ⟨_, rfl⟩
 rw [← hyy] at h1 hy
 obtain ⟨d, pl⟩ := y
 simp only at hy
 subst hy
 obtain ⟨v, hcs, hv⟩ := row_of_trod h1
 refine ⟨v, ?_, hv⟩
 have hc0 : cs0.toList[l]? = some v := by
  have := congrArg (fun q : List Value => q[0]?) hcs
  simp at this
  simpa using this
 have := World.var?_cell hg hv0 l
 rw [this]
 simpa using hc0
end Go.Proofs.YthdbaligapdbeaaGreatDoor
