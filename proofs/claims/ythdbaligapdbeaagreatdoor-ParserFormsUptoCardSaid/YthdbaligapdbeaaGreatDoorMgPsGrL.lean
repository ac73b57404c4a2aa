/- The variables of the groups, as they are laid. -/
import Derived.Test.YthdbaligapdbeaaGreatDoorMgPsWi
import Derived.Test.YthdbaligapdbeaaGreatDoorMgPsVh
namespace Go.Proofs.YthdbaligapdbeaaGreatDoor
open Go Go.RowKit Go.Deep Go.ChangeShapes
set_option linter.unusedVariables false
set_option maxRecDepth 100000 in
theorem units_of_laid {W : World} {r : List (String × DataW Unit)} (hL : laidMet Tryz.prog (("jacquard/parser.units", .agg [.lit (.int .i64 2), .lit (.int .i64 3)]) :: r) W) : W.cell? ⟨2, 0, none⟩ = some (.int .i64 2) ∧ W.cell? ⟨2, 1, none⟩ = some (.int .i64 3) := by
 obtain ⟨ps, ⟨g0, t0, cs0, f0, p0, q0, hg0, ht0, hv0, hd0, _, _⟩, _, _⟩ := hL
 have hg : Tryz.prog.globalNamed "jacquard/parser.units" = some 2 := by kernel_rfl
 have ht : (Tryz.prog.globals[2]?).map (·.type) = some 99 := by kernel_rfl
 obtain rfl := Option.some.inj (hg.symm.trans hg0)
 obtain rfl := Option.some.inj (ht.symm.trans ht0)
 obtain ⟨xs, n, _, hx, hl, hxl, hf⟩ := DataW.trod_struct Tryz.underlying99 hd0
 have hC : Tryz.prog.cellsOf 99 = 2 := by kernel_rfl
 have hi1 : Tryz.prog.cellsOf 3 = 1 := by kernel_rfl
 rw [hC] at hl
 have hxs : xs.map (·.1) = [.lit (.int .i64 2), .lit (.int .i64 3)] := (DataW.agg.inj (congrArg Prod.fst hx)).symm
 match xs, hxs with
 | [y0, y1], hxs =>
  simp at hxs
  obtain ⟨u0, u1, hcs⟩ : ∃ u0 u1, cs0.toList = [u0, u1] := by
   match cs0.toList, hl with
   | [u0, u1], _ => exact ⟨u0, u1, rfl⟩
  rw [hcs] at hf
  have f0' : DataW.trod _ Tryz.prog W _ _ _ n 3 (List.take (Tryz.prog.cellsOf 3) (List.drop 0 [u0, u1])) = some y0 := hf 0 _ rfl
  have f1' : DataW.trod _ Tryz.prog W _ _ _ n 3 (List.take (Tryz.prog.cellsOf 3) (List.drop 1 [u0, u1])) = some y1 := hf 1 _ rfl
  obtain ⟨z0, e0, e1, _⟩ := DataW.trod_int Tryz.underlying3 f0'
  obtain ⟨z1, e2, e3, _⟩ := DataW.trod_int Tryz.underlying3 f1'
  rw [hi1] at e0 e2
  simp at e0 e2
  have hy0 := hxs.1
  have hy1 := hxs.2
  rw [e1] at hy0
  rw [e3] at hy1
  simp at hy0 hy1
  have c0 := World.var?_cell hg hv0 0
  have c1 := World.var?_cell hg hv0 1
  refine ⟨?_, ?_⟩
  ·rw [c0, ← Array.getElem?_toList, hcs]; simp [e0, hy0]
  ·rw [c1, ← Array.getElem?_toList, hcs]; simp [e2, hy1]
set_option maxRecDepth 100000 in
theorem scalars_of_laid {W : World} {r : List (String × DataW Unit)} (hL : laidMet Tryz.prog (("jacquard/parser.scalars", .agg [.lit (.int .i64 4), .lit (.int .i64 4)]) :: r) W) : W.cell? ⟨3, 0, none⟩ = some (.int .i64 4) ∧ W.cell? ⟨3, 1, none⟩ = some (.int .i64 4) := by
 obtain ⟨ps, ⟨g0, t0, cs0, f0, p0, q0, hg0, ht0, hv0, hd0, _, _⟩, _, _⟩ := hL
 have hg : Tryz.prog.globalNamed "jacquard/parser.scalars" = some 3 := by kernel_rfl
 have ht : (Tryz.prog.globals[3]?).map (·.type) = some 99 := by kernel_rfl
 obtain rfl := Option.some.inj (hg.symm.trans hg0)
 obtain rfl := Option.some.inj (ht.symm.trans ht0)
 obtain ⟨xs, n, _, hx, hl, hxl, hf⟩ := DataW.trod_struct Tryz.underlying99 hd0
 have hC : Tryz.prog.cellsOf 99 = 2 := by kernel_rfl
 have hi1 : Tryz.prog.cellsOf 3 = 1 := by kernel_rfl
 rw [hC] at hl
 have hxs : xs.map (·.1) = [.lit (.int .i64 4), .lit (.int .i64 4)] := (DataW.agg.inj (congrArg Prod.fst hx)).symm
 match xs, hxs with
 | [y0, y1], hxs =>
  simp at hxs
  obtain ⟨u0, u1, hcs⟩ : ∃ u0 u1, cs0.toList = [u0, u1] := by
   match cs0.toList, hl with
   | [u0, u1], _ => exact ⟨u0, u1, rfl⟩
  rw [hcs] at hf
  have f0' : DataW.trod _ Tryz.prog W _ _ _ n 3 (List.take (Tryz.prog.cellsOf 3) (List.drop 0 [u0, u1])) = some y0 := hf 0 _ rfl
  have f1' : DataW.trod _ Tryz.prog W _ _ _ n 3 (List.take (Tryz.prog.cellsOf 3) (List.drop 1 [u0, u1])) = some y1 := hf 1 _ rfl
  obtain ⟨z0, e0, e1, _⟩ := DataW.trod_int Tryz.underlying3 f0'
  obtain ⟨z1, e2, e3, _⟩ := DataW.trod_int Tryz.underlying3 f1'
  rw [hi1] at e0 e2
  simp at e0 e2
  have hy0 := hxs.1
  have hy1 := hxs.2
  rw [e1] at hy0
  rw [e3] at hy1
  simp at hy0 hy1
  have c0 := World.var?_cell hg hv0 0
  have c1 := World.var?_cell hg hv0 1
  refine ⟨?_, ?_⟩
  ·rw [c0, ← Array.getElem?_toList, hcs]; simp [e0, hy0]
  ·rw [c1, ← Array.getElem?_toList, hcs]; simp [e2, hy1]
set_option maxRecDepth 100000 in
theorem params_of_laid {W : World} {r : List (String × DataW Unit)} (hL : laidMet Tryz.prog (("jacquard/parser.params", .agg [.lit (.int .i64 4), .lit (.int .i64 7)]) :: r) W) : W.cell? ⟨4, 0, none⟩ = some (.int .i64 4) ∧ W.cell? ⟨4, 1, none⟩ = some (.int .i64 7) := by
 obtain ⟨ps, ⟨g0, t0, cs0, f0, p0, q0, hg0, ht0, hv0, hd0, _, _⟩, _, _⟩ := hL
 have hg : Tryz.prog.globalNamed "jacquard/parser.params" = some 4 := by kernel_rfl
 have ht : (Tryz.prog.globals[4]?).map (·.type) = some 99 := by kernel_rfl
 obtain rfl := Option.some.inj (hg.symm.trans hg0)
 obtain rfl := Option.some.inj (ht.symm.trans ht0)
 obtain ⟨xs, n, _, hx, hl, hxl, hf⟩ := DataW.trod_struct Tryz.underlying99 hd0
 have hC : Tryz.prog.cellsOf 99 = 2 := by kernel_rfl
 have hi1 : Tryz.prog.cellsOf 3 = 1 := by kernel_rfl
 rw [hC] at hl
 have hxs : xs.map (·.1) = [.lit (.int .i64 4), .lit (.int .i64 7)] := (DataW.agg.inj (congrArg Prod.fst hx)).symm
 match xs, hxs with
 | [y0, y1], hxs =>
  simp at hxs
  obtain ⟨u0, u1, hcs⟩ : ∃ u0 u1, cs0.toList = [u0, u1] := by
   match cs0.toList, hl with
   | [u0, u1], _ => exact ⟨u0, u1, rfl⟩
  rw [hcs] at hf
  have f0' : DataW.trod _ Tryz.prog W _ _ _ n 3 (List.take (Tryz.prog.cellsOf 3) (List.drop 0 [u0, u1])) = some y0 := hf 0 _ rfl
  have f1' : DataW.trod _ Tryz.prog W _ _ _ n 3 (List.take (Tryz.prog.cellsOf 3) (List.drop 1 [u0, u1])) = some y1 := hf 1 _ rfl
  obtain ⟨z0, e0, e1, _⟩ := DataW.trod_int Tryz.underlying3 f0'
  obtain ⟨z1, e2, e3, _⟩ := DataW.trod_int Tryz.underlying3 f1'
  rw [hi1] at e0 e2
  simp at e0 e2
  have hy0 := hxs.1
  have hy1 := hxs.2
  rw [e1] at hy0
  rw [e3] at hy1
  simp at hy0 hy1
  have c0 := World.var?_cell hg hv0 0
  have c1 := World.var?_cell hg hv0 1
  refine ⟨?_, ?_⟩
  ·rw [c0, ← Array.getElem?_toList, hcs]; simp [e0, hy0]
  ·rw [c1, ← Array.getElem?_toList, hcs]; simp [e2, hy1]
set_option maxRecDepth 100000 in
theorem statements_of_laid {W : World} {r : List (String × DataW Unit)} (hL : laidMet Tryz.prog (("jacquard/parser.statements", .agg [.lit (.int .i64 9), .lit (.int .i64 17)]) :: r) W) : W.cell? ⟨5, 0, none⟩ = some (.int .i64 9) ∧ W.cell? ⟨5, 1, none⟩ = some (.int .i64 17) := by
 obtain ⟨ps, ⟨g0, t0, cs0, f0, p0, q0, hg0, ht0, hv0, hd0, _, _⟩, _, _⟩ := hL
 have hg : Tryz.prog.globalNamed "jacquard/parser.statements" = some 5 := by kernel_rfl
 have ht : (Tryz.prog.globals[5]?).map (·.type) = some 99 := by kernel_rfl
 obtain rfl := Option.some.inj (hg.symm.trans hg0)
 obtain rfl := Option.some.inj (ht.symm.trans ht0)
 obtain ⟨xs, n, _, hx, hl, hxl, hf⟩ := DataW.trod_struct Tryz.underlying99 hd0
 have hC : Tryz.prog.cellsOf 99 = 2 := by kernel_rfl
 have hi1 : Tryz.prog.cellsOf 3 = 1 := by kernel_rfl
 rw [hC] at hl
 have hxs : xs.map (·.1) = [.lit (.int .i64 9), .lit (.int .i64 17)] := (DataW.agg.inj (congrArg Prod.fst hx)).symm
 match xs, hxs with
 | [y0, y1], hxs =>
  simp at hxs
  obtain ⟨u0, u1, hcs⟩ : ∃ u0 u1, cs0.toList = [u0, u1] := by
   match cs0.toList, hl with
   | [u0, u1], _ => exact ⟨u0, u1, rfl⟩
  rw [hcs] at hf
  have f0' : DataW.trod _ Tryz.prog W _ _ _ n 3 (List.take (Tryz.prog.cellsOf 3) (List.drop 0 [u0, u1])) = some y0 := hf 0 _ rfl
  have f1' : DataW.trod _ Tryz.prog W _ _ _ n 3 (List.take (Tryz.prog.cellsOf 3) (List.drop 1 [u0, u1])) = some y1 := hf 1 _ rfl
  obtain ⟨z0, e0, e1, _⟩ := DataW.trod_int Tryz.underlying3 f0'
  obtain ⟨z1, e2, e3, _⟩ := DataW.trod_int Tryz.underlying3 f1'
  rw [hi1] at e0 e2
  simp at e0 e2
  have hy0 := hxs.1
  have hy1 := hxs.2
  rw [e1] at hy0
  rw [e3] at hy1
  simp at hy0 hy1
  have c0 := World.var?_cell hg hv0 0
  have c1 := World.var?_cell hg hv0 1
  refine ⟨?_, ?_⟩
  ·rw [c0, ← Array.getElem?_toList, hcs]; simp [e0, hy0]
  ·rw [c1, ← Array.getElem?_toList, hcs]; simp [e2, hy1]
set_option maxRecDepth 100000 in
theorem blocks_of_laid {W : World} {r : List (String × DataW Unit)} (hL : laidMet Tryz.prog (("jacquard/parser.blocks", .agg [.lit (.int .i64 8), .lit (.int .i64 8)]) :: r) W) : W.cell? ⟨6, 0, none⟩ = some (.int .i64 8) ∧ W.cell? ⟨6, 1, none⟩ = some (.int .i64 8) := by
 obtain ⟨ps, ⟨g0, t0, cs0, f0, p0, q0, hg0, ht0, hv0, hd0, _, _⟩, _, _⟩ := hL
 have hg : Tryz.prog.globalNamed "jacquard/parser.blocks" = some 6 := by kernel_rfl
 have ht : (Tryz.prog.globals[6]?).map (·.type) = some 99 := by kernel_rfl
 obtain rfl := Option.some.inj (hg.symm.trans hg0)
 obtain rfl := Option.some.inj (ht.symm.trans ht0)
 obtain ⟨xs, n, _, hx, hl, hxl, hf⟩ := DataW.trod_struct Tryz.underlying99 hd0
 have hC : Tryz.prog.cellsOf 99 = 2 := by kernel_rfl
 have hi1 : Tryz.prog.cellsOf 3 = 1 := by kernel_rfl
 rw [hC] at hl
 have hxs : xs.map (·.1) = [.lit (.int .i64 8), .lit (.int .i64 8)] := (DataW.agg.inj (congrArg Prod.fst hx)).symm
 match xs, hxs with
 | [y0, y1], hxs =>
  simp at hxs
  obtain ⟨u0, u1, hcs⟩ : ∃ u0 u1, cs0.toList = [u0, u1] := by
   match cs0.toList, hl with
   | [u0, u1], _ => exact ⟨u0, u1, rfl⟩
  rw [hcs] at hf
  have f0' : DataW.trod _ Tryz.prog W _ _ _ n 3 (List.take (Tryz.prog.cellsOf 3) (List.drop 0 [u0, u1])) = some y0 := hf 0 _ rfl
  have f1' : DataW.trod _ Tryz.prog W _ _ _ n 3 (List.take (Tryz.prog.cellsOf 3) (List.drop 1 [u0, u1])) = some y1 := hf 1 _ rfl
  obtain ⟨z0, e0, e1, _⟩ := DataW.trod_int Tryz.underlying3 f0'
  obtain ⟨z1, e2, e3, _⟩ := DataW.trod_int Tryz.underlying3 f1'
  rw [hi1] at e0 e2
  simp at e0 e2
  have hy0 := hxs.1
  have hy1 := hxs.2
  rw [e1] at hy0
  rw [e3] at hy1
  simp at hy0 hy1
  have c0 := World.var?_cell hg hv0 0
  have c1 := World.var?_cell hg hv0 1
  refine ⟨?_, ?_⟩
  ·rw [c0, ← Array.getElem?_toList, hcs]; simp [e0, hy0]
  ·rw [c1, ← Array.getElem?_toList, hcs]; simp [e2, hy1]
set_option maxRecDepth 100000 in
theorem branches_of_laid {W : World} {r : List (String × DataW Unit)} (hL : laidMet Tryz.prog (("jacquard/parser.branches", .agg [.lit (.int .i64 13), .lit (.int .i64 13)]) :: r) W) : W.cell? ⟨7, 0, none⟩ = some (.int .i64 13) ∧ W.cell? ⟨7, 1, none⟩ = some (.int .i64 13) := by
 obtain ⟨ps, ⟨g0, t0, cs0, f0, p0, q0, hg0, ht0, hv0, hd0, _, _⟩, _, _⟩ := hL
 have hg : Tryz.prog.globalNamed "jacquard/parser.branches" = some 7 := by kernel_rfl
 have ht : (Tryz.prog.globals[7]?).map (·.type) = some 99 := by kernel_rfl
 obtain rfl := Option.some.inj (hg.symm.trans hg0)
 obtain rfl := Option.some.inj (ht.symm.trans ht0)
 obtain ⟨xs, n, _, hx, hl, hxl, hf⟩ := DataW.trod_struct Tryz.underlying99 hd0
 have hC : Tryz.prog.cellsOf 99 = 2 := by kernel_rfl
 have hi1 : Tryz.prog.cellsOf 3 = 1 := by kernel_rfl
 rw [hC] at hl
 have hxs : xs.map (·.1) = [.lit (.int .i64 13), .lit (.int .i64 13)] := (DataW.agg.inj (congrArg Prod.fst hx)).symm
 match xs, hxs with
 | [y0, y1], hxs =>
  simp at hxs
  obtain ⟨u0, u1, hcs⟩ : ∃ u0 u1, cs0.toList = [u0, u1] := by
   match cs0.toList, hl with
   | [u0, u1], _ => exact ⟨u0, u1, rfl⟩
  rw [hcs] at hf
  have f0' : DataW.trod _ Tryz.prog W _ _ _ n 3 (List.take (Tryz.prog.cellsOf 3) (List.drop 0 [u0, u1])) = some y0 := hf 0 _ rfl
  have f1' : DataW.trod _ Tryz.prog W _ _ _ n 3 (List.take (Tryz.prog.cellsOf 3) (List.drop 1 [u0, u1])) = some y1 := hf 1 _ rfl
  obtain ⟨z0, e0, e1, _⟩ := DataW.trod_int Tryz.underlying3 f0'
  obtain ⟨z1, e2, e3, _⟩ := DataW.trod_int Tryz.underlying3 f1'
  rw [hi1] at e0 e2
  simp at e0 e2
  have hy0 := hxs.1
  have hy1 := hxs.2
  rw [e1] at hy0
  rw [e3] at hy1
  simp at hy0 hy1
  have c0 := World.var?_cell hg hv0 0
  have c1 := World.var?_cell hg hv0 1
  refine ⟨?_, ?_⟩
  ·rw [c0, ← Array.getElem?_toList, hcs]; simp [e0, hy0]
  ·rw [c1, ← Array.getElem?_toList, hcs]; simp [e2, hy1]
end Go.Proofs.YthdbaligapdbeaaGreatDoor
