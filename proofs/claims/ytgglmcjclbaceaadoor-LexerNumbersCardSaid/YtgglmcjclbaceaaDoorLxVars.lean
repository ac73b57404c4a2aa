/- What the listed variables give: the library's two errors are errors. -/
import Derived.Test.YtgglmcjclbaceaaDoorLxLex
import Derived.Stop.LaidErr
namespace Go.Proofs.YtgglmcjclbaceaaDoor
open Go Go.RowKit
set_option linter.unusedVariables false

theorem gSyn : Tryd.prog.globalNamed "strconv.ErrSyntax" = some 1 := by kernel_rfl
theorem gSynT : (Tryd.prog.globals[1]?).map (·.type) = some 59 := by kernel_rfl
theorem gRng : Tryd.prog.globalNamed "strconv.ErrRange" = some 2 := by kernel_rfl
theorem gRngT : (Tryd.prog.globals[2]?).map (·.type) = some 59 := by kernel_rfl
theorem cellsE : Tryd.prog.cellsOf 112 = 1 := by kernel_rfl
theorem cellsS : Tryd.prog.cellsOf 9 = 1 := by kernel_rfl
theorem starE : "*" ++ "errors.errorString" = "*errors.errorString" := by decide
theorem rowE (u : TypeId) (h : Tryd.prog.typeName? 3 u = some "*errors.errorString") : u = 110 :=
  typeName_ptr_named (nm := "errors.errorString") (by rw [starE]; kernel_rfl) (by kernel_rfl) (by decide) u (by rw [starE]; exact h)
theorem vs_of_laid {W : World} {t1 t2 : List UInt8} {r : List (String × DataW Unit)} (hL : laidMet Tryd.prog (("strconv.ErrRange", .iface "*errors.errorString" (.ptr (.agg [.lit (.string t1)]))) :: ("strconv.ErrSyntax", .iface "*errors.errorString" (.ptr (.agg [.lit (.string t2)]))) :: r) W) : Vs W := by
  obtain ⟨a0, s0, hv0, -, -, -⟩ := laid_sentinel hL gRng gRngT Tryd.underlying59 rowE Tryd.underlying110 Tryd.underlying112 rfl rfl Tryd.underlying9 cellsE cellsS
  obtain ⟨a1, s1, hv1, -, -, -⟩ := laid_sentinel hL.tail gSyn gSynT Tryd.underlying59 rowE Tryd.underlying110 Tryd.underlying112 rfl rfl Tryd.underlying9 cellsE cellsS
  exact ⟨⟨_, _, by have h0 := World.var?_cell gSyn hv1 0; simpa using h0⟩, ⟨_, _, by have h0 := World.var?_cell gRng hv0 0; simpa using h0⟩⟩
end Go.Proofs.YtgglmcjclbaceaaDoor
