/- What the listed variables give: the library's two errors are errors. -/
import Derived.Test.YtkliclihpobmiaaGreatDoorMgLxChain
import Derived.Stop.LaidErr
import Derived.Test.YtkliclihpobmiaaGreatDoorMgLxTk0
namespace Go.Proofs.YtkliclihpobmiaaGreatDoor
open Go Go.RowKit
set_option linter.unusedVariables false

theorem gSyn : Tryz.prog.globalNamed "strconv.ErrSyntax" = some 9 := by kernel_rfl
theorem gSynT : (Tryz.prog.globals[9]?).map (·.type) = some 67 := by kernel_rfl
theorem gRng : Tryz.prog.globalNamed "strconv.ErrRange" = some 10 := by kernel_rfl
theorem gRngT : (Tryz.prog.globals[10]?).map (·.type) = some 67 := by kernel_rfl
theorem cellsE : Tryz.prog.cellsOf 171 = 1 := by kernel_rfl
theorem cellsS : Tryz.prog.cellsOf 9 = 1 := by kernel_rfl
theorem starE : "*" ++ "errors.errorString" = "*errors.errorString" := by decide
theorem rowE (u : TypeId) (h : Tryz.prog.typeName? 3 u = some "*errors.errorString") : u = 169 :=
 typeName_ptr_named (nm := "errors.errorString") (by rw [starE]; kernel_rfl) (by kernel_rfl) (by decide) u (by rw [starE]; exact h)
theorem vs_of_laid {W : World} {t1 t2 : List UInt8} {r : List (String × DataW Unit)} (hL : laidMet Tryz.prog (("strconv.ErrRange", .iface "*errors.errorString" (.ptr (.agg [.lit (.string t1)]))) :: ("strconv.ErrSyntax", .iface "*errors.errorString" (.ptr (.agg [.lit (.string t2)]))) :: r) W) : Vs W := by
 obtain ⟨a0, s0, hv0, -, -, -⟩ := laid_sentinel hL gRng gRngT Tryz.underlying67 rowE Tryz.underlying169 Tryz.underlying171 rfl rfl Tryz.underlying9 cellsE cellsS
 obtain ⟨a1, s1, hv1, -, -, -⟩ := laid_sentinel hL.tail gSyn gSynT Tryz.underlying67 rowE Tryz.underlying169 Tryz.underlying171 rfl rfl Tryz.underlying9 cellsE cellsS
 exact ⟨⟨_, _, by have h0 := World.var?_cell gSyn hv1 0; simpa using h0⟩, ⟨_, _, by have h0 := World.var?_cell gRng hv0 0; simpa using h0⟩⟩
end Go.Proofs.YtkliclihpobmiaaGreatDoor
/- Tokens in memory. -/
namespace Go.Proofs.YtkliclihpobmiaaGreatDoor
open Go Go.RowKit
set_option linter.unusedVariables false

theorem toks_own {w : World} {base : Nat} {e : TypeId} {v : Value} {ts : List Tok} (h : w.ownsRow base e 5 v ts.length (tcells ts)) : (ts = [] ∧ v = .slice none 0 0) ∨ ∃ g c, v = .slice (some ⟨g, 0, none⟩) ts.length c ∧ base ≤ g ∧ TkIn w g ts := by
 rcases h.2 with ⟨hv, h0⟩ | ⟨g, cap, cur, hv, hb, hh, r⟩
 ·exact .inl ⟨List.eq_nil_of_length_eq_zero h0, hv⟩
 ·refine .inr ⟨g, cap, hv, hb, (Array.getElem?_eq_some_iff.1 hh).1, fun i hi => ?_⟩
  have hl := tcells_length ts
  subst hv
  have c : ∀ j, j < 5 → w.cell? ⟨g, i * 5 + j, none⟩ = (tcell ts[i])[j]? := fun j hj => by
   rw [← tcells_get ts i j hi hj]
   exact h.cellAt (i * 5 + j) (by omega)
  rw [tat_get hi]
  exact ⟨c 0 (by omega), c 1 (by omega), c 2 (by omega), c 3 (by omega), c 4 (by omega)⟩
end Go.Proofs.YtkliclihpobmiaaGreatDoor
