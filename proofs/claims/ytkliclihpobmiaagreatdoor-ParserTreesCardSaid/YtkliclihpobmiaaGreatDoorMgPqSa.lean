/- The rule block of the reference, at any fuel: contract. -/
import Derived.Test.YtkliclihpobmiaaGreatDoorMgPqBk
import Derived.Test.YtkliclihpobmiaaGreatDoorMgPqLp
namespace Go.Proofs.YtkliclihpobmiaaGreatDoor
namespace Q
open Go Go.RowKit
set_option linter.unusedVariables false

theorem sc_all {ts : List Tok} {R g c : Nat} (X : QC ts R g c) (K : KW ts) : ∀ f f1, f1 ≤ f → SC ts R g c f1 := by
 intro f
 induction f with
 | zero =>
  intro f1 h1
  obtain rfl : f1 = 0 := by omega
  exact ⟨fun s w _ h => by omega, fun s w _ h => by omega, fun s w _ _ h => by omega, fun s w _ _ h => by omega⟩
 | succ f ih =>
  intro f1 h1
  by_cases hle : f1 ≤ f
  ·exact ih f1 hle
  ·obtain rfl : f1 = f + 1 := by omega
   have H := ih f (Nat.le_refl _)
   exact ⟨fun s w hR h => block_step X K f ih s w hR h, fun s w hR h => statement_step X f H s w hR h, fun s w hv hR h => branch_step X K f H s hv w hR h, fun s w hv hR h => loop_step X K f H s hv w hR h⟩
theorem blk_any {ts : List Tok} {R g c : Nat} (X : QC ts R g c) (K : KW ts) (s : Sg) (w : World) (hR : Rd w R g c ts s) : Calls Tryz.prog 110 #[.pointer (some ⟨R, 0, none⟩)] w (TP w R g c ts (blkQ ts s)) := by
 have h := (sc_all X K (big ts) (big ts) (Nat.le_refl _)).bk s w hR (by have := rem_le (ts := ts) (s := s); unfold big; omega)
 unfold blkQ
 exact h
end Q
end Go.Proofs.YtkliclihpobmiaaGreatDoor
