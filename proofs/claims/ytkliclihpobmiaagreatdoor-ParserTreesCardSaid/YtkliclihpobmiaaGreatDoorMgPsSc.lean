/- The rules of statements: what the code does with fuel. -/
import Derived.Test.YtkliclihpobmiaaGreatDoorMgPsSt1
import Derived.Test.YtkliclihpobmiaaGreatDoorMgPsCh
namespace Go.Proofs.YtkliclihpobmiaaGreatDoor
open Go Go.RowKit
set_option linter.unusedVariables false

def one (x : List Tree × Sg) : Tree × Sg := (x.1.headD tree0, x.2)
structure SC (ts : List Tok) (R g c f : Nat) : Prop where
 bk : ∀ s w, Rd w R g c ts s → 8 * rem ts s + 6 ≤ f → Calls Tryz.prog 98 #[.pointer (some ⟨R, 0, none⟩)] w (TP w R g c ts (one (S ts f .bk s)))
 st : ∀ s w, s.bad = false ∧ s.i < ts.length → Rd w R g c ts s → 8 * rem ts s + 4 ≤ f → Calls Tryz.prog 133 #[.pointer (some ⟨R, 0, none⟩)] w (TP w R g c ts (one (S ts f .st s)))
 br : ∀ s w, hasT ts s [105, 102] = true → Rd w R g c ts s → 8 * rem ts s + 3 ≤ f → Calls Tryz.prog 156 #[.pointer (some ⟨R, 0, none⟩)] w (TP w R g c ts (one (S ts f .br s)))
theorem S_one {ts : List Tok} : ∀ f n s, (∀ acc, n ≠ .bs acc) → (S ts f n s).1 = [(one (S ts f n s)).1] := by
 intro f
 induction f with
 | zero => intro n s _; rfl
 | succ f ih =>
  intro n s hn
  cases n with
  | bs acc => exact absurd rfl (hn acc)
  | bk => rfl
  | br =>
   unfold one
   rw [S]
   split
   ·split <;> rfl
   ·rfl
  | lp =>
   unfold one
   rw [S]
   dsimp only
   split <;> rfl
  | st =>
   have h1 := ih .br s (by simp)
   have h2 := ih .lp s (by simp)
   unfold one at h1 h2 ⊢
   rw [S]
   split
   ·rfl
   ·split
    ·rfl
    ·split
     ·exact h1
     ·split
      ·exact h2
      ·split
       ·rfl
       ·split <;> rfl
theorem S_bs_end {ts : List Tok} {f : Nat} {acc : List Tree} {s : Sg} (h : ¬ (s.bad = false ∧ s.i < ts.length ∧ hasT ts s [125] = false)) : S ts (f + 1) (.bs acc) s = (acc, s) := by rw [S, if_neg h]
theorem S_bs_more {ts : List Tok} {f : Nat} {acc : List Tree} {s : Sg} (h : s.bad = false ∧ s.i < ts.length ∧ hasT ts s [125] = false) : S ts (f + 1) (.bs acc) s = S ts f (.bs (acc ++ [(one (S ts f .st s)).1])) (one (S ts f .st s)).2 := by
 rw [S, if_pos h, S_one f .st s (by simp)]
 rfl
theorem st_prog {ts : List Tok} {f : Nat} {s : Sg} (hs : s.bad = false ∧ s.i < ts.length) : rem ts (S ts (f + 2) .st s).2 + 1 ≤ rem ts s := by
 have ha := rem_adv hs
 have key : ∀ t, On ts (adv s) t → rem ts t + 1 ≤ rem ts s := fun t ht => by have := rem_on ht; omega
 have hst : rem ts (stop s) + 1 ≤ rem ts s := by unfold rem stop; rw [hs.1]; simp; omega
 rw [S]
 split
 ·rename_i h
  refine key _ ?_
  unfold declV
  dsimp only
  split
  ·exact (nmS_on _ _).trans (exc_on.trans ((tyS_on _ _).trans ((adv_on (hasT_in ‹_›)).trans ((xpr_on _ _).trans exc_on))))
  ·exact (nmS_on _ _).trans (exc_on.trans ((tyS_on _ _).trans exc_on))
 ·split
  ·refine key _ ?_
   unfold declL
   dsimp only
   have h1 : On ts (adv s) (if hasT ts (nmS ts (adv s)) [58] = true then tyS ts (adv (nmS ts (adv s))) else nmS ts (adv s)) :=
    On.ite (fun h2 => (nmS_on _ _).trans ((adv_on (hasT_in h2)).trans (tyS_on _ _))) fun _ => nmS_on _ _
   exact h1.trans (exc_on.trans ((xpr_on _ _).trans exc_on))
  ·split
   ·rename_i h
    refine key _ ?_
    have h1 : On ts (adv s) (S ts f .bk (xpr ts (adv s)).2).2 := (xpr_on _ _).trans (S_on ts _ _ _ trivial)
    rw [S]
    split
    ·split
     ·exact h1.trans ((adv_on (hasT_in ‹_›)).trans (S_on ts _ _ _ (hasT_in ‹_›)))
     ·exact h1.trans ((adv_on (hasT_in ‹_›)).trans (S_on ts _ _ _ trivial))
    ·exact h1
   ·split
    ·rename_i h
     refine key _ ?_
     rw [S]
     dsimp only
     by_cases h35 : hasT ts s [35] = true
     ·have hd : On ts (adv s) (dirs ts 3 0 0 s).2.2 := by
       rw [dirs, if_pos ⟨.inl rfl, h35⟩]
       exact (dir_on _ _ _ _).trans (dirs_on _ _ _ _ _)
      split
      ·exact hd.trans ((adv_on (hasT_in ‹_›)).trans ((nmS_on _ _).trans (exc_on.trans ((tyS_on _ _).trans (exc_on.trans ((xpr_on _ _).trans (exc_on.trans ((xpr_on _ _).trans (S_on ts _ _ _ trivial)))))))))
      ·exact hd.trans (exc_on.trans ((xpr_on _ _).trans (S_on ts _ _ _ trivial)))
     ·have hd : dirs ts 3 0 0 s = (0, 0, s) := by rw [dirs, if_neg (fun h => h35 h.2)]
      rw [hd]
      dsimp only
      split
      ·exact (nmS_on _ _).trans (exc_on.trans ((tyS_on _ _).trans (exc_on.trans ((xpr_on _ _).trans (exc_on.trans ((xpr_on _ _).trans (S_on ts _ _ _ trivial)))))))
      ·rename_i hf
       have hw : hasT ts s [119, 104, 105, 108, 101] = true := by
        simp [h35, hf] at h
        exact h
       rw [exc_has hw]
       exact (xpr_on _ _).trans (S_on ts _ _ _ trivial)
    ·split
     ·exact key _ ((nmS_on _ _).trans (exc_on.trans ((xpr_on _ _).trans (exc_on.trans exc_on))))
     ·split
      ·exact key _ ((xpr_on _ _).trans exc_on)
      ·unfold change
       dsimp only
       have hn : On ts (adv s) (nmS ts s) ∨ nmS ts s = stop s := by
        unfold nmS
        split
        ·exact .inl (On.refl _ _)
        ·exact .inr rfl
       rcases hn with hn | hn
       ·refine key _ ?_
        split
        ·exact hn.trans ((adv_on (hasT_in ‹_›)).trans ((xpr_on _ _).trans (exc_on.trans (exc_on.trans ((xpr_on _ _).trans exc_on)))))
        ·exact hn.trans (exc_on.trans ((xpr_on _ _).trans exc_on))
       ·have key2 : ∀ t, On ts (stop s) t → rem ts t + 1 ≤ rem ts s := fun t ht => by have := rem_on ht; omega
        refine key2 _ ?_
        rw [hn]
        split
        ·exact (adv_on (hasT_in ‹_›)).trans ((xpr_on _ _).trans (exc_on.trans (exc_on.trans ((xpr_on _ _).trans exc_on))))
        ·exact exc_on.trans ((xpr_on _ _).trans exc_on)
theorem S_br_no {ts : List Tok} {f : Nat} {s : Sg} (h : hasT ts (one (S ts f .bk (xpr ts (adv s)).2)).2 [101, 108, 115, 101] = false) : one (S ts (f + 1) .br s) = (.node (labK 13 (ln ts s)) [(xpr ts (adv s)).1, (one (S ts f .bk (xpr ts (adv s)).2)).1], (one (S ts f .bk (xpr ts (adv s)).2)).2) := by
 have h1 := S_one f .bk (xpr ts (adv s)).2 (ts := ts) (by simp)
 have h2 : hasT ts (S ts f .bk (xpr ts (adv s)).2).2 [101, 108, 115, 101] = false := h
 rw [one, S, if_neg (by simp [h2]), h1]
 rfl
theorem S_br_if {ts : List Tok} {f : Nat} {s : Sg} (h : hasT ts (one (S ts f .bk (xpr ts (adv s)).2)).2 [101, 108, 115, 101] = true) (h3 : hasT ts (adv (one (S ts f .bk (xpr ts (adv s)).2)).2) [105, 102] = true) :
  one (S ts (f + 1) .br s) = (.node (labK 13 (ln ts s)) [(xpr ts (adv s)).1, (one (S ts f .bk (xpr ts (adv s)).2)).1, (one (S ts f .br (adv (one (S ts f .bk (xpr ts (adv s)).2)).2))).1], (one (S ts f .br (adv (one (S ts f .bk (xpr ts (adv s)).2)).2))).2) := by
 have h1 := S_one f .bk (xpr ts (adv s)).2 (ts := ts) (by simp)
 have h4 := S_one f .br (adv (one (S ts f .bk (xpr ts (adv s)).2)).2) (ts := ts) (by simp)
 have h2 : hasT ts (S ts f .bk (xpr ts (adv s)).2).2 [101, 108, 115, 101] = true := h
 have h5 : hasT ts (adv (S ts f .bk (xpr ts (adv s)).2).2) [105, 102] = true := h3
 have h6 : (S ts f .br (adv (S ts f .bk (xpr ts (adv s)).2).2)).1 = [(one (S ts f .br (adv (one (S ts f .bk (xpr ts (adv s)).2)).2))).1] := h4
 rw [one, S, if_pos h2, if_pos h5, h1, h6]
 rfl
theorem S_br_el {ts : List Tok} {f : Nat} {s : Sg} (h : hasT ts (one (S ts f .bk (xpr ts (adv s)).2)).2 [101, 108, 115, 101] = true) (h3 : hasT ts (adv (one (S ts f .bk (xpr ts (adv s)).2)).2) [105, 102] = false) :
  one (S ts (f + 1) .br s) = (.node (labK 13 (ln ts s)) [(xpr ts (adv s)).1, (one (S ts f .bk (xpr ts (adv s)).2)).1, (one (S ts f .bk (adv (one (S ts f .bk (xpr ts (adv s)).2)).2))).1], (one (S ts f .bk (adv (one (S ts f .bk (xpr ts (adv s)).2)).2))).2) := by
 have h1 := S_one f .bk (xpr ts (adv s)).2 (ts := ts) (by simp)
 have h4 := S_one f .bk (adv (one (S ts f .bk (xpr ts (adv s)).2)).2) (ts := ts) (by simp)
 have h2 : hasT ts (S ts f .bk (xpr ts (adv s)).2).2 [101, 108, 115, 101] = true := h
 have h5 : hasT ts (adv (S ts f .bk (xpr ts (adv s)).2).2) [105, 102] = false := h3
 have h6 : (S ts f .bk (adv (S ts f .bk (xpr ts (adv s)).2).2)).1 = [(one (S ts f .bk (adv (one (S ts f .bk (xpr ts (adv s)).2)).2))).1] := h4
 rw [one, S, if_pos h2, if_neg (by simp [h5]), h1, h6]
 rfl
theorem atOf_adv2 {ts : List Tok} {s t : Sg} (h : s.bad = false ∧ s.i < ts.length) (ht : On ts s t) (hr : rem ts t + 1 ≤ rem ts s) (hi : t.i ≤ ts.length) : atOf ts s < atOf ts t ∧ atOf ts t ≤ ts.length := by
 have h1 := ht.1
 unfold rem at hr
 unfold atOf
 rw [h.1] at hr ⊢
 cases hb : t.bad with
 | false => rw [hb] at hr; simp at hr ⊢; omega
 | true => simp; omega
theorem hasT_excl {ts : List Tok} {s : Sg} {a b : List UInt8} (h : hasT ts s a = true) (hab : a ≠ b) : hasT ts s b = false := by
 unfold hasT at h ⊢
 rw [of_decide_eq_true h]
 simp [hab]
end Go.Proofs.YtkliclihpobmiaaGreatDoor
