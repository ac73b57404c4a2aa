/- The reader's amount and directive: contracts. -/
import Derived.Test.YtkliclihpobmiaaGreatDoorMgPsSc
import Derived.Test.YtkliclihpobmiaaGreatDoorMgPsFk
namespace Go.Proofs.YtkliclihpobmiaaGreatDoor
open Go Go.RowKit
set_option linter.unusedVariables false

set_option maxHeartbeats 1000000 in
set_option maxRecDepth 100000 in
theorem amount_any {ts : List Tok} {R g c : Nat} (X : Ctx ts R g c) {s : Sg} (least : Nat) (hleast : least < 1000) (w : World) (hR : Rd w R g c ts s) :
  Calls Tryz.prog 185 #[.pointer (some ⟨R, 0, none⟩), .int .u64 (least : Int)] w fun e w' => e = .returned (.int .i64 (amV ts s least : Int)) ∧ Rd w' R g c ts (amS ts s least) ∧ St w w' R := by
 have HN := Hd (next_any X w hR)
 have HNU := Hd fun W (h : Rd W R g c ts s) => numb_any X least hleast W h
 have hXl := X.lt
 have HR := Hd hR
 have hF := fldK (nxt ts s)
 have hke : (nxt ts s).kind = kd ts s := rfl
 rw [hke] at hF
 clear hke
 have hlt := hR.lt
 have hnv : nuV ts s least ≤ 1048576 := by
  unfold nuV
  split
  ·rename_i h
   unfold okN at h
   simp at h
   omega
  ·omega
 unfold amV amS
 clear hR
 by_cases hk : kd ts s = 3
 ·rw [if_pos hk, if_pos hk]
  rw [hk] at hF
  clear hk
  generalize nuV ts s least = NV at *
  generalize tkv (nxt ts s) = TV at *
  go_enter Tryz.func185, Tryz.ntmps185
  go_wp2_with fail
  refine HN.out.mono ?_
  rintro e w1 ⟨rfl, hb⟩
  have HR1 := Hd (HR.out.below hXl hb hlt)
  have HS1 : Hid (St w w1 R) := St.of_below hb
  clear hb HN
  go_wp2_with fail
  refine (HNU.out _ HR1.out).mono ?_
  rintro e w2 ⟨rfl, hr, hs⟩
  have HR2 := Hd (And.intro hr (St.trans HS1.out hs))
  clear hr hs HNU
  go_wp2
  go_ret
  exact ⟨rfl, HR2.out.1, HR2.out.2⟩
 ·rw [if_neg hk, if_neg hk]
  have q1 : ((kd ts s : Int) != 3) = true := by simp; omega
  have q2 : ¬ (kd ts s : Int) = 3 := by omega
  clear hk
  generalize (kd ts s : Int) = n1 at *
  generalize tkv (nxt ts s) = TV at *
  go_enter Tryz.func185, Tryz.ntmps185
  go_wp2_with fail
  refine HN.out.mono ?_
  rintro e w1 ⟨rfl, hb⟩
  have HR1 := Hd (HR.out.below hXl hb hlt)
  have HS1 : Hid (St w w1 R) := St.of_below hb
  clear hb HN
  go_wp2
  go_ret
  exact ⟨rfl, HR1.out, HS1.out⟩
def dcs (line : Int) (p u : Nat) : List Value := [.int .i64 15, .string ⟨#[]⟩, .int .u64 0, .int .i64 0, .bool false, .int .i64 0, .int .i64 0, .int .i64 (p : Int), .int .i64 (u : Int), .int .i64 line, .slice none 0 0]

set_option maxHeartbeats 2000000 in
set_option maxRecDepth 100000 in
theorem directive_any {ts : List Tok} {R g c : Nat} (X : Ctx ts R g c) {s : Sg} {w0 : World} {L : Nat} {line : Int} {p u : Nat} {Ls : List (Nat × List Value)} (w : World) (F : Fr w0 w R g c ts s ((L, dcs line p u) :: Ls) []) :
  Calls Tryz.prog 177 #[.pointer (some ⟨R, 0, none⟩), .pointer (some ⟨L, 0, none⟩)] w fun e w' => e = .returned (.tuple #[]) ∧ Fr w0 w' R g c ts (dir ts p u s).2.2 ((L, dcs line (dir ts p u s).1 (dir ts p u s).2.1) :: Ls) [] := by
 have hXl := X.lt
 have HF := Hd F
 obtain ⟨hc0, hf0⟩ := F.b0.all
 unfold dcs at hc0
 have hz0 := F.b0.lt
 have HS1 := Hd fun W (h : Rd W R g c ts s) => skip_any' X [112, 105, 112, 101, 108, 105, 110, 101] (by simp) W h
 have HS2 := Hd fun W (h : Rd W R g c ts s) => skip_any' X [117, 110, 114, 111, 108, 108] (by simp) W h
 have HA := Hd fun q least hl W (h : Rd W R g c ts q) => amount_any X (s := q) least hl W h
 have HFA := Hd fun W (h : Rd W R g c ts s) => fail_any X W h
 unfold skp at HS1 HS2
 by_cases hp : p = 0 ∧ hasT ts s [112, 105, 112, 101, 108, 105, 110, 101] = true
 ·have hD : dir ts p u s = (amV ts (adv s) 1, u, amS ts (adv s) 1) := by unfold dir; rw [if_pos hp]
  rw [hD]
  obtain ⟨rfl, hq⟩ := hp
  rw [hq] at HS1
  clear hD hq HS2 HFA F
  go_enter Tryz.func177, Tryz.ntmps177
  go_wp2_with fail
  refine (HS1.out _ HF.out.rd).mono ?_
  rintro e w1 ⟨rfl, hr, hs⟩
  have G1 := Hd (HF.out.call hr hs)
  clear hr hs hc0 hf0 hz0
  go_wp2_with fail
  refine (HA.out _ 1 (by omega) _ G1.out.rd).mono ?_
  rintro e w2 ⟨rfl, hr, hs⟩
  have G2 := Hd (G1.out.call hr hs)
  clear hr hs
  obtain ⟨hc0, hf0⟩ := G2.out.b0.all
  unfold dcs at hc0
  have hz0 := G2.out.b0.lt
  go_wp2
  go_end0
  exact ⟨rfl, G2.out.set0 hXl 7 _ _ rfl⟩
 ·by_cases hu : u = 0 ∧ hasT ts s [117, 110, 114, 111, 108, 108] = true
  ·have hD : dir ts p u s = (p, amV ts (adv s) 2, amS ts (adv s) 2) := by unfold dir; rw [if_neg hp, if_pos hu]
   rw [hD]
   obtain ⟨rfl, hq⟩ := hu
   rw [hq] at HS2
   clear hD hq F
   by_cases hp0 : p = 0
   ·have h1 : hasT ts s [112, 105, 112, 101, 108, 105, 110, 101] = false := by
     cases h : hasT ts s [112, 105, 112, 101, 108, 105, 110, 101] with
     | true => exact absurd ⟨hp0, h⟩ hp
     | false => rfl
    rw [h1] at HS1
    subst hp0
    clear h1 hp
    go_enter Tryz.func177, Tryz.ntmps177
    go_wp2_with fail
    refine (HS1.out _ HF.out.rd).mono ?_
    rintro e w1 ⟨rfl, hr, hs⟩
    have G1 := Hd (HF.out.call hr hs)
    clear hr hs hc0 hf0 hz0
    obtain ⟨hc0, hf0⟩ := G1.out.b0.all
    unfold dcs at hc0
    have hz0 := G1.out.b0.lt
    go_wp2_with fail
    refine (HS2.out _ G1.out.rd).mono ?_
    rintro e w2 ⟨rfl, hr, hs⟩
    have G2 := Hd (G1.out.call hr hs)
    clear hr hs hc0 hf0 hz0
    go_wp2_with fail
    refine (HA.out _ 2 (by omega) _ G2.out.rd).mono ?_
    rintro e w3 ⟨rfl, hr, hs⟩
    have G3 := Hd (G2.out.call hr hs)
    clear hr hs
    obtain ⟨hc0, hf0⟩ := G3.out.b0.all
    unfold dcs at hc0
    have hz0 := G3.out.b0.lt
    go_wp2
    go_end0
    exact ⟨rfl, G3.out.set0 hXl 8 _ _ rfl⟩
   ·have q0 : ((p : Int) == 0) = false := by simp; omega
    clear hp
    go_enter Tryz.func177, Tryz.ntmps177
    go_wp2_with fail
    refine (HS2.out _ HF.out.rd).mono ?_
    rintro e w2 ⟨rfl, hr, hs⟩
    have G2 := Hd (HF.out.call hr hs)
    clear hr hs hc0 hf0 hz0
    go_wp2_with fail
    refine (HA.out _ 2 (by omega) _ G2.out.rd).mono ?_
    rintro e w3 ⟨rfl, hr, hs⟩
    have G3 := Hd (G2.out.call hr hs)
    clear hr hs
    obtain ⟨hc0, hf0⟩ := G3.out.b0.all
    unfold dcs at hc0
    have hz0 := G3.out.b0.lt
    go_wp2
    go_end0
    exact ⟨rfl, G3.out.set0 hXl 8 _ _ rfl⟩
  ·have hD : dir ts p u s = (p, u, stop s) := by unfold dir; rw [if_neg hp, if_neg hu]
   rw [hD]
   clear hD F
   by_cases hp0 : p = 0
   ·have h1 : hasT ts s [112, 105, 112, 101, 108, 105, 110, 101] = false := by
     cases h : hasT ts s [112, 105, 112, 101, 108, 105, 110, 101] with
     | true => exact absurd ⟨hp0, h⟩ hp
     | false => rfl
    rw [h1] at HS1
    subst hp0
    clear h1 hp
    by_cases hu0 : u = 0
    ·have h2 : hasT ts s [117, 110, 114, 111, 108, 108] = false := by
      cases h : hasT ts s [117, 110, 114, 111, 108, 108] with
      | true => exact absurd ⟨hu0, h⟩ hu
      | false => rfl
     rw [h2] at HS2
     subst hu0
     clear h2 hu
     go_enter Tryz.func177, Tryz.ntmps177
     go_wp2_with fail
     refine (HS1.out _ HF.out.rd).mono ?_
     rintro e w1 ⟨rfl, hr, hs⟩
     have G1 := Hd (HF.out.call hr hs)
     clear hr hs hc0 hf0 hz0
     obtain ⟨hc0, hf0⟩ := G1.out.b0.all
     unfold dcs at hc0
     have hz0 := G1.out.b0.lt
     go_wp2_with fail
     refine (HS2.out _ G1.out.rd).mono ?_
     rintro e w2 ⟨rfl, hr, hs⟩
     have G2 := Hd (G1.out.call hr hs)
     clear hr hs hc0 hf0 hz0
     go_wp2_with fail
     refine (HFA.out _ G2.out.rd).mono ?_
     rintro e w3 ⟨rfl, hr, hs⟩
     have G3 := Hd (G2.out.call hr hs)
     clear hr hs
     go_wp2
     go_end0
     exact ⟨rfl, G3.out⟩
    ·have q0 : ((u : Int) == 0) = false := by simp; omega
     clear hu
     go_enter Tryz.func177, Tryz.ntmps177
     go_wp2_with fail
     refine (HS1.out _ HF.out.rd).mono ?_
     rintro e w1 ⟨rfl, hr, hs⟩
     have G1 := Hd (HF.out.call hr hs)
     clear hr hs hc0 hf0 hz0
     obtain ⟨hc0, hf0⟩ := G1.out.b0.all
     unfold dcs at hc0
     have hz0 := G1.out.b0.lt
     go_wp2_with fail
     refine (HFA.out _ G1.out.rd).mono ?_
     rintro e w3 ⟨rfl, hr, hs⟩
     have G3 := Hd (G1.out.call hr hs)
     clear hr hs
     go_wp2
     go_end0
     exact ⟨rfl, G3.out⟩
   ·have q0 : ((p : Int) == 0) = false := by simp; omega
    clear hp
    by_cases hu0 : u = 0
    ·have h2 : hasT ts s [117, 110, 114, 111, 108, 108] = false := by
      cases h : hasT ts s [117, 110, 114, 111, 108, 108] with
      | true => exact absurd ⟨hu0, h⟩ hu
      | false => rfl
     rw [h2] at HS2
     subst hu0
     clear h2 hu
     go_enter Tryz.func177, Tryz.ntmps177
     go_wp2_with fail
     refine (HS2.out _ HF.out.rd).mono ?_
     rintro e w2 ⟨rfl, hr, hs⟩
     have G2 := Hd (HF.out.call hr hs)
     clear hr hs hc0 hf0 hz0
     go_wp2_with fail
     refine (HFA.out _ G2.out.rd).mono ?_
     rintro e w3 ⟨rfl, hr, hs⟩
     have G3 := Hd (G2.out.call hr hs)
     clear hr hs
     go_wp2
     go_end0
     exact ⟨rfl, G3.out⟩
    ·have q1 : ((u : Int) == 0) = false := by simp; omega
     clear hu
     go_enter Tryz.func177, Tryz.ntmps177
     go_wp2_with fail
     refine (HFA.out _ HF.out.rd).mono ?_
     rintro e w3 ⟨rfl, hr, hs⟩
     have G3 := Hd (HF.out.call hr hs)
     clear hr hs
     go_wp2
     go_end0
     exact ⟨rfl, G3.out⟩
end Go.Proofs.YtkliclihpobmiaaGreatDoor
/- Directives and loops: plain mathematics. -/
namespace Go.Proofs.YtkliclihpobmiaaGreatDoor
open Go Go.RowKit
set_option linter.unusedVariables false

def dz (p u : Nat) : Nat := (if p = 0 then 1 else 0) + (if u = 0 then 1 else 0)
theorem amS_bad {ts : List Tok} {s : Sg} {k : Nat} (hk : 0 < k) : (amS ts s k).bad = true ∨ amV ts s k ≠ 0 := by
 unfold amS amV
 split
 ·unfold nuS nuV
  split
  ·rename_i h
   unfold okN at h
   simp at h
   right
   omega
  ·left
   rfl
 ·right
  omega
theorem dir_fuel {ts : List Tok} {p u f : Nat} {s : Sg} (h : p = 0 ∨ u = 0) (hf : dz p u + 1 ≤ f + 1) : (dir ts p u s).2.2.bad = true ∨ dz (dir ts p u s).1 (dir ts p u s).2.1 + 1 ≤ f := by
 unfold dir
 split
 ·rename_i h1
  rcases amS_bad (ts := ts) (s := adv s) (k := 1) (by omega) with hb | hb
  ·exact .inl hb
  ·right
   show dz (amV ts (adv s) 1) u + 1 ≤ f
   unfold dz at hf ⊢
   rw [if_neg hb]
   rw [if_pos h1.1] at hf
   omega
 ·split
  ·rename_i h1
   rcases amS_bad (ts := ts) (s := adv s) (k := 2) (by omega) with hb | hb
   ·exact .inl hb
   ·right
    show dz p (amV ts (adv s) 2) + 1 ≤ f
    unfold dz at hf ⊢
    rw [if_neg hb]
    rw [if_pos h1.1] at hf
    omega
  ·exact .inl rfl
theorem hasT_badL {ts : List Tok} {s : Sg} {c : UInt8} {t : List UInt8} (h : s.bad = true) : hasT ts s (c :: t) = false := by
 cases h2 : hasT ts s (c :: t) with
 | true => have := (hasT_in h2).1; rw [h] at this; cases this
 | false => rfl
theorem dirs_end {ts : List Tok} {f p u : Nat} {s : Sg} (h : ¬ ((p = 0 ∨ u = 0) ∧ hasT ts s [35] = true)) : dirs ts f p u s = (p, u, s) := by
 cases f with
 | zero => rfl
 | succ f => rw [dirs, if_neg h]
theorem dirs_next {ts : List Tok} {f p u : Nat} {s : Sg} (h : (p = 0 ∨ u = 0) ∧ hasT ts s [35] = true) : dirs ts (f + 1) p u s = dirs ts f (dir ts p u (adv s)).1 (dir ts p u (adv s)).2.1 (dir ts p u (adv s)).2.2 := by rw [dirs, if_pos h]
structure DrSt (w wr : World) (R g c : Nat) (ts : List Tok) (L3 L2 : Nat) (line : Int) (Z : Nat × Nat × Sg) (f p u : Nat) (st : Sg) : Prop where
 F : Fr w wr R g c ts st [(L3, dcs line p u), (L2, ncz)] []
 eq : Z = dirs ts f p u st
 fu : st.bad = true ∨ dz p u + 1 ≤ f
@[irreducible] def lpD (ts : List Tok) (s : Sg) : Nat × Nat × Sg := dirs ts 3 0 0 s
theorem lp_adv_for {ts : List Tok} {s : Sg} (h : (hasT ts s [35] || hasT ts s [102, 111, 114] || hasT ts s [119, 104, 105, 108, 101]) = true) (hf : hasT ts (lpD ts s).2.2 [102, 111, 114] = true) : (s.bad = false ∧ s.i < ts.length) ∧ On ts (adv s) (adv (lpD ts s).2.2) := by
 unfold lpD at hf ⊢
 cases h1 : hasT ts s [35] with
 | true =>
  refine ⟨hasT_in h1, ?_⟩
  rw [dirs_next ⟨.inl rfl, h1⟩] at hf ⊢
  exact (dir_on _ _ _ _).trans ((dirs_on _ _ _ _ _).trans (adv_on (hasT_in hf)))
 | false =>
  rw [dirs_end (by rw [h1]; simp)] at hf ⊢
  exact ⟨hasT_in hf, On.refl _ _⟩
theorem lp_adv_while {ts : List Tok} {s : Sg} (h : (hasT ts s [35] || hasT ts s [102, 111, 114] || hasT ts s [119, 104, 105, 108, 101]) = true) (hf : hasT ts (lpD ts s).2.2 [102, 111, 114] = false) : (s.bad = false ∧ s.i < ts.length) ∧ On ts (adv s) (exc ts (lpD ts s).2.2 [119, 104, 105, 108, 101]) := by
 unfold lpD at hf ⊢
 cases h1 : hasT ts s [35] with
 | true =>
  refine ⟨hasT_in h1, ?_⟩
  rw [dirs_next ⟨.inl rfl, h1⟩] at hf ⊢
  exact (dir_on _ _ _ _).trans ((dirs_on _ _ _ _ _).trans exc_on)
 | false =>
  rw [dirs_end (by rw [h1]; simp)] at hf ⊢
  simp only at hf ⊢
  rw [h1, hf] at h
  have h2 : hasT ts s [119, 104, 105, 108, 101] = true := by simpa using h
  refine ⟨hasT_in h2, ?_⟩
  unfold exc
  rw [if_pos h2]
  exact On.refl _ _
theorem S_lp_while {ts : List Tok} {f : Nat} {s : Sg} (h : hasT ts (lpD ts s).2.2 [102, 111, 114] = false) : one (S ts (f + 1) .lp s) =
  (.node { labK 15 (ln ts s) with pip := (lpD ts s).1, unr := (lpD ts s).2.1 } [(xpr ts (exc ts (lpD ts s).2.2 [119, 104, 105, 108, 101])).1, (one (S ts f .bk (xpr ts (exc ts (lpD ts s).2.2 [119, 104, 105, 108, 101])).2)).1], (one (S ts f .bk (xpr ts (exc ts (lpD ts s).2.2 [119, 104, 105, 108, 101])).2)).2) := by
 have h1 := S_one f .bk (xpr ts (exc ts (lpD ts s).2.2 [119, 104, 105, 108, 101])).2 (ts := ts) (by simp)
 unfold lpD at h h1 ⊢
 rw [one, S]
 dsimp only
 rw [if_neg (by rw [h]; simp), h1]
 rfl
@[irreducible] def fo2 (ts : List Tok) (s : Sg) : Sg := exc ts (nmS ts (adv (lpD ts s).2.2)) [58]
@[irreducible] def fo3 (ts : List Tok) (s : Sg) : Sg := exc ts (tyS ts (fo2 ts s)) [105, 110]
@[irreducible] def fo4 (ts : List Tok) (s : Sg) : Sg := exc ts (xpr ts (fo3 ts s)).2 [46, 46]
theorem fo2_eq (ts : List Tok) (s : Sg) : fo2 ts s = exc ts (nmS ts (adv (lpD ts s).2.2)) [58] := by unfold fo2; rfl
theorem fo3_eq (ts : List Tok) (s : Sg) : fo3 ts s = exc ts (tyS ts (fo2 ts s)) [105, 110] := by unfold fo3; rfl
theorem fo4_eq (ts : List Tok) (s : Sg) : fo4 ts s = exc ts (xpr ts (fo3 ts s)).2 [46, 46] := by unfold fo4; rfl
theorem fo_on (ts : List Tok) (s : Sg) : On ts (adv (lpD ts s).2.2) (xpr ts (fo4 ts s)).2 := by
 rw [fo4_eq, fo3_eq, fo2_eq]
 exact (nmS_on _ _).trans (exc_on.trans ((tyS_on _ _).trans (exc_on.trans ((xpr_on _ _).trans (exc_on.trans (xpr_on _ _))))))
theorem S_lp_for {ts : List Tok} {f : Nat} {s : Sg} (h : hasT ts (lpD ts s).2.2 [102, 111, 114] = true) : one (S ts (f + 1) .lp s) =
  (.node { labK 14 (ln ts s) with name := nmV ts (adv (lpD ts s).2.2), wd := (tyV' ts (fo2 ts s)).1, sg := (tyV' ts (fo2 ts s)).2, pip := (lpD ts s).1, unr := (lpD ts s).2.1 } [(xpr ts (fo3 ts s)).1, (xpr ts (fo4 ts s)).1, (one (S ts f .bk (xpr ts (fo4 ts s)).2)).1], (one (S ts f .bk (xpr ts (fo4 ts s)).2)).2) := by
 have h1 := S_one f .bk (xpr ts (fo4 ts s)).2 (ts := ts) (by simp)
 unfold fo4 fo3 fo2 lpD at h1 ⊢
 unfold lpD at h
 rw [one, S]
 dsimp only
 rw [if_pos h, h1]
 rfl
end Go.Proofs.YtkliclihpobmiaaGreatDoor
/- Zero nodes are appended to an owned list and filled afterwards. -/
namespace Go.Proofs.YtkliclihpobmiaaGreatDoor
open Go Go.RowKit
set_option linter.unusedVariables false

theorem own_set {w : World} {base : Nat} {e : TypeId} {size n g cap : Nat} {xs : List Value} (h : w.ownsRow base e size (.slice (some ⟨g, 0, none⟩) n cap) n xs) (i : Nat) (hi : i < n * size) (u : Value) :
  (w.setCell ⟨g, i, none⟩ u).ownsRow base e size (.slice (some ⟨g, 0, none⟩) n cap) n (xs.set i u) := by
 refine ⟨by rw [List.length_set]; exact h.1, ?_⟩
 rcases h.2 with ⟨hv, _⟩ | ⟨g2, cap2, cur, hv, hb, hh, hc, hm, hs, ht⟩
 ·cases hv
 ·injection hv with h1 h2 h3
  injection h1 with h1
  injection h1 with h1
  subst h1 h3
  have hcs : i < cur.size := by
   have := congrArg List.length ht
   rw [List.length_take, h.1] at this
   simp at this
   omega
  refine .inr ⟨g, cap, cur.set i u hcs, rfl, hb, ?_, hc, hm, by simpa using hs, ?_⟩
  ·have := heap_setCell_same w g i cur e u hh
   rw [this]
   simp [Array.setIfInBounds, hcs]
  ·rw [← ht, Array.toList_set, List.take_set]
theorem own_put {base : Nat} {e : TypeId} {size n g cap : Nat} : ∀ (vs : List Value) {w : World} {xs : List Value} (i : Nat), w.ownsRow base e size (.slice (some ⟨g, 0, none⟩) n cap) n xs → i + vs.length ≤ n * size →
  (putAt w g i vs).ownsRow base e size (.slice (some ⟨g, 0, none⟩) n cap) n (xs.take i ++ vs ++ xs.drop (i + vs.length)) := by
 intro vs
 induction vs with
 | nil =>
  intro w xs i h _
  rw [putAt]
  simpa using h
 | cons v vs ih =>
  intro w xs i h hi
  rw [List.length_cons] at hi
  have h1 := ih (i + 1) (own_set h i (by omega) v) (by omega)
  have hx := h.1
  rw [putAt]
  have e : (xs.set i v).take (i + 1) ++ vs ++ (xs.set i v).drop (i + 1 + vs.length) = xs.take i ++ (v :: vs) ++ xs.drop (i + (v :: vs).length) := by
   have e1 : (xs.set i v).take (i + 1) = xs.take i ++ [v] := by
    rw [List.take_succ_eq_append_getElem (by rw [List.length_set]; omega), List.getElem_set_self, List.take_set]
    congr 1
    rw [List.set_eq_of_length_le]
    rw [List.length_take]; omega
   have e2 : (xs.set i v).drop (i + 1 + vs.length) = xs.drop (i + (v :: vs).length) := by
    rw [List.drop_set_of_lt (by omega)]
    congr 1
    rw [List.length_cons]; omega
   rw [e1, e2]
   simp
  rw [e] at h1
  exact h1
theorem flat_put {C : Nat → List Value} {n p : Nat} {cs : List Value} (hC : ∀ i, i < n → (C i).length = 11) (hp : p < n) (hcs : cs.length = 11) :
  (flat C n).take (p * 11) ++ cs ++ (flat C n).drop (p * 11 + cs.length) = flat (fun i => if i = p then cs else C i) n := by
 have hD : ∀ i, i < n → ((fun i => if i = p then cs else C i) i).length = 11 := fun i hi => by
  by_cases h : i = p
  ·simp [h, hcs]
  ·simp [h, hC i hi]
 have hl := flat_length n hC
 have hl2 := flat_length n hD
 have hle : p * 11 + 11 ≤ n * 11 := by omega
 refine List.ext_getElem? fun q => ?_
 by_cases hq : q < n * 11
 ·obtain ⟨i, j, rfl, hj, hi⟩ : ∃ i j, q = i * 11 + j ∧ j < 11 ∧ i < n := ⟨q / 11, q % 11, by omega, by omega, by omega⟩
  rw [flat_get n hD i j hi hj]
  have htk : ((flat C n).take (p * 11)).length = p * 11 := by rw [List.length_take]; omega
  by_cases h1 : i < p
  ·rw [List.append_assoc, List.getElem?_append_left (by omega), List.getElem?_take_of_lt (by omega), flat_get n hC i j hi hj]
   simp [show ¬ i = p by omega]
  ·by_cases h2 : i = p
   ·subst h2
    rw [List.append_assoc, List.getElem?_append_right (by omega), htk, List.getElem?_append_left (by omega)]
    simp
   ·rw [List.getElem?_append_right (by rw [List.length_append]; omega), List.length_append, htk, hcs, List.getElem?_drop]
    rw [show p * 11 + 11 + (i * 11 + j - (p * 11 + 11)) = i * 11 + j by omega, flat_get n hC i j hi hj]
    simp [h2]
 ·rw [List.getElem?_eq_none (by simp only [List.length_append, List.length_take, List.length_drop]; omega), List.getElem?_eq_none (by omega)]
theorem kids_put {w : World} {base g cap p : Nat} {ks : List Tree} {cs : List Value} {t : Tree} (h : Kids w base (.slice (some ⟨g, 0, none⟩) ks.length cap) ks) (hp : p < ks.length) (ht : TreeAt w (fun k => base ≤ k ∧ k ≠ g) cs t) :
  Kids (putAt w g (p * 11) cs) base (.slice (some ⟨g, 0, none⟩) ks.length cap) (ks.set p t) := by
 obtain ⟨C, h1, h2⟩ := h
 have hC : ∀ i, i < ks.length → (C i).length = 11 := fun i hi => (h2 i hi).length
 have hl := ht.length
 have ho := own_put cs (p * 11) h1 (by rw [hl]; omega)
 rw [flat_put hC hp hl] at ho
 refine ⟨fun i => if i = p then cs else C i, by rw [List.length_set]; exact ho, fun i hi => ?_⟩
 rw [List.length_set] at hi
 by_cases hip : i = p
 ·subst hip
  simp only [if_pos, List.getElem_set_self]
  exact ht.keep (fun k hk _ => put_other hk.2 _ _ _) fun k hk _ => ⟨hk.1, fun e => by injection e with e; exact hk.2 e⟩
 ·simp only [if_neg hip]
  rw [List.getElem_set_ne (fun e => hip e.symm)]
  exact (h2 i hi).keep (fun k hk _ => put_other (fun e => hk.2 (by rw [e]; rfl)) _ _ _) fun k hk _ => hk
structure FZ (w0 w : World) (R g c : Nat) (ts : List Tok) (s : Sg) (Ls : List (Nat × List Value)) (base : Nat) (v : Value) (ks : List Tree) (Us : List (List Value × Tree)) (lo : Nat) : Prop where
 fk : FK w0 w R g c ts s Ls base v ks
 own : ∀ k, v.ownBlock = some k → k < lo
 tr : ∀ cs t, (cs, t) ∈ Us → TreeAt w (fun k => lo ≤ k ∧ some k ≠ v.ownBlock) cs t
 lo1 : base ≤ lo
 lo2 : lo ≤ w.heap.size
section
variable {w0 w : World} {R g c : Nat} {ts : List Tok} {s : Sg} {Ls : List (Nat × List Value)} {base : Nat} {v : Value} {ks : List Tree} {Us : List (List Value × Tree)} {lo : Nat}
theorem FK.fz (F : FK w0 w R g c ts s Ls base v ks) : FZ w0 w R g c ts s Ls base v ks [] w.heap.size := by
 obtain ⟨xs, h1⟩ := F.kd.own
 exact ⟨F, fun k hk => (h1.lt k hk).2, fun cs t h => by simp at h, F.hw, Nat.le_refl _⟩
theorem FZ.quiet (Z : FZ w0 w R g c ts s Ls base v ks Us lo) (hg : g < R) {w' : World} (hb : Below w.heap.size w w') : FZ w0 w' R g c ts s Ls base v ks Us lo :=
 ⟨Z.fk.quiet hg hb, Z.own, fun cs t h => (Z.tr cs t h).keep (fun k _ hl => hb.block k hl) fun k hk _ => hk, Z.lo1, Nat.le_trans Z.lo2 hb.size⟩
theorem FZ.alloc (Z : FZ w0 w R g c ts s Ls base v ks Us lo) (hg : g < R) (o : Obj) : FZ w0 (w.alloc o) R g c ts s Ls base v ks Us lo := Z.quiet hg ((Below.refl w.heap.size w).alloc (Nat.le_refl _) o)
theorem FZ.drew (Z : FZ w0 w R g c ts s Ls base v ks Us lo) : FZ w0 w.drew R g c ts s Ls base v ks Us lo :=
 ⟨Z.fk.drew, Z.own, fun cs t h => (Z.tr cs t h).keep (fun k _ _ => rfl) fun k hk _ => hk, Z.lo1, Z.lo2⟩
theorem FZ.callT (Z : FZ w0 w R g c ts s Ls base v ks Us lo) {w' : World} {s' : Sg} {cs : List Value} {t : Tree} (ht : TreeAt w' (w.heap.size ≤ ·) cs t) (hr : Rd w' R g c ts s') (hs : St w w' R) : FZ w0 w' R g c ts s' Ls base v ks ((cs, t) :: Us) lo := by
 refine ⟨Z.fk.call hr hs, Z.own, fun ds u h => ?_, Z.lo1, Nat.le_trans Z.lo2 (St.size hs)⟩
 rcases List.mem_cons.1 h with h | h
 ·injection h with h1 h2
  subst h1 h2
  refine ht.mono fun k hk _ => ⟨Nat.le_trans Z.lo2 hk, fun e => ?_⟩
  have := Z.own k e.symm
  have := Z.lo2
  omega
 ·refine (Z.tr ds u h).keep (fun k hk hl => World.grownBy.block hs k hl (fun e => ?_)) fun k hk _ => hk
  injection e with e
  have := Z.fk.hR
  have := Z.lo1
  omega
theorem flat_add (C : Nat → List Value) (n m : Nat) (cs : List Value) : flat C n ++ flat (fun _ => cs) m = flat (fun i => if i < n then C i else cs) (n + m) := by
 have h1 : flat C n = flat (fun i => if i < n then C i else cs) n := flat_congr fun i hi => by simp [hi]
 have h2 : flat (fun _ => cs) m = ((List.range m).map (n + ·)).flatMap (fun i => if i < n then C i else cs) := by
  unfold flat
  rw [List.flatMap_map]
  congr 1
  funext i
  rw [if_neg (by omega)]
 rw [h1, h2]
 unfold flat
 rw [← List.flatMap_append, ← List.range_add]
theorem kids_zero {w' : World} {C : Nat → List Value} {g c m : Nat} (k1 : w.ownsRow base 28 11 v ks.length (flat C ks.length)) (k2 : ∀ i (h : i < ks.length), TreeAt w (fun g => base ≤ g ∧ some g ≠ v.ownBlock) (C i) ks[i])
  (hg : w.grownBy w' v.ownBlock) (hl : v.ownBlock = some g ∨ w.heap.size ≤ g)
  (ho : w'.ownsRow base 28 11 (.slice (some ⟨g, 0, none⟩) (ks.length + m) c) (ks.length + m) (flat C ks.length ++ flat (fun _ => ncz) m)) : Kids w' base (.slice (some ⟨g, 0, none⟩) (ks.length + m) c) (ks ++ List.replicate m tree0) := by
 rw [flat_add] at ho
 refine ⟨fun i => if i < ks.length then C i else ncz, by rw [List.length_append, List.length_replicate]; exact ho, fun i hi => ?_⟩
 rw [List.length_append, List.length_replicate] at hi
 by_cases h : i < ks.length
 ·simp only [if_pos h]
  rw [List.getElem_append_left h]
  refine (k2 i h).keep (fun k hk hlt => hg.block k hlt hk.2) fun k hk hlt => ⟨hk.1, fun e => ?_⟩
  rcases hl with hl | hl
  ·exact hk.2 (by rw [hl]; exact e)
  ·injection e with e
   have e2 : _ = g := e
   omega
 ·simp only [if_neg h]
  rw [List.getElem_append_right (by omega), List.getElem_replicate]
  exact .nil _ lab0
theorem fz_append {P : Program} {ops : Array Oper} {o : Oper} {a : Act} {K : Act → World → Prop} {Q : Exit → Act → World → Prop} {E : Prop} {m b0 : Nat} {zs : List Value} (Z : FZ w0 w R g c ts s Ls base v ks Us lo) (hg : g < R) (hgd : o.guard = none) (sl x : Operand) (ty : TypeId)
  (ho : o.op = .call { callee := .builtin .append, args := #[sl, x], argTypes := #[ty, ty] }) (hty : P.underlying ty = some (.slice 28))
  (hinfo : (P.info? 28).map (fun i => (i.zero, i.size, i.bytes)) = some (some (.agg #[.int .i64 0, .string ⟨#[]⟩, .int .u64 0, .int .i64 0, .bool false, .int .i64 0, .int .i64 0, .int .i64 0, .int .i64 0, .int .i64 0, .slice none 0 0]), 11, 112))
  (hs : a.eval sl = v) (hx : a.eval x = .slice (some ⟨b0, 0, none⟩) m m) (hb0 : Blk w b0 28 zs) (hzs : zs = flat (fun _ => ncz) m) (hm : 0 < m) (hfew : ks.length + m ≤ 100000)
  (h : ∀ (g3 c3 : Nat) (w' : World), FK w0 w' R g c ts s Ls base (.slice (some ⟨g3, 0, none⟩) (ks.length + m) c3) (ks ++ List.replicate m tree0) → (∀ cs t, (cs, t) ∈ Us → TreeAt w' (fun k => base ≤ k ∧ k ≠ g3) cs t) →
   K (a.put o.dst (.slice (some ⟨g3, 0, none⟩) (ks.length + m) c3)) w') :
  if Region.wanted o (yielded ops a.tmps) = true then Oper.wp P o a w K Q else E := by
 obtain ⟨C, o1, o2⟩ := Z.fk.kd
 have hR := Z.fk.hR
 have hw := Z.fk.hw
 have hzl : zs.length = m * 11 := by rw [hzs]; exact flat_length m fun _ _ => rfl
 obtain ⟨i0, hi0, hz0, hz1, hz2⟩ := info_parts hinfo
 refine step_append_lies (w := w) hgd sl x ty ho base 28 i0 _ 11 112 hty hi0 hz0 hz1 hz2 (by rfl) (by decide) v ks.length (flat C ks.length) hs o1 ⟨b0, 0, none⟩ m m zs hx hzl
  (World.news_of_block (cs := zs.toArray) (t := 28) (fr := (0, 0)) hb0) ?_ hm (by unfold maxLen; omega) (by omega) hw w.heap.size rfl ?_
 ·intro z hz
  rw [hzs] at hz
  unfold flat at hz
  rw [List.mem_flatMap] at hz
  obtain ⟨_, _, hz⟩ := hz
  unfold ncz at hz
  simp at hz
  rcases hz with rfl | rfl | rfl | rfl | rfl | rfl | rfl | rfl | rfl | rfl | rfl <;> rfl
 ·intro g3 c3 w6 ho3 hg3 hat3 hlt3
  have hgo : ∀ k, v.ownBlock = some k → base ≤ k ∧ k < w.heap.size := fun k hk => o1.lt k hk
  have hst6 : St w0 w6 R := St.own Z.fk.fr.st hg3 fun k hk => by have := (hgo k hk).1; have := Z.fk.hw0; omega
  have hat' : v.ownBlock = some g3 ∨ w.heap.size ≤ g3 := by rcases hat3 with h | h; exact .inl h; exact .inr (by omega)
  rw [hzs] at ho3
  refine h g3 c3 w6 ⟨⟨Z.fk.fr.rd.own hg hg3 fun k hk => by have := (hgo k hk).1; omega, hst6, fun L xs hL => ?_, fun xs u hu => by simp at hu, Z.fk.fr.hR, Z.fk.fr.nd⟩, kids_zero o1 o2 hg3 hat' ho3, Z.fk.hb, ?_, Z.fk.hw0, by rw [List.length_append, List.length_replicate]; exact hfew⟩ fun cs t hu => ?_
  ·have h1 := Z.fk.fr.bl L xs hL
   refine ⟨(hg3.block L h1.1.lt (fun e => ?_)).trans h1.1, h1.2⟩
   have := (hgo L e.symm).1
   have := Z.fk.hb L xs hL
   omega
  ·exact Nat.le_trans hw hg3.size
  ·refine (Z.tr cs t hu).keep (fun k hk hlt => hg3.block k hlt hk.2) fun k hk hlt => ⟨Nat.le_trans Z.lo1 hk.1, fun e => ?_⟩
   subst e
   rcases hat' with h | h
   ·exact hk.2 h.symm
   ·omega
theorem FK.fill {g3 c3 p : Nat} {cs : List Value} {t : Tree} (F : FK w0 w R g c ts s Ls base (.slice (some ⟨g3, 0, none⟩) ks.length c3) ks) (hg : g < R) (hp : p < ks.length) (ht : TreeAt w (fun k => base ≤ k ∧ k ≠ g3) cs t) :
  FK w0 (putAt w g3 (p * 11) cs) R g c ts s Ls base (.slice (some ⟨g3, 0, none⟩) ks.length c3) (ks.set p t) := by
 obtain ⟨xs, h1⟩ := F.kd.own
 have hb3 : base ≤ g3 ∧ g3 < w.heap.size := h1.lt g3 rfl
 have hR := F.hR
 refine ⟨⟨F.fr.rd.of_blocks (put_other (by omega) _ _ _) (fun k hk => put_other (by omega) _ _ _) (by rw [put_size]; exact Nat.le_refl _), put_st (by have := F.hw0; omega) _ _ _ F.fr.st, fun L xs hL => ?_, fun xs u hu => by simp at hu, F.fr.hR, F.fr.nd⟩,
  kids_put F.kd hp ht, F.hb, by rw [put_size]; exact F.hw, F.hw0, by rw [List.length_set]; exact F.few⟩
 have h2 := F.fr.bl L xs hL
 have := F.hb L xs hL
 exact ⟨(put_other (by omega) _ _ _).trans h2.1, h2.2⟩
theorem tree_put {g3 o : Nat} {cs ds : List Value} {t : Tree} (h : TreeAt w (fun k => base ≤ k ∧ k ≠ g3) cs t) : TreeAt (putAt w g3 o ds) (fun k => base ≤ k ∧ k ≠ g3) cs t := h.keep (fun k hk _ => put_other hk.2 _ _ _) fun k hk _ => hk
theorem FK.cellp {g3 c3 p : Nat} (F : FK w0 w R g c ts s Ls base (.slice (some ⟨g3, 0, none⟩) ks.length c3) ks) (hp : p < ks.length) : g3 < w.heap.size ∧ (∀ j, j < 11 → ∃ u, w.cell? ⟨g3, p * 11 + j, none⟩ = some u) ∧ ∀ i, w.frozen? ⟨g3, i, none⟩ = false := by
 obtain ⟨C, h1, h2⟩ := F.kd
 have hC : ∀ i, i < ks.length → (C i).length = 11 := fun i hi => (h2 i hi).length
 refine ⟨(h1.lt g3 rfl).2, fun j hj => ?_, fun i => ?_⟩
 ·have hl : (C p)[j]? = some ((C p)[j]'(by rw [hC p hp]; exact hj)) := List.getElem?_eq_getElem _
  exact ⟨_, by rw [h1.cellAt _ (by omega), flat_get _ hC p j hp hj]; exact hl⟩
 ·rcases h1.2 with ⟨hv, _⟩ | ⟨g2, cap2, cur, hv, hb, hh, _⟩
  ·cases hv
  ·injection hv with e1 _ _
   injection e1 with e1
   injection e1 with e1
   subst e1
   unfold World.frozen?
   rw [hh]
   simp
theorem FK.fill0 {g3 c3 : Nat} {t : Tree} {x0 x1 x2 x3 x4 x5 x6 x7 x8 x9 x10 : Value} (F : FK w0 w R g c ts s Ls base (.slice (some ⟨g3, 0, none⟩) ks.length c3) ks) (hg : g < R) (hp : 0 < ks.length) (ht : TreeAt w (fun k => base ≤ k ∧ k ≠ g3) [x0, x1, x2, x3, x4, x5, x6, x7, x8, x9, x10] t) :
  FK w0 (stor11 w g3 x0 x1 x2 x3 x4 x5 x6 x7 x8 x9 x10) R g c ts s Ls base (.slice (some ⟨g3, 0, none⟩) ks.length c3) (ks.set 0 t) := by
 have h := F.fill (p := 0) hg hp ht
 rw [show 0 * 11 = 0 from rfl, ← stor11_eq] at h
 exact h
def storN1 (w : World) (g : Nat) (x0 x1 x2 x3 x4 x5 x6 x7 x8 x9 x10 : Value) : World := (((((((((((w.setCell ⟨g, 11, none⟩ x0).setCell ⟨g, 12, none⟩ x1).setCell ⟨g, 13, none⟩ x2).setCell ⟨g, 14, none⟩ x3).setCell ⟨g, 15, none⟩ x4).setCell ⟨g, 16, none⟩ x5).setCell ⟨g, 17, none⟩ x6).setCell ⟨g, 18, none⟩ x7).setCell ⟨g, 19, none⟩ x8).setCell ⟨g, 20, none⟩ x9).setCell ⟨g, 21, none⟩ x10)
theorem storN1_eq (w : World) (g : Nat) (x0 x1 x2 x3 x4 x5 x6 x7 x8 x9 x10 : Value) : storN1 w g x0 x1 x2 x3 x4 x5 x6 x7 x8 x9 x10 = putAt w g 11 [x0, x1, x2, x3, x4, x5, x6, x7, x8, x9, x10] := rfl
theorem FK.fill1 {g3 c3 : Nat} {t : Tree} {x0 x1 x2 x3 x4 x5 x6 x7 x8 x9 x10 : Value} (F : FK w0 w R g c ts s Ls base (.slice (some ⟨g3, 0, none⟩) ks.length c3) ks) (hg : g < R) (hp : 1 < ks.length) (ht : TreeAt w (fun k => base ≤ k ∧ k ≠ g3) [x0, x1, x2, x3, x4, x5, x6, x7, x8, x9, x10] t) :
  FK w0 (storN1 w g3 x0 x1 x2 x3 x4 x5 x6 x7 x8 x9 x10) R g c ts s Ls base (.slice (some ⟨g3, 0, none⟩) ks.length c3) (ks.set 1 t) := by
 have h := F.fill (p := 1) hg hp ht
 rw [show 1 * 11 = 11 from rfl, ← storN1_eq] at h
 exact h
theorem tree_put1 {g3 : Nat} {x0 x1 x2 x3 x4 x5 x6 x7 x8 x9 x10 : Value} {cs : List Value} {t : Tree} (h : TreeAt w (fun k => base ≤ k ∧ k ≠ g3) cs t) : TreeAt (storN1 w g3 x0 x1 x2 x3 x4 x5 x6 x7 x8 x9 x10) (fun k => base ≤ k ∧ k ≠ g3) cs t := by
 have h := tree_put (o := 11) (ds := [x0, x1, x2, x3, x4, x5, x6, x7, x8, x9, x10]) h
 rw [← storN1_eq] at h
 exact h
def storN2 (w : World) (g : Nat) (x0 x1 x2 x3 x4 x5 x6 x7 x8 x9 x10 : Value) : World := (((((((((((w.setCell ⟨g, 22, none⟩ x0).setCell ⟨g, 23, none⟩ x1).setCell ⟨g, 24, none⟩ x2).setCell ⟨g, 25, none⟩ x3).setCell ⟨g, 26, none⟩ x4).setCell ⟨g, 27, none⟩ x5).setCell ⟨g, 28, none⟩ x6).setCell ⟨g, 29, none⟩ x7).setCell ⟨g, 30, none⟩ x8).setCell ⟨g, 31, none⟩ x9).setCell ⟨g, 32, none⟩ x10)
theorem storN2_eq (w : World) (g : Nat) (x0 x1 x2 x3 x4 x5 x6 x7 x8 x9 x10 : Value) : storN2 w g x0 x1 x2 x3 x4 x5 x6 x7 x8 x9 x10 = putAt w g 22 [x0, x1, x2, x3, x4, x5, x6, x7, x8, x9, x10] := rfl
theorem FK.fill2 {g3 c3 : Nat} {t : Tree} {x0 x1 x2 x3 x4 x5 x6 x7 x8 x9 x10 : Value} (F : FK w0 w R g c ts s Ls base (.slice (some ⟨g3, 0, none⟩) ks.length c3) ks) (hg : g < R) (hp : 2 < ks.length) (ht : TreeAt w (fun k => base ≤ k ∧ k ≠ g3) [x0, x1, x2, x3, x4, x5, x6, x7, x8, x9, x10] t) :
  FK w0 (storN2 w g3 x0 x1 x2 x3 x4 x5 x6 x7 x8 x9 x10) R g c ts s Ls base (.slice (some ⟨g3, 0, none⟩) ks.length c3) (ks.set 2 t) := by
 have h := F.fill (p := 2) hg hp ht
 rw [show 2 * 11 = 22 from rfl, ← storN2_eq] at h
 exact h
theorem tree_put2 {g3 : Nat} {x0 x1 x2 x3 x4 x5 x6 x7 x8 x9 x10 : Value} {cs : List Value} {t : Tree} (h : TreeAt w (fun k => base ≤ k ∧ k ≠ g3) cs t) : TreeAt (storN2 w g3 x0 x1 x2 x3 x4 x5 x6 x7 x8 x9 x10) (fun k => base ≤ k ∧ k ≠ g3) cs t := by
 have h := tree_put (o := 22) (ds := [x0, x1, x2, x3, x4, x5, x6, x7, x8, x9, x10]) h
 rw [← storN2_eq] at h
 exact h
end
end Go.Proofs.YtkliclihpobmiaaGreatDoor
