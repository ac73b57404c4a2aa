/- All rules of expressions of the reference: the contract of expr; what the rules of statements do with fuel. -/
import Derived.Test.YtkliclihpobmiaaGreatDoorMgPqBi
import Derived.Test.YtkliclihpobmiaaGreatDoorMgPqPm
import Derived.Test.YtkliclihpobmiaaGreatDoorMgPqT
import Derived.Test.YtkliclihpobmiaaGreatDoorMgPsSc
import Derived.Deep.RegionWith
namespace Go.Proofs.YtkliclihpobmiaaGreatDoor
namespace Q
open Go Go.RowKit
set_option linter.unusedVariables false
set_option linter.unusedSimpArgs false

theorem ec_all {ts : List Tok} {R g c : Nat} (X : QC ts R g c) : ∀ f f1, f1 ≤ f → EC ts R g c f1 := by
 intro f
 induction f with
 | zero =>
  intro f1 h1
  obtain rfl : f1 = 0 := by omega
  exact ⟨fun s w _ h => by omega, fun l s w hl _ h => by omega, fun s w _ h => by omega, fun s w _ h => by omega, fun s w _ h => by omega⟩
 | succ f ih =>
  intro f1 h1
  by_cases hle : f1 ≤ f
  ·exact ih f1 hle
  ·obtain rfl : f1 = f + 1 := by omega
   exact ⟨fun s w hR h => expr_step X f ih s w hR h, fun l s w hl hR h => binary_step X f ih l hl s w hR h, fun s w hR h => cast_step X f ih s w hR h, fun s w hR h => unary_step X f ih s w hR h, fun s w hR h => primary_step X f ih s w hR h⟩
theorem xpr_any {ts : List Tok} {R g c : Nat} (X : QC ts R g c) (s : Sg) (w : World) (hR : Rd w R g c ts s) : Calls Tryz.prog 161 #[.pointer (some ⟨R, 0, none⟩)] w (TP w R g c ts (xprQ ts s)) := by
 have h := (ec_all X (big ts) (big ts) (Nat.le_refl _)).ex s w hR (by have := rem_le (ts := ts) (s := s); unfold big; omega)
 unfold xprQ
 exact h
theorem xprQ_on (ts : List Tok) (s : Sg) : On ts s (xprQ ts s).2 := by rw [xprQ_st]; exact xpr_on ts s
structure SC (ts : List Tok) (R g c f : Nat) : Prop where
 bk : ∀ s w, Rd w R g c ts s → 8 * rem ts s + 6 ≤ f → Calls Tryz.prog 110 #[.pointer (some ⟨R, 0, none⟩)] w (TP w R g c ts (one (SQ ts f .bk s)))
 st : ∀ s w, Rd w R g c ts s → 8 * rem ts s + 4 ≤ f → Calls Tryz.prog 138 #[.pointer (some ⟨R, 0, none⟩)] w (TP w R g c ts (one (SQ ts f .st s)))
 br : ∀ s w, hasT ts s [105, 102] = true → Rd w R g c ts s → 8 * rem ts s + 3 ≤ f → Calls Tryz.prog 162 #[.pointer (some ⟨R, 0, none⟩)] w (TP w R g c ts (one (SQ ts f .br s)))
 lp : ∀ s w, (hasT ts s [35] || hasT ts s [102, 111, 114] || hasT ts s [119, 104, 105, 108, 101]) = true → Rd w R g c ts s → 8 * rem ts s + 3 ≤ f → Calls Tryz.prog 163 #[.pointer (some ⟨R, 0, none⟩)] w (TP w R g c ts (one (SQ ts f .lp s)))
theorem SQ_one {ts : List Tok} : ∀ f n s, (∀ acc, n ≠ .bs acc) → (SQ ts f n s).1 = [(one (SQ ts f n s)).1] := by
 intro f
 induction f with
 | zero => intro n s hn; cases n <;> first | exact absurd rfl (hn _) | rfl
 | succ f ih =>
  intro n s hn
  cases n with
  | bs acc => exact absurd rfl (hn acc)
  | bk => rw [SQ]; rfl
  | st =>
   rw [SQ]
   split
   ·rfl
   split
   ·rfl
   split
   ·rfl
   split
   ·exact ih .br s (by simp)
   split
   ·exact ih .lp s (by simp)
   split
   ·rfl
   split
   ·rfl
   ·rfl
  | br =>
   rw [SQ]
   split
   ·split <;> rfl
   ·rfl
  | lp =>
   rw [SQ]
   simp only
   split
   ·rfl
   ·split <;> rfl
def mW (w : World) (R N : Nat) : Nat := match w.cell? ⟨R, 2, none⟩ with
 | some (.bool true) => 0
 | _ => N - atW w R + 1
theorem mW_rd {w : World} {R g c : Nat} {ts : List Tok} {s : Sg} (h : Rd w R g c ts s) : mW w R ts.length = if s.bad then 0 else ts.length - s.i + 1 := by
 unfold mW
 rw [h.cells.2.2.1, atW_rd h]
 cases s.bad <;> rfl
theorem stQ_prog {ts : List Tok} (K : KW ts) {f : Nat} {s : Sg} (hs : s.bad = false) : On ts s (one (SQ ts (f + 2) .st s)).2 ∧ ((one (SQ ts (f + 2) .st s)).2.bad = true ∨ (rem ts (one (SQ ts (f + 2) .st s)).2 + 1 ≤ rem ts s ∧ s.i < (one (SQ ts (f + 2) .st s)).2.i)) := by
 have e : (one (SQ ts (f + 2) .st s)).2 = (S ts (f + 2) .st s).2 := (SQ_st K (f + 2)).2.2.1 s
 rw [e]
 have hon := S_on ts (f + 2) .st s trivial
 refine ⟨hon, ?_⟩
 cases hb : (S ts (f + 2) .st s).2.bad with
 | true => exact .inl rfl
 | false =>
  right
  by_cases hi : s.i < ts.length
  ·have hp := st_prog (f := f) ⟨hs, hi⟩
   refine ⟨hp, ?_⟩
   unfold rem at hp
   rw [hb, hs] at hp
   simp at hp
   omega
  ·exfalso
   have hk : ¬ kd ts s = 1 := fun hk => hi (kd_in hk (by decide)).2
   have hn : ∀ (c : UInt8) t, hasT ts s (c :: t) = false := fun c t => by
    cases h : hasT ts s (c :: t) with
    | false => rfl
    | true => exact absurd (hasT_in h).2 hi
   rw [S] at hb
   simp [hn] at hb
   rw [change_bad hk] at hb
   cases hb
end Q
end Go.Proofs.YtkliclihpobmiaaGreatDoor
/- The reference's rule statement: contract. -/
namespace Go.Proofs.YtkliclihpobmiaaGreatDoor
namespace Q
open Go Go.RowKit
set_option linter.unusedVariables false
set_option linter.unusedSimpArgs false

set_option maxHeartbeats 2000000 in
set_option maxRecDepth 100000 in
theorem statement_step {ts : List Tok} {R g c : Nat} (X : QC ts R g c) (f : Nat) (H : SC ts R g c f) (s : Sg) (w : World) (hR : Rd w R g c ts s) (hf : 8 * rem ts s + 4 ≤ f + 1) : Calls Tryz.prog 138 #[.pointer (some ⟨R, 0, none⟩)] w (TP w R g c ts (one (SQ ts (f + 1) .st s))) := by
 have hXl := X.x.lt
 have F0 := Hd ((Fr.start hR).node hXl ncz)
 have HLN := Hd fun W (h : Rd W R g c ts s) => line_any X.x W h
 have HK := Hd fun W (h : Rd W R g c ts s) => kind_any X.x W h
 have HX := Hd fun q W (h : Rd W R g c ts q) => xpr_any X q W h
 have HNM := Hd fun q W (h : Rd W R g c ts q) => name_any X.x (s := q) W h
 have HTY := Hd fun q W (h : Rd W R g c ts q) => typ_any X (s := q) W h
 have HEB := Hd fun q W (h : Rd W R g c ts q) => need_any X.x (s := q) [93] (by simp) W h
 have HEQ := Hd fun q W (h : Rd W R g c ts q) => need_any X.x (s := q) [61] (by simp) W h
 have HEC := Hd fun q W (h : Rd W R g c ts q) => need_any X.x (s := q) [59] (by simp) W h
 have HEL := Hd fun q W (h : Rd W R g c ts q) => need_any X.x (s := q) [58] (by simp) W h
 have HEO := Hd fun q W (h : Rd W R g c ts q) => need_any X.x (s := q) [40] (by simp) W h
 have HES := Hd fun q W (h : Rd W R g c ts q) => need_any X.x (s := q) [41] (by simp) W h
 have HT := Hd fun W (h : Rd W R g c ts s) => text_any X.x W h
 have HTB := Hd fun W (h : Rd W R g c ts (nmS ts s)) => take_any X.x [91] (by simp) W h
 have HTK := Hd fun t (ht : t ≠ []) q W (h : Rd W R g c ts q) => take_any X.x (s := q) t ht W h
 have hlen := X.x.len
 unfold skp at HTB HTK
 by_cases hk : kd ts s = 1
 ·have HM0 : one (SQ ts (f + 1) .st s) = changeQ ts s := by unfold one; rw [SQ, if_pos hk]; rfl
  rw [HM0]
  rw [hk] at HK
  clear HM0 H hf hk hR HT
  cases h1 : hasT ts (nmS ts s) [91] with
  | true =>
   have HM : Hid (changeQ ts s = (.node { labK 12 (lnR ts s) with name := nmV ts s } [(xprQ ts (adv (nmS ts s))).1, (xprQ ts (exc ts (exc ts (xprQ ts (adv (nmS ts s))).2 [93]) [61])).1], exc ts (xprQ ts (exc ts (exc ts (xprQ ts (adv (nmS ts s))).2 [93]) [61])).2 [59])) := Hd (by unfold changeQ; simp only [h1]; rfl)
   rw [HM.out]
   rw [h1] at HTB
   clear HM h1
   go_enter Tryz.func138, Tryz.ntmps138
   go_wp2_with fail
   refine (HLN.out _ F0.out.rd).mono ?_
   rintro e v1 ⟨rfl, hb⟩
   have G1 := Hd (F0.out.quiet hXl hb)
   clear hb
   obtain ⟨hc0, hf0⟩ := G1.out.b0.all
   have hz0 := G1.out.b0.lt
   unfold ncz at hc0
   have hq10 := G1.out.b0.lt
   have G2 := Hd (G1.out.node hXl [.int .i64 0, .string ⟨#[]⟩, .int .u64 0, .int .i64 0, .bool false, .int .i64 0, .int .i64 0, .int .i64 0, .int .i64 0, .int .i64 ((lnR ts s : Nat) : Int), .slice none 0 0])
   go_wp2_with fail
   refine (HK.out _ G2.out.rd).mono ?_
   rintro e v2 ⟨rfl, hb⟩
   clear hc0 hf0 hz0
   have G3 := Hd (G2.out.quiet hXl hb)
   clear hb
   obtain ⟨hc0, hf0, hz0, hc1, hf1, hz1⟩ := G3.out.l2
   go_wp2_with fail
   refine (HNM.out _ _ G3.out.rd).mono ?_
   rintro e v3 ⟨rfl, hr, hs⟩
   have G4 := Hd (G3.out.call hr hs)
   clear hr hs hc0 hf0 hz0 hc1 hf1 hz1
   obtain ⟨hc0, hf0, hz0, hc1, hf1, hz1⟩ := G4.out.l2
   have G5 := Hd (G4.out.s1 hXl (.string (str (nmV ts s))))
   have G6 := Hd (G5.out.s0 hXl (.int .i64 11))
   go_wp2_with fail
   refine (HTB.out _ G6.out.rd).mono ?_
   rintro e v4 ⟨rfl, hr, hs⟩
   have G7 := Hd (G6.out.call hr hs)
   clear hr hs hc0 hf0 hz0 hc1 hf1 hz1
   obtain ⟨hc0, hf0, hz0, hc1, hf1, hz1⟩ := G7.out.l2
   have G8 := Hd (G7.out.fk)
   have G9 := Hd (G8.out.s0 hXl (.int .i64 12))
   go_wp2
   have G10 := Hd (G9.out.drew)
   go_region_law (first | (refine fk_append KT1.out hXl (by rfl) _ _ _ (by rfl) Tryz.underlying26 infoNd2 (by rfl) (by simp [Act.eval]) ?_; intro g1 c1 u1 hk6; have KX1 := Hd hk6; clear hk6; obtain ⟨hd10, he10, hy10, hd11, he11, hy11⟩ := KX1.out.fr.l2) | (go_simp; go_at_call 161; refine (HX.out _ _ G10.out.fr.rd).mono ?_; rintro e y1 ⟨l1, x1, n1, k1, rfl, hT, hr, hs⟩; have KT1 := Hd (G10.out.callT (by simp) hT hr hs); clear hT hr hs; obtain ⟨hu10, hv10, hw10, hu11, hv11, hw11⟩ := KT1.out.fr.l2))
   all_goals
    clear hu10 hv10 hw10 hu11 hv11 hw11
    clear hc0 hf0 hz0 hc1 hf1 hz1
    have G11 := Hd (KX1.out.s10 hXl (.slice (some ⟨g1, 0, none⟩) 1 c1))
    go_wp2_with fail
    refine (HEB.out _ _ G11.out.fr.rd).mono ?_
    rintro e v5 ⟨rfl, hr, hs⟩
    have G12 := Hd (G11.out.call hr hs)
    clear hr hs
    obtain ⟨hc0, hf0, hz0, hc1, hf1, hz1⟩ := G12.out.fr.l2
    go_wp2_with fail
    refine (HEQ.out _ _ G12.out.fr.rd).mono ?_
    rintro e v6 ⟨rfl, hr, hs⟩
    have G13 := Hd (G12.out.call hr hs)
    clear hr hs hc0 hf0 hz0 hc1 hf1 hz1
    obtain ⟨hc0, hf0, hz0, hc1, hf1, hz1⟩ := G13.out.fr.l2
    go_wp2
    have G14 := Hd (G13.out.drew)
    go_region_law (first | (refine fk_append KT2.out hXl (by rfl) _ _ _ (by rfl) Tryz.underlying26 infoNd2 (by rfl) (by simp [Act.eval]) ?_; intro g2 c2 u2 hk6; have KX2 := Hd hk6; clear hk6; obtain ⟨hd20, he20, hy20, hd21, he21, hy21⟩ := KX2.out.fr.l2) | (go_simp; go_at_call 161; refine (HX.out _ _ G14.out.fr.rd).mono ?_; rintro e y2 ⟨l2, x2, n2, k2, rfl, hT, hr, hs⟩; have KT2 := Hd (G14.out.callT (by simp) hT hr hs); clear hT hr hs; obtain ⟨hu20, hv20, hw20, hu21, hv21, hw21⟩ := KT2.out.fr.l2))
    all_goals
     clear hu20 hv20 hw20 hu21 hv21 hw21
     clear hc0 hf0 hz0 hc1 hf1 hz1
     have G15 := Hd (KX2.out.s10 hXl (.slice (some ⟨g2, 0, none⟩) 2 c2))
     go_wp2_with fail
     refine (HEC.out _ _ G15.out.fr.rd).mono ?_
     rintro e v7 ⟨rfl, hr, hs⟩
     have G16 := Hd (G15.out.call hr hs)
     clear hr hs
     obtain ⟨hc0, hf0, hz0, hc1, hf1, hz1⟩ := G16.out.fr.l2
     have G17 := Hd (G16.out.tree { labK 12 (lnR ts s) with name := nmV ts s })
     go_wp2
     have G18 := Hd (G17.out.stoR hXl (List.Mem.tail _ (List.Mem.head _)) rfl (.int .i64 12) (.string (str (nmV ts s))) (.int .u64 0) (.int .i64 0) (.bool false) (.int .i64 0) (.int .i64 0) (.int .i64 0) (.int .i64 0) (.int .i64 ((lnR ts s : Nat) : Int)) (.slice (some ⟨g2, 0, none⟩) 2 c2))
     refine bodyPost_ret (G18.out.b0.res1 Tryz.results138 Tryz.underlying28 rfl infoNd _ rfl) rfl ?_
     exact G18.out.outT (rfl)
  | false =>
   have HM : Hid (changeQ ts s = (.node { labK 11 (lnR ts s) with name := nmV ts s } [(xprQ ts (exc ts (nmS ts s) [61])).1], exc ts (xprQ ts (exc ts (nmS ts s) [61])).2 [59])) := Hd (by unfold changeQ; simp only [h1]; rfl)
   rw [HM.out]
   rw [h1] at HTB
   clear HM h1
   go_enter Tryz.func138, Tryz.ntmps138
   go_wp2_with fail
   refine (HLN.out _ F0.out.rd).mono ?_
   rintro e v1 ⟨rfl, hb⟩
   have G1 := Hd (F0.out.quiet hXl hb)
   clear hb
   obtain ⟨hc0, hf0⟩ := G1.out.b0.all
   have hz0 := G1.out.b0.lt
   unfold ncz at hc0
   have hq10 := G1.out.b0.lt
   have G2 := Hd (G1.out.node hXl [.int .i64 0, .string ⟨#[]⟩, .int .u64 0, .int .i64 0, .bool false, .int .i64 0, .int .i64 0, .int .i64 0, .int .i64 0, .int .i64 ((lnR ts s : Nat) : Int), .slice none 0 0])
   go_wp2_with fail
   refine (HK.out _ G2.out.rd).mono ?_
   rintro e v2 ⟨rfl, hb⟩
   clear hc0 hf0 hz0
   have G3 := Hd (G2.out.quiet hXl hb)
   clear hb
   obtain ⟨hc0, hf0, hz0, hc1, hf1, hz1⟩ := G3.out.l2
   go_wp2_with fail
   refine (HNM.out _ _ G3.out.rd).mono ?_
   rintro e v3 ⟨rfl, hr, hs⟩
   have G4 := Hd (G3.out.call hr hs)
   clear hr hs hc0 hf0 hz0 hc1 hf1 hz1
   obtain ⟨hc0, hf0, hz0, hc1, hf1, hz1⟩ := G4.out.l2
   have G5 := Hd (G4.out.s1 hXl (.string (str (nmV ts s))))
   have G6 := Hd (G5.out.s0 hXl (.int .i64 11))
   go_wp2_with fail
   refine (HTB.out _ G6.out.rd).mono ?_
   rintro e v4 ⟨rfl, hr, hs⟩
   have G7 := Hd (G6.out.call hr hs)
   clear hr hs hc0 hf0 hz0 hc1 hf1 hz1
   obtain ⟨hc0, hf0, hz0, hc1, hf1, hz1⟩ := G7.out.l2
   go_wp2_with fail
   refine (HEQ.out _ _ G7.out.rd).mono ?_
   rintro e v5 ⟨rfl, hr, hs⟩
   have G8 := Hd (G7.out.call hr hs)
   clear hr hs hc0 hf0 hz0 hc1 hf1 hz1
   obtain ⟨hc0, hf0, hz0, hc1, hf1, hz1⟩ := G8.out.l2
   have G9 := Hd (G8.out.fk)
   go_wp2
   have G10 := Hd (G9.out.drew)
   go_region_law (first | (refine fk_append KT1.out hXl (by rfl) _ _ _ (by rfl) Tryz.underlying26 infoNd2 (by rfl) (by simp [Act.eval]) ?_; intro g1 c1 u1 hk6; have KX1 := Hd hk6; clear hk6; obtain ⟨hd10, he10, hy10, hd11, he11, hy11⟩ := KX1.out.fr.l2) | (go_simp; go_at_call 161; refine (HX.out _ _ G10.out.fr.rd).mono ?_; rintro e y1 ⟨l1, x1, n1, k1, rfl, hT, hr, hs⟩; have KT1 := Hd (G10.out.callT (by simp) hT hr hs); clear hT hr hs; obtain ⟨hu10, hv10, hw10, hu11, hv11, hw11⟩ := KT1.out.fr.l2))
   all_goals
    clear hu10 hv10 hw10 hu11 hv11 hw11
    clear hc0 hf0 hz0 hc1 hf1 hz1
    have G11 := Hd (KX1.out.s10 hXl (.slice (some ⟨g1, 0, none⟩) 1 c1))
    go_wp2_with fail
    refine (HEC.out _ _ G11.out.fr.rd).mono ?_
    rintro e v6 ⟨rfl, hr, hs⟩
    have G12 := Hd (G11.out.call hr hs)
    clear hr hs
    obtain ⟨hc0, hf0, hz0, hc1, hf1, hz1⟩ := G12.out.fr.l2
    have G13 := Hd (G12.out.tree { labK 11 (lnR ts s) with name := nmV ts s })
    go_wp2
    have G14 := Hd (G13.out.stoR hXl (List.Mem.tail _ (List.Mem.head _)) rfl (.int .i64 11) (.string (str (nmV ts s))) (.int .u64 0) (.int .i64 0) (.bool false) (.int .i64 0) (.int .i64 0) (.int .i64 0) (.int .i64 0) (.int .i64 ((lnR ts s : Nat) : Int)) (.slice (some ⟨g1, 0, none⟩) 1 c1))
    refine bodyPost_ret (G14.out.b0.res1 Tryz.results138 Tryz.underlying28 rfl infoNd _ rfl) rfl ?_
    exact G14.out.outT (rfl)
 ·have qk : ((kd ts s : Int) == 1) = false := by simp; omega
  have hq0 := str_lit ts s [118, 97, 114]
  have hq1 := str_lit ts s [108, 101, 116]
  have hq2 := str_lit ts s [105, 102]
  have hq3 := str_lit ts s [35]
  have hq4 := str_lit ts s [102, 111, 114]
  have hq5 := str_lit ts s [119, 104, 105, 108, 101]
  have hq6 := str_lit ts s [115, 101, 110, 100]
  have hq7 := str_lit ts s [114, 101, 116, 117, 114, 110]
  clear HTB
  cases g0 : hasT ts s [118, 97, 114] with
  | true =>
   rw [g0] at hq0
   have hin := hasT_in g0
   have HIN := Hd hin
   have hil : s.i < 65536 := by omega
   clear hin H
   have HM : one (SQ ts (f + 1) .st s) = declVQ ts s := by unfold one; rw [SQ, if_neg hk, if_pos g0]; rfl
   rw [HM]
   clear HM hf hR hk g0
   have HT3 := Hd fun W (h : Rd W R g c ts (tyS ts (exc ts (nmS ts (adv s)) [58]))) => HTK.out [61] (by simp) (tyS ts (exc ts (nmS ts (adv s)) [58])) W h
   cases g9 : hasT ts (tyS ts (exc ts (nmS ts (adv s)) [58])) [61] with
   | true =>
    have HM : Hid (declVQ ts s = (.node { labK 9 (lnR ts s) with name := nmV ts (adv s), wd := (tyV' ts (exc ts (nmS ts (adv s)) [58])).1, sg := (tyV' ts (exc ts (nmS ts (adv s)) [58])).2 } [(xprQ ts (adv (tyS ts (exc ts (nmS ts (adv s)) [58])))).1], exc ts (xprQ ts (adv (tyS ts (exc ts (nmS ts (adv s)) [58])))).2 [59])) := Hd (by unfold declVQ; simp only [g9]; rfl)
    rw [HM.out]
    rw [g9] at HT3
    clear HM g9
    go_enter Tryz.func138, Tryz.ntmps138
    go_wp2_with fail
    refine (HLN.out _ F0.out.rd).mono ?_
    rintro e v1 ⟨rfl, hb⟩
    have G1 := Hd (F0.out.quiet hXl hb)
    clear hb
    obtain ⟨hc0, hf0⟩ := G1.out.b0.all
    have hz0 := G1.out.b0.lt
    unfold ncz at hc0
    have hq10 := G1.out.b0.lt
    have G2 := Hd (G1.out.node hXl [.int .i64 0, .string ⟨#[]⟩, .int .u64 0, .int .i64 0, .bool false, .int .i64 0, .int .i64 0, .int .i64 0, .int .i64 0, .int .i64 ((lnR ts s : Nat) : Int), .slice none 0 0])
    go_wp2_with fail
    refine (HK.out _ G2.out.rd).mono ?_
    rintro e v2 ⟨rfl, hb⟩
    clear hc0 hf0 hz0
    have G3 := Hd (G2.out.quiet hXl hb)
    clear hb
    obtain ⟨hc0, hf0, hz0, hc1, hf1, hz1⟩ := G3.out.l2
    go_wp2_with fail
    refine (HT.out _ G3.out.rd).mono ?_
    rintro e v3 ⟨rfl, hb⟩
    have G4 := Hd (G3.out.quiet hXl hb)
    clear hb hc0 hf0 hz0 hc1 hf1 hz1
    obtain ⟨hc0, hf0, hz0, hc1, hf1, hz1⟩ := G4.out.l2
    have hRn0 := (G4.out.bl _ _ (List.Mem.head _)).2
    have hRn1 := (G4.out.bl _ _ (List.Mem.tail _ (List.Mem.head _))).2
    have hRw := G4.out.hR
    obtain ⟨c0, c1, c2, fr1, fr2⟩ := G4.out.rd.cells
    have hzR := G4.out.rd.lt
    clear c0 c2 fr2
    have G5 := Hd (G4.out.advR hXl HIN.out (v := (s.i : Int) + 1) rfl)
    have G6 := Hd (G5.out.s0 hXl (.int .i64 9))
    go_wp2_with fail
    refine (HNM.out _ _ G6.out.rd).mono ?_
    rintro e v4 ⟨rfl, hr, hs⟩
    have G7 := Hd (G6.out.call hr hs)
    clear hr hs hc0 hf0 hz0 hc1 hf1 hz1
    obtain ⟨hc0, hf0, hz0, hc1, hf1, hz1⟩ := G7.out.l2
    have G8 := Hd (G7.out.s1 hXl (.string (str (nmV ts (adv s)))))
    go_wp2_with fail
    refine (HEL.out _ _ G8.out.rd).mono ?_
    rintro e v5 ⟨rfl, hr, hs⟩
    have G9 := Hd (G8.out.call hr hs)
    clear hr hs hc0 hf0 hz0 hc1 hf1 hz1
    obtain ⟨hc0, hf0, hz0, hc1, hf1, hz1⟩ := G9.out.l2
    go_wp2_with fail
    refine (HTY.out _ _ G9.out.rd).mono ?_
    rintro e v6 ⟨rfl, hr, hs⟩
    have G10 := Hd (G9.out.call hr hs)
    clear hr hs hc0 hf0 hz0 hc1 hf1 hz1
    obtain ⟨hc0, hf0, hz0, hc1, hf1, hz1⟩ := G10.out.l2
    have G11 := Hd (G10.out.s3 hXl (.int .i64 ((tyV' ts (exc ts (nmS ts (adv s)) [58])).1 : Int)))
    have G12 := Hd (G11.out.s4 hXl (.bool (tyV' ts (exc ts (nmS ts (adv s)) [58])).2))
    go_wp2_with fail
    refine (HT3.out _ G12.out.rd).mono ?_
    rintro e v7 ⟨rfl, hr, hs⟩
    have G13 := Hd (G12.out.call hr hs)
    clear hr hs hc0 hf0 hz0 hc1 hf1 hz1
    obtain ⟨hc0, hf0, hz0, hc1, hf1, hz1⟩ := G13.out.l2
    have G14 := Hd (G13.out.fk)
    go_wp2
    have G15 := Hd (G14.out.drew)
    go_region_law (first | (refine fk_append KT1.out hXl (by rfl) _ _ _ (by rfl) Tryz.underlying26 infoNd2 (by rfl) (by simp [Act.eval]) ?_; intro g1 c1 u1 hk6; have KX1 := Hd hk6; clear hk6; obtain ⟨hd10, he10, hy10, hd11, he11, hy11⟩ := KX1.out.fr.l2) | (go_simp; go_at_call 161; refine (HX.out _ _ G15.out.fr.rd).mono ?_; rintro e y1 ⟨l1, x1, n1, k1, rfl, hT, hr, hs⟩; have KT1 := Hd (G15.out.callT (by simp) hT hr hs); clear hT hr hs; obtain ⟨hu10, hv10, hw10, hu11, hv11, hw11⟩ := KT1.out.fr.l2))
    all_goals
     clear hu10 hv10 hw10 hu11 hv11 hw11
     clear hc0 hf0 hz0 hc1 hf1 hz1
     have G16 := Hd (KX1.out.s10 hXl (.slice (some ⟨g1, 0, none⟩) 1 c1))
     go_wp2_with fail
     refine (HEC.out _ _ G16.out.fr.rd).mono ?_
     rintro e v8 ⟨rfl, hr, hs⟩
     have G17 := Hd (G16.out.call hr hs)
     clear hr hs
     obtain ⟨hc0, hf0, hz0, hc1, hf1, hz1⟩ := G17.out.fr.l2
     have G18 := Hd (G17.out.tree { labK 9 (lnR ts s) with name := nmV ts (adv s), wd := (tyV' ts (exc ts (nmS ts (adv s)) [58])).1, sg := (tyV' ts (exc ts (nmS ts (adv s)) [58])).2 })
     go_wp2
     have G19 := Hd (G18.out.stoR hXl (List.Mem.tail _ (List.Mem.head _)) rfl (.int .i64 9) (.string (str (nmV ts (adv s)))) (.int .u64 0) (.int .i64 ((tyV' ts (exc ts (nmS ts (adv s)) [58])).1 : Int)) (.bool (tyV' ts (exc ts (nmS ts (adv s)) [58])).2) (.int .i64 0) (.int .i64 0) (.int .i64 0) (.int .i64 0) (.int .i64 ((lnR ts s : Nat) : Int)) (.slice (some ⟨g1, 0, none⟩) 1 c1))
     refine bodyPost_ret (G19.out.b0.res1 Tryz.results138 Tryz.underlying28 rfl infoNd _ rfl) rfl ?_
     exact G19.out.outT (rfl)
   | false =>
    have HM : Hid (declVQ ts s = (.node { labK 9 (lnR ts s) with name := nmV ts (adv s), wd := (tyV' ts (exc ts (nmS ts (adv s)) [58])).1, sg := (tyV' ts (exc ts (nmS ts (adv s)) [58])).2 } [], exc ts (tyS ts (exc ts (nmS ts (adv s)) [58])) [59])) := Hd (by unfold declVQ; simp only [g9]; rfl)
    rw [HM.out]
    rw [g9] at HT3
    clear HM g9
    go_enter Tryz.func138, Tryz.ntmps138
    go_wp2_with fail
    refine (HLN.out _ F0.out.rd).mono ?_
    rintro e v1 ⟨rfl, hb⟩
    have G1 := Hd (F0.out.quiet hXl hb)
    clear hb
    obtain ⟨hc0, hf0⟩ := G1.out.b0.all
    have hz0 := G1.out.b0.lt
    unfold ncz at hc0
    have hq10 := G1.out.b0.lt
    have G2 := Hd (G1.out.node hXl [.int .i64 0, .string ⟨#[]⟩, .int .u64 0, .int .i64 0, .bool false, .int .i64 0, .int .i64 0, .int .i64 0, .int .i64 0, .int .i64 ((lnR ts s : Nat) : Int), .slice none 0 0])
    go_wp2_with fail
    refine (HK.out _ G2.out.rd).mono ?_
    rintro e v2 ⟨rfl, hb⟩
    clear hc0 hf0 hz0
    have G3 := Hd (G2.out.quiet hXl hb)
    clear hb
    obtain ⟨hc0, hf0, hz0, hc1, hf1, hz1⟩ := G3.out.l2
    go_wp2_with fail
    refine (HT.out _ G3.out.rd).mono ?_
    rintro e v3 ⟨rfl, hb⟩
    have G4 := Hd (G3.out.quiet hXl hb)
    clear hb hc0 hf0 hz0 hc1 hf1 hz1
    obtain ⟨hc0, hf0, hz0, hc1, hf1, hz1⟩ := G4.out.l2
    have hRn0 := (G4.out.bl _ _ (List.Mem.head _)).2
    have hRn1 := (G4.out.bl _ _ (List.Mem.tail _ (List.Mem.head _))).2
    have hRw := G4.out.hR
    obtain ⟨c0, c1, c2, fr1, fr2⟩ := G4.out.rd.cells
    have hzR := G4.out.rd.lt
    clear c0 c2 fr2
    have G5 := Hd (G4.out.advR hXl HIN.out (v := (s.i : Int) + 1) rfl)
    have G6 := Hd (G5.out.s0 hXl (.int .i64 9))
    go_wp2_with fail
    refine (HNM.out _ _ G6.out.rd).mono ?_
    rintro e v4 ⟨rfl, hr, hs⟩
    have G7 := Hd (G6.out.call hr hs)
    clear hr hs hc0 hf0 hz0 hc1 hf1 hz1
    obtain ⟨hc0, hf0, hz0, hc1, hf1, hz1⟩ := G7.out.l2
    have G8 := Hd (G7.out.s1 hXl (.string (str (nmV ts (adv s)))))
    go_wp2_with fail
    refine (HEL.out _ _ G8.out.rd).mono ?_
    rintro e v5 ⟨rfl, hr, hs⟩
    have G9 := Hd (G8.out.call hr hs)
    clear hr hs hc0 hf0 hz0 hc1 hf1 hz1
    obtain ⟨hc0, hf0, hz0, hc1, hf1, hz1⟩ := G9.out.l2
    go_wp2_with fail
    refine (HTY.out _ _ G9.out.rd).mono ?_
    rintro e v6 ⟨rfl, hr, hs⟩
    have G10 := Hd (G9.out.call hr hs)
    clear hr hs hc0 hf0 hz0 hc1 hf1 hz1
    obtain ⟨hc0, hf0, hz0, hc1, hf1, hz1⟩ := G10.out.l2
    have G11 := Hd (G10.out.s3 hXl (.int .i64 ((tyV' ts (exc ts (nmS ts (adv s)) [58])).1 : Int)))
    have G12 := Hd (G11.out.s4 hXl (.bool (tyV' ts (exc ts (nmS ts (adv s)) [58])).2))
    go_wp2_with fail
    refine (HT3.out _ G12.out.rd).mono ?_
    rintro e v7 ⟨rfl, hr, hs⟩
    have G13 := Hd (G12.out.call hr hs)
    clear hr hs hc0 hf0 hz0 hc1 hf1 hz1
    obtain ⟨hc0, hf0, hz0, hc1, hf1, hz1⟩ := G13.out.l2
    go_wp2_with fail
    refine (HEC.out _ _ G13.out.rd).mono ?_
    rintro e v8 ⟨rfl, hr, hs⟩
    have G14 := Hd (G13.out.call hr hs)
    clear hr hs hc0 hf0 hz0 hc1 hf1 hz1
    obtain ⟨hc0, hf0, hz0, hc1, hf1, hz1⟩ := G14.out.l2
    have G15 := Hd (G14.out.leaf { labK 9 (lnR ts s) with name := nmV ts (adv s), wd := (tyV' ts (exc ts (nmS ts (adv s)) [58])).1, sg := (tyV' ts (exc ts (nmS ts (adv s)) [58])).2 })
    go_wp2
    have G16 := Hd (G15.out.stoR hXl (List.Mem.tail _ (List.Mem.head _)) rfl (.int .i64 9) (.string (str (nmV ts (adv s)))) (.int .u64 0) (.int .i64 ((tyV' ts (exc ts (nmS ts (adv s)) [58])).1 : Int)) (.bool (tyV' ts (exc ts (nmS ts (adv s)) [58])).2) (.int .i64 0) (.int .i64 0) (.int .i64 0) (.int .i64 0) (.int .i64 ((lnR ts s : Nat) : Int)) (.slice none 0 0))
    refine bodyPost_ret (G16.out.b0.res1 Tryz.results138 Tryz.underlying28 rfl infoNd _ rfl) rfl ?_
    exact G16.out.outT (rfl)
  | false =>
   rw [g0] at hq0
   cases g1 : hasT ts s [108, 101, 116] with
   | true =>
    rw [g1] at hq1
    have hin := hasT_in g1
    have HIN := Hd hin
    have hil : s.i < 65536 := by omega
    clear hin H
    have HM : one (SQ ts (f + 1) .st s) = declLQ ts s := by unfold one; rw [SQ, if_neg hk, if_neg (by simp [g0]), if_pos g1]; rfl
    rw [HM]
    clear HM hf hR hk g0 g1
    have HT3 := Hd fun W (h : Rd W R g c ts (nmS ts (adv s))) => HTK.out [58] (by simp) (nmS ts (adv s)) W h
    cases g9 : hasT ts (nmS ts (adv s)) [58] with
    | true =>
     have HM : Hid (declLQ ts s = (.node { labK 10 (lnR ts s) with name := nmV ts (adv s), wd := ((tyV' ts (adv (nmS ts (adv s)))).1 : Int), sg := (tyV' ts (adv (nmS ts (adv s)))).2 } [(xprQ ts (exc ts (tyS ts (adv (nmS ts (adv s)))) [61])).1], exc ts (xprQ ts (exc ts (tyS ts (adv (nmS ts (adv s)))) [61])).2 [59])) := Hd (by unfold declLQ; simp only [g9]; rfl)
     rw [HM.out]
     rw [g9] at HT3
     clear HM g9
     go_enter Tryz.func138, Tryz.ntmps138
     go_wp2_with fail
     refine (HLN.out _ F0.out.rd).mono ?_
     rintro e v1 ⟨rfl, hb⟩
     have G1 := Hd (F0.out.quiet hXl hb)
     clear hb
     obtain ⟨hc0, hf0⟩ := G1.out.b0.all
     have hz0 := G1.out.b0.lt
     unfold ncz at hc0
     have hq10 := G1.out.b0.lt
     have G2 := Hd (G1.out.node hXl [.int .i64 0, .string ⟨#[]⟩, .int .u64 0, .int .i64 0, .bool false, .int .i64 0, .int .i64 0, .int .i64 0, .int .i64 0, .int .i64 ((lnR ts s : Nat) : Int), .slice none 0 0])
     go_wp2_with fail
     refine (HK.out _ G2.out.rd).mono ?_
     rintro e v2 ⟨rfl, hb⟩
     clear hc0 hf0 hz0
     have G3 := Hd (G2.out.quiet hXl hb)
     clear hb
     obtain ⟨hc0, hf0, hz0, hc1, hf1, hz1⟩ := G3.out.l2
     go_wp2_with fail
     refine (HT.out _ G3.out.rd).mono ?_
     rintro e v3 ⟨rfl, hb⟩
     have G4 := Hd (G3.out.quiet hXl hb)
     clear hb hc0 hf0 hz0 hc1 hf1 hz1
     obtain ⟨hc0, hf0, hz0, hc1, hf1, hz1⟩ := G4.out.l2
     have hRn0 := (G4.out.bl _ _ (List.Mem.head _)).2
     have hRn1 := (G4.out.bl _ _ (List.Mem.tail _ (List.Mem.head _))).2
     have hRw := G4.out.hR
     obtain ⟨c0, c1, c2, fr1, fr2⟩ := G4.out.rd.cells
     have hzR := G4.out.rd.lt
     clear c0 c2 fr2
     have G5 := Hd (G4.out.advR hXl HIN.out (v := (s.i : Int) + 1) rfl)
     have G6 := Hd (G5.out.s0 hXl (.int .i64 10))
     go_wp2_with fail
     refine (HNM.out _ _ G6.out.rd).mono ?_
     rintro e v4 ⟨rfl, hr, hs⟩
     have G7 := Hd (G6.out.call hr hs)
     clear hr hs hc0 hf0 hz0 hc1 hf1 hz1
     obtain ⟨hc0, hf0, hz0, hc1, hf1, hz1⟩ := G7.out.l2
     have G8 := Hd (G7.out.s1 hXl (.string (str (nmV ts (adv s)))))
     go_wp2_with fail
     refine (HT3.out _ G8.out.rd).mono ?_
     rintro e v5 ⟨rfl, hr, hs⟩
     have G9 := Hd (G8.out.call hr hs)
     clear hr hs hc0 hf0 hz0 hc1 hf1 hz1
     obtain ⟨hc0, hf0, hz0, hc1, hf1, hz1⟩ := G9.out.l2
     go_wp2_with fail
     refine (HTY.out _ _ G9.out.rd).mono ?_
     rintro e v6 ⟨rfl, hr, hs⟩
     have G10 := Hd (G9.out.call hr hs)
     clear hr hs hc0 hf0 hz0 hc1 hf1 hz1
     obtain ⟨hc0, hf0, hz0, hc1, hf1, hz1⟩ := G10.out.l2
     have G11 := Hd (G10.out.s3 hXl (.int .i64 ((tyV' ts (adv (nmS ts (adv s)))).1 : Int)))
     have G12 := Hd (G11.out.s4 hXl (.bool (tyV' ts (adv (nmS ts (adv s)))).2))
     go_wp2_with fail
     refine (HEQ.out _ _ G12.out.rd).mono ?_
     rintro e v7 ⟨rfl, hr, hs⟩
     have G13 := Hd (G12.out.call hr hs)
     clear hr hs hc0 hf0 hz0 hc1 hf1 hz1
     obtain ⟨hc0, hf0, hz0, hc1, hf1, hz1⟩ := G13.out.l2
     have G14 := Hd (G13.out.fk)
     go_wp2
     have G15 := Hd (G14.out.drew)
     go_region_law (first | (refine fk_append KT1.out hXl (by rfl) _ _ _ (by rfl) Tryz.underlying26 infoNd2 (by rfl) (by simp [Act.eval]) ?_; intro g1 c1 u1 hk6; have KX1 := Hd hk6; clear hk6; obtain ⟨hd10, he10, hy10, hd11, he11, hy11⟩ := KX1.out.fr.l2) | (go_simp; go_at_call 161; refine (HX.out _ _ G15.out.fr.rd).mono ?_; rintro e y1 ⟨l1, x1, n1, k1, rfl, hT, hr, hs⟩; have KT1 := Hd (G15.out.callT (by simp) hT hr hs); clear hT hr hs; obtain ⟨hu10, hv10, hw10, hu11, hv11, hw11⟩ := KT1.out.fr.l2))
     all_goals
      clear hu10 hv10 hw10 hu11 hv11 hw11
      clear hc0 hf0 hz0 hc1 hf1 hz1
      have G16 := Hd (KX1.out.s10 hXl (.slice (some ⟨g1, 0, none⟩) 1 c1))
      go_wp2_with fail
      refine (HEC.out _ _ G16.out.fr.rd).mono ?_
      rintro e v8 ⟨rfl, hr, hs⟩
      have G17 := Hd (G16.out.call hr hs)
      clear hr hs
      obtain ⟨hc0, hf0, hz0, hc1, hf1, hz1⟩ := G17.out.fr.l2
      have G18 := Hd (G17.out.tree { labK 10 (lnR ts s) with name := nmV ts (adv s), wd := ((tyV' ts (adv (nmS ts (adv s)))).1 : Int), sg := (tyV' ts (adv (nmS ts (adv s)))).2 })
      go_wp2
      have G19 := Hd (G18.out.stoR hXl (List.Mem.tail _ (List.Mem.head _)) rfl (.int .i64 10) (.string (str (nmV ts (adv s)))) (.int .u64 0) (.int .i64 ((tyV' ts (adv (nmS ts (adv s)))).1 : Int)) (.bool (tyV' ts (adv (nmS ts (adv s)))).2) (.int .i64 0) (.int .i64 0) (.int .i64 0) (.int .i64 0) (.int .i64 ((lnR ts s : Nat) : Int)) (.slice (some ⟨g1, 0, none⟩) 1 c1))
      refine bodyPost_ret (G19.out.b0.res1 Tryz.results138 Tryz.underlying28 rfl infoNd _ rfl) rfl ?_
      exact G19.out.outT (rfl)
    | false =>
     have HM : Hid (declLQ ts s = (.node { labK 10 (lnR ts s) with name := nmV ts (adv s), wd := (0 : Int), sg := false } [(xprQ ts (exc ts (nmS ts (adv s)) [61])).1], exc ts (xprQ ts (exc ts (nmS ts (adv s)) [61])).2 [59])) := Hd (by unfold declLQ; simp only [g9]; rfl)
     rw [HM.out]
     rw [g9] at HT3
     clear HM g9
     go_enter Tryz.func138, Tryz.ntmps138
     go_wp2_with fail
     refine (HLN.out _ F0.out.rd).mono ?_
     rintro e v1 ⟨rfl, hb⟩
     have G1 := Hd (F0.out.quiet hXl hb)
     clear hb
     obtain ⟨hc0, hf0⟩ := G1.out.b0.all
     have hz0 := G1.out.b0.lt
     unfold ncz at hc0
     have hq10 := G1.out.b0.lt
     have G2 := Hd (G1.out.node hXl [.int .i64 0, .string ⟨#[]⟩, .int .u64 0, .int .i64 0, .bool false, .int .i64 0, .int .i64 0, .int .i64 0, .int .i64 0, .int .i64 ((lnR ts s : Nat) : Int), .slice none 0 0])
     go_wp2_with fail
     refine (HK.out _ G2.out.rd).mono ?_
     rintro e v2 ⟨rfl, hb⟩
     clear hc0 hf0 hz0
     have G3 := Hd (G2.out.quiet hXl hb)
     clear hb
     obtain ⟨hc0, hf0, hz0, hc1, hf1, hz1⟩ := G3.out.l2
     go_wp2_with fail
     refine (HT.out _ G3.out.rd).mono ?_
     rintro e v3 ⟨rfl, hb⟩
     have G4 := Hd (G3.out.quiet hXl hb)
     clear hb hc0 hf0 hz0 hc1 hf1 hz1
     obtain ⟨hc0, hf0, hz0, hc1, hf1, hz1⟩ := G4.out.l2
     have hRn0 := (G4.out.bl _ _ (List.Mem.head _)).2
     have hRn1 := (G4.out.bl _ _ (List.Mem.tail _ (List.Mem.head _))).2
     have hRw := G4.out.hR
     obtain ⟨c0, c1, c2, fr1, fr2⟩ := G4.out.rd.cells
     have hzR := G4.out.rd.lt
     clear c0 c2 fr2
     have G5 := Hd (G4.out.advR hXl HIN.out (v := (s.i : Int) + 1) rfl)
     have G6 := Hd (G5.out.s0 hXl (.int .i64 10))
     go_wp2_with fail
     refine (HNM.out _ _ G6.out.rd).mono ?_
     rintro e v4 ⟨rfl, hr, hs⟩
     have G7 := Hd (G6.out.call hr hs)
     clear hr hs hc0 hf0 hz0 hc1 hf1 hz1
     obtain ⟨hc0, hf0, hz0, hc1, hf1, hz1⟩ := G7.out.l2
     have G8 := Hd (G7.out.s1 hXl (.string (str (nmV ts (adv s)))))
     go_wp2_with fail
     refine (HT3.out _ G8.out.rd).mono ?_
     rintro e v5 ⟨rfl, hr, hs⟩
     have G9 := Hd (G8.out.call hr hs)
     clear hr hs hc0 hf0 hz0 hc1 hf1 hz1
     obtain ⟨hc0, hf0, hz0, hc1, hf1, hz1⟩ := G9.out.l2
     go_wp2_with fail
     refine (HEQ.out _ _ G9.out.rd).mono ?_
     rintro e v6 ⟨rfl, hr, hs⟩
     have G10 := Hd (G9.out.call hr hs)
     clear hr hs hc0 hf0 hz0 hc1 hf1 hz1
     obtain ⟨hc0, hf0, hz0, hc1, hf1, hz1⟩ := G10.out.l2
     have G11 := Hd (G10.out.fk)
     go_wp2
     have G12 := Hd (G11.out.drew)
     go_region_law (first | (refine fk_append KT1.out hXl (by rfl) _ _ _ (by rfl) Tryz.underlying26 infoNd2 (by rfl) (by simp [Act.eval]) ?_; intro g1 c1 u1 hk6; have KX1 := Hd hk6; clear hk6; obtain ⟨hd10, he10, hy10, hd11, he11, hy11⟩ := KX1.out.fr.l2) | (go_simp; go_at_call 161; refine (HX.out _ _ G12.out.fr.rd).mono ?_; rintro e y1 ⟨l1, x1, n1, k1, rfl, hT, hr, hs⟩; have KT1 := Hd (G12.out.callT (by simp) hT hr hs); clear hT hr hs; obtain ⟨hu10, hv10, hw10, hu11, hv11, hw11⟩ := KT1.out.fr.l2))
     all_goals
      clear hu10 hv10 hw10 hu11 hv11 hw11
      clear hc0 hf0 hz0 hc1 hf1 hz1
      have G13 := Hd (KX1.out.s10 hXl (.slice (some ⟨g1, 0, none⟩) 1 c1))
      go_wp2_with fail
      refine (HEC.out _ _ G13.out.fr.rd).mono ?_
      rintro e v7 ⟨rfl, hr, hs⟩
      have G14 := Hd (G13.out.call hr hs)
      clear hr hs
      obtain ⟨hc0, hf0, hz0, hc1, hf1, hz1⟩ := G14.out.fr.l2
      have G15 := Hd (G14.out.tree { labK 10 (lnR ts s) with name := nmV ts (adv s), wd := (0 : Int), sg := false })
      go_wp2
      have G16 := Hd (G15.out.stoR hXl (List.Mem.tail _ (List.Mem.head _)) rfl (.int .i64 10) (.string (str (nmV ts (adv s)))) (.int .u64 0) (.int .i64 0) (.bool false) (.int .i64 0) (.int .i64 0) (.int .i64 0) (.int .i64 0) (.int .i64 ((lnR ts s : Nat) : Int)) (.slice (some ⟨g1, 0, none⟩) 1 c1))
      refine bodyPost_ret (G16.out.b0.res1 Tryz.results138 Tryz.underlying28 rfl infoNd _ rfl) rfl ?_
      exact G16.out.outT (rfl)
   | false =>
    rw [g1] at hq1
    cases g2 : hasT ts s [105, 102] with
    | true =>
     rw [g2] at hq2
     have HBR := Hd fun W (h : Rd W R g c ts s) => H.br s W g2 h (by omega)
     clear H
     have HM : one (SQ ts (f + 1) .st s) = (one (SQ ts f .br s)) := by unfold one; rw [SQ, if_neg hk, if_neg (by simp [g0]), if_neg (by simp [g1]), if_pos g2]
     rw [HM]
     clear HM hf hR hk g0 g1 g2
     go_enter Tryz.func138, Tryz.ntmps138
     go_wp2_with fail
     refine (HLN.out _ F0.out.rd).mono ?_
     rintro e v1 ⟨rfl, hb⟩
     have G1 := Hd (F0.out.quiet hXl hb)
     clear hb
     obtain ⟨hc0, hf0⟩ := G1.out.b0.all
     have hz0 := G1.out.b0.lt
     unfold ncz at hc0
     have hq10 := G1.out.b0.lt
     have G2 := Hd (G1.out.node hXl [.int .i64 0, .string ⟨#[]⟩, .int .u64 0, .int .i64 0, .bool false, .int .i64 0, .int .i64 0, .int .i64 0, .int .i64 0, .int .i64 ((lnR ts s : Nat) : Int), .slice none 0 0])
     go_wp2_with fail
     refine (HK.out _ G2.out.rd).mono ?_
     rintro e v2 ⟨rfl, hb⟩
     clear hc0 hf0 hz0
     have G3 := Hd (G2.out.quiet hXl hb)
     clear hb
     obtain ⟨hc0, hf0, hz0, hc1, hf1, hz1⟩ := G3.out.l2
     go_wp2_with fail
     refine (HT.out _ G3.out.rd).mono ?_
     rintro e v3 ⟨rfl, hb⟩
     have G4 := Hd (G3.out.quiet hXl hb)
     clear hb hc0 hf0 hz0 hc1 hf1 hz1
     obtain ⟨hc0, hf0, hz0, hc1, hf1, hz1⟩ := G4.out.l2
     go_wp2_with fail
     refine (HBR.out _ G4.out.rd).mono ?_
     rintro e v4 ⟨l1, x1, n1, k1, rfl, hT, hr, hs⟩
     clear hc0 hf0 hz0 hc1 hf1 hz1
     have G5 := Hd (G4.out.tree hT hr hs)
     clear hT hr hs
     obtain ⟨hc0, hf0, hz0, hc1, hf1, hz1⟩ := G5.out.l2
     go_wp2
     have G6 := Hd (G5.out.stoR hXl (List.Mem.tail _ (List.Mem.head _)) rfl (.int .i64 l1.kind) (.string (str l1.name)) (.int .u64 l1.num) (.int .i64 l1.wd) (.bool l1.sg) (.int .i64 l1.op) (.int .i64 l1.fac) (.int .i64 l1.pip) (.int .i64 l1.unr) (.int .i64 l1.line) (.slice x1 n1 k1))
     refine bodyPost_ret (G6.out.b0.res1 Tryz.results138 Tryz.underlying28 rfl infoNd _ rfl) rfl ?_
     exact G6.out.outT (rfl)
    | false =>
     rw [g2] at hq2
     cases g3 : hasT ts s [35] with
     | true =>
      rw [g3] at hq3
      have HLP := Hd fun W (h : Rd W R g c ts s) => H.lp s W (by simp [g3]) h (by omega)
      clear H
      have HM : one (SQ ts (f + 1) .st s) = (one (SQ ts f .lp s)) := by unfold one; rw [SQ, if_neg hk, if_neg (by simp [g0]), if_neg (by simp [g1]), if_neg (by simp [g2]), if_pos (by simp [g3])]
      rw [HM]
      clear HM hf hR hk g0 g1 g2 g3
      go_enter Tryz.func138, Tryz.ntmps138
      go_wp2_with fail
      refine (HLN.out _ F0.out.rd).mono ?_
      rintro e v1 ⟨rfl, hb⟩
      have G1 := Hd (F0.out.quiet hXl hb)
      clear hb
      obtain ⟨hc0, hf0⟩ := G1.out.b0.all
      have hz0 := G1.out.b0.lt
      unfold ncz at hc0
      have hq10 := G1.out.b0.lt
      have G2 := Hd (G1.out.node hXl [.int .i64 0, .string ⟨#[]⟩, .int .u64 0, .int .i64 0, .bool false, .int .i64 0, .int .i64 0, .int .i64 0, .int .i64 0, .int .i64 ((lnR ts s : Nat) : Int), .slice none 0 0])
      go_wp2_with fail
      refine (HK.out _ G2.out.rd).mono ?_
      rintro e v2 ⟨rfl, hb⟩
      clear hc0 hf0 hz0
      have G3 := Hd (G2.out.quiet hXl hb)
      clear hb
      obtain ⟨hc0, hf0, hz0, hc1, hf1, hz1⟩ := G3.out.l2
      go_wp2_with fail
      refine (HT.out _ G3.out.rd).mono ?_
      rintro e v3 ⟨rfl, hb⟩
      have G4 := Hd (G3.out.quiet hXl hb)
      clear hb hc0 hf0 hz0 hc1 hf1 hz1
      obtain ⟨hc0, hf0, hz0, hc1, hf1, hz1⟩ := G4.out.l2
      go_wp2_with fail
      refine (HLP.out _ G4.out.rd).mono ?_
      rintro e v4 ⟨l1, x1, n1, k1, rfl, hT, hr, hs⟩
      clear hc0 hf0 hz0 hc1 hf1 hz1
      have G5 := Hd (G4.out.tree hT hr hs)
      clear hT hr hs
      obtain ⟨hc0, hf0, hz0, hc1, hf1, hz1⟩ := G5.out.l2
      go_wp2
      have G6 := Hd (G5.out.stoR hXl (List.Mem.tail _ (List.Mem.head _)) rfl (.int .i64 l1.kind) (.string (str l1.name)) (.int .u64 l1.num) (.int .i64 l1.wd) (.bool l1.sg) (.int .i64 l1.op) (.int .i64 l1.fac) (.int .i64 l1.pip) (.int .i64 l1.unr) (.int .i64 l1.line) (.slice x1 n1 k1))
      refine bodyPost_ret (G6.out.b0.res1 Tryz.results138 Tryz.underlying28 rfl infoNd _ rfl) rfl ?_
      exact G6.out.outT (rfl)
     | false =>
      rw [g3] at hq3
      cases g4 : hasT ts s [102, 111, 114] with
      | true =>
       rw [g4] at hq4
       have HLP := Hd fun W (h : Rd W R g c ts s) => H.lp s W (by simp [g4]) h (by omega)
       clear H
       have HM : one (SQ ts (f + 1) .st s) = (one (SQ ts f .lp s)) := by unfold one; rw [SQ, if_neg hk, if_neg (by simp [g0]), if_neg (by simp [g1]), if_neg (by simp [g2]), if_pos (by simp [g4])]
       rw [HM]
       clear HM hf hR hk g0 g1 g2 g3 g4
       go_enter Tryz.func138, Tryz.ntmps138
       go_wp2_with fail
       refine (HLN.out _ F0.out.rd).mono ?_
       rintro e v1 ⟨rfl, hb⟩
       have G1 := Hd (F0.out.quiet hXl hb)
       clear hb
       obtain ⟨hc0, hf0⟩ := G1.out.b0.all
       have hz0 := G1.out.b0.lt
       unfold ncz at hc0
       have hq10 := G1.out.b0.lt
       have G2 := Hd (G1.out.node hXl [.int .i64 0, .string ⟨#[]⟩, .int .u64 0, .int .i64 0, .bool false, .int .i64 0, .int .i64 0, .int .i64 0, .int .i64 0, .int .i64 ((lnR ts s : Nat) : Int), .slice none 0 0])
       go_wp2_with fail
       refine (HK.out _ G2.out.rd).mono ?_
       rintro e v2 ⟨rfl, hb⟩
       clear hc0 hf0 hz0
       have G3 := Hd (G2.out.quiet hXl hb)
       clear hb
       obtain ⟨hc0, hf0, hz0, hc1, hf1, hz1⟩ := G3.out.l2
       go_wp2_with fail
       refine (HT.out _ G3.out.rd).mono ?_
       rintro e v3 ⟨rfl, hb⟩
       have G4 := Hd (G3.out.quiet hXl hb)
       clear hb hc0 hf0 hz0 hc1 hf1 hz1
       obtain ⟨hc0, hf0, hz0, hc1, hf1, hz1⟩ := G4.out.l2
       go_wp2_with fail
       refine (HLP.out _ G4.out.rd).mono ?_
       rintro e v4 ⟨l1, x1, n1, k1, rfl, hT, hr, hs⟩
       clear hc0 hf0 hz0 hc1 hf1 hz1
       have G5 := Hd (G4.out.tree hT hr hs)
       clear hT hr hs
       obtain ⟨hc0, hf0, hz0, hc1, hf1, hz1⟩ := G5.out.l2
       go_wp2
       have G6 := Hd (G5.out.stoR hXl (List.Mem.tail _ (List.Mem.head _)) rfl (.int .i64 l1.kind) (.string (str l1.name)) (.int .u64 l1.num) (.int .i64 l1.wd) (.bool l1.sg) (.int .i64 l1.op) (.int .i64 l1.fac) (.int .i64 l1.pip) (.int .i64 l1.unr) (.int .i64 l1.line) (.slice x1 n1 k1))
       refine bodyPost_ret (G6.out.b0.res1 Tryz.results138 Tryz.underlying28 rfl infoNd _ rfl) rfl ?_
       exact G6.out.outT (rfl)
      | false =>
       rw [g4] at hq4
       cases g5 : hasT ts s [119, 104, 105, 108, 101] with
       | true =>
        rw [g5] at hq5
        have HLP := Hd fun W (h : Rd W R g c ts s) => H.lp s W (by simp [g5]) h (by omega)
        clear H
        have HM : one (SQ ts (f + 1) .st s) = (one (SQ ts f .lp s)) := by unfold one; rw [SQ, if_neg hk, if_neg (by simp [g0]), if_neg (by simp [g1]), if_neg (by simp [g2]), if_pos (by simp [g5])]
        rw [HM]
        clear HM hf hR hk g0 g1 g2 g3 g4 g5
        go_enter Tryz.func138, Tryz.ntmps138
        go_wp2_with fail
        refine (HLN.out _ F0.out.rd).mono ?_
        rintro e v1 ⟨rfl, hb⟩
        have G1 := Hd (F0.out.quiet hXl hb)
        clear hb
        obtain ⟨hc0, hf0⟩ := G1.out.b0.all
        have hz0 := G1.out.b0.lt
        unfold ncz at hc0
        have hq10 := G1.out.b0.lt
        have G2 := Hd (G1.out.node hXl [.int .i64 0, .string ⟨#[]⟩, .int .u64 0, .int .i64 0, .bool false, .int .i64 0, .int .i64 0, .int .i64 0, .int .i64 0, .int .i64 ((lnR ts s : Nat) : Int), .slice none 0 0])
        go_wp2_with fail
        refine (HK.out _ G2.out.rd).mono ?_
        rintro e v2 ⟨rfl, hb⟩
        clear hc0 hf0 hz0
        have G3 := Hd (G2.out.quiet hXl hb)
        clear hb
        obtain ⟨hc0, hf0, hz0, hc1, hf1, hz1⟩ := G3.out.l2
        go_wp2_with fail
        refine (HT.out _ G3.out.rd).mono ?_
        rintro e v3 ⟨rfl, hb⟩
        have G4 := Hd (G3.out.quiet hXl hb)
        clear hb hc0 hf0 hz0 hc1 hf1 hz1
        obtain ⟨hc0, hf0, hz0, hc1, hf1, hz1⟩ := G4.out.l2
        go_wp2_with fail
        refine (HLP.out _ G4.out.rd).mono ?_
        rintro e v4 ⟨l1, x1, n1, k1, rfl, hT, hr, hs⟩
        clear hc0 hf0 hz0 hc1 hf1 hz1
        have G5 := Hd (G4.out.tree hT hr hs)
        clear hT hr hs
        obtain ⟨hc0, hf0, hz0, hc1, hf1, hz1⟩ := G5.out.l2
        go_wp2
        have G6 := Hd (G5.out.stoR hXl (List.Mem.tail _ (List.Mem.head _)) rfl (.int .i64 l1.kind) (.string (str l1.name)) (.int .u64 l1.num) (.int .i64 l1.wd) (.bool l1.sg) (.int .i64 l1.op) (.int .i64 l1.fac) (.int .i64 l1.pip) (.int .i64 l1.unr) (.int .i64 l1.line) (.slice x1 n1 k1))
        refine bodyPost_ret (G6.out.b0.res1 Tryz.results138 Tryz.underlying28 rfl infoNd _ rfl) rfl ?_
        exact G6.out.outT (rfl)
       | false =>
        rw [g5] at hq5
        cases g6 : hasT ts s [115, 101, 110, 100] with
        | true =>
         rw [g6] at hq6
         have hin := hasT_in g6
         have HIN := Hd hin
         have hil : s.i < 65536 := by omega
         clear hin H
         have HM : one (SQ ts (f + 1) .st s) = sendQ ts s := by unfold one; rw [SQ, if_neg hk, if_neg (by simp [g0]), if_neg (by simp [g1]), if_neg (by simp [g2]), if_neg (by simp [g3, g4, g5]), if_pos g6]; rfl
         rw [HM]
         clear HM hf hR hk g0 g1 g2 g3 g4 g5 g6
         have HM : Hid (sendQ ts s = (.node { labK 16 (lnR ts s) with name := nmV ts (adv s) } [(xprQ ts (exc ts (nmS ts (adv s)) [40])).1], exc ts (exc ts (xprQ ts (exc ts (nmS ts (adv s)) [40])).2 [41]) [59])) := Hd rfl
         rw [HM.out]
         clear HM
         go_enter Tryz.func138, Tryz.ntmps138
         go_wp2_with fail
         refine (HLN.out _ F0.out.rd).mono ?_
         rintro e v1 ⟨rfl, hb⟩
         have G1 := Hd (F0.out.quiet hXl hb)
         clear hb
         obtain ⟨hc0, hf0⟩ := G1.out.b0.all
         have hz0 := G1.out.b0.lt
         unfold ncz at hc0
         have hq10 := G1.out.b0.lt
         have G2 := Hd (G1.out.node hXl [.int .i64 0, .string ⟨#[]⟩, .int .u64 0, .int .i64 0, .bool false, .int .i64 0, .int .i64 0, .int .i64 0, .int .i64 0, .int .i64 ((lnR ts s : Nat) : Int), .slice none 0 0])
         go_wp2_with fail
         refine (HK.out _ G2.out.rd).mono ?_
         rintro e v2 ⟨rfl, hb⟩
         clear hc0 hf0 hz0
         have G3 := Hd (G2.out.quiet hXl hb)
         clear hb
         obtain ⟨hc0, hf0, hz0, hc1, hf1, hz1⟩ := G3.out.l2
         go_wp2_with fail
         refine (HT.out _ G3.out.rd).mono ?_
         rintro e v3 ⟨rfl, hb⟩
         have G4 := Hd (G3.out.quiet hXl hb)
         clear hb hc0 hf0 hz0 hc1 hf1 hz1
         obtain ⟨hc0, hf0, hz0, hc1, hf1, hz1⟩ := G4.out.l2
         have hRn0 := (G4.out.bl _ _ (List.Mem.head _)).2
         have hRn1 := (G4.out.bl _ _ (List.Mem.tail _ (List.Mem.head _))).2
         have hRw := G4.out.hR
         obtain ⟨c0, c1, c2, fr1, fr2⟩ := G4.out.rd.cells
         have hzR := G4.out.rd.lt
         clear c0 c2 fr2
         have G5 := Hd (G4.out.advR hXl HIN.out (v := (s.i : Int) + 1) rfl)
         have G6 := Hd (G5.out.s0 hXl (.int .i64 16))
         go_wp2_with fail
         refine (HNM.out _ _ G6.out.rd).mono ?_
         rintro e v4 ⟨rfl, hr, hs⟩
         have G7 := Hd (G6.out.call hr hs)
         clear hr hs hc0 hf0 hz0 hc1 hf1 hz1
         obtain ⟨hc0, hf0, hz0, hc1, hf1, hz1⟩ := G7.out.l2
         have G8 := Hd (G7.out.s1 hXl (.string (str (nmV ts (adv s)))))
         go_wp2_with fail
         refine (HEO.out _ _ G8.out.rd).mono ?_
         rintro e v5 ⟨rfl, hr, hs⟩
         have G9 := Hd (G8.out.call hr hs)
         clear hr hs hc0 hf0 hz0 hc1 hf1 hz1
         obtain ⟨hc0, hf0, hz0, hc1, hf1, hz1⟩ := G9.out.l2
         have G10 := Hd (G9.out.fk)
         go_wp2
         have G11 := Hd (G10.out.drew)
         go_region_law (first | (refine fk_append KT1.out hXl (by rfl) _ _ _ (by rfl) Tryz.underlying26 infoNd2 (by rfl) (by simp [Act.eval]) ?_; intro g1 c1 u1 hk6; have KX1 := Hd hk6; clear hk6; obtain ⟨hd10, he10, hy10, hd11, he11, hy11⟩ := KX1.out.fr.l2) | (go_simp; go_at_call 161; refine (HX.out _ _ G11.out.fr.rd).mono ?_; rintro e y1 ⟨l1, x1, n1, k1, rfl, hT, hr, hs⟩; have KT1 := Hd (G11.out.callT (by simp) hT hr hs); clear hT hr hs; obtain ⟨hu10, hv10, hw10, hu11, hv11, hw11⟩ := KT1.out.fr.l2))
         all_goals
          clear hu10 hv10 hw10 hu11 hv11 hw11
          clear hc0 hf0 hz0 hc1 hf1 hz1
          have G12 := Hd (KX1.out.s10 hXl (.slice (some ⟨g1, 0, none⟩) 1 c1))
          go_wp2_with fail
          refine (HES.out _ _ G12.out.fr.rd).mono ?_
          rintro e v6 ⟨rfl, hr, hs⟩
          have G13 := Hd (G12.out.call hr hs)
          clear hr hs
          obtain ⟨hc0, hf0, hz0, hc1, hf1, hz1⟩ := G13.out.fr.l2
          go_wp2_with fail
          refine (HEC.out _ _ G13.out.fr.rd).mono ?_
          rintro e v7 ⟨rfl, hr, hs⟩
          have G14 := Hd (G13.out.call hr hs)
          clear hr hs hc0 hf0 hz0 hc1 hf1 hz1
          obtain ⟨hc0, hf0, hz0, hc1, hf1, hz1⟩ := G14.out.fr.l2
          have G15 := Hd (G14.out.tree { labK 16 (lnR ts s) with name := nmV ts (adv s) })
          go_wp2
          have G16 := Hd (G15.out.stoR hXl (List.Mem.tail _ (List.Mem.head _)) rfl (.int .i64 16) (.string (str (nmV ts (adv s)))) (.int .u64 0) (.int .i64 0) (.bool false) (.int .i64 0) (.int .i64 0) (.int .i64 0) (.int .i64 0) (.int .i64 ((lnR ts s : Nat) : Int)) (.slice (some ⟨g1, 0, none⟩) 1 c1))
          refine bodyPost_ret (G16.out.b0.res1 Tryz.results138 Tryz.underlying28 rfl infoNd _ rfl) rfl ?_
          exact G16.out.outT (rfl)
        | false =>
         rw [g6] at hq6
         cases g7 : hasT ts s [114, 101, 116, 117, 114, 110] with
         | true =>
          rw [g7] at hq7
          have hin := hasT_in g7
          have HIN := Hd hin
          have hil : s.i < 65536 := by omega
          clear hin H
          have HM : one (SQ ts (f + 1) .st s) = resQ ts s := by unfold one; rw [SQ, if_neg hk, if_neg (by simp [g0]), if_neg (by simp [g1]), if_neg (by simp [g2]), if_neg (by simp [g3, g4, g5]), if_neg (by simp [g6]), if_pos g7]; rfl
          rw [HM]
          clear HM hf hR hk g0 g1 g2 g3 g4 g5 g6 g7
          have HM : Hid (resQ ts s = (.node (labK 17 (lnR ts s)) [(xprQ ts (adv s)).1], exc ts (xprQ ts (adv s)).2 [59])) := Hd rfl
          rw [HM.out]
          clear HM
          go_enter Tryz.func138, Tryz.ntmps138
          go_wp2_with fail
          refine (HLN.out _ F0.out.rd).mono ?_
          rintro e v1 ⟨rfl, hb⟩
          have G1 := Hd (F0.out.quiet hXl hb)
          clear hb
          obtain ⟨hc0, hf0⟩ := G1.out.b0.all
          have hz0 := G1.out.b0.lt
          unfold ncz at hc0
          have hq10 := G1.out.b0.lt
          have G2 := Hd (G1.out.node hXl [.int .i64 0, .string ⟨#[]⟩, .int .u64 0, .int .i64 0, .bool false, .int .i64 0, .int .i64 0, .int .i64 0, .int .i64 0, .int .i64 ((lnR ts s : Nat) : Int), .slice none 0 0])
          go_wp2_with fail
          refine (HK.out _ G2.out.rd).mono ?_
          rintro e v2 ⟨rfl, hb⟩
          clear hc0 hf0 hz0
          have G3 := Hd (G2.out.quiet hXl hb)
          clear hb
          obtain ⟨hc0, hf0, hz0, hc1, hf1, hz1⟩ := G3.out.l2
          go_wp2_with fail
          refine (HT.out _ G3.out.rd).mono ?_
          rintro e v3 ⟨rfl, hb⟩
          have G4 := Hd (G3.out.quiet hXl hb)
          clear hb hc0 hf0 hz0 hc1 hf1 hz1
          obtain ⟨hc0, hf0, hz0, hc1, hf1, hz1⟩ := G4.out.l2
          have G5 := Hd (G4.out.fk)
          have hRn0 := (G5.out.fr.bl _ _ (List.Mem.head _)).2
          have hRn1 := (G5.out.fr.bl _ _ (List.Mem.tail _ (List.Mem.head _))).2
          have hRw := G5.out.fr.hR
          obtain ⟨c0, c1, c2, fr1, fr2⟩ := G5.out.fr.rd.cells
          have hzR := G5.out.fr.rd.lt
          clear c0 c2 fr2
          have G6 := Hd (G5.out.advR hXl HIN.out (u := (s.i : Int) + 1) rfl)
          have G7 := Hd (G6.out.s0 hXl (.int .i64 17))
          go_wp2
          go_wp2
          have G8 := Hd (G7.out.drew)
          go_region_law (first | (refine fk_append KT1.out hXl (by rfl) _ _ _ (by rfl) Tryz.underlying26 infoNd2 (by rfl) (by simp [Act.eval]) ?_; intro g1 c1 u1 hk6; have KX1 := Hd hk6; clear hk6; obtain ⟨hd10, he10, hy10, hd11, he11, hy11⟩ := KX1.out.fr.l2) | (go_simp; go_at_call 161; refine (HX.out _ _ G8.out.fr.rd).mono ?_; rintro e y1 ⟨l1, x1, n1, k1, rfl, hT, hr, hs⟩; have KT1 := Hd (G8.out.callT (by simp) hT hr hs); clear hT hr hs; obtain ⟨hu10, hv10, hw10, hu11, hv11, hw11⟩ := KT1.out.fr.l2))
          all_goals
           clear hu10 hv10 hw10 hu11 hv11 hw11
           clear hc0 hf0 hz0 hc1 hf1 hz1
           have G9 := Hd (KX1.out.s10 hXl (.slice (some ⟨g1, 0, none⟩) 1 c1))
           go_wp2_with fail
           refine (HEC.out _ _ G9.out.fr.rd).mono ?_
           rintro e v4 ⟨rfl, hr, hs⟩
           have G10 := Hd (G9.out.call hr hs)
           clear hr hs
           obtain ⟨hc0, hf0, hz0, hc1, hf1, hz1⟩ := G10.out.fr.l2
           have G11 := Hd (G10.out.tree (labK 17 (lnR ts s)))
           go_wp2
           have G12 := Hd (G11.out.stoR hXl (List.Mem.tail _ (List.Mem.head _)) rfl (.int .i64 17) (.string ⟨#[]⟩) (.int .u64 0) (.int .i64 0) (.bool false) (.int .i64 0) (.int .i64 0) (.int .i64 0) (.int .i64 0) (.int .i64 ((lnR ts s : Nat) : Int)) (.slice (some ⟨g1, 0, none⟩) 1 c1))
           refine bodyPost_ret (G12.out.b0.res1 Tryz.results138 Tryz.underlying28 rfl infoNd _ rfl) rfl ?_
           exact G12.out.outT (rfl)
         | false =>
          rw [g7] at hq7
          have HM : one (SQ ts (f + 1) .st s) = (.node (labK 0 (lnR ts s)) [], stop s) := by unfold one; rw [SQ, if_neg hk, if_neg (by simp [g0]), if_neg (by simp [g1]), if_neg (by simp [g2]), if_neg (by simp [g3, g4, g5]), if_neg (by simp [g6]), if_neg (by simp [g7])]; rfl
          rw [HM]
          clear HM hf hR hk H g0 g1 g2 g3 g4 g5 g6 g7
          go_enter Tryz.func138, Tryz.ntmps138
          go_wp2_with fail
          refine (HLN.out _ F0.out.rd).mono ?_
          rintro e v1 ⟨rfl, hb⟩
          have G1 := Hd (F0.out.quiet hXl hb)
          clear hb
          obtain ⟨hc0, hf0⟩ := G1.out.b0.all
          have hz0 := G1.out.b0.lt
          unfold ncz at hc0
          have hq10 := G1.out.b0.lt
          have G2 := Hd (G1.out.node hXl [.int .i64 0, .string ⟨#[]⟩, .int .u64 0, .int .i64 0, .bool false, .int .i64 0, .int .i64 0, .int .i64 0, .int .i64 0, .int .i64 ((lnR ts s : Nat) : Int), .slice none 0 0])
          go_wp2_with fail
          refine (HK.out _ G2.out.rd).mono ?_
          rintro e v2 ⟨rfl, hb⟩
          clear hc0 hf0 hz0
          have G3 := Hd (G2.out.quiet hXl hb)
          clear hb
          obtain ⟨hc0, hf0, hz0, hc1, hf1, hz1⟩ := G3.out.l2
          go_wp2_with fail
          refine (HT.out _ G3.out.rd).mono ?_
          rintro e v3 ⟨rfl, hb⟩
          have G4 := Hd (G3.out.quiet hXl hb)
          clear hb hc0 hf0 hz0 hc1 hf1 hz1
          obtain ⟨hc0, hf0, hz0, hc1, hf1, hz1⟩ := G4.out.l2
          have hRn0 := (G4.out.bl _ _ (List.Mem.head _)).2
          have hRn1 := (G4.out.bl _ _ (List.Mem.tail _ (List.Mem.head _))).2
          have hRw := G4.out.hR
          obtain ⟨c0, c1, c2, fr1, fr2⟩ := G4.out.rd.cells
          have hzR := G4.out.rd.lt
          clear c0 c1 fr1
          have G5 := Hd (G4.out.badR hXl)
          have G6 := Hd (G5.out.leaf (labK 0 (lnR ts s)))
          go_wp2
          have G7 := Hd (G6.out.stoR hXl (List.Mem.tail _ (List.Mem.head _)) rfl (.int .i64 0) (.string ⟨#[]⟩) (.int .u64 0) (.int .i64 0) (.bool false) (.int .i64 0) (.int .i64 0) (.int .i64 0) (.int .i64 0) (.int .i64 ((lnR ts s : Nat) : Int)) (.slice none 0 0))
          refine bodyPost_ret (G7.out.b0.res1 Tryz.results138 Tryz.underlying28 rfl infoNd _ rfl) rfl ?_
          exact G7.out.outT (rfl)
end Q
end Go.Proofs.YtkliclihpobmiaaGreatDoor
/- The reference's rule branch: contract. -/
namespace Go.Proofs.YtkliclihpobmiaaGreatDoor
namespace Q
open Go Go.RowKit
set_option linter.unusedVariables false
set_option linter.unusedSimpArgs false

theorem SQ_br_no {ts : List Tok} {f : Nat} {s : Sg} (h : hasT ts (one (SQ ts f .bk (xprQ ts (adv s)).2)).2 [101, 108, 115, 101] = false) : one (SQ ts (f + 1) .br s) = (.node (labK 13 (lnR ts s)) [(xprQ ts (adv s)).1, (one (SQ ts f .bk (xprQ ts (adv s)).2)).1], (one (SQ ts f .bk (xprQ ts (adv s)).2)).2) := by
 have h1 := SQ_one f .bk (xprQ ts (adv s)).2 (ts := ts) (by simp)
 have h2 : hasT ts (SQ ts f .bk (xprQ ts (adv s)).2).2 [101, 108, 115, 101] = false := h
 rw [one, SQ, if_neg (by simp [h2]), h1]
 rfl
theorem SQ_br_if {ts : List Tok} {f : Nat} {s : Sg} (h : hasT ts (one (SQ ts f .bk (xprQ ts (adv s)).2)).2 [101, 108, 115, 101] = true) (h3 : hasT ts (adv (one (SQ ts f .bk (xprQ ts (adv s)).2)).2) [105, 102] = true) :
  one (SQ ts (f + 1) .br s) = (.node (labK 13 (lnR ts s)) [(xprQ ts (adv s)).1, (one (SQ ts f .bk (xprQ ts (adv s)).2)).1, (one (SQ ts f .br (adv (one (SQ ts f .bk (xprQ ts (adv s)).2)).2))).1], (one (SQ ts f .br (adv (one (SQ ts f .bk (xprQ ts (adv s)).2)).2))).2) := by
 have h1 := SQ_one f .bk (xprQ ts (adv s)).2 (ts := ts) (by simp)
 have h4 := SQ_one f .br (adv (one (SQ ts f .bk (xprQ ts (adv s)).2)).2) (ts := ts) (by simp)
 have h2 : hasT ts (SQ ts f .bk (xprQ ts (adv s)).2).2 [101, 108, 115, 101] = true := h
 have h5 : hasT ts (adv (SQ ts f .bk (xprQ ts (adv s)).2).2) [105, 102] = true := h3
 have h6 : (SQ ts f .br (adv (SQ ts f .bk (xprQ ts (adv s)).2).2)).1 = [(one (SQ ts f .br (adv (one (SQ ts f .bk (xprQ ts (adv s)).2)).2))).1] := h4
 rw [one, SQ, if_pos h2, if_pos h5, h1, h6]
 rfl
theorem SQ_br_el {ts : List Tok} {f : Nat} {s : Sg} (h : hasT ts (one (SQ ts f .bk (xprQ ts (adv s)).2)).2 [101, 108, 115, 101] = true) (h3 : hasT ts (adv (one (SQ ts f .bk (xprQ ts (adv s)).2)).2) [105, 102] = false) :
  one (SQ ts (f + 1) .br s) = (.node (labK 13 (lnR ts s)) [(xprQ ts (adv s)).1, (one (SQ ts f .bk (xprQ ts (adv s)).2)).1, (one (SQ ts f .bk (adv (one (SQ ts f .bk (xprQ ts (adv s)).2)).2))).1], (one (SQ ts f .bk (adv (one (SQ ts f .bk (xprQ ts (adv s)).2)).2))).2) := by
 have h1 := SQ_one f .bk (xprQ ts (adv s)).2 (ts := ts) (by simp)
 have h4 := SQ_one f .bk (adv (one (SQ ts f .bk (xprQ ts (adv s)).2)).2) (ts := ts) (by simp)
 have h2 : hasT ts (SQ ts f .bk (xprQ ts (adv s)).2).2 [101, 108, 115, 101] = true := h
 have h5 : hasT ts (adv (SQ ts f .bk (xprQ ts (adv s)).2).2) [105, 102] = false := h3
 have h6 : (SQ ts f .bk (adv (SQ ts f .bk (xprQ ts (adv s)).2).2)).1 = [(one (SQ ts f .bk (adv (one (SQ ts f .bk (xprQ ts (adv s)).2)).2))).1] := h4
 rw [one, SQ, if_pos h2, if_neg (by simp [h5]), h1, h6]
 rfl
set_option maxHeartbeats 16000000 in
set_option maxRecDepth 100000 in
theorem branch_no {ts : List Tok} {R g c : Nat} (X : QC ts R g c) (K : KW ts) (f : Nat) (H : SC ts R g c f) (s : Sg) (hv : hasT ts s [105, 102] = true) (w : World) (hR : Rd w R g c ts s) (hf : 8 * rem ts s + 3 ≤ f + 1) (h1 : hasT ts (one (SQ ts f .bk (xprQ ts (adv s)).2)).2 [101, 108, 115, 101] = false) : Calls Tryz.prog 162 #[.pointer (some ⟨R, 0, none⟩)] w (TP w R g c ts (one (SQ ts (f + 1) .br s))) := by
 have hXl := X.x.lt
 have F0 := Hd ((Fr.start hR).node hXl ncz)
 have HLN := Hd fun W (h : Rd W R g c ts s) => line_any X.x W h
 have HK := Hd fun W (h : Rd W R g c ts s) => kind_any X.x W h
 have HX := Hd fun q W (h : Rd W R g c ts q) => xpr_any X q W h
 have HNM := Hd fun q W (h : Rd W R g c ts q) => name_any X.x (s := q) W h
 have HTY := Hd fun q W (h : Rd W R g c ts q) => typ_any X (s := q) W h
 have hin := hasT_in hv
 have HIN := Hd hin
 have hlen := X.x.len
 have hil : s.i < 65536 := by omega
 have hra := rem_adv hin
 have hrx := rem_on (xprQ_on ts (adv s))
 have HBK := Hd fun W (h : Rd W R g c ts (xprQ ts (adv s)).2) => H.bk _ W h (by omega)
 have hrb : rem ts (one (SQ ts f .bk (xprQ ts (adv s)).2)).2 ≤ rem ts (xprQ ts (adv s)).2 := by
  have e : (one (SQ ts f .bk (xprQ ts (adv s)).2)).2 = (S ts f .bk (xprQ ts (adv s)).2).2 := (SQ_st K f).1 _
  rw [e]
  exact rem_on (S_on ts f .bk _ trivial)
 have HSK := Hd fun W (h : Rd W R g c ts (one (SQ ts f .bk (xprQ ts (adv s)).2)).2) => take_any X.x [101, 108, 115, 101] (by simp) W h
 unfold skp at HSK
 have HM : Hid (one (SQ ts (f + 1) .br s) = (.node (labK 13 (lnR ts s)) [(xprQ ts (adv s)).1, (one (SQ ts f .bk (xprQ ts (adv s)).2)).1], (one (SQ ts f .bk (xprQ ts (adv s)).2)).2)) := Hd (SQ_br_no h1)
 rw [HM.out]
 rw [h1] at HSK
 have HX := Hd fun W (h : Rd W R g c ts (adv s)) => HX.out _ W h
 clear HM hR h1 H hin hra hrx hrb hf hv HNM HK HTY
 generalize one (SQ ts f .bk (xprQ ts (adv s)).2) = P2 at *
 generalize lnR ts s = L9 at *
 generalize xprQ ts (adv s) = P1 at *
 go_enter Tryz.func162, Tryz.ntmps162
 go_wp2_with fail
 refine (HLN.out _ F0.out.rd).mono ?_
 rintro e v1 ⟨rfl, hb⟩
 have G1 := Hd (F0.out.quiet hXl hb)
 clear hb
 obtain ⟨hc0, hf0⟩ := G1.out.b0.all
 have hz0 := G1.out.b0.lt
 unfold ncz at hc0
 have hq10 := G1.out.b0.lt
 have G2 := Hd (G1.out.node hXl [.int .i64 13, .string ⟨#[]⟩, .int .u64 0, .int .i64 0, .bool false, .int .i64 0, .int .i64 0, .int .i64 0, .int .i64 0, .int .i64 (L9 : Int), .slice none 0 0])
 obtain ⟨c0, c1, c2, fr1, fr2⟩ := G2.out.rd.cells
 have hzR := G2.out.rd.lt
 clear c0 c2 fr2
 have hRn0 := (G2.out.bl _ _ (List.Mem.head _)).2
 have hRn1 := (G2.out.bl _ _ (List.Mem.tail _ (List.Mem.head _))).2
 have hRw := G2.out.hR
 have G3 := Hd (G2.out.fk)
 have G4 := Hd (G3.out.advR hXl HIN.out (u := (s.i : Int) + 1) rfl)
 go_wp2
 have G5 := Hd (G4.out.drew)
 go_region_law (first | (refine fk_append KT1.out hXl (by rfl) _ _ _ (by rfl) Tryz.underlying26 infoNd2 (by rfl) (by simp [Act.eval]) ?_; intro g1 c1 u1 hk6; have KX1 := Hd hk6; clear hk6; obtain ⟨hd10, he10, hy10, hd11, he11, hy11⟩ := KX1.out.fr.l2) | (go_simp; go_at_call 161; refine (HX.out _ G5.out.fr.rd).mono ?_; rintro e y1 ⟨l1, x1, n1, k1, rfl, hT, hr, hs⟩; have KT1 := Hd (G5.out.callT (by simp) hT hr hs); clear hT hr hs; obtain ⟨hu10, hv10, hw10, hu11, hv11, hw11⟩ := KT1.out.fr.l2))
 all_goals
  clear hu10 hv10 hw10 hu11 hv11 hw11
  clear hc0 hf0 hz0
  have G6 := Hd (KX1.out.s10 hXl (.slice (some ⟨g1, 0, none⟩) 1 c1))
  go_wp2
  have G7 := Hd (G6.out.drew)
  go_region_law (first | (refine fk_append KT2.out hXl (by rfl) _ _ _ (by rfl) Tryz.underlying26 infoNd2 (by rfl) (by simp [Act.eval]) ?_; intro g2 c2 u2 hk6; have KX2 := Hd hk6; clear hk6; obtain ⟨hd20, he20, hy20, hd21, he21, hy21⟩ := KX2.out.fr.l2) | (go_simp; go_at_call 110; refine (HBK.out _ G7.out.fr.rd).mono ?_; rintro e y2 ⟨l2, x2, n2, k2, rfl, hT, hr, hs⟩; have KT2 := Hd (G7.out.callT (by simp) hT hr hs); clear hT hr hs; obtain ⟨hu20, hv20, hw20, hu21, hv21, hw21⟩ := KT2.out.fr.l2))
  all_goals
   clear hu20 hv20 hw20 hu21 hv21 hw21
   have G8 := Hd (KX2.out.s10 hXl (.slice (some ⟨g2, 0, none⟩) 2 c2))
   go_wp2_with fail
   refine (HSK.out _ G8.out.fr.rd).mono ?_
   rintro e v2 ⟨rfl, hr, hs⟩
   have G9 := Hd (G8.out.call hr hs)
   clear hr hs
   obtain ⟨hc0, hf0, hz0, hc1, hf1, hz1⟩ := G9.out.fr.l2
   have G10 := Hd (G9.out.tree (labK 13 L9))
   go_wp2
   have G11 := Hd (G10.out.stoR hXl (List.Mem.tail _ (List.Mem.head _)) rfl (.int .i64 13) (.string ⟨#[]⟩) (.int .u64 0) (.int .i64 0) (.bool false) (.int .i64 0) (.int .i64 0) (.int .i64 0) (.int .i64 0) (.int .i64 (L9 : Int)) (.slice (some ⟨g2, 0, none⟩) 2 c2))
   refine bodyPost_ret (G11.out.b0.res1 Tryz.results162 Tryz.underlying28 rfl infoNd _ rfl) rfl ?_
   exact G11.out.outT (rfl)

set_option maxHeartbeats 16000000 in
set_option maxRecDepth 100000 in
theorem branch_if {ts : List Tok} {R g c : Nat} (X : QC ts R g c) (K : KW ts) (f : Nat) (H : SC ts R g c f) (s : Sg) (hv : hasT ts s [105, 102] = true) (w : World) (hR : Rd w R g c ts s) (hf : 8 * rem ts s + 3 ≤ f + 1) (h1 : hasT ts (one (SQ ts f .bk (xprQ ts (adv s)).2)).2 [101, 108, 115, 101] = true) (h2 : hasT ts (adv (one (SQ ts f .bk (xprQ ts (adv s)).2)).2) [105, 102] = true) : Calls Tryz.prog 162 #[.pointer (some ⟨R, 0, none⟩)] w (TP w R g c ts (one (SQ ts (f + 1) .br s))) := by
 have hXl := X.x.lt
 have F0 := Hd ((Fr.start hR).node hXl ncz)
 have HLN := Hd fun W (h : Rd W R g c ts s) => line_any X.x W h
 have HK := Hd fun W (h : Rd W R g c ts s) => kind_any X.x W h
 have HX := Hd fun q W (h : Rd W R g c ts q) => xpr_any X q W h
 have HNM := Hd fun q W (h : Rd W R g c ts q) => name_any X.x (s := q) W h
 have HTY := Hd fun q W (h : Rd W R g c ts q) => typ_any X (s := q) W h
 have hin := hasT_in hv
 have HIN := Hd hin
 have hlen := X.x.len
 have hil : s.i < 65536 := by omega
 have hra := rem_adv hin
 have hrx := rem_on (xprQ_on ts (adv s))
 have HBK := Hd fun W (h : Rd W R g c ts (xprQ ts (adv s)).2) => H.bk _ W h (by omega)
 have hrb : rem ts (one (SQ ts f .bk (xprQ ts (adv s)).2)).2 ≤ rem ts (xprQ ts (adv s)).2 := by
  have e : (one (SQ ts f .bk (xprQ ts (adv s)).2)).2 = (S ts f .bk (xprQ ts (adv s)).2).2 := (SQ_st K f).1 _
  rw [e]
  exact rem_on (S_on ts f .bk _ trivial)
 have HSK := Hd fun W (h : Rd W R g c ts (one (SQ ts f .bk (xprQ ts (adv s)).2)).2) => take_any X.x [101, 108, 115, 101] (by simp) W h
 unfold skp at HSK
 have hin2 := hasT_in h1
 have hra2 := rem_adv hin2
 rw [h1] at HSK
 have HT2 := Hd fun W (h : Rd W R g c ts (adv (one (SQ ts f .bk (xprQ ts (adv s)).2)).2)) => text_any X.x W h
 have hq1 := str_lit ts (adv (one (SQ ts f .bk (xprQ ts (adv s)).2)).2) [105, 102]
 have HM : Hid (one (SQ ts (f + 1) .br s) = (.node (labK 13 (lnR ts s)) [(xprQ ts (adv s)).1, (one (SQ ts f .bk (xprQ ts (adv s)).2)).1, (one (SQ ts f .br (adv (one (SQ ts f .bk (xprQ ts (adv s)).2)).2))).1], (one (SQ ts f .br (adv (one (SQ ts f .bk (xprQ ts (adv s)).2)).2))).2)) := Hd (SQ_br_if h1 h2)
 rw [HM.out]
 rw [h2] at hq1
 have HRU := Hd fun W (h : Rd W R g c ts (adv (one (SQ ts f .bk (xprQ ts (adv s)).2)).2)) => H.br _ W h2 h (by omega)
 have HX := Hd fun W (h : Rd W R g c ts (adv s)) => HX.out _ W h
 clear HM hR h1 h2 H hin hra hrx hrb hf hv hin2 hra2 HNM HK HTY
 generalize one (SQ ts f .br (adv (one (SQ ts f .bk (xprQ ts (adv s)).2)).2)) = P3 at *
 generalize one (SQ ts f .bk (xprQ ts (adv s)).2) = P2 at *
 generalize lnR ts s = L9 at *
 generalize xprQ ts (adv s) = P1 at *
 go_enter Tryz.func162, Tryz.ntmps162
 go_wp2_with fail
 refine (HLN.out _ F0.out.rd).mono ?_
 rintro e v1 ⟨rfl, hb⟩
 have G1 := Hd (F0.out.quiet hXl hb)
 clear hb
 obtain ⟨hc0, hf0⟩ := G1.out.b0.all
 have hz0 := G1.out.b0.lt
 unfold ncz at hc0
 have hq10 := G1.out.b0.lt
 have G2 := Hd (G1.out.node hXl [.int .i64 13, .string ⟨#[]⟩, .int .u64 0, .int .i64 0, .bool false, .int .i64 0, .int .i64 0, .int .i64 0, .int .i64 0, .int .i64 (L9 : Int), .slice none 0 0])
 obtain ⟨c0, c1, c2, fr1, fr2⟩ := G2.out.rd.cells
 have hzR := G2.out.rd.lt
 clear c0 c2 fr2
 have hRn0 := (G2.out.bl _ _ (List.Mem.head _)).2
 have hRn1 := (G2.out.bl _ _ (List.Mem.tail _ (List.Mem.head _))).2
 have hRw := G2.out.hR
 have G3 := Hd (G2.out.fk)
 have G4 := Hd (G3.out.advR hXl HIN.out (u := (s.i : Int) + 1) rfl)
 go_wp2
 have G5 := Hd (G4.out.drew)
 go_region_law (first | (refine fk_append KT1.out hXl (by rfl) _ _ _ (by rfl) Tryz.underlying26 infoNd2 (by rfl) (by simp [Act.eval]) ?_; intro g1 c1 u1 hk6; have KX1 := Hd hk6; clear hk6; obtain ⟨hd10, he10, hy10, hd11, he11, hy11⟩ := KX1.out.fr.l2) | (go_simp; go_at_call 161; refine (HX.out _ G5.out.fr.rd).mono ?_; rintro e y1 ⟨l1, x1, n1, k1, rfl, hT, hr, hs⟩; have KT1 := Hd (G5.out.callT (by simp) hT hr hs); clear hT hr hs; obtain ⟨hu10, hv10, hw10, hu11, hv11, hw11⟩ := KT1.out.fr.l2))
 all_goals
  clear hu10 hv10 hw10 hu11 hv11 hw11
  clear hc0 hf0 hz0
  have G6 := Hd (KX1.out.s10 hXl (.slice (some ⟨g1, 0, none⟩) 1 c1))
  go_wp2
  have G7 := Hd (G6.out.drew)
  go_region_law (first | (refine fk_append KT2.out hXl (by rfl) _ _ _ (by rfl) Tryz.underlying26 infoNd2 (by rfl) (by simp [Act.eval]) ?_; intro g2 c2 u2 hk6; have KX2 := Hd hk6; clear hk6; obtain ⟨hd20, he20, hy20, hd21, he21, hy21⟩ := KX2.out.fr.l2) | (go_simp; go_at_call 110; refine (HBK.out _ G7.out.fr.rd).mono ?_; rintro e y2 ⟨l2, x2, n2, k2, rfl, hT, hr, hs⟩; have KT2 := Hd (G7.out.callT (by simp) hT hr hs); clear hT hr hs; obtain ⟨hu20, hv20, hw20, hu21, hv21, hw21⟩ := KT2.out.fr.l2))
  all_goals
   clear hu20 hv20 hw20 hu21 hv21 hw21
   have G8 := Hd (KX2.out.s10 hXl (.slice (some ⟨g2, 0, none⟩) 2 c2))
   go_wp2_with fail
   refine (HSK.out _ G8.out.fr.rd).mono ?_
   rintro e v2 ⟨rfl, hr, hs⟩
   have G9 := Hd (G8.out.call hr hs)
   clear hr hs
   obtain ⟨hc0, hf0, hz0, hc1, hf1, hz1⟩ := G9.out.fr.l2
   go_wp2_with fail
   refine (HT2.out _ G9.out.fr.rd).mono ?_
   rintro e v3 ⟨rfl, hb⟩
   have G10 := Hd (G9.out.quiet hXl hb)
   clear hb hc0 hf0 hz0 hc1 hf1 hz1
   obtain ⟨hc0, hf0, hz0, hc1, hf1, hz1⟩ := G10.out.fr.l2
   go_wp2
   have G11 := Hd (G10.out.drew)
   go_region_law (first | (refine fk_append KT3.out hXl (by rfl) _ _ _ (by rfl) Tryz.underlying26 infoNd2 (by rfl) (by simp [Act.eval]) ?_; intro g3 c3 u3 hk6; have KX3 := Hd hk6; clear hk6; obtain ⟨hd30, he30, hy30, hd31, he31, hy31⟩ := KX3.out.fr.l2) | (go_simp; go_at_call 162; refine (HRU.out _ G11.out.fr.rd).mono ?_; rintro e y3 ⟨l3, x3, n3, k3, rfl, hT, hr, hs⟩; have KT3 := Hd (G11.out.callT (by simp) hT hr hs); clear hT hr hs; obtain ⟨hu30, hv30, hw30, hu31, hv31, hw31⟩ := KT3.out.fr.l2))
   all_goals
    clear hu30 hv30 hw30 hu31 hv31 hw31
    clear hc0 hf0 hz0 hc1 hf1 hz1
    have G12 := Hd (KX3.out.s10 hXl (.slice (some ⟨g3, 0, none⟩) 3 c3))
    have G13 := Hd (G12.out.tree (labK 13 L9))
    go_wp2
    have G14 := Hd (G13.out.stoR hXl (List.Mem.tail _ (List.Mem.head _)) rfl (.int .i64 13) (.string ⟨#[]⟩) (.int .u64 0) (.int .i64 0) (.bool false) (.int .i64 0) (.int .i64 0) (.int .i64 0) (.int .i64 0) (.int .i64 (L9 : Int)) (.slice (some ⟨g3, 0, none⟩) 3 c3))
    refine bodyPost_ret (G14.out.b0.res1 Tryz.results162 Tryz.underlying28 rfl infoNd _ rfl) rfl ?_
    exact G14.out.outT (rfl)

set_option maxHeartbeats 16000000 in
set_option maxRecDepth 100000 in
theorem branch_el {ts : List Tok} {R g c : Nat} (X : QC ts R g c) (K : KW ts) (f : Nat) (H : SC ts R g c f) (s : Sg) (hv : hasT ts s [105, 102] = true) (w : World) (hR : Rd w R g c ts s) (hf : 8 * rem ts s + 3 ≤ f + 1) (h1 : hasT ts (one (SQ ts f .bk (xprQ ts (adv s)).2)).2 [101, 108, 115, 101] = true) (h2 : hasT ts (adv (one (SQ ts f .bk (xprQ ts (adv s)).2)).2) [105, 102] = false) : Calls Tryz.prog 162 #[.pointer (some ⟨R, 0, none⟩)] w (TP w R g c ts (one (SQ ts (f + 1) .br s))) := by
 have hXl := X.x.lt
 have F0 := Hd ((Fr.start hR).node hXl ncz)
 have HLN := Hd fun W (h : Rd W R g c ts s) => line_any X.x W h
 have HK := Hd fun W (h : Rd W R g c ts s) => kind_any X.x W h
 have HX := Hd fun q W (h : Rd W R g c ts q) => xpr_any X q W h
 have HNM := Hd fun q W (h : Rd W R g c ts q) => name_any X.x (s := q) W h
 have HTY := Hd fun q W (h : Rd W R g c ts q) => typ_any X (s := q) W h
 have hin := hasT_in hv
 have HIN := Hd hin
 have hlen := X.x.len
 have hil : s.i < 65536 := by omega
 have hra := rem_adv hin
 have hrx := rem_on (xprQ_on ts (adv s))
 have HBK := Hd fun W (h : Rd W R g c ts (xprQ ts (adv s)).2) => H.bk _ W h (by omega)
 have hrb : rem ts (one (SQ ts f .bk (xprQ ts (adv s)).2)).2 ≤ rem ts (xprQ ts (adv s)).2 := by
  have e : (one (SQ ts f .bk (xprQ ts (adv s)).2)).2 = (S ts f .bk (xprQ ts (adv s)).2).2 := (SQ_st K f).1 _
  rw [e]
  exact rem_on (S_on ts f .bk _ trivial)
 have HSK := Hd fun W (h : Rd W R g c ts (one (SQ ts f .bk (xprQ ts (adv s)).2)).2) => take_any X.x [101, 108, 115, 101] (by simp) W h
 unfold skp at HSK
 have hin2 := hasT_in h1
 have hra2 := rem_adv hin2
 rw [h1] at HSK
 have HT2 := Hd fun W (h : Rd W R g c ts (adv (one (SQ ts f .bk (xprQ ts (adv s)).2)).2)) => text_any X.x W h
 have hq1 := str_lit ts (adv (one (SQ ts f .bk (xprQ ts (adv s)).2)).2) [105, 102]
 have HM : Hid (one (SQ ts (f + 1) .br s) = (.node (labK 13 (lnR ts s)) [(xprQ ts (adv s)).1, (one (SQ ts f .bk (xprQ ts (adv s)).2)).1, (one (SQ ts f .bk (adv (one (SQ ts f .bk (xprQ ts (adv s)).2)).2))).1], (one (SQ ts f .bk (adv (one (SQ ts f .bk (xprQ ts (adv s)).2)).2))).2)) := Hd (SQ_br_el h1 h2)
 rw [HM.out]
 rw [h2] at hq1
 have HRU := Hd fun W (h : Rd W R g c ts (adv (one (SQ ts f .bk (xprQ ts (adv s)).2)).2)) => H.bk _ W h (by omega)
 have HX := Hd fun W (h : Rd W R g c ts (adv s)) => HX.out _ W h
 clear HM hR h1 h2 H hin hra hrx hrb hf hv hin2 hra2 HNM HK HTY
 generalize one (SQ ts f .bk (adv (one (SQ ts f .bk (xprQ ts (adv s)).2)).2)) = P3 at *
 generalize one (SQ ts f .bk (xprQ ts (adv s)).2) = P2 at *
 generalize lnR ts s = L9 at *
 generalize xprQ ts (adv s) = P1 at *
 go_enter Tryz.func162, Tryz.ntmps162
 go_wp2_with fail
 refine (HLN.out _ F0.out.rd).mono ?_
 rintro e v1 ⟨rfl, hb⟩
 have G1 := Hd (F0.out.quiet hXl hb)
 clear hb
 obtain ⟨hc0, hf0⟩ := G1.out.b0.all
 have hz0 := G1.out.b0.lt
 unfold ncz at hc0
 have hq10 := G1.out.b0.lt
 have G2 := Hd (G1.out.node hXl [.int .i64 13, .string ⟨#[]⟩, .int .u64 0, .int .i64 0, .bool false, .int .i64 0, .int .i64 0, .int .i64 0, .int .i64 0, .int .i64 (L9 : Int), .slice none 0 0])
 obtain ⟨c0, c1, c2, fr1, fr2⟩ := G2.out.rd.cells
 have hzR := G2.out.rd.lt
 clear c0 c2 fr2
 have hRn0 := (G2.out.bl _ _ (List.Mem.head _)).2
 have hRn1 := (G2.out.bl _ _ (List.Mem.tail _ (List.Mem.head _))).2
 have hRw := G2.out.hR
 have G3 := Hd (G2.out.fk)
 have G4 := Hd (G3.out.advR hXl HIN.out (u := (s.i : Int) + 1) rfl)
 go_wp2
 have G5 := Hd (G4.out.drew)
 go_region_law (first | (refine fk_append KT1.out hXl (by rfl) _ _ _ (by rfl) Tryz.underlying26 infoNd2 (by rfl) (by simp [Act.eval]) ?_; intro g1 c1 u1 hk6; have KX1 := Hd hk6; clear hk6; obtain ⟨hd10, he10, hy10, hd11, he11, hy11⟩ := KX1.out.fr.l2) | (go_simp; go_at_call 161; refine (HX.out _ G5.out.fr.rd).mono ?_; rintro e y1 ⟨l1, x1, n1, k1, rfl, hT, hr, hs⟩; have KT1 := Hd (G5.out.callT (by simp) hT hr hs); clear hT hr hs; obtain ⟨hu10, hv10, hw10, hu11, hv11, hw11⟩ := KT1.out.fr.l2))
 all_goals
  clear hu10 hv10 hw10 hu11 hv11 hw11
  clear hc0 hf0 hz0
  have G6 := Hd (KX1.out.s10 hXl (.slice (some ⟨g1, 0, none⟩) 1 c1))
  go_wp2
  have G7 := Hd (G6.out.drew)
  go_region_law (first | (refine fk_append KT2.out hXl (by rfl) _ _ _ (by rfl) Tryz.underlying26 infoNd2 (by rfl) (by simp [Act.eval]) ?_; intro g2 c2 u2 hk6; have KX2 := Hd hk6; clear hk6; obtain ⟨hd20, he20, hy20, hd21, he21, hy21⟩ := KX2.out.fr.l2) | (go_simp; go_at_call 110; refine (HBK.out _ G7.out.fr.rd).mono ?_; rintro e y2 ⟨l2, x2, n2, k2, rfl, hT, hr, hs⟩; have KT2 := Hd (G7.out.callT (by simp) hT hr hs); clear hT hr hs; obtain ⟨hu20, hv20, hw20, hu21, hv21, hw21⟩ := KT2.out.fr.l2))
  all_goals
   clear hu20 hv20 hw20 hu21 hv21 hw21
   have G8 := Hd (KX2.out.s10 hXl (.slice (some ⟨g2, 0, none⟩) 2 c2))
   go_wp2_with fail
   refine (HSK.out _ G8.out.fr.rd).mono ?_
   rintro e v2 ⟨rfl, hr, hs⟩
   have G9 := Hd (G8.out.call hr hs)
   clear hr hs
   obtain ⟨hc0, hf0, hz0, hc1, hf1, hz1⟩ := G9.out.fr.l2
   go_wp2_with fail
   refine (HT2.out _ G9.out.fr.rd).mono ?_
   rintro e v3 ⟨rfl, hb⟩
   have G10 := Hd (G9.out.quiet hXl hb)
   clear hb hc0 hf0 hz0 hc1 hf1 hz1
   obtain ⟨hc0, hf0, hz0, hc1, hf1, hz1⟩ := G10.out.fr.l2
   go_wp2
   have G11 := Hd (G10.out.drew)
   go_region_law (first | (refine fk_append KT3.out hXl (by rfl) _ _ _ (by rfl) Tryz.underlying26 infoNd2 (by rfl) (by simp [Act.eval]) ?_; intro g3 c3 u3 hk6; have KX3 := Hd hk6; clear hk6; obtain ⟨hd30, he30, hy30, hd31, he31, hy31⟩ := KX3.out.fr.l2) | (go_simp; go_at_call 110; refine (HRU.out _ G11.out.fr.rd).mono ?_; rintro e y3 ⟨l3, x3, n3, k3, rfl, hT, hr, hs⟩; have KT3 := Hd (G11.out.callT (by simp) hT hr hs); clear hT hr hs; obtain ⟨hu30, hv30, hw30, hu31, hv31, hw31⟩ := KT3.out.fr.l2))
   all_goals
    clear hu30 hv30 hw30 hu31 hv31 hw31
    clear hc0 hf0 hz0 hc1 hf1 hz1
    have G12 := Hd (KX3.out.s10 hXl (.slice (some ⟨g3, 0, none⟩) 3 c3))
    have G13 := Hd (G12.out.tree (labK 13 L9))
    go_wp2
    have G14 := Hd (G13.out.stoR hXl (List.Mem.tail _ (List.Mem.head _)) rfl (.int .i64 13) (.string ⟨#[]⟩) (.int .u64 0) (.int .i64 0) (.bool false) (.int .i64 0) (.int .i64 0) (.int .i64 0) (.int .i64 0) (.int .i64 (L9 : Int)) (.slice (some ⟨g3, 0, none⟩) 3 c3))
    refine bodyPost_ret (G14.out.b0.res1 Tryz.results162 Tryz.underlying28 rfl infoNd _ rfl) rfl ?_
    exact G14.out.outT (rfl)

set_option maxHeartbeats 16000000 in
set_option maxRecDepth 100000 in
theorem branch_step {ts : List Tok} {R g c : Nat} (X : QC ts R g c) (K : KW ts) (f : Nat) (H : SC ts R g c f) (s : Sg) (hv : hasT ts s [105, 102] = true) (w : World) (hR : Rd w R g c ts s) (hf : 8 * rem ts s + 3 ≤ f + 1) : Calls Tryz.prog 162 #[.pointer (some ⟨R, 0, none⟩)] w (TP w R g c ts (one (SQ ts (f + 1) .br s))) := by
 cases h1 : hasT ts (one (SQ ts f .bk (xprQ ts (adv s)).2)).2 [101, 108, 115, 101] with
 | false => exact branch_no X K f H s hv w hR hf h1
 | true =>
  cases h2 : hasT ts (adv (one (SQ ts f .bk (xprQ ts (adv s)).2)).2) [105, 102] with
  | true => exact branch_if X K f H s hv w hR hf h1 h2
  | false => exact branch_el X K f H s hv w hR hf h1 h2
end Q
end Go.Proofs.YtkliclihpobmiaaGreatDoor
/- The reference's rule block: contract. -/
namespace Go.Proofs.YtkliclihpobmiaaGreatDoor
namespace Q
open Go Go.RowKit
set_option linter.unusedVariables false
set_option linter.unusedSimpArgs false

def BkSt (ts : List Tok) (R g c : Nat) (w : World) (L0 L1 f base : Nat) (Z : List Tree × Sg) (L9 : Nat) (wr : World) (st : Sg) : Prop :=
 ∃ (x : Option Addr) (k F : Nat) (acc : List Tree), FK w wr R g c ts st [(L1, [.int .i64 8, .string ⟨#[]⟩, .int .u64 0, .int .i64 0, .bool false, .int .i64 0, .int .i64 0, .int .i64 0, .int .i64 0, .int .i64 (L9 : Int), .slice x acc.length k]), (L0, ncz)] base (.slice x acc.length k) acc ∧ Z = SQ ts (F + 1) (.bs acc) st ∧ (st.bad = true ∨ 8 * rem ts st + 5 ≤ F + 1) ∧ F ≤ f ∧ acc.length + rem ts st ≤ ts.length + (if st.bad then 1 else 0)
theorem SQ_bs_bad {ts : List Tok} {F : Nat} {acc : List Tree} {st : Sg} (h : st.bad = true) : SQ ts (F + 1) (.bs acc) st = (acc, st) := by rw [SQ, if_pos h]
theorem SQ_bs_end {ts : List Tok} {F : Nat} {acc : List Tree} {st : Sg} (h : st.bad = false) (h2 : hasT ts st [125] = true) : SQ ts (F + 1) (.bs acc) st = (acc, adv st) := by rw [SQ, if_neg (by simp [h]), if_pos h2]
theorem SQ_bs_more {ts : List Tok} {F : Nat} {acc : List Tree} {st : Sg} (h : st.bad = false) (h2 : hasT ts st [125] = false) : SQ ts (F + 1) (.bs acc) st = SQ ts F (.bs (acc ++ [(one (SQ ts F .st st)).1])) (one (SQ ts F .st st)).2 := by
 rw [SQ, if_neg (by simp [h]), if_neg (by simp [h2]), SQ_one F .st st (by simp)]
 rfl
set_option maxHeartbeats 2000000 in
set_option maxRecDepth 100000 in
theorem block_step {ts : List Tok} {R g c : Nat} (X : QC ts R g c) (K : KW ts) (f : Nat) (H : ∀ f1, f1 ≤ f → SC ts R g c f1) (s : Sg) (w : World) (hR : Rd w R g c ts s) (hf : 8 * rem ts s + 6 ≤ f + 1) : Calls Tryz.prog 110 #[.pointer (some ⟨R, 0, none⟩)] w (TP w R g c ts (one (SQ ts (f + 1) .bk s))) := by
 have hXl := X.x.lt
 have F0 := Hd ((Fr.start hR).node hXl ncz)
 have HLN := Hd fun W (h : Rd W R g c ts s) => line_any X.x W h
 have HEO := Hd fun q W (h : Rd W R g c ts q) => need_any X.x (s := q) [123] (by simp) W h
 have HTC := Hd fun q W (h : Rd W R g c ts q) => take_any X.x (s := q) [125] (by simp) W h
 have hrx := rem_on (exc_on (ts := ts) (s := s) (c := 123) (t := []))
 have hlen := X.x.len
 unfold skp at HTC
 obtain ⟨f1, rfl⟩ : ∃ f1, f = f1 + 1 := ⟨f - 1, by omega⟩
 obtain ⟨Z, hZ⟩ : ∃ Z, Z = SQ ts (f1 + 1) (.bs []) (exc ts s [123]) := ⟨_, rfl⟩
 have HM : Hid (one (SQ ts (f1 + 1 + 1) .bk s) = (.node (labK 8 (lnR ts s)) Z.1, Z.2)) := Hd (by rw [hZ]; rfl)
 rw [HM.out]
 have HZ := Hd hZ
 have HIH := Hd H
 have HKW := Hd K
 have hrl : ([] : List Tree).length + rem ts (exc ts s [123]) ≤ ts.length + (if (exc ts s [123]).bad then 1 else 0) := by have := rem_le (ts := ts) (s := exc ts s [123]); simp; omega
 have hfu : (exc ts s [123]).bad = true ∨ 8 * rem ts (exc ts s [123]) + 5 ≤ f1 + 1 := Or.inr (by omega)
 clear HM hR hZ hf H hrx K
 generalize lnR ts s = L9 at *
 go_enter Tryz.func110, Tryz.ntmps110
 go_wp2_with fail
 refine (HLN.out _ F0.out.rd).mono ?_
 rintro e v1 ⟨rfl, hb⟩
 have G1 := Hd (F0.out.quiet hXl hb)
 clear hb
 obtain ⟨hc0, hf0⟩ := G1.out.b0.all
 have hz0 := G1.out.b0.lt
 unfold ncz at hc0
 have hq10 := G1.out.b0.lt
 have G2 := Hd (G1.out.node hXl [.int .i64 8, .string ⟨#[]⟩, .int .u64 0, .int .i64 0, .bool false, .int .i64 0, .int .i64 0, .int .i64 0, .int .i64 0, .int .i64 (L9 : Int), .slice none 0 0])
 go_wp2_with fail
 refine (HEO.out _ _ G2.out.rd).mono ?_
 rintro e v2 ⟨rfl, hr, hs⟩
 clear hc0 hf0 hz0
 have G3 := Hd (G2.out.call hr hs)
 clear hr hs
 obtain ⟨hc0, hf0, hz0, hc1, hf1, hz1⟩ := G3.out.l2
 have G4 := Hd (G3.out.fk)
 have h0 : Hid (BkSt ts R g c w w.heap.size v1.heap.size (f1 + 1) v2.heap.size Z L9 v2 (exc ts s [123])) := Hd ⟨none, 0, f1, [], G4.out, HZ.out, hfu, by omega, hrl⟩
 have hL01 : w.heap.size < v1.heap.size := hq10
 clear hfu HZ hrl HLN
 go_wp2
 go_loopw [9] (fun _ wr => ∃ st, Hid (BkSt ts R g c w w.heap.size v1.heap.size (f1 + 1) v2.heap.size Z L9 wr st)) (fun _ wr => mW wr R ts.length)
 case atStart => exact ⟨_, h0⟩
 case round =>
  obtain ⟨st, hT⟩ := hrel
  obtain ⟨xk, kk, F, acc, hFr, hZ, hfu2, hFf, hal⟩ := hT.out
  have J0 := Hd hFr
  have HZ2 := Hd hZ
  obtain ⟨c0, c1, c2, f1a, f2a⟩ := J0.out.fr.rd.cells
  have hzR := J0.out.fr.rd.lt
  have hatl := J0.out.fr.rd.hi
  have hm0 := mW_rd J0.out.fr.rd
  clear hFr hZ hT h0 c0 c1 f1a f2a
  cases hb : st.bad with
  | true =>
   rw [hb] at c2
   have HZ3 : Hid (Z = (acc, st)) := Hd (HZ2.out.trans (SQ_bs_bad hb))
   clear HZ2 hb hm0 hfu2 hal
   have hzz := HZ3.out
   subst hzz
   clear HZ3
   obtain ⟨hc0, hf0, hz0, hc1, hf1, hz1⟩ := J0.out.fr.l2
   have G51 := Hd (J0.out.tree (labK 8 L9))
   go_wp2
   have G52 := Hd (G51.out.stoR hXl (List.Mem.tail _ (List.Mem.head _)) rfl (.int .i64 8) (.string ⟨#[]⟩) (.int .u64 0) (.int .i64 0) (.bool false) (.int .i64 0) (.int .i64 0) (.int .i64 0) (.int .i64 0) (.int .i64 (L9 : Int)) (.slice xk acc.length kk))
   refine bodyPost_ret (G52.out.b0.res1 Tryz.results110 Tryz.underlying28 rfl infoNd _ rfl) rfl ?_
   exact G52.out.outT (rfl)
  | false =>
   rw [hb] at c2 hm0 hal
   have hfu3 : 8 * rem ts st + 5 ≤ F + 1 := hfu2.resolve_left (by simp [hb])
   have HS2 := Hd fun W (h : Rd W R g c ts st) => HTC.out st W h
   clear hfu2
   cases hc : hasT ts st [125] with
   | true =>
    rw [hc] at HS2
    have HZ3 : Hid (Z = (acc, adv st)) := Hd (HZ2.out.trans (SQ_bs_end hb hc))
    clear HZ2 hb hc hm0 hfu3 hal
    have hzz := HZ3.out
    subst hzz
    clear HZ3
    go_wp2_with fail
    refine (HS2.out _ J0.out.fr.rd).mono ?_
    rintro e v5 ⟨rfl, hr, hs⟩
    have G61 := Hd (J0.out.call hr hs)
    clear hr hs
    obtain ⟨hc0, hf0, hz0, hc1, hf1, hz1⟩ := G61.out.fr.l2
    clear c2
    have G62 := Hd (G61.out.tree (labK 8 L9))
    go_wp2
    have G63 := Hd (G62.out.stoR hXl (List.Mem.tail _ (List.Mem.head _)) rfl (.int .i64 8) (.string ⟨#[]⟩) (.int .u64 0) (.int .i64 0) (.bool false) (.int .i64 0) (.int .i64 0) (.int .i64 0) (.int .i64 0) (.int .i64 (L9 : Int)) (.slice xk acc.length kk))
    refine bodyPost_ret (G63.out.b0.res1 Tryz.results110 Tryz.underlying28 rfl infoNd _ rfl) rfl ?_
    exact G63.out.outT (rfl)
   | false =>
    rw [hc] at HS2
    obtain ⟨F2, rfl⟩ : ∃ F2, F = F2 + 2 := ⟨F - 2, by omega⟩
    have HZ3 : Hid (Z = SQ ts (F2 + 2) (.bs (acc ++ [(one (SQ ts (F2 + 2) .st st)).1])) (one (SQ ts (F2 + 2) .st st)).2) := Hd (HZ2.out.trans (SQ_bs_more hb hc))
    have hpr := stQ_prog HKW.out (f := F2) (s := st) hb
    have HPR := Hd hpr
    have HST := Hd fun W (h : Rd W R g c ts st) => (HIH.out (F2 + 2) hFf).st st W h (by omega)
    have hfew : acc.length ≤ 99999 := by simp at hal; omega
    have HM0 := Hd hm0
    clear HZ2 hb hc hm0 hpr
    go_wp2_with fail
    refine (HS2.out _ J0.out.fr.rd).mono ?_
    rintro e v5 ⟨rfl, hr, hs⟩
    have G71 := Hd (J0.out.call hr hs)
    clear hr hs
    obtain ⟨hc0, hf0, hz0, hc1, hf1, hz1⟩ := G71.out.fr.l2
    clear c2
    go_wp2
    have G72 := Hd (G71.out.drew)
    go_region_law (first | (refine fk_append KT1.out hXl (by rfl) _ _ _ (by rfl) Tryz.underlying26 infoNd2 (by rfl) (by simp [Act.eval]) ?_; intro g1 c1 u1 hk6; have KX1 := Hd hk6; clear hk6; obtain ⟨hd10, he10, hy10, hd11, he11, hy11⟩ := KX1.out.fr.l2) | (go_simp; go_at_call 138; refine (HST.out _ G72.out.fr.rd).mono ?_; rintro e y1 ⟨l3, x3, n3, k3, rfl, hT, hr, hs⟩; have KT1 := Hd (G72.out.callT hfew hT hr hs); clear hT hr hs; obtain ⟨hu10, hv10, hw10, hu11, hv11, hw11⟩ := KT1.out.fr.l2))
    all_goals
     clear hu10 hv10 hw10 hu11 hv11 hw11
     clear hc0 hf0 hz0 hc1 hf1 hz1
     have G73 := Hd (KX1.out.s10 hXl (.slice (some ⟨g1, 0, none⟩) (acc.length + 1) c1))
     have JE := Hd G73.out
     have hm1 := mW_rd JE.out.fr.rd
     have hhi := JE.out.fr.rd.hi
     have hal2 : (acc ++ [(one (SQ ts (F2 + 2) .st st)).1]).length = acc.length + 1 := by simp
     have hB : Hid ((one (SQ ts (F2 + 2) .st st)).2.bad = true ∨ 8 * rem ts (one (SQ ts (F2 + 2) .st st)).2 + 5 ≤ F2 + 1 + 1) := Hd (HPR.out.2.elim Or.inl fun h => Or.inr (by omega))
     have hA : Hid (acc.length + 1 + rem ts (one (SQ ts (F2 + 2) .st st)).2 ≤ ts.length + (if (one (SQ ts (F2 + 2) .st st)).2.bad then 1 else 0)) := Hd (by
      simp at hal
      rcases HPR.out.2 with h | h
      ·have h0 : rem ts (one (SQ ts (F2 + 2) .st st)).2 = 0 := by unfold rem; rw [h]; rfl
       rw [h, h0]; simp; omega
      ·omega)
     have HN2 : Hid (BkSt ts R g c w w.heap.size v1.heap.size (f1 + 1) v2.heap.size Z L9 _ (one (SQ ts (F2 + 2) .st st)).2) := Hd ⟨some ⟨g1, 0, none⟩, c1, F2 + 1, _, (by rw [hal2]; exact JE.out), HZ3.out, hB.out, by omega, by rw [hal2]; exact hA.out⟩
     have HM1 := Hd hm1
     have HM : Hid ((if (one (SQ ts (F2 + 2) .st st)).2.bad then 0 else ts.length - (one (SQ ts (F2 + 2) .st st)).2.i + 1) < ts.length - st.i + 1) := Hd (by
      rcases HPR.out.2 with h | h
      ·rw [h]; simp
      ·split
       ·omega
       ·omega)
     clear hm1 hhi hal2
     go_wp2
     go_roundw
     case rel => exact ⟨_, HN2⟩
     case measure => (rw [HM0.out]; exact Nat.lt_of_le_of_lt (Nat.le_of_eq HM1.out) (by simpa using HM.out))
end Q
end Go.Proofs.YtkliclihpobmiaaGreatDoor
