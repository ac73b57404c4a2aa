/- The rule change: contract. -/
import Derived.Test.YtkliclihpobmiaaGreatDoorMgPsFk
namespace Go.Proofs.YtkliclihpobmiaaGreatDoor
open Go Go.RowKit
set_option linter.unusedVariables false
set_option linter.unusedSimpArgs false

set_option maxHeartbeats 2000000 in
set_option maxRecDepth 100000 in
theorem change_any {ts : List Tok} {R g c : Nat} (X : Ctx ts R g c) (s : Sg) (w : World) (hR : Rd w R g c ts s) : Calls Tryz.prog 160 #[.pointer (some ⟨R, 0, none⟩)] w (TP w R g c ts (change ts s)) := by
 have hXl := X.lt
 have F0 := Hd ((Fr.start hR).node hXl ncz)
 have HN := Hd fun W (h : Rd W R g c ts s) => node_any X 11 W h
 have HX := Hd fun q W (h : Rd W R g c ts q) => xpr_any X q W h
 have HNM := Hd fun q W (h : Rd W R g c ts q) => name_any X (s := q) W h
 have HSK := Hd fun W (h : Rd W R g c ts (nmS ts s)) => skip_any' X [91] (by simp) W h
 unfold skp at HSK
 have HEB := Hd fun q W (h : Rd W R g c ts q) => expect_any X (s := q) [93] (by simp) W h
 have HEQ := Hd fun q W (h : Rd W R g c ts q) => expect_any X (s := q) [61] (by simp) W h
 have HEC := Hd fun q W (h : Rd W R g c ts q) => expect_any X (s := q) [59] (by simp) W h
 have HL : Hid (nc (labK 11 (ln ts s)) = [.int .i64 11, .string ⟨#[]⟩, .int .u64 0, .int .i64 0, .bool false, .int .i64 0, .int .i64 0, .int .i64 0, .int .i64 0, .int .i64 ((ln ts s : Nat) : Int), .slice none 0 0]) := Hd rfl
 rw [HL.out] at HN
 cases h1 : hasT ts (nmS ts s) [91] with
 | true =>
  have HM : Hid (change ts s = (.node { labK 12 (ln ts s) with name := nmV ts s } [(xpr ts (adv (nmS ts s))).1, (xpr ts (exc ts (exc ts (xpr ts (adv (nmS ts s))).2 [93]) [61])).1], exc ts (xpr ts (exc ts (exc ts (xpr ts (adv (nmS ts s))).2 [93]) [61])).2 [59])) := Hd (by unfold change; simp only [h1]; rfl)
  rw [HM.out]
  rw [h1] at HSK
  clear HM hR HL h1
  go_enter Tryz.func160, Tryz.ntmps160
  go_wp2_with fail
  refine (HN.out _ F0.out.rd).mono ?_
  rintro e v1 ⟨rfl, hb⟩
  have G1 := Hd (F0.out.quiet hXl hb)
  clear hb
  obtain ⟨hc0, hf0⟩ := G1.out.b0.all
  have hz0 := G1.out.b0.lt
  unfold ncz at hc0
  have hq10 := G1.out.b0.lt
  have G2 := Hd (G1.out.node hXl [.int .i64 11, .string ⟨#[]⟩, .int .u64 0, .int .i64 0, .bool false, .int .i64 0, .int .i64 0, .int .i64 0, .int .i64 0, .int .i64 ((ln ts s : Nat) : Int), .slice none 0 0])
  go_wp2_with fail
  refine (HNM.out _ _ G2.out.rd).mono ?_
  rintro e v2 ⟨rfl, hr, hs⟩
  clear hc0 hf0 hz0
  have G3 := Hd (G2.out.call hr hs)
  clear hr hs
  obtain ⟨hc0, hf0, hz0, hc1, hf1, hz1⟩ := G3.out.l2
  have G4 := Hd (G3.out.s1 hXl (.string (str (nmV ts s))))
  go_wp2_with fail
  refine (HSK.out _ G4.out.rd).mono ?_
  rintro e v3 ⟨rfl, hr, hs⟩
  have G5 := Hd (G4.out.call hr hs)
  clear hr hs hc0 hf0 hz0 hc1 hf1 hz1
  obtain ⟨hc0, hf0, hz0, hc1, hf1, hz1⟩ := G5.out.l2
  have G6 := Hd (G5.out.fk)
  have G7 := Hd (G6.out.s0 hXl (.int .i64 12))
  go_wp2
  have G8 := Hd (G7.out.drew)
  go_region_law (first | (refine fk_append KT1.out hXl (by rfl) _ _ _ (by rfl) Tryz.underlying26 infoNd2 (by rfl) (by simp [Act.eval]) ?_; intro g1 c1 u1 hk6; have KX1 := Hd hk6; clear hk6; obtain ⟨hd10, he10, hy10, hd11, he11, hy11⟩ := KX1.out.fr.l2) | (go_simp; go_at_call 176; refine (HX.out _ _ G8.out.fr.rd).mono ?_; rintro e y1 ⟨l1, x1, n1, k1, rfl, hT, hr, hs⟩; have KT1 := Hd (G8.out.callT (by simp) hT hr hs); clear hT hr hs; obtain ⟨hu10, hv10, hw10, hu11, hv11, hw11⟩ := KT1.out.fr.l2))
  all_goals
   clear hu10 hv10 hw10 hu11 hv11 hw11
   clear hc0 hf0 hz0 hc1 hf1 hz1
   have G9 := Hd (KX1.out.s10 hXl (.slice (some ⟨g1, 0, none⟩) 1 c1))
   go_wp2_with fail
   refine (HEB.out _ _ G9.out.fr.rd).mono ?_
   rintro e v4 ⟨rfl, hr, hs⟩
   have G10 := Hd (G9.out.call hr hs)
   clear hr hs
   obtain ⟨hc0, hf0, hz0, hc1, hf1, hz1⟩ := G10.out.fr.l2
   go_wp2_with fail
   refine (HEQ.out _ _ G10.out.fr.rd).mono ?_
   rintro e v5 ⟨rfl, hr, hs⟩
   have G11 := Hd (G10.out.call hr hs)
   clear hr hs hc0 hf0 hz0 hc1 hf1 hz1
   obtain ⟨hc0, hf0, hz0, hc1, hf1, hz1⟩ := G11.out.fr.l2
   go_wp2
   have G12 := Hd (G11.out.drew)
   go_region_law (first | (refine fk_append KT2.out hXl (by rfl) _ _ _ (by rfl) Tryz.underlying26 infoNd2 (by rfl) (by simp [Act.eval]) ?_; intro g2 c2 u2 hk6; have KX2 := Hd hk6; clear hk6; obtain ⟨hd20, he20, hy20, hd21, he21, hy21⟩ := KX2.out.fr.l2) | (go_simp; go_at_call 176; refine (HX.out _ _ G12.out.fr.rd).mono ?_; rintro e y2 ⟨l2, x2, n2, k2, rfl, hT, hr, hs⟩; have KT2 := Hd (G12.out.callT (by simp) hT hr hs); clear hT hr hs; obtain ⟨hu20, hv20, hw20, hu21, hv21, hw21⟩ := KT2.out.fr.l2))
   all_goals
    clear hu20 hv20 hw20 hu21 hv21 hw21
    clear hc0 hf0 hz0 hc1 hf1 hz1
    have G13 := Hd (KX2.out.s10 hXl (.slice (some ⟨g2, 0, none⟩) 2 c2))
    go_wp2_with fail
    refine (HEC.out _ _ G13.out.fr.rd).mono ?_
    rintro e v6 ⟨rfl, hr, hs⟩
    have G14 := Hd (G13.out.call hr hs)
    clear hr hs
    obtain ⟨hc0, hf0, hz0, hc1, hf1, hz1⟩ := G14.out.fr.l2
    have G15 := Hd (G14.out.tree { labK 12 (ln ts s) with name := nmV ts s })
    go_wp2
    have G16 := Hd (G15.out.stoR hXl (List.Mem.tail _ (List.Mem.head _)) rfl (.int .i64 12) (.string (str (nmV ts s))) (.int .u64 0) (.int .i64 0) (.bool false) (.int .i64 0) (.int .i64 0) (.int .i64 0) (.int .i64 0) (.int .i64 ((ln ts s : Nat) : Int)) (.slice (some ⟨g2, 0, none⟩) 2 c2))
    refine bodyPost_ret (G16.out.b0.res1 Tryz.results160 Tryz.underlying28 rfl infoNd _ rfl) rfl ?_
    exact G16.out.outT (rfl)
 | false =>
  have HM : Hid (change ts s = (.node { labK 11 (ln ts s) with name := nmV ts s } [(xpr ts (exc ts (nmS ts s) [61])).1], exc ts (xpr ts (exc ts (nmS ts s) [61])).2 [59])) := Hd (by unfold change; simp only [h1]; rfl)
  rw [HM.out]
  rw [h1] at HSK
  clear HM hR HL h1
  go_enter Tryz.func160, Tryz.ntmps160
  go_wp2_with fail
  refine (HN.out _ F0.out.rd).mono ?_
  rintro e v1 ⟨rfl, hb⟩
  have G1 := Hd (F0.out.quiet hXl hb)
  clear hb
  obtain ⟨hc0, hf0⟩ := G1.out.b0.all
  have hz0 := G1.out.b0.lt
  unfold ncz at hc0
  have hq10 := G1.out.b0.lt
  have G2 := Hd (G1.out.node hXl [.int .i64 11, .string ⟨#[]⟩, .int .u64 0, .int .i64 0, .bool false, .int .i64 0, .int .i64 0, .int .i64 0, .int .i64 0, .int .i64 ((ln ts s : Nat) : Int), .slice none 0 0])
  go_wp2_with fail
  refine (HNM.out _ _ G2.out.rd).mono ?_
  rintro e v2 ⟨rfl, hr, hs⟩
  clear hc0 hf0 hz0
  have G3 := Hd (G2.out.call hr hs)
  clear hr hs
  obtain ⟨hc0, hf0, hz0, hc1, hf1, hz1⟩ := G3.out.l2
  have G4 := Hd (G3.out.s1 hXl (.string (str (nmV ts s))))
  go_wp2_with fail
  refine (HSK.out _ G4.out.rd).mono ?_
  rintro e v3 ⟨rfl, hr, hs⟩
  have G5 := Hd (G4.out.call hr hs)
  clear hr hs hc0 hf0 hz0 hc1 hf1 hz1
  obtain ⟨hc0, hf0, hz0, hc1, hf1, hz1⟩ := G5.out.l2
  have G6 := Hd (G5.out.fk)
  go_wp2_with fail
  refine (HEQ.out _ _ G6.out.fr.rd).mono ?_
  rintro e v4 ⟨rfl, hr, hs⟩
  have G7 := Hd (G6.out.call hr hs)
  clear hr hs hc0 hf0 hz0 hc1 hf1 hz1
  obtain ⟨hc0, hf0, hz0, hc1, hf1, hz1⟩ := G7.out.fr.l2
  go_wp2
  have G8 := Hd (G7.out.drew)
  go_region_law (first | (refine fk_append KT1.out hXl (by rfl) _ _ _ (by rfl) Tryz.underlying26 infoNd2 (by rfl) (by simp [Act.eval]) ?_; intro g1 c1 u1 hk6; have KX1 := Hd hk6; clear hk6; obtain ⟨hd10, he10, hy10, hd11, he11, hy11⟩ := KX1.out.fr.l2) | (go_simp; go_at_call 176; refine (HX.out _ _ G8.out.fr.rd).mono ?_; rintro e y1 ⟨l1, x1, n1, k1, rfl, hT, hr, hs⟩; have KT1 := Hd (G8.out.callT (by simp) hT hr hs); clear hT hr hs; obtain ⟨hu10, hv10, hw10, hu11, hv11, hw11⟩ := KT1.out.fr.l2))
  all_goals
   clear hu10 hv10 hw10 hu11 hv11 hw11
   clear hc0 hf0 hz0 hc1 hf1 hz1
   have G9 := Hd (KX1.out.s10 hXl (.slice (some ⟨g1, 0, none⟩) 1 c1))
   go_wp2_with fail
   refine (HEC.out _ _ G9.out.fr.rd).mono ?_
   rintro e v5 ⟨rfl, hr, hs⟩
   have G10 := Hd (G9.out.call hr hs)
   clear hr hs
   obtain ⟨hc0, hf0, hz0, hc1, hf1, hz1⟩ := G10.out.fr.l2
   have G11 := Hd (G10.out.tree { labK 11 (ln ts s) with name := nmV ts s })
   go_wp2
   have G12 := Hd (G11.out.stoR hXl (List.Mem.tail _ (List.Mem.head _)) rfl (.int .i64 11) (.string (str (nmV ts s))) (.int .u64 0) (.int .i64 0) (.bool false) (.int .i64 0) (.int .i64 0) (.int .i64 0) (.int .i64 0) (.int .i64 ((ln ts s : Nat) : Int)) (.slice (some ⟨g1, 0, none⟩) 1 c1))
   refine bodyPost_ret (G12.out.b0.res1 Tryz.results160 Tryz.underlying28 rfl infoNd _ rfl) rfl ?_
   exact G12.out.outT (rfl)
end Go.Proofs.YtkliclihpobmiaaGreatDoor
