/- The rules scalar, division, param: contracts. -/
import Derived.Test.YthdbaligapdbeaaGreatDoorMgPsBk
import Derived.Test.YthdbaligapdbeaaGreatDoorMgPsWi
namespace Go.Proofs.YthdbaligapdbeaaGreatDoor
open Go Go.RowKit
set_option linter.unusedVariables false
set_option linter.unusedSimpArgs false

set_option maxHeartbeats 2000000 in
set_option maxRecDepth 100000 in
theorem scal_any {ts : List Tok} {R g c : Nat} (X : Ctx ts R g c) (s : Sg) (w : World) (hR : Rd w R g c ts s) : Calls Tryz.prog 116 #[.pointer (some ⟨R, 0, none⟩)] w (TP w R g c ts (scal ts s)) := by
 have hXl := X.lt
 have F0 := Hd ((Fr.start hR).node hXl ncz)
 have HN := Hd fun W (h : Rd W R g c ts s) => node_any X 4 W h
 have HNM := Hd fun q W (h : Rd W R g c ts q) => name_any X (s := q) W h
 have HTY := Hd fun q W (h : Rd W R g c ts q) => typN_any X (s := q) W h
 have HEO := Hd fun q W (h : Rd W R g c ts q) => expect_any X (s := q) [58] (by simp) W h
 have HL : Hid (nc (labK 4 (ln ts s)) = [.int .i64 4, .string ⟨#[]⟩, .int .u64 0, .int .i64 0, .bool false, .int .i64 0, .int .i64 0, .int .i64 0, .int .i64 0, .int .i64 ((ln ts s : Nat) : Int), .slice none 0 0]) := Hd rfl
 rw [HL.out] at HN
 have HM : Hid (scal ts s = (.node { labK 4 (ln ts s) with name := nmV ts s, wd := (tyV' ts (exc ts (nmS ts s) [58])).1, sg := (tyV' ts (exc ts (nmS ts s) [58])).2 } [], tyS ts (exc ts (nmS ts s) [58]))) := Hd rfl
 rw [HM.out]
 clear HM hR HL
 go_enter Tryz.func116, Tryz.ntmps116
 go_wp2_with fail
 refine (HN.out _ F0.out.rd).mono ?_
 rintro e v1 ⟨rfl, hb⟩
 have G1 := Hd (F0.out.quiet hXl hb)
 clear hb
 obtain ⟨hc0, hf0⟩ := G1.out.b0.all
 have hz0 := G1.out.b0.lt
 unfold ncz at hc0
 have hq10 := G1.out.b0.lt
 have G2 := Hd (G1.out.node hXl [.int .i64 4, .string ⟨#[]⟩, .int .u64 0, .int .i64 0, .bool false, .int .i64 0, .int .i64 0, .int .i64 0, .int .i64 0, .int .i64 ((ln ts s : Nat) : Int), .slice none 0 0])
 go_wp2_with fail
 refine (HNM.out _ _ G2.out.rd).mono ?_
 rintro e v2 ⟨rfl, hr, hs⟩
 clear hc0 hf0 hz0
 have G3 := Hd (G2.out.call hr hs)
 clear hr hs
 obtain ⟨hc0, hf0, hz0, hc1, hf1, hz1⟩ := G3.out.l2
 have G4 := Hd (G3.out.s1 hXl (.string (str (nmV ts s))))
 go_wp2_with fail
 refine (HEO.out _ _ G4.out.rd).mono ?_
 rintro e v3 ⟨rfl, hr, hs⟩
 have G5 := Hd (G4.out.call hr hs)
 clear hr hs hc0 hf0 hz0 hc1 hf1 hz1
 obtain ⟨hc0, hf0, hz0, hc1, hf1, hz1⟩ := G5.out.l2
 go_wp2_with fail
 refine (HTY.out _ _ G5.out.rd).mono ?_
 rintro e v4 ⟨rfl, hr, hs⟩
 have G6 := Hd (G5.out.call hr hs)
 clear hr hs hc0 hf0 hz0 hc1 hf1 hz1
 obtain ⟨hc0, hf0, hz0, hc1, hf1, hz1⟩ := G6.out.l2
 have G7 := Hd (G6.out.s3 hXl (.int .i64 ((tyV' ts (exc ts (nmS ts s) [58])).1 : Int)))
 have G8 := Hd (G7.out.s4 hXl (.bool (tyV' ts (exc ts (nmS ts s) [58])).2))
 have G9 := Hd (G8.out.leaf { labK 4 (ln ts s) with name := nmV ts s, wd := (tyV' ts (exc ts (nmS ts s) [58])).1, sg := (tyV' ts (exc ts (nmS ts s) [58])).2 })
 go_wp2
 have G10 := Hd (G9.out.stoR hXl (List.Mem.tail _ (List.Mem.head _)) rfl (.int .i64 4) (.string (str (nmV ts s))) (.int .u64 0) (.int .i64 ((tyV' ts (exc ts (nmS ts s) [58])).1 : Int)) (.bool (tyV' ts (exc ts (nmS ts s) [58])).2) (.int .i64 0) (.int .i64 0) (.int .i64 0) (.int .i64 0) (.int .i64 ((ln ts s : Nat) : Int)) (.slice none 0 0))
 refine bodyPost_ret (G10.out.b0.res1 Tryz.results116 Tryz.underlying27 rfl infoNd _ rfl) rfl ?_
 exact G10.out.outT (rfl)

theorem nuV_le (ts : List Tok) (s : Sg) (k : Nat) : nuV ts s k ≤ 1048576 := by
 unfold nuV
 split
 ·rename_i h
  unfold okN at h
  simp at h
  exact h.2.2
 ·omega

set_option maxHeartbeats 2000000 in
set_option maxRecDepth 100000 in
theorem divis_any {ts : List Tok} {R g c : Nat} (X : Ctx ts R g c) (s : Sg) (w : World) (hR : Rd w R g c ts s) : Calls Tryz.prog 160 #[.pointer (some ⟨R, 0, none⟩)] w fun e w' => e = .returned (.tuple #[.int .i64 (divO ts s : Int), .int .i64 (divF ts s : Int)]) ∧ Rd w' R g c ts (divS ts s) ∧ St w w' R := by
 have HSA := Hd fun W (h : Rd W R g c ts s) => skip_any' X [99, 121, 99, 108, 105, 99] (by simp) W h
 have HSB := Hd fun W (h : Rd W R g c ts s) => skip_any' X [98, 108, 111, 99, 107, 115] (by simp) W h
 have HSC := Hd fun W (h : Rd W R g c ts s) => skip_any' X [99, 111, 109, 112, 108, 101, 116, 101] (by simp) W h
 have HNU : Hid (∀ W, Rd W R g c ts (adv s) → Calls Tryz.prog 159 #[.pointer (some ⟨R, 0, none⟩), .int .u64 0] W fun e w' => e = .returned (.int .u64 (nuV ts (adv s) 0 : Int)) ∧ Rd w' R g c ts (nuS ts (adv s) 0) ∧ St W w' R) := Hd fun W h => numb_any X 0 (by omega) W h
 have hle := nuV_le ts (adv s) 0
 have HR := Hd hR
 unfold divO divF divS
 unfold skp at HSA HSB HSC
 clear hR
 cases g0 : hasT ts s [99, 121, 99, 108, 105, 99] with
 | true =>
  rw [g0] at HSA
  simp only [g0, if_true, Bool.false_eq_true, if_false]
  clear g0
  generalize nuV ts (adv s) 0 = NV at *
  go_enter Tryz.func160, Tryz.ntmps160
  go_wp2_with fail
  refine (HSA.out _ HR.out).mono ?_
  rintro e w1 ⟨rfl, hr, hs⟩
  have K1 := Hd (And.intro hr hs)
  clear hr hs
  go_wp2_with fail
  refine (HNU.out _ K1.out.1).mono ?_
  rintro e w2 ⟨rfl, hr, hs⟩
  have K2 := Hd (And.intro hr (St.trans K1.out.2 hs))
  clear hr hs
  go_wp2
  go_ret2
  exact ⟨rfl, K2.out.1, K2.out.2⟩
 | false =>
  rw [g0] at HSA
  cases g1 : hasT ts s [98, 108, 111, 99, 107, 115] with
  | true =>
   rw [g1] at HSB
   simp only [g0, g1, if_true, Bool.false_eq_true, if_false]
   clear g0 g1
   generalize nuV ts (adv s) 0 = NV at *
   go_enter Tryz.func160, Tryz.ntmps160
   go_wp2_with fail
   refine (HSA.out _ HR.out).mono ?_
   rintro e w1 ⟨rfl, hr, hs⟩
   have K1 := Hd (And.intro hr hs)
   clear hr hs
   go_wp2_with fail
   refine (HSB.out _ K1.out.1).mono ?_
   rintro e w2 ⟨rfl, hr, hs⟩
   have K2 := Hd (And.intro hr (St.trans K1.out.2 hs))
   clear hr hs
   go_wp2_with fail
   refine (HNU.out _ K2.out.1).mono ?_
   rintro e w3 ⟨rfl, hr, hs⟩
   have K3 := Hd (And.intro hr (St.trans K2.out.2 hs))
   clear hr hs
   go_wp2
   go_ret2
   exact ⟨rfl, K3.out.1, K3.out.2⟩
  | false =>
   rw [g1] at HSB
   cases g2 : hasT ts s [99, 111, 109, 112, 108, 101, 116, 101] with
   | true =>
    rw [g2] at HSC
    simp only [g0, g1, g2, if_true, Bool.false_eq_true, if_false]
    clear g0 g1 g2
    generalize nuV ts (adv s) 0 = NV at *
    go_enter Tryz.func160, Tryz.ntmps160
    go_wp2_with fail
    refine (HSA.out _ HR.out).mono ?_
    rintro e w1 ⟨rfl, hr, hs⟩
    have K1 := Hd (And.intro hr hs)
    clear hr hs
    go_wp2_with fail
    refine (HSB.out _ K1.out.1).mono ?_
    rintro e w2 ⟨rfl, hr, hs⟩
    have K2 := Hd (And.intro hr (St.trans K1.out.2 hs))
    clear hr hs
    go_wp2_with fail
    refine (HSC.out _ K2.out.1).mono ?_
    rintro e w3 ⟨rfl, hr, hs⟩
    have K3 := Hd (And.intro hr (St.trans K2.out.2 hs))
    clear hr hs
    go_wp2
    go_ret2
    exact ⟨rfl, K3.out.1, K3.out.2⟩
   | false =>
    rw [g2] at HSC
    simp only [g0, g1, g2, Bool.false_eq_true, if_false]
    clear g0 g1 g2
    go_enter Tryz.func160, Tryz.ntmps160
    go_wp2_with fail
    refine (HSA.out _ HR.out).mono ?_
    rintro e w1 ⟨rfl, hr, hs⟩
    have K1 := Hd (And.intro hr hs)
    clear hr hs
    go_wp2_with fail
    refine (HSB.out _ K1.out.1).mono ?_
    rintro e w2 ⟨rfl, hr, hs⟩
    have K2 := Hd (And.intro hr (St.trans K1.out.2 hs))
    clear hr hs
    go_wp2_with fail
    refine (HSC.out _ K2.out.1).mono ?_
    rintro e w3 ⟨rfl, hr, hs⟩
    have K3 := Hd (And.intro hr (St.trans K2.out.2 hs))
    clear hr hs
    go_wp2
    go_ret2
    exact ⟨rfl, K3.out.1, K3.out.2⟩

set_option maxHeartbeats 2000000 in
set_option maxRecDepth 100000 in
theorem prm_any {ts : List Tok} {R g c : Nat} (X : Ctx ts R g c) (s : Sg) (w : World) (hR : Rd w R g c ts s) : Calls Tryz.prog 119 #[.pointer (some ⟨R, 0, none⟩)] w (TP w R g c ts (prm ts s)) := by
 have hXl := X.lt
 have F0 := Hd ((Fr.start hR).node hXl ncz)
 have HN := Hd fun W (h : Rd W R g c ts s) => node_any X 4 W h
 have HNM := Hd fun q W (h : Rd W R g c ts q) => name_any X (s := q) W h
 have HTY := Hd fun q W (h : Rd W R g c ts q) => typN_any X (s := q) W h
 have HEO := Hd fun q W (h : Rd W R g c ts q) => expect_any X (s := q) [58] (by simp) W h
 have HEB := Hd fun q W (h : Rd W R g c ts q) => expect_any X (s := q) [93] (by simp) W h
 have HSA := Hd fun W (h : Rd W R g c ts (exc ts (nmS ts s) [58])) => skip_any' X [105, 110] (by simp) W h
 have HSB := Hd fun W (h : Rd W R g c ts (exc ts (nmS ts s) [58])) => skip_any' X [111, 117, 116] (by simp) W h
 unfold skp at HSA HSB
 have HL : Hid (nc (labK 4 (ln ts s)) = [.int .i64 4, .string ⟨#[]⟩, .int .u64 0, .int .i64 0, .bool false, .int .i64 0, .int .i64 0, .int .i64 0, .int .i64 0, .int .i64 ((ln ts s : Nat) : Int), .slice none 0 0]) := Hd rfl
 rw [HL.out] at HN
 cases g0 : hasT ts (exc ts (nmS ts s) [58]) [105, 110] with
 | true =>
  have hk : prmK ts (exc ts (nmS ts s) [58]) = 6 := by unfold prmK; simp [g0]
  have hs : prmS ts (exc ts (nmS ts s) [58]) = adv (exc ts (nmS ts s) [58]) := by unfold prmS; simp [g0]
  have HM : Hid (prm ts s = (.node { labK 6 (ln ts s) with name := nmV ts s, wd := (tyV' ts (adv (exc ts (nmS ts s) [58]))).1, sg := (tyV' ts (adv (exc ts (nmS ts s) [58]))).2 } [], tyS ts (adv (exc ts (nmS ts s) [58])))) := Hd (by unfold prm; dsimp only; rw [hk, hs, if_neg (by simp)]; rfl)
  rw [HM.out]
  rw [g0] at HSA
  clear HM hR HL hk hs g0
  go_enter Tryz.func119, Tryz.ntmps119
  go_wp2_with fail
  refine (HN.out _ F0.out.rd).mono ?_
  rintro e v1 ⟨rfl, hb⟩
  have G1 := Hd (F0.out.quiet hXl hb)
  clear hb
  obtain ⟨hc0, hf0⟩ := G1.out.b0.all
  have hz0 := G1.out.b0.lt
  unfold ncz at hc0
  have hq10 := G1.out.b0.lt
  have G2 := Hd (G1.out.node hXl [.int .i64 4, .string ⟨#[]⟩, .int .u64 0, .int .i64 0, .bool false, .int .i64 0, .int .i64 0, .int .i64 0, .int .i64 0, .int .i64 ((ln ts s : Nat) : Int), .slice none 0 0])
  go_wp2_with fail
  refine (HNM.out _ _ G2.out.rd).mono ?_
  rintro e v2 ⟨rfl, hr, hs⟩
  clear hc0 hf0 hz0
  have G3 := Hd (G2.out.call hr hs)
  clear hr hs
  obtain ⟨hc0, hf0, hz0, hc1, hf1, hz1⟩ := G3.out.l2
  have G4 := Hd (G3.out.s1 hXl (.string (str (nmV ts s))))
  go_wp2_with fail
  refine (HEO.out _ _ G4.out.rd).mono ?_
  rintro e v3 ⟨rfl, hr, hs⟩
  have G5 := Hd (G4.out.call hr hs)
  clear hr hs hc0 hf0 hz0 hc1 hf1 hz1
  obtain ⟨hc0, hf0, hz0, hc1, hf1, hz1⟩ := G5.out.l2
  go_wp2_with fail
  refine (HSA.out _ G5.out.rd).mono ?_
  rintro e v4 ⟨rfl, hr, hs⟩
  have G6 := Hd (G5.out.call hr hs)
  clear hr hs hc0 hf0 hz0 hc1 hf1 hz1
  obtain ⟨hc0, hf0, hz0, hc1, hf1, hz1⟩ := G6.out.l2
  have G7 := Hd (G6.out.s0 hXl (.int .i64 6))
  go_wp2_with fail
  refine (HTY.out _ _ G7.out.rd).mono ?_
  rintro e v5 ⟨rfl, hr, hs⟩
  have G8 := Hd (G7.out.call hr hs)
  clear hr hs hc0 hf0 hz0 hc1 hf1 hz1
  obtain ⟨hc0, hf0, hz0, hc1, hf1, hz1⟩ := G8.out.l2
  have G9 := Hd (G8.out.s3 hXl (.int .i64 ((tyV' ts (adv (exc ts (nmS ts s) [58]))).1 : Int)))
  have G10 := Hd (G9.out.s4 hXl (.bool (tyV' ts (adv (exc ts (nmS ts s) [58]))).2))
  have G11 := Hd (G10.out.leaf { labK 6 (ln ts s) with name := nmV ts s, wd := (tyV' ts (adv (exc ts (nmS ts s) [58]))).1, sg := (tyV' ts (adv (exc ts (nmS ts s) [58]))).2 })
  go_wp2
  have G12 := Hd (G11.out.stoR hXl (List.Mem.tail _ (List.Mem.head _)) rfl (.int .i64 6) (.string (str (nmV ts s))) (.int .u64 0) (.int .i64 ((tyV' ts (adv (exc ts (nmS ts s) [58]))).1 : Int)) (.bool (tyV' ts (adv (exc ts (nmS ts s) [58]))).2) (.int .i64 0) (.int .i64 0) (.int .i64 0) (.int .i64 0) (.int .i64 ((ln ts s : Nat) : Int)) (.slice none 0 0))
  refine bodyPost_ret (G12.out.b0.res1 Tryz.results119 Tryz.underlying27 rfl infoNd _ rfl) rfl ?_
  exact G12.out.outT (rfl)
 | false =>
  rw [g0] at HSA
  cases g1 : hasT ts (exc ts (nmS ts s) [58]) [111, 117, 116] with
  | true =>
   have hk : prmK ts (exc ts (nmS ts s) [58]) = 7 := by unfold prmK; simp [g0, g1]
   have hs : prmS ts (exc ts (nmS ts s) [58]) = adv (exc ts (nmS ts s) [58]) := by unfold prmS; simp [g0, g1]
   have HM : Hid (prm ts s = (.node { labK 7 (ln ts s) with name := nmV ts s, wd := (tyV' ts (adv (exc ts (nmS ts s) [58]))).1, sg := (tyV' ts (adv (exc ts (nmS ts s) [58]))).2 } [], tyS ts (adv (exc ts (nmS ts s) [58])))) := Hd (by unfold prm; dsimp only; rw [hk, hs, if_neg (by simp)]; rfl)
   rw [HM.out]
   rw [g1] at HSB
   clear HM hR HL hk hs g0 g1
   go_enter Tryz.func119, Tryz.ntmps119
   go_wp2_with fail
   refine (HN.out _ F0.out.rd).mono ?_
   rintro e v1 ⟨rfl, hb⟩
   have G1 := Hd (F0.out.quiet hXl hb)
   clear hb
   obtain ⟨hc0, hf0⟩ := G1.out.b0.all
   have hz0 := G1.out.b0.lt
   unfold ncz at hc0
   have hq10 := G1.out.b0.lt
   have G2 := Hd (G1.out.node hXl [.int .i64 4, .string ⟨#[]⟩, .int .u64 0, .int .i64 0, .bool false, .int .i64 0, .int .i64 0, .int .i64 0, .int .i64 0, .int .i64 ((ln ts s : Nat) : Int), .slice none 0 0])
   go_wp2_with fail
   refine (HNM.out _ _ G2.out.rd).mono ?_
   rintro e v2 ⟨rfl, hr, hs⟩
   clear hc0 hf0 hz0
   have G3 := Hd (G2.out.call hr hs)
   clear hr hs
   obtain ⟨hc0, hf0, hz0, hc1, hf1, hz1⟩ := G3.out.l2
   have G4 := Hd (G3.out.s1 hXl (.string (str (nmV ts s))))
   go_wp2_with fail
   refine (HEO.out _ _ G4.out.rd).mono ?_
   rintro e v3 ⟨rfl, hr, hs⟩
   have G5 := Hd (G4.out.call hr hs)
   clear hr hs hc0 hf0 hz0 hc1 hf1 hz1
   obtain ⟨hc0, hf0, hz0, hc1, hf1, hz1⟩ := G5.out.l2
   go_wp2_with fail
   refine (HSA.out _ G5.out.rd).mono ?_
   rintro e v4 ⟨rfl, hr, hs⟩
   have G6 := Hd (G5.out.call hr hs)
   clear hr hs hc0 hf0 hz0 hc1 hf1 hz1
   obtain ⟨hc0, hf0, hz0, hc1, hf1, hz1⟩ := G6.out.l2
   go_wp2_with fail
   refine (HSB.out _ G6.out.rd).mono ?_
   rintro e v5 ⟨rfl, hr, hs⟩
   have G7 := Hd (G6.out.call hr hs)
   clear hr hs hc0 hf0 hz0 hc1 hf1 hz1
   obtain ⟨hc0, hf0, hz0, hc1, hf1, hz1⟩ := G7.out.l2
   have G8 := Hd (G7.out.s0 hXl (.int .i64 7))
   go_wp2_with fail
   refine (HTY.out _ _ G8.out.rd).mono ?_
   rintro e v6 ⟨rfl, hr, hs⟩
   have G9 := Hd (G8.out.call hr hs)
   clear hr hs hc0 hf0 hz0 hc1 hf1 hz1
   obtain ⟨hc0, hf0, hz0, hc1, hf1, hz1⟩ := G9.out.l2
   have G10 := Hd (G9.out.s3 hXl (.int .i64 ((tyV' ts (adv (exc ts (nmS ts s) [58]))).1 : Int)))
   have G11 := Hd (G10.out.s4 hXl (.bool (tyV' ts (adv (exc ts (nmS ts s) [58]))).2))
   have G12 := Hd (G11.out.leaf { labK 7 (ln ts s) with name := nmV ts s, wd := (tyV' ts (adv (exc ts (nmS ts s) [58]))).1, sg := (tyV' ts (adv (exc ts (nmS ts s) [58]))).2 })
   go_wp2
   have G13 := Hd (G12.out.stoR hXl (List.Mem.tail _ (List.Mem.head _)) rfl (.int .i64 7) (.string (str (nmV ts s))) (.int .u64 0) (.int .i64 ((tyV' ts (adv (exc ts (nmS ts s) [58]))).1 : Int)) (.bool (tyV' ts (adv (exc ts (nmS ts s) [58]))).2) (.int .i64 0) (.int .i64 0) (.int .i64 0) (.int .i64 0) (.int .i64 ((ln ts s : Nat) : Int)) (.slice none 0 0))
   refine bodyPost_ret (G13.out.b0.res1 Tryz.results119 Tryz.underlying27 rfl infoNd _ rfl) rfl ?_
   exact G13.out.outT (rfl)
  | false =>
   rw [g1] at HSB
   have hk : prmK ts (exc ts (nmS ts s) [58]) = 4 := by unfold prmK; simp [g0, g1]
   have hs : prmS ts (exc ts (nmS ts s) [58]) = exc ts (nmS ts s) [58] := by unfold prmS; simp [g0, g1]
   have HSD := Hd fun W (h : Rd W R g c ts (tyS ts (exc ts (nmS ts s) [58]))) => skip_any' X [91] (by simp) W h
   have HDV := Hd fun q W (h : Rd W R g c ts q) => divis_any X q W h
   have HNU : Hid (∀ W, Rd W R g c ts (adv (tyS ts (exc ts (nmS ts s) [58]))) → Calls Tryz.prog 159 #[.pointer (some ⟨R, 0, none⟩), .int .u64 0] W fun e w' => e = .returned (.int .u64 (nuV ts (adv (tyS ts (exc ts (nmS ts s) [58]))) 0 : Int)) ∧ Rd w' R g c ts (nuS ts (adv (tyS ts (exc ts (nmS ts s) [58]))) 0) ∧ St W w' R) := Hd fun W h => numb_any X 0 (by omega) W h
   unfold skp at HSD
   cases g2 : hasT ts (tyS ts (exc ts (nmS ts s) [58])) [91] with
   | true =>
    have HM : Hid (prm ts s = (.node { labK 5 (ln ts s) with name := nmV ts s, wd := (tyV' ts (exc ts (nmS ts s) [58])).1, sg := (tyV' ts (exc ts (nmS ts s) [58])).2, num := nuV ts (adv (tyS ts (exc ts (nmS ts s) [58]))) 0, op := divO ts (exc ts (nuS ts (adv (tyS ts (exc ts (nmS ts s) [58]))) 0) [93]), fac := divF ts (exc ts (nuS ts (adv (tyS ts (exc ts (nmS ts s) [58]))) 0) [93]) } [], divS ts (exc ts (nuS ts (adv (tyS ts (exc ts (nmS ts s) [58]))) 0) [93]))) := Hd (by unfold prm; dsimp only; rw [hk, hs, if_pos ⟨rfl, g2⟩])
    rw [HM.out]
    rw [g2] at HSD
    clear HM hR HL hk hs g0 g1 g2
    go_enter Tryz.func119, Tryz.ntmps119
    go_wp2_with fail
    refine (HN.out _ F0.out.rd).mono ?_
    rintro e v1 ⟨rfl, hb⟩
    have G1 := Hd (F0.out.quiet hXl hb)
    clear hb
    obtain ⟨hc0, hf0⟩ := G1.out.b0.all
    have hz0 := G1.out.b0.lt
    unfold ncz at hc0
    have hq10 := G1.out.b0.lt
    have G2 := Hd (G1.out.node hXl [.int .i64 4, .string ⟨#[]⟩, .int .u64 0, .int .i64 0, .bool false, .int .i64 0, .int .i64 0, .int .i64 0, .int .i64 0, .int .i64 ((ln ts s : Nat) : Int), .slice none 0 0])
    go_wp2_with fail
    refine (HNM.out _ _ G2.out.rd).mono ?_
    rintro e v2 ⟨rfl, hr, hs⟩
    clear hc0 hf0 hz0
    have G3 := Hd (G2.out.call hr hs)
    clear hr hs
    obtain ⟨hc0, hf0, hz0, hc1, hf1, hz1⟩ := G3.out.l2
    have G4 := Hd (G3.out.s1 hXl (.string (str (nmV ts s))))
    go_wp2_with fail
    refine (HEO.out _ _ G4.out.rd).mono ?_
    rintro e v3 ⟨rfl, hr, hs⟩
    have G5 := Hd (G4.out.call hr hs)
    clear hr hs hc0 hf0 hz0 hc1 hf1 hz1
    obtain ⟨hc0, hf0, hz0, hc1, hf1, hz1⟩ := G5.out.l2
    go_wp2_with fail
    refine (HSA.out _ G5.out.rd).mono ?_
    rintro e v4 ⟨rfl, hr, hs⟩
    have G6 := Hd (G5.out.call hr hs)
    clear hr hs hc0 hf0 hz0 hc1 hf1 hz1
    obtain ⟨hc0, hf0, hz0, hc1, hf1, hz1⟩ := G6.out.l2
    go_wp2_with fail
    refine (HSB.out _ G6.out.rd).mono ?_
    rintro e v5 ⟨rfl, hr, hs⟩
    have G7 := Hd (G6.out.call hr hs)
    clear hr hs hc0 hf0 hz0 hc1 hf1 hz1
    obtain ⟨hc0, hf0, hz0, hc1, hf1, hz1⟩ := G7.out.l2
    go_wp2_with fail
    refine (HTY.out _ _ G7.out.rd).mono ?_
    rintro e v6 ⟨rfl, hr, hs⟩
    have G8 := Hd (G7.out.call hr hs)
    clear hr hs hc0 hf0 hz0 hc1 hf1 hz1
    obtain ⟨hc0, hf0, hz0, hc1, hf1, hz1⟩ := G8.out.l2
    have G9 := Hd (G8.out.s3 hXl (.int .i64 ((tyV' ts (exc ts (nmS ts s) [58])).1 : Int)))
    have G10 := Hd (G9.out.s4 hXl (.bool (tyV' ts (exc ts (nmS ts s) [58])).2))
    go_wp2_with fail
    refine (HSD.out _ G10.out.rd).mono ?_
    rintro e v7 ⟨rfl, hr, hs⟩
    have G11 := Hd (G10.out.call hr hs)
    clear hr hs hc0 hf0 hz0 hc1 hf1 hz1
    obtain ⟨hc0, hf0, hz0, hc1, hf1, hz1⟩ := G11.out.l2
    have G12 := Hd (G11.out.s0 hXl (.int .i64 5))
    go_wp2_with fail
    refine (HNU.out _ G12.out.rd).mono ?_
    rintro e v8 ⟨rfl, hr, hs⟩
    have G13 := Hd (G12.out.call hr hs)
    clear hr hs hc0 hf0 hz0 hc1 hf1 hz1
    obtain ⟨hc0, hf0, hz0, hc1, hf1, hz1⟩ := G13.out.l2
    have G14 := Hd (G13.out.s2 hXl (.int .u64 (nuV ts (adv (tyS ts (exc ts (nmS ts s) [58]))) 0 : Int)))
    go_wp2_with fail
    refine (HEB.out _ _ G14.out.rd).mono ?_
    rintro e v9 ⟨rfl, hr, hs⟩
    have G15 := Hd (G14.out.call hr hs)
    clear hr hs hc0 hf0 hz0 hc1 hf1 hz1
    obtain ⟨hc0, hf0, hz0, hc1, hf1, hz1⟩ := G15.out.l2
    go_wp2_with fail
    refine (HDV.out _ _ G15.out.rd).mono ?_
    rintro e v10 ⟨rfl, hr, hs⟩
    have G16 := Hd (G15.out.call hr hs)
    clear hr hs hc0 hf0 hz0 hc1 hf1 hz1
    obtain ⟨hc0, hf0, hz0, hc1, hf1, hz1⟩ := G16.out.l2
    have G17 := Hd (G16.out.s5 hXl (.int .i64 (divO ts (exc ts (nuS ts (adv (tyS ts (exc ts (nmS ts s) [58]))) 0) [93]) : Int)))
    have G18 := Hd (G17.out.s6 hXl (.int .i64 (divF ts (exc ts (nuS ts (adv (tyS ts (exc ts (nmS ts s) [58]))) 0) [93]) : Int)))
    have G19 := Hd (G18.out.leaf { labK 5 (ln ts s) with name := nmV ts s, wd := (tyV' ts (exc ts (nmS ts s) [58])).1, sg := (tyV' ts (exc ts (nmS ts s) [58])).2, num := nuV ts (adv (tyS ts (exc ts (nmS ts s) [58]))) 0, op := divO ts (exc ts (nuS ts (adv (tyS ts (exc ts (nmS ts s) [58]))) 0) [93]), fac := divF ts (exc ts (nuS ts (adv (tyS ts (exc ts (nmS ts s) [58]))) 0) [93]) })
    go_wp2
    have G20 := Hd (G19.out.stoR hXl (List.Mem.tail _ (List.Mem.head _)) rfl (.int .i64 5) (.string (str (nmV ts s))) (.int .u64 (nuV ts (adv (tyS ts (exc ts (nmS ts s) [58]))) 0 : Int)) (.int .i64 ((tyV' ts (exc ts (nmS ts s) [58])).1 : Int)) (.bool (tyV' ts (exc ts (nmS ts s) [58])).2) (.int .i64 (divO ts (exc ts (nuS ts (adv (tyS ts (exc ts (nmS ts s) [58]))) 0) [93]) : Int)) (.int .i64 (divF ts (exc ts (nuS ts (adv (tyS ts (exc ts (nmS ts s) [58]))) 0) [93]) : Int)) (.int .i64 0) (.int .i64 0) (.int .i64 ((ln ts s : Nat) : Int)) (.slice none 0 0))
    refine bodyPost_ret (G20.out.b0.res1 Tryz.results119 Tryz.underlying27 rfl infoNd _ rfl) rfl ?_
    exact G20.out.outT (rfl)
   | false =>
    have HM : Hid (prm ts s = (.node { labK 4 (ln ts s) with name := nmV ts s, wd := (tyV' ts (exc ts (nmS ts s) [58])).1, sg := (tyV' ts (exc ts (nmS ts s) [58])).2 } [], tyS ts (exc ts (nmS ts s) [58]))) := Hd (by unfold prm; dsimp only; rw [hk, hs, if_neg (by simp [g2])]; rfl)
    rw [HM.out]
    rw [g2] at HSD
    clear HM hR HL hk hs g0 g1 g2
    go_enter Tryz.func119, Tryz.ntmps119
    go_wp2_with fail
    refine (HN.out _ F0.out.rd).mono ?_
    rintro e v1 ⟨rfl, hb⟩
    have G1 := Hd (F0.out.quiet hXl hb)
    clear hb
    obtain ⟨hc0, hf0⟩ := G1.out.b0.all
    have hz0 := G1.out.b0.lt
    unfold ncz at hc0
    have hq10 := G1.out.b0.lt
    have G2 := Hd (G1.out.node hXl [.int .i64 4, .string ⟨#[]⟩, .int .u64 0, .int .i64 0, .bool false, .int .i64 0, .int .i64 0, .int .i64 0, .int .i64 0, .int .i64 ((ln ts s : Nat) : Int), .slice none 0 0])
    go_wp2_with fail
    refine (HNM.out _ _ G2.out.rd).mono ?_
    rintro e v2 ⟨rfl, hr, hs⟩
    clear hc0 hf0 hz0
    have G3 := Hd (G2.out.call hr hs)
    clear hr hs
    obtain ⟨hc0, hf0, hz0, hc1, hf1, hz1⟩ := G3.out.l2
    have G4 := Hd (G3.out.s1 hXl (.string (str (nmV ts s))))
    go_wp2_with fail
    refine (HEO.out _ _ G4.out.rd).mono ?_
    rintro e v3 ⟨rfl, hr, hs⟩
    have G5 := Hd (G4.out.call hr hs)
    clear hr hs hc0 hf0 hz0 hc1 hf1 hz1
    obtain ⟨hc0, hf0, hz0, hc1, hf1, hz1⟩ := G5.out.l2
    go_wp2_with fail
    refine (HSA.out _ G5.out.rd).mono ?_
    rintro e v4 ⟨rfl, hr, hs⟩
    have G6 := Hd (G5.out.call hr hs)
    clear hr hs hc0 hf0 hz0 hc1 hf1 hz1
    obtain ⟨hc0, hf0, hz0, hc1, hf1, hz1⟩ := G6.out.l2
    go_wp2_with fail
    refine (HSB.out _ G6.out.rd).mono ?_
    rintro e v5 ⟨rfl, hr, hs⟩
    have G7 := Hd (G6.out.call hr hs)
    clear hr hs hc0 hf0 hz0 hc1 hf1 hz1
    obtain ⟨hc0, hf0, hz0, hc1, hf1, hz1⟩ := G7.out.l2
    go_wp2_with fail
    refine (HTY.out _ _ G7.out.rd).mono ?_
    rintro e v6 ⟨rfl, hr, hs⟩
    have G8 := Hd (G7.out.call hr hs)
    clear hr hs hc0 hf0 hz0 hc1 hf1 hz1
    obtain ⟨hc0, hf0, hz0, hc1, hf1, hz1⟩ := G8.out.l2
    have G9 := Hd (G8.out.s3 hXl (.int .i64 ((tyV' ts (exc ts (nmS ts s) [58])).1 : Int)))
    have G10 := Hd (G9.out.s4 hXl (.bool (tyV' ts (exc ts (nmS ts s) [58])).2))
    go_wp2_with fail
    refine (HSD.out _ G10.out.rd).mono ?_
    rintro e v7 ⟨rfl, hr, hs⟩
    have G11 := Hd (G10.out.call hr hs)
    clear hr hs hc0 hf0 hz0 hc1 hf1 hz1
    obtain ⟨hc0, hf0, hz0, hc1, hf1, hz1⟩ := G11.out.l2
    have G12 := Hd (G11.out.leaf { labK 4 (ln ts s) with name := nmV ts s, wd := (tyV' ts (exc ts (nmS ts s) [58])).1, sg := (tyV' ts (exc ts (nmS ts s) [58])).2 })
    go_wp2
    have G13 := Hd (G12.out.stoR hXl (List.Mem.tail _ (List.Mem.head _)) rfl (.int .i64 4) (.string (str (nmV ts s))) (.int .u64 0) (.int .i64 ((tyV' ts (exc ts (nmS ts s) [58])).1 : Int)) (.bool (tyV' ts (exc ts (nmS ts s) [58])).2) (.int .i64 0) (.int .i64 0) (.int .i64 0) (.int .i64 0) (.int .i64 ((ln ts s : Nat) : Int)) (.slice none 0 0))
    refine bodyPost_ret (G13.out.b0.res1 Tryz.results119 Tryz.underlying27 rfl infoNd _ rfl) rfl ?_
    exact G13.out.outT (rfl)
end Go.Proofs.YthdbaligapdbeaaGreatDoor
/- The rule for lists in round brackets: contract, over the rule scalar. -/
namespace Go.Proofs.YthdbaligapdbeaaGreatDoor
open Go Go.RowKit
set_option linter.unusedVariables false

set_option maxHeartbeats 2000000 in
set_option maxRecDepth 100000 in
theorem list_scalar {ts : List Tok} {R g c : Nat} (X : Ctx ts R g c) (item : Sg → Tree × Sg) (hOn : ∀ s, On ts s (item s).2) (s : Sg) (F : Nat) (hF : rem ts (exc ts s [40]) + 1 ≤ F)
  (HI : ∀ q w, On ts (exc ts s [40]) q → Rd w R g c ts q → Calls Tryz.prog 116 #[.pointer (some ⟨R, 0, none⟩)] w (TP w R g c ts (item q))) (w : World) (hR : Rd w R g c ts s) :
  Calls Tryz.prog 115 #[.pointer (some ⟨R, 0, none⟩), .func (Fn.func 116) #[.pointer (some ⟨R, 0, none⟩)] #[]] w (LP w R g c ts (listM ts item F s)) := by
 have hXl := X.lt
 have hRl := hR.lt
 have HEX := Hd fun q W (h : Rd W R g c ts q) => expect_any X (s := q) [40] (by simp) W h
 have HEY := Hd fun q W (h : Rd W R g c ts q) => expect_any X (s := q) [41] (by simp) W h
 have HSK := Hd fun q W (h : Rd W R g c ts q) => skip_any' X (s := q) [41] (by simp) W h
 have HSC := Hd fun q W (h : Rd W R g c ts q) => skip_any' X (s := q) [44] (by simp) W h
 have HIT := Hd HI
 have HR := Hd hR
 unfold skp at HSK HSC
 clear hR HI
 cases hh : hasT ts (exc ts s [40]) [41] with
 | true =>
  rw [listM_shut hh]
  have HSK2 := Hd (HSK.out (exc ts s [40]))
  rw [hh] at HSK2
  clear hh HSK HSC HEY HIT
  go_enter Tryz.func115, Tryz.ntmps115
  go_wp2_with fail
  refine (HEX.out s _ HR.out).mono ?_
  rintro e w1 ⟨rfl, hr, hs⟩
  have H1 := Hd (And.intro hr hs)
  clear hr hs
  go_wp2_with fail
  refine (HSK2.out _ H1.out.1).mono ?_
  rintro e w2 ⟨rfl, hr, hs⟩
  have H2 := Hd (And.intro hr (St.trans H1.out.2 hs))
  clear hr hs H1 HSK2
  go_wp2
  go_ret
  exact ⟨_, rfl, kids_nil _ _, H2.out.1, H2.out.2⟩
 | false =>
  rw [listM_open hh]
  have HSK2 := Hd (HSK.out (exc ts s [40]))
  rw [hh] at HSK2
  have hon1 : On ts s (exc ts s [40]) := exc_on
  obtain ⟨X0, hX0⟩ : ∃ X0, X0 = more ts item F [(item (exc ts s [40])).1] (item (exc ts s [40])).2 := ⟨_, rfl⟩
  rw [← hX0]
  have HX0 := Hd hX0
  have HF := Hd hF
  have hlen := X.len
  clear hh HSK hX0 hF
  go_enter Tryz.func115, Tryz.ntmps115
  go_wp2_with fail
  refine (HEX.out s _ HR.out).mono ?_
  rintro e w1 ⟨rfl, hr, hs⟩
  have H1 := Hd (And.intro hr hs)
  clear hr hs
  go_wp2_with fail
  refine (HSK2.out _ H1.out.1).mono ?_
  rintro e w2 ⟨rfl, hr, hs⟩
  have H2 := Hd (And.intro hr (St.trans H1.out.2 hs))
  clear hr hs H1 HSK2
  go_wp2_with fail
  refine (HIT.out (exc ts s [40]) _ (On.refl _ _) H2.out.1).mono ?_
  rintro e w3 ⟨l1, x1, n1, k1, rfl, hT, hr, hs⟩
  have hw3 : w.heap.size ≤ w3.heap.size := Nat.le_trans (St.size H2.out.2) (St.size hs)
  have hrem : rem ts (item (exc ts s [40])).2 ≤ ts.length := by unfold rem; split <;> omega
  have hrem2 := rem_on (hOn (exc ts s [40]))
  have h0 : Hid (LsSt ts R g c item (ts.length + 1) X0 w (w3.alloc (.cells #[.int .i64 l1.kind, .string (str l1.name), .int .u64 l1.num, .int .i64 l1.wd, .bool l1.sg, .int .i64 l1.op, .int .i64 l1.fac, .int .i64 l1.pip, .int .i64 l1.unr, .int .i64 l1.line, .slice x1 n1 k1] 27)) (.slice (some ⟨w3.heap.size, 0, none⟩) 1 1) [(item (exc ts s [40])).1] (item (exc ts s [40])).2) := by
   refine ⟨kids_one (hT.mono fun k hk _ => Nat.le_trans (St.size H2.out.2) hk) hw3, hr.alloc hXl _, (St.trans H2.out.2 hs).alloc _, ⟨F - 1, by have := HF.out; omega, ?_⟩, by simp; omega⟩
   rw [HX0.out]
   congr 1
   have := HF.out
   omega
  have HONI : Hid (On ts (exc ts s [40]) (item (exc ts s [40])).2) := Hd (hOn _)
  clear hr hs hT H2 HX0 HEX hrem2
  go_wp2
  go_loopw [5] (fun v wr => ∃ acc q, slen v = acc.length ∧ Hid (LsSt ts R g c item (ts.length + 1) X0 w wr v acc q ∧ On ts (exc ts s [40]) q)) (fun v _ => ts.length + 1 - slen v)
  case atStart => exact ⟨_, _, rfl, ⟨h0.out, HONI.out⟩⟩
  case round =>
   clear h0 HONI
   obtain ⟨acc, q, hlen5, hL⟩ := hrel
   obtain ⟨m, hm, hX⟩ := hL.out.1.eq
   have hfew := hL.out.1.few
   obtain ⟨xa, ca, hsh⟩ := hL.out.1.kd.shape
   subst hsh
   cases hh : hasT ts q [44] with
   | true =>
    have hin := hasT_in hh
    have hra := rem_adv hin
    have hri := rem_on (hOn (adv q))
    have HX : Hid (X0 = more ts item m (acc ++ [(item (adv q)).1]) (item (adv q)).2) := Hd (by rw [hX, more, if_pos hh])
    have HONQ : Hid (On ts (exc ts s [40]) (adv q)) := Hd (hL.out.2.trans (adv_on hin))
    have HSK3 := Hd (HSC.out q)
    rw [hh] at HSK3
    clear hX hh hin
    go_wp2_with fail
    refine (HSK3.out _ hL.out.1.rd).mono ?_
    rintro e w4 ⟨rfl, hr, hs⟩
    have H4 := Hd (And.intro hr hs)
    clear hr hs HSK3
    go_wp2_with fail
    refine (HIT.out (adv q) _ HONQ.out H4.out.1).mono ?_
    rintro e w5 ⟨l2, x2, n2, k2, rfl, hT, hr, hs⟩
    have HT5 := Hd hT
    have hs45 : St wr w5 R := St.trans H4.out.2 hs
    obtain ⟨C, o1, o2⟩ := St.kids H4.out.2 hL.out.1.kd hRl
    have o5 : w5.ownsRow w.heap.size 27 11 (.slice xa acc.length ca) acc.length (flat C acc.length) := o1.kept hs (by
     right
     intro e
     have := (o1.lt R e).1
     omega)
    have hown := o5.alloc (.cells #[.int .i64 l2.kind, .string (str l2.name), .int .u64 l2.num, .int .i64 l2.wd, .bool l2.sg, .int .i64 l2.op, .int .i64 l2.fac, .int .i64 l2.pip, .int .i64 l2.unr, .int .i64 l2.line, .slice x2 n2 k2] 27)
    have hszw := St.size hL.out.1.st
    have hsz4 := St.size H4.out.2
    have hsz5 := St.size hs
    obtain ⟨i0, hi0, hz0, hz1, hz2⟩ := info_parts infoNd2
    have hnew : Hid (∀ (w6 : World) (g3 c3 : Nat), w6.ownsRow w.heap.size 27 11 (.slice (some ⟨g3, 0, none⟩) (acc.length + 1) c3) (acc.length + 1) (flat C acc.length ++ [.int .i64 l2.kind, .string (str l2.name), .int .u64 l2.num, .int .i64 l2.wd, .bool l2.sg, .int .i64 l2.op, .int .i64 l2.fac, .int .i64 l2.pip, .int .i64 l2.unr, .int .i64 l2.line, .slice x2 n2 k2]) →
      (w5.alloc (.cells #[.int .i64 l2.kind, .string (str l2.name), .int .u64 l2.num, .int .i64 l2.wd, .bool l2.sg, .int .i64 l2.op, .int .i64 l2.fac, .int .i64 l2.pip, .int .i64 l2.unr, .int .i64 l2.line, .slice x2 n2 k2] 27)).grownBy w6 (Value.slice xa acc.length ca).ownBlock → ((Value.slice xa acc.length ca).ownBlock = some g3 ∨ g3 = w5.heap.size + 1) →
      LsSt ts R g c item (ts.length + 1) X0 w w6 (.slice (some ⟨g3, 0, none⟩) (acc.length + 1) c3) (acc ++ [(item (adv q)).1]) (item (adv q)).2) := Hd fun w6 g3 c3 ho hg hl => by
     have hgo : ∀ k, (Value.slice xa acc.length ca).ownBlock = some k → w.heap.size ≤ k ∧ k < w4.heap.size := fun k hk => o1.lt k hk
     have hza : (w5.alloc (.cells #[.int .i64 l2.kind, .string (str l2.name), .int .u64 l2.num, .int .i64 l2.wd, .bool l2.sg, .int .i64 l2.op, .int .i64 l2.fac, .int .i64 l2.pip, .int .i64 l2.unr, .int .i64 l2.line, .slice x2 n2 k2] 27)).heap.size = w5.heap.size + 1 := by simp
     refine ⟨?_, ?_, ?_, ?_, ?_⟩
     ·refine kids_push (w0 := w4) (C := C) (w := w5.alloc (.cells #[.int .i64 l2.kind, .string (str l2.name), .int .u64 l2.num, .int .i64 l2.wd, .bool l2.sg, .int .i64 l2.op, .int .i64 l2.fac, .int .i64 l2.pip, .int .i64 l2.unr, .int .i64 l2.line, .slice x2 n2 k2] 27)) o1 o2 (fun k hk hlt => ?_) (by omega) (by omega) (HT5.out.keep (fun k _ hk => Below.heap_alloc w5 _ k hk) fun k hk _ => hk) hg ?_ ho
      ·exact (Below.heap_alloc w5 _ k (by omega)).trans (World.grownBy.block hs k hlt (fun e => by injection e with e; omega))
      ·rcases hl with hl | hl
       ·exact .inl hl
       ·exact .inr (by omega)
     ·exact (hr.alloc hXl _).own hXl hg fun k hk => by have := (hgo k hk).1; omega
     ·exact St.own ((St.trans hL.out.1.st hs45).alloc _) hg fun k hk => (hgo k hk).1
     ·refine ⟨m - 1, by omega, ?_⟩
      rw [HX.out]
      congr 1
      omega
     ·rw [List.length_append]; simp; omega
    have hal : acc.length ≤ 65537 := by omega
    have HONN : Hid (On ts (exc ts s [40]) (item (adv q)).2) := Hd (HONQ.out.trans (hOn _))
    have hmeas : acc.length < ts.length + 1 := by omega
    clear hr hs hT o1 o2 o5 HIT hs45 H4 HX hm hri hra HSC
    go_wp2_with (at_builtin; refine wpList_append_lies (w := w5.alloc (.cells #[.int .i64 l2.kind, .string (str l2.name), .int .u64 l2.num, .int .i64 l2.wd, .bool l2.sg, .int .i64 l2.op, .int .i64 l2.fac, .int .i64 l2.pip, .int .i64 l2.unr, .int .i64 l2.line, .slice x2 n2 k2] 27)) (by rfl) _ _ _ (by rfl) w.heap.size 27 i0 (.agg #[.int .i64 0, .string ⟨#[]⟩, .int .u64 0, .int .i64 0, .bool false, .int .i64 0, .int .i64 0, .int .i64 0, .int .i64 0, .int .i64 0, .slice none 0 0]) 11 112 Tryz.underlying25 hi0 hz0 hz1 hz2 (by rfl) (by decide) (.slice xa acc.length ca) acc.length (flat C acc.length) (by rfl) hown ⟨w5.heap.size, 0, none⟩ 1 1 [.int .i64 l2.kind, .string (str l2.name), .int .u64 l2.num, .int .i64 l2.wd, .bool l2.sg, .int .i64 l2.op, .int .i64 l2.fac, .int .i64 l2.pip, .int .i64 l2.unr, .int .i64 l2.line, .slice x2 n2 k2] (by simp [Act.eval]) (by rfl) (World.news_of_block (cs := #[.int .i64 l2.kind, .string (str l2.name), .int .u64 l2.num, .int .i64 l2.wd, .bool l2.sg, .int .i64 l2.op, .int .i64 l2.fac, .int .i64 l2.pip, .int .i64 l2.unr, .int .i64 l2.line, .slice x2 n2 k2]) (t := 27) (fr := (0, 0)) (heap_alloc_new w5 _)) (by intro z hz; simp at hz; rcases hz with rfl | rfl | rfl | rfl | rfl | rfl | rfl | rfl | rfl | rfl | rfl <;> rfl) (by decide) (by unfold maxLen; omega) (by omega) (by simp; omega) (w5.heap.size + 1) (by simp) ?_; intro g3 c3 w6 ho3 hg3 hat3 hlt3)
    have HX6 := Hd (hnew.out w6 g3 c3 ho3 hg3 hat3)
    clear ho3 hg3 hat3 hlt3 hnew hown
    go_wp2
    go_roundw
    case rel => exact ⟨_, _, by simp [slen], ⟨HX6.out, HONN.out⟩⟩
    case measure => simp [slen]; omega
   | false =>
    have HX : Hid (X0 = (acc, q)) := Hd (by rw [hX, more, if_neg (by simp [hh])])
    have HSK3 := Hd (HSC.out q)
    rw [hh] at HSK3
    clear hX hh
    go_wp2_with fail
    refine (HSK3.out _ hL.out.1.rd).mono ?_
    rintro e w4 ⟨rfl, hr, hs⟩
    have hkd := St.kids hs hL.out.1.kd hRl
    have H4 := Hd (And.intro hkd (And.intro hr (St.trans hL.out.1.st hs)))
    clear hr hs HSK3 hkd
    go_wp2_with fail
    refine (HEY.out q _ H4.out.2.1).mono ?_
    rintro e w5 ⟨rfl, hr, hs⟩
    have hkd := St.kids hs H4.out.1 hRl
    have H5 := Hd (And.intro hkd (And.intro hr (St.trans H4.out.2.2 hs)))
    clear hr hs hkd
    go_wp2
    go_ret
    rw [HX.out]
    exact ⟨_, rfl, H5.out.1, H5.out.2.1, H5.out.2.2⟩
end Go.Proofs.YthdbaligapdbeaaGreatDoor
/- The rule for lists in round brackets: contract, over the rule param. -/
namespace Go.Proofs.YthdbaligapdbeaaGreatDoor
open Go Go.RowKit
set_option linter.unusedVariables false

set_option maxHeartbeats 2000000 in
set_option maxRecDepth 100000 in
theorem list_param {ts : List Tok} {R g c : Nat} (X : Ctx ts R g c) (item : Sg → Tree × Sg) (hOn : ∀ s, On ts s (item s).2) (s : Sg) (F : Nat) (hF : rem ts (exc ts s [40]) + 1 ≤ F)
  (HI : ∀ q w, On ts (exc ts s [40]) q → Rd w R g c ts q → Calls Tryz.prog 119 #[.pointer (some ⟨R, 0, none⟩)] w (TP w R g c ts (item q))) (w : World) (hR : Rd w R g c ts s) :
  Calls Tryz.prog 115 #[.pointer (some ⟨R, 0, none⟩), .func (Fn.func 119) #[.pointer (some ⟨R, 0, none⟩)] #[]] w (LP w R g c ts (listM ts item F s)) := by
 have hXl := X.lt
 have hRl := hR.lt
 have HEX := Hd fun q W (h : Rd W R g c ts q) => expect_any X (s := q) [40] (by simp) W h
 have HEY := Hd fun q W (h : Rd W R g c ts q) => expect_any X (s := q) [41] (by simp) W h
 have HSK := Hd fun q W (h : Rd W R g c ts q) => skip_any' X (s := q) [41] (by simp) W h
 have HSC := Hd fun q W (h : Rd W R g c ts q) => skip_any' X (s := q) [44] (by simp) W h
 have HIT := Hd HI
 have HR := Hd hR
 unfold skp at HSK HSC
 clear hR HI
 cases hh : hasT ts (exc ts s [40]) [41] with
 | true =>
  rw [listM_shut hh]
  have HSK2 := Hd (HSK.out (exc ts s [40]))
  rw [hh] at HSK2
  clear hh HSK HSC HEY HIT
  go_enter Tryz.func115, Tryz.ntmps115
  go_wp2_with fail
  refine (HEX.out s _ HR.out).mono ?_
  rintro e w1 ⟨rfl, hr, hs⟩
  have H1 := Hd (And.intro hr hs)
  clear hr hs
  go_wp2_with fail
  refine (HSK2.out _ H1.out.1).mono ?_
  rintro e w2 ⟨rfl, hr, hs⟩
  have H2 := Hd (And.intro hr (St.trans H1.out.2 hs))
  clear hr hs H1 HSK2
  go_wp2
  go_ret
  exact ⟨_, rfl, kids_nil _ _, H2.out.1, H2.out.2⟩
 | false =>
  rw [listM_open hh]
  have HSK2 := Hd (HSK.out (exc ts s [40]))
  rw [hh] at HSK2
  have hon1 : On ts s (exc ts s [40]) := exc_on
  obtain ⟨X0, hX0⟩ : ∃ X0, X0 = more ts item F [(item (exc ts s [40])).1] (item (exc ts s [40])).2 := ⟨_, rfl⟩
  rw [← hX0]
  have HX0 := Hd hX0
  have HF := Hd hF
  have hlen := X.len
  clear hh HSK hX0 hF
  go_enter Tryz.func115, Tryz.ntmps115
  go_wp2_with fail
  refine (HEX.out s _ HR.out).mono ?_
  rintro e w1 ⟨rfl, hr, hs⟩
  have H1 := Hd (And.intro hr hs)
  clear hr hs
  go_wp2_with fail
  refine (HSK2.out _ H1.out.1).mono ?_
  rintro e w2 ⟨rfl, hr, hs⟩
  have H2 := Hd (And.intro hr (St.trans H1.out.2 hs))
  clear hr hs H1 HSK2
  go_wp2_with fail
  refine (HIT.out (exc ts s [40]) _ (On.refl _ _) H2.out.1).mono ?_
  rintro e w3 ⟨l1, x1, n1, k1, rfl, hT, hr, hs⟩
  have hw3 : w.heap.size ≤ w3.heap.size := Nat.le_trans (St.size H2.out.2) (St.size hs)
  have hrem : rem ts (item (exc ts s [40])).2 ≤ ts.length := by unfold rem; split <;> omega
  have hrem2 := rem_on (hOn (exc ts s [40]))
  have h0 : Hid (LsSt ts R g c item (ts.length + 1) X0 w (w3.alloc (.cells #[.int .i64 l1.kind, .string (str l1.name), .int .u64 l1.num, .int .i64 l1.wd, .bool l1.sg, .int .i64 l1.op, .int .i64 l1.fac, .int .i64 l1.pip, .int .i64 l1.unr, .int .i64 l1.line, .slice x1 n1 k1] 27)) (.slice (some ⟨w3.heap.size, 0, none⟩) 1 1) [(item (exc ts s [40])).1] (item (exc ts s [40])).2) := by
   refine ⟨kids_one (hT.mono fun k hk _ => Nat.le_trans (St.size H2.out.2) hk) hw3, hr.alloc hXl _, (St.trans H2.out.2 hs).alloc _, ⟨F - 1, by have := HF.out; omega, ?_⟩, by simp; omega⟩
   rw [HX0.out]
   congr 1
   have := HF.out
   omega
  have HONI : Hid (On ts (exc ts s [40]) (item (exc ts s [40])).2) := Hd (hOn _)
  clear hr hs hT H2 HX0 HEX hrem2
  go_wp2
  go_loopw [5] (fun v wr => ∃ acc q, slen v = acc.length ∧ Hid (LsSt ts R g c item (ts.length + 1) X0 w wr v acc q ∧ On ts (exc ts s [40]) q)) (fun v _ => ts.length + 1 - slen v)
  case atStart => exact ⟨_, _, rfl, ⟨h0.out, HONI.out⟩⟩
  case round =>
   clear h0 HONI
   obtain ⟨acc, q, hlen5, hL⟩ := hrel
   obtain ⟨m, hm, hX⟩ := hL.out.1.eq
   have hfew := hL.out.1.few
   obtain ⟨xa, ca, hsh⟩ := hL.out.1.kd.shape
   subst hsh
   cases hh : hasT ts q [44] with
   | true =>
    have hin := hasT_in hh
    have hra := rem_adv hin
    have hri := rem_on (hOn (adv q))
    have HX : Hid (X0 = more ts item m (acc ++ [(item (adv q)).1]) (item (adv q)).2) := Hd (by rw [hX, more, if_pos hh])
    have HONQ : Hid (On ts (exc ts s [40]) (adv q)) := Hd (hL.out.2.trans (adv_on hin))
    have HSK3 := Hd (HSC.out q)
    rw [hh] at HSK3
    clear hX hh hin
    go_wp2_with fail
    refine (HSK3.out _ hL.out.1.rd).mono ?_
    rintro e w4 ⟨rfl, hr, hs⟩
    have H4 := Hd (And.intro hr hs)
    clear hr hs HSK3
    go_wp2_with fail
    refine (HIT.out (adv q) _ HONQ.out H4.out.1).mono ?_
    rintro e w5 ⟨l2, x2, n2, k2, rfl, hT, hr, hs⟩
    have HT5 := Hd hT
    have hs45 : St wr w5 R := St.trans H4.out.2 hs
    obtain ⟨C, o1, o2⟩ := St.kids H4.out.2 hL.out.1.kd hRl
    have o5 : w5.ownsRow w.heap.size 27 11 (.slice xa acc.length ca) acc.length (flat C acc.length) := o1.kept hs (by
     right
     intro e
     have := (o1.lt R e).1
     omega)
    have hown := o5.alloc (.cells #[.int .i64 l2.kind, .string (str l2.name), .int .u64 l2.num, .int .i64 l2.wd, .bool l2.sg, .int .i64 l2.op, .int .i64 l2.fac, .int .i64 l2.pip, .int .i64 l2.unr, .int .i64 l2.line, .slice x2 n2 k2] 27)
    have hszw := St.size hL.out.1.st
    have hsz4 := St.size H4.out.2
    have hsz5 := St.size hs
    obtain ⟨i0, hi0, hz0, hz1, hz2⟩ := info_parts infoNd2
    have hnew : Hid (∀ (w6 : World) (g3 c3 : Nat), w6.ownsRow w.heap.size 27 11 (.slice (some ⟨g3, 0, none⟩) (acc.length + 1) c3) (acc.length + 1) (flat C acc.length ++ [.int .i64 l2.kind, .string (str l2.name), .int .u64 l2.num, .int .i64 l2.wd, .bool l2.sg, .int .i64 l2.op, .int .i64 l2.fac, .int .i64 l2.pip, .int .i64 l2.unr, .int .i64 l2.line, .slice x2 n2 k2]) →
      (w5.alloc (.cells #[.int .i64 l2.kind, .string (str l2.name), .int .u64 l2.num, .int .i64 l2.wd, .bool l2.sg, .int .i64 l2.op, .int .i64 l2.fac, .int .i64 l2.pip, .int .i64 l2.unr, .int .i64 l2.line, .slice x2 n2 k2] 27)).grownBy w6 (Value.slice xa acc.length ca).ownBlock → ((Value.slice xa acc.length ca).ownBlock = some g3 ∨ g3 = w5.heap.size + 1) →
      LsSt ts R g c item (ts.length + 1) X0 w w6 (.slice (some ⟨g3, 0, none⟩) (acc.length + 1) c3) (acc ++ [(item (adv q)).1]) (item (adv q)).2) := Hd fun w6 g3 c3 ho hg hl => by
     have hgo : ∀ k, (Value.slice xa acc.length ca).ownBlock = some k → w.heap.size ≤ k ∧ k < w4.heap.size := fun k hk => o1.lt k hk
     have hza : (w5.alloc (.cells #[.int .i64 l2.kind, .string (str l2.name), .int .u64 l2.num, .int .i64 l2.wd, .bool l2.sg, .int .i64 l2.op, .int .i64 l2.fac, .int .i64 l2.pip, .int .i64 l2.unr, .int .i64 l2.line, .slice x2 n2 k2] 27)).heap.size = w5.heap.size + 1 := by simp
     refine ⟨?_, ?_, ?_, ?_, ?_⟩
     ·refine kids_push (w0 := w4) (C := C) (w := w5.alloc (.cells #[.int .i64 l2.kind, .string (str l2.name), .int .u64 l2.num, .int .i64 l2.wd, .bool l2.sg, .int .i64 l2.op, .int .i64 l2.fac, .int .i64 l2.pip, .int .i64 l2.unr, .int .i64 l2.line, .slice x2 n2 k2] 27)) o1 o2 (fun k hk hlt => ?_) (by omega) (by omega) (HT5.out.keep (fun k _ hk => Below.heap_alloc w5 _ k hk) fun k hk _ => hk) hg ?_ ho
      ·exact (Below.heap_alloc w5 _ k (by omega)).trans (World.grownBy.block hs k hlt (fun e => by injection e with e; omega))
      ·rcases hl with hl | hl
       ·exact .inl hl
       ·exact .inr (by omega)
     ·exact (hr.alloc hXl _).own hXl hg fun k hk => by have := (hgo k hk).1; omega
     ·exact St.own ((St.trans hL.out.1.st hs45).alloc _) hg fun k hk => (hgo k hk).1
     ·refine ⟨m - 1, by omega, ?_⟩
      rw [HX.out]
      congr 1
      omega
     ·rw [List.length_append]; simp; omega
    have hal : acc.length ≤ 65537 := by omega
    have HONN : Hid (On ts (exc ts s [40]) (item (adv q)).2) := Hd (HONQ.out.trans (hOn _))
    have hmeas : acc.length < ts.length + 1 := by omega
    clear hr hs hT o1 o2 o5 HIT hs45 H4 HX hm hri hra HSC
    go_wp2_with (at_builtin; refine wpList_append_lies (w := w5.alloc (.cells #[.int .i64 l2.kind, .string (str l2.name), .int .u64 l2.num, .int .i64 l2.wd, .bool l2.sg, .int .i64 l2.op, .int .i64 l2.fac, .int .i64 l2.pip, .int .i64 l2.unr, .int .i64 l2.line, .slice x2 n2 k2] 27)) (by rfl) _ _ _ (by rfl) w.heap.size 27 i0 (.agg #[.int .i64 0, .string ⟨#[]⟩, .int .u64 0, .int .i64 0, .bool false, .int .i64 0, .int .i64 0, .int .i64 0, .int .i64 0, .int .i64 0, .slice none 0 0]) 11 112 Tryz.underlying25 hi0 hz0 hz1 hz2 (by rfl) (by decide) (.slice xa acc.length ca) acc.length (flat C acc.length) (by rfl) hown ⟨w5.heap.size, 0, none⟩ 1 1 [.int .i64 l2.kind, .string (str l2.name), .int .u64 l2.num, .int .i64 l2.wd, .bool l2.sg, .int .i64 l2.op, .int .i64 l2.fac, .int .i64 l2.pip, .int .i64 l2.unr, .int .i64 l2.line, .slice x2 n2 k2] (by simp [Act.eval]) (by rfl) (World.news_of_block (cs := #[.int .i64 l2.kind, .string (str l2.name), .int .u64 l2.num, .int .i64 l2.wd, .bool l2.sg, .int .i64 l2.op, .int .i64 l2.fac, .int .i64 l2.pip, .int .i64 l2.unr, .int .i64 l2.line, .slice x2 n2 k2]) (t := 27) (fr := (0, 0)) (heap_alloc_new w5 _)) (by intro z hz; simp at hz; rcases hz with rfl | rfl | rfl | rfl | rfl | rfl | rfl | rfl | rfl | rfl | rfl <;> rfl) (by decide) (by unfold maxLen; omega) (by omega) (by simp; omega) (w5.heap.size + 1) (by simp) ?_; intro g3 c3 w6 ho3 hg3 hat3 hlt3)
    have HX6 := Hd (hnew.out w6 g3 c3 ho3 hg3 hat3)
    clear ho3 hg3 hat3 hlt3 hnew hown
    go_wp2
    go_roundw
    case rel => exact ⟨_, _, by simp [slen], ⟨HX6.out, HONN.out⟩⟩
    case measure => simp [slen]; omega
   | false =>
    have HX : Hid (X0 = (acc, q)) := Hd (by rw [hX, more, if_neg (by simp [hh])])
    have HSK3 := Hd (HSC.out q)
    rw [hh] at HSK3
    clear hX hh
    go_wp2_with fail
    refine (HSK3.out _ hL.out.1.rd).mono ?_
    rintro e w4 ⟨rfl, hr, hs⟩
    have hkd := St.kids hs hL.out.1.kd hRl
    have H4 := Hd (And.intro hkd (And.intro hr (St.trans hL.out.1.st hs)))
    clear hr hs HSK3 hkd
    go_wp2_with fail
    refine (HEY.out q _ H4.out.2.1).mono ?_
    rintro e w5 ⟨rfl, hr, hs⟩
    have hkd := St.kids hs H4.out.1 hRl
    have H5 := Hd (And.intro hkd (And.intro hr (St.trans H4.out.2.2 hs)))
    clear hr hs hkd
    go_wp2
    go_ret
    rw [HX.out]
    exact ⟨_, rfl, H5.out.1, H5.out.2.1, H5.out.2.2⟩
end Go.Proofs.YthdbaligapdbeaaGreatDoor
