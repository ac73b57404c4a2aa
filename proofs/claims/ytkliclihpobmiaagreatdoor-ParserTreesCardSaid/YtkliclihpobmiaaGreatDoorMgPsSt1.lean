/- The rules send, result, declaration: contracts. -/
import Derived.Test.YtkliclihpobmiaaGreatDoorMgPsFk
namespace Go.Proofs.YtkliclihpobmiaaGreatDoor
open Go Go.RowKit
set_option linter.unusedVariables false
set_option linter.unusedSimpArgs false

set_option maxHeartbeats 2000000 in
set_option maxRecDepth 100000 in
theorem send_any {ts : List Tok} {R g c : Nat} (X : Ctx ts R g c) (s : Sg) (hv : hasT ts s [115, 101, 110, 100] = true) (w : World) (hR : Rd w R g c ts s) : Calls Tryz.prog 158 #[.pointer (some ⟨R, 0, none⟩)] w (TP w R g c ts (sendM ts s)) := by
 have hXl := X.lt
 have F0 := Hd ((Fr.start hR).node hXl ncz)
 have HN := Hd fun W (h : Rd W R g c ts s) => node_any X 16 W h
 have HX := Hd fun q W (h : Rd W R g c ts q) => xpr_any X q W h
 have HNM := Hd fun q W (h : Rd W R g c ts q) => name_any X (s := q) W h
 have HE0 := Hd fun W (h : Rd W R g c ts s) => expect_any X (s := s) [115, 101, 110, 100] (by simp) W h
 rw [exc_has hv] at HE0
 have HEO := Hd fun q W (h : Rd W R g c ts q) => expect_any X (s := q) [40] (by simp) W h
 have HES := Hd fun q W (h : Rd W R g c ts q) => expect_any X (s := q) [41] (by simp) W h
 have HEC := Hd fun q W (h : Rd W R g c ts q) => expect_any X (s := q) [59] (by simp) W h
 have HL : Hid (nc (labK 16 (ln ts s)) = [.int .i64 16, .string ⟨#[]⟩, .int .u64 0, .int .i64 0, .bool false, .int .i64 0, .int .i64 0, .int .i64 0, .int .i64 0, .int .i64 ((ln ts s : Nat) : Int), .slice none 0 0]) := Hd rfl
 rw [HL.out] at HN
 have HM : Hid (sendM ts s = (.node { labK 16 (ln ts s) with name := nmV ts (adv s) } [(xpr ts (exc ts (nmS ts (adv s)) [40])).1], exc ts (exc ts (xpr ts (exc ts (nmS ts (adv s)) [40])).2 [41]) [59])) := Hd rfl
 rw [HM.out]
 clear HM hR HL hv
 go_enter Tryz.func158, Tryz.ntmps158
 go_wp2_with fail
 refine (HN.out _ F0.out.rd).mono ?_
 rintro e v1 ⟨rfl, hb⟩
 have G1 := Hd (F0.out.quiet hXl hb)
 clear hb
 obtain ⟨hc0, hf0⟩ := G1.out.b0.all
 have hz0 := G1.out.b0.lt
 unfold ncz at hc0
 have hq10 := G1.out.b0.lt
 have G2 := Hd (G1.out.node hXl [.int .i64 16, .string ⟨#[]⟩, .int .u64 0, .int .i64 0, .bool false, .int .i64 0, .int .i64 0, .int .i64 0, .int .i64 0, .int .i64 ((ln ts s : Nat) : Int), .slice none 0 0])
 go_wp2_with fail
 refine (HE0.out _ G2.out.rd).mono ?_
 rintro e v2 ⟨rfl, hr, hs⟩
 clear hc0 hf0 hz0
 have G3 := Hd (G2.out.call hr hs)
 clear hr hs
 obtain ⟨hc0, hf0, hz0, hc1, hf1, hz1⟩ := G3.out.l2
 go_wp2_with fail
 refine (HNM.out _ _ G3.out.rd).mono ?_
 rintro e v3 ⟨rfl, hr, hs⟩
 have G4 := Hd (G3.out.call hr hs)
 clear hr hs hc0 hf0 hz0 hc1 hf1 hz1
 obtain ⟨hc0, hf0, hz0, hc1, hf1, hz1⟩ := G4.out.l2
 have G5 := Hd (G4.out.s1 hXl (.string (str (nmV ts (adv s)))))
 go_wp2_with fail
 refine (HEO.out _ _ G5.out.rd).mono ?_
 rintro e v4 ⟨rfl, hr, hs⟩
 have G6 := Hd (G5.out.call hr hs)
 clear hr hs hc0 hf0 hz0 hc1 hf1 hz1
 obtain ⟨hc0, hf0, hz0, hc1, hf1, hz1⟩ := G6.out.l2
 go_wp2_with fail
 refine (HX.out _ _ G6.out.rd).mono ?_
 rintro e v5 ⟨l1, x1, n1, k1, rfl, hT, hr, hs⟩
 clear hc0 hf0 hz0 hc1 hf1 hz1
 have G7 := Hd (G6.out.tree hT hr hs)
 clear hT hr hs
 obtain ⟨hc0, hf0, hz0, hc1, hf1, hz1⟩ := G7.out.l2
 have G8 := Hd (G7.out.s10 hXl (.slice (some ⟨v5.heap.size, 0, none⟩) 1 1))
 have G9 := Hd (G8.out.kidz1 hXl v5.heap.size (by simp only [size_setCell, stor11_size]) (List.Mem.head _) { labK 16 (ln ts s) with name := nmV ts (adv s) })
 go_wp2_with fail
 refine (HES.out _ _ G9.out.rd).mono ?_
 rintro e v6 ⟨rfl, hr, hs⟩
 have G10 := Hd (G9.out.call hr hs)
 clear hr hs hc0 hf0 hz0 hc1 hf1 hz1
 obtain ⟨hc0, hf0, hz0, hc1, hf1, hz1⟩ := G10.out.l2
 go_wp2_with fail
 refine (HEC.out _ _ G10.out.rd).mono ?_
 rintro e v7 ⟨rfl, hr, hs⟩
 have G11 := Hd (G10.out.call hr hs)
 clear hr hs hc0 hf0 hz0 hc1 hf1 hz1
 obtain ⟨hc0, hf0, hz0, hc1, hf1, hz1⟩ := G11.out.l2
 go_wp2
 have G12 := Hd (G11.out.stoR hXl (List.Mem.tail _ (List.Mem.head _)) rfl (.int .i64 16) (.string (str (nmV ts (adv s)))) (.int .u64 0) (.int .i64 0) (.bool false) (.int .i64 0) (.int .i64 0) (.int .i64 0) (.int .i64 0) (.int .i64 ((ln ts s : Nat) : Int)) (.slice (some ⟨v5.heap.size, 0, none⟩) 1 1))
 refine bodyPost_ret (G12.out.b0.res1 Tryz.results158 Tryz.underlying28 rfl infoNd _ rfl) rfl ?_
 exact G12.out.outT (rfl)

set_option maxHeartbeats 2000000 in
set_option maxRecDepth 100000 in
theorem result_any {ts : List Tok} {R g c : Nat} (X : Ctx ts R g c) (s : Sg) (hv : hasT ts s [114, 101, 116, 117, 114, 110] = true) (w : World) (hR : Rd w R g c ts s) : Calls Tryz.prog 159 #[.pointer (some ⟨R, 0, none⟩)] w (TP w R g c ts (resM ts s)) := by
 have hXl := X.lt
 have F0 := Hd ((Fr.start hR).node hXl ncz)
 have HN := Hd fun W (h : Rd W R g c ts s) => node_any X 17 W h
 have HX := Hd fun q W (h : Rd W R g c ts q) => xpr_any X q W h
 have HNM := Hd fun q W (h : Rd W R g c ts q) => name_any X (s := q) W h
 have HE0 := Hd fun W (h : Rd W R g c ts s) => expect_any X (s := s) [114, 101, 116, 117, 114, 110] (by simp) W h
 rw [exc_has hv] at HE0
 have HEC := Hd fun q W (h : Rd W R g c ts q) => expect_any X (s := q) [59] (by simp) W h
 have HL : Hid (nc (labK 17 (ln ts s)) = [.int .i64 17, .string ⟨#[]⟩, .int .u64 0, .int .i64 0, .bool false, .int .i64 0, .int .i64 0, .int .i64 0, .int .i64 0, .int .i64 ((ln ts s : Nat) : Int), .slice none 0 0]) := Hd rfl
 rw [HL.out] at HN
 have HM : Hid (resM ts s = (.node (labK 17 (ln ts s)) [(xpr ts (adv s)).1], exc ts (xpr ts (adv s)).2 [59])) := Hd rfl
 rw [HM.out]
 clear HM hR HL hv HNM
 go_enter Tryz.func159, Tryz.ntmps159
 go_wp2_with fail
 refine (HN.out _ F0.out.rd).mono ?_
 rintro e v1 ⟨rfl, hb⟩
 have G1 := Hd (F0.out.quiet hXl hb)
 clear hb
 obtain ⟨hc0, hf0⟩ := G1.out.b0.all
 have hz0 := G1.out.b0.lt
 unfold ncz at hc0
 have hq10 := G1.out.b0.lt
 have G2 := Hd (G1.out.node hXl [.int .i64 17, .string ⟨#[]⟩, .int .u64 0, .int .i64 0, .bool false, .int .i64 0, .int .i64 0, .int .i64 0, .int .i64 0, .int .i64 ((ln ts s : Nat) : Int), .slice none 0 0])
 go_wp2_with fail
 refine (HE0.out _ G2.out.rd).mono ?_
 rintro e v2 ⟨rfl, hr, hs⟩
 clear hc0 hf0 hz0
 have G3 := Hd (G2.out.call hr hs)
 clear hr hs
 obtain ⟨hc0, hf0, hz0, hc1, hf1, hz1⟩ := G3.out.l2
 go_wp2_with fail
 refine (HX.out _ _ G3.out.rd).mono ?_
 rintro e v3 ⟨l1, x1, n1, k1, rfl, hT, hr, hs⟩
 clear hc0 hf0 hz0 hc1 hf1 hz1
 have G4 := Hd (G3.out.tree hT hr hs)
 clear hT hr hs
 obtain ⟨hc0, hf0, hz0, hc1, hf1, hz1⟩ := G4.out.l2
 have G5 := Hd (G4.out.s10 hXl (.slice (some ⟨v3.heap.size, 0, none⟩) 1 1))
 have G6 := Hd (G5.out.kidz1 hXl v3.heap.size (by simp only [size_setCell, stor11_size]) (List.Mem.head _) (labK 17 (ln ts s)))
 go_wp2_with fail
 refine (HEC.out _ _ G6.out.rd).mono ?_
 rintro e v4 ⟨rfl, hr, hs⟩
 have G7 := Hd (G6.out.call hr hs)
 clear hr hs hc0 hf0 hz0 hc1 hf1 hz1
 obtain ⟨hc0, hf0, hz0, hc1, hf1, hz1⟩ := G7.out.l2
 go_wp2
 have G8 := Hd (G7.out.stoR hXl (List.Mem.tail _ (List.Mem.head _)) rfl (.int .i64 17) (.string ⟨#[]⟩) (.int .u64 0) (.int .i64 0) (.bool false) (.int .i64 0) (.int .i64 0) (.int .i64 0) (.int .i64 0) (.int .i64 ((ln ts s : Nat) : Int)) (.slice (some ⟨v3.heap.size, 0, none⟩) 1 1))
 refine bodyPost_ret (G8.out.b0.res1 Tryz.results159 Tryz.underlying28 rfl infoNd _ rfl) rfl ?_
 exact G8.out.outT (rfl)

set_option maxHeartbeats 2000000 in
set_option maxRecDepth 100000 in
theorem declL_any {ts : List Tok} {R g c : Nat} (X : Ctx ts R g c) (s : Sg) (hv : hasT ts s [108, 101, 116] = true) (w : World) (hR : Rd w R g c ts s) : Calls Tryz.prog 155 #[.pointer (some ⟨R, 0, none⟩)] w (TP w R g c ts (declL ts s)) := by
 have hXl := X.lt
 have F0 := Hd ((Fr.start hR).node hXl ncz)
 have HN := Hd fun W (h : Rd W R g c ts s) => node_any X 9 W h
 have HX := Hd fun q W (h : Rd W R g c ts q) => xpr_any X q W h
 have HNM := Hd fun q W (h : Rd W R g c ts q) => name_any X (s := q) W h
 have HSL := Hd fun W (h : Rd W R g c ts s) => skip_any' X (s := s) [108, 101, 116] (by simp) W h
 have HSC := Hd fun W (h : Rd W R g c ts (nmS ts (adv s))) => skip_any' X [58] (by simp) W h
 have HTY := Hd fun q W (h : Rd W R g c ts q) => typN_any X (s := q) W h
 unfold skp at HSL HSC
 rw [hv] at HSL
 have HEQ := Hd fun q W (h : Rd W R g c ts q) => expect_any X (s := q) [61] (by simp) W h
 have HEC := Hd fun q W (h : Rd W R g c ts q) => expect_any X (s := q) [59] (by simp) W h
 have HL : Hid (nc (labK 9 (ln ts s)) = [.int .i64 9, .string ⟨#[]⟩, .int .u64 0, .int .i64 0, .bool false, .int .i64 0, .int .i64 0, .int .i64 0, .int .i64 0, .int .i64 ((ln ts s : Nat) : Int), .slice none 0 0]) := Hd rfl
 rw [HL.out] at HN
 cases h1 : hasT ts (nmS ts (adv s)) [58] with
 | true =>
  have HM : Hid (declL ts s = (.node { labK 10 (ln ts s) with name := nmV ts (adv s), wd := (tyV' ts (adv (nmS ts (adv s)))).1, sg := (tyV' ts (adv (nmS ts (adv s)))).2 } [(xpr ts (exc ts (tyS ts (adv (nmS ts (adv s)))) [61])).1], exc ts (xpr ts (exc ts (tyS ts (adv (nmS ts (adv s)))) [61])).2 [59])) := Hd (by unfold declL; simp only [h1]; rfl)
  rw [HM.out]
  rw [h1] at HSC
  clear HM hR HL hv h1
  go_enter Tryz.func155, Tryz.ntmps155
  go_wp2_with fail
  refine (HN.out _ F0.out.rd).mono ?_
  rintro e v1 ⟨rfl, hb⟩
  have G1 := Hd (F0.out.quiet hXl hb)
  clear hb
  obtain ⟨hc0, hf0⟩ := G1.out.b0.all
  have hz0 := G1.out.b0.lt
  unfold ncz at hc0
  have hq10 := G1.out.b0.lt
  have G2 := Hd (G1.out.node hXl [.int .i64 9, .string ⟨#[]⟩, .int .u64 0, .int .i64 0, .bool false, .int .i64 0, .int .i64 0, .int .i64 0, .int .i64 0, .int .i64 ((ln ts s : Nat) : Int), .slice none 0 0])
  go_wp2_with fail
  refine (HSL.out _ G2.out.rd).mono ?_
  rintro e v2 ⟨rfl, hr, hs⟩
  clear hc0 hf0 hz0
  have G3 := Hd (G2.out.call hr hs)
  clear hr hs
  obtain ⟨hc0, hf0, hz0, hc1, hf1, hz1⟩ := G3.out.l2
  have G4 := Hd (G3.out.s0 hXl (.int .i64 10))
  go_wp2_with fail
  refine (HNM.out _ _ G4.out.rd).mono ?_
  rintro e v3 ⟨rfl, hr, hs⟩
  have G5 := Hd (G4.out.call hr hs)
  clear hr hs hc0 hf0 hz0 hc1 hf1 hz1
  obtain ⟨hc0, hf0, hz0, hc1, hf1, hz1⟩ := G5.out.l2
  have G6 := Hd (G5.out.s1 hXl (.string (str (nmV ts (adv s)))))
  go_wp2_with fail
  refine (HSC.out _ G6.out.rd).mono ?_
  rintro e v4 ⟨rfl, hr, hs⟩
  have G7 := Hd (G6.out.call hr hs)
  clear hr hs hc0 hf0 hz0 hc1 hf1 hz1
  obtain ⟨hc0, hf0, hz0, hc1, hf1, hz1⟩ := G7.out.l2
  go_wp2_with fail
  refine (HTY.out _ _ G7.out.rd).mono ?_
  rintro e v5 ⟨rfl, hr, hs⟩
  have G8 := Hd (G7.out.call hr hs)
  clear hr hs hc0 hf0 hz0 hc1 hf1 hz1
  obtain ⟨hc0, hf0, hz0, hc1, hf1, hz1⟩ := G8.out.l2
  have G9 := Hd (G8.out.s3 hXl (.int .i64 ((tyV' ts (adv (nmS ts (adv s)))).1 : Int)))
  have G10 := Hd (G9.out.s4 hXl (.bool (tyV' ts (adv (nmS ts (adv s)))).2))
  go_wp2_with fail
  refine (HEQ.out _ _ G10.out.rd).mono ?_
  rintro e v6 ⟨rfl, hr, hs⟩
  have G11 := Hd (G10.out.call hr hs)
  clear hr hs hc0 hf0 hz0 hc1 hf1 hz1
  obtain ⟨hc0, hf0, hz0, hc1, hf1, hz1⟩ := G11.out.l2
  go_wp2_with fail
  refine (HX.out _ _ G11.out.rd).mono ?_
  rintro e v7 ⟨l1, x1, n1, k1, rfl, hT, hr, hs⟩
  clear hc0 hf0 hz0 hc1 hf1 hz1
  have G12 := Hd (G11.out.tree hT hr hs)
  clear hT hr hs
  obtain ⟨hc0, hf0, hz0, hc1, hf1, hz1⟩ := G12.out.l2
  have G13 := Hd (G12.out.s10 hXl (.slice (some ⟨v7.heap.size, 0, none⟩) 1 1))
  have G14 := Hd (G13.out.kidz1 hXl v7.heap.size (by simp only [size_setCell, stor11_size]) (List.Mem.head _) { labK 10 (ln ts s) with name := nmV ts (adv s), wd := (tyV' ts (adv (nmS ts (adv s)))).1, sg := (tyV' ts (adv (nmS ts (adv s)))).2 })
  go_wp2_with fail
  refine (HEC.out _ _ G14.out.rd).mono ?_
  rintro e v8 ⟨rfl, hr, hs⟩
  have G15 := Hd (G14.out.call hr hs)
  clear hr hs hc0 hf0 hz0 hc1 hf1 hz1
  obtain ⟨hc0, hf0, hz0, hc1, hf1, hz1⟩ := G15.out.l2
  go_wp2
  have G16 := Hd (G15.out.stoR hXl (List.Mem.tail _ (List.Mem.head _)) rfl (.int .i64 10) (.string (str (nmV ts (adv s)))) (.int .u64 0) (.int .i64 ((tyV' ts (adv (nmS ts (adv s)))).1 : Int)) (.bool (tyV' ts (adv (nmS ts (adv s)))).2) (.int .i64 0) (.int .i64 0) (.int .i64 0) (.int .i64 0) (.int .i64 ((ln ts s : Nat) : Int)) (.slice (some ⟨v7.heap.size, 0, none⟩) 1 1))
  refine bodyPost_ret (G16.out.b0.res1 Tryz.results155 Tryz.underlying28 rfl infoNd _ rfl) rfl ?_
  exact G16.out.outT (rfl)
 | false =>
  have HM : Hid (declL ts s = (.node { labK 10 (ln ts s) with name := nmV ts (adv s) } [(xpr ts (exc ts (nmS ts (adv s)) [61])).1], exc ts (xpr ts (exc ts (nmS ts (adv s)) [61])).2 [59])) := Hd (by unfold declL; simp only [h1]; rfl)
  rw [HM.out]
  rw [h1] at HSC
  clear HM hR HL hv h1
  go_enter Tryz.func155, Tryz.ntmps155
  go_wp2_with fail
  refine (HN.out _ F0.out.rd).mono ?_
  rintro e v1 ⟨rfl, hb⟩
  have G1 := Hd (F0.out.quiet hXl hb)
  clear hb
  obtain ⟨hc0, hf0⟩ := G1.out.b0.all
  have hz0 := G1.out.b0.lt
  unfold ncz at hc0
  have hq10 := G1.out.b0.lt
  have G2 := Hd (G1.out.node hXl [.int .i64 9, .string ⟨#[]⟩, .int .u64 0, .int .i64 0, .bool false, .int .i64 0, .int .i64 0, .int .i64 0, .int .i64 0, .int .i64 ((ln ts s : Nat) : Int), .slice none 0 0])
  go_wp2_with fail
  refine (HSL.out _ G2.out.rd).mono ?_
  rintro e v2 ⟨rfl, hr, hs⟩
  clear hc0 hf0 hz0
  have G3 := Hd (G2.out.call hr hs)
  clear hr hs
  obtain ⟨hc0, hf0, hz0, hc1, hf1, hz1⟩ := G3.out.l2
  have G4 := Hd (G3.out.s0 hXl (.int .i64 10))
  go_wp2_with fail
  refine (HNM.out _ _ G4.out.rd).mono ?_
  rintro e v3 ⟨rfl, hr, hs⟩
  have G5 := Hd (G4.out.call hr hs)
  clear hr hs hc0 hf0 hz0 hc1 hf1 hz1
  obtain ⟨hc0, hf0, hz0, hc1, hf1, hz1⟩ := G5.out.l2
  have G6 := Hd (G5.out.s1 hXl (.string (str (nmV ts (adv s)))))
  go_wp2_with fail
  refine (HSC.out _ G6.out.rd).mono ?_
  rintro e v4 ⟨rfl, hr, hs⟩
  have G7 := Hd (G6.out.call hr hs)
  clear hr hs hc0 hf0 hz0 hc1 hf1 hz1
  obtain ⟨hc0, hf0, hz0, hc1, hf1, hz1⟩ := G7.out.l2
  go_wp2_with fail
  refine (HEQ.out _ _ G7.out.rd).mono ?_
  rintro e v5 ⟨rfl, hr, hs⟩
  have G8 := Hd (G7.out.call hr hs)
  clear hr hs hc0 hf0 hz0 hc1 hf1 hz1
  obtain ⟨hc0, hf0, hz0, hc1, hf1, hz1⟩ := G8.out.l2
  go_wp2_with fail
  refine (HX.out _ _ G8.out.rd).mono ?_
  rintro e v6 ⟨l1, x1, n1, k1, rfl, hT, hr, hs⟩
  clear hc0 hf0 hz0 hc1 hf1 hz1
  have G9 := Hd (G8.out.tree hT hr hs)
  clear hT hr hs
  obtain ⟨hc0, hf0, hz0, hc1, hf1, hz1⟩ := G9.out.l2
  have G10 := Hd (G9.out.s10 hXl (.slice (some ⟨v6.heap.size, 0, none⟩) 1 1))
  have G11 := Hd (G10.out.kidz1 hXl v6.heap.size (by simp only [size_setCell, stor11_size]) (List.Mem.head _) { labK 10 (ln ts s) with name := nmV ts (adv s) })
  go_wp2_with fail
  refine (HEC.out _ _ G11.out.rd).mono ?_
  rintro e v7 ⟨rfl, hr, hs⟩
  have G12 := Hd (G11.out.call hr hs)
  clear hr hs hc0 hf0 hz0 hc1 hf1 hz1
  obtain ⟨hc0, hf0, hz0, hc1, hf1, hz1⟩ := G12.out.l2
  go_wp2
  have G13 := Hd (G12.out.stoR hXl (List.Mem.tail _ (List.Mem.head _)) rfl (.int .i64 10) (.string (str (nmV ts (adv s)))) (.int .u64 0) (.int .i64 0) (.bool false) (.int .i64 0) (.int .i64 0) (.int .i64 0) (.int .i64 0) (.int .i64 ((ln ts s : Nat) : Int)) (.slice (some ⟨v6.heap.size, 0, none⟩) 1 1))
  refine bodyPost_ret (G13.out.b0.res1 Tryz.results155 Tryz.underlying28 rfl infoNd _ rfl) rfl ?_
  exact G13.out.outT (rfl)

set_option maxHeartbeats 2000000 in
set_option maxRecDepth 100000 in
theorem declV_any {ts : List Tok} {R g c : Nat} (X : Ctx ts R g c) (s : Sg) (hv : hasT ts s [118, 97, 114] = true) (hn : hasT ts s [108, 101, 116] = false) (w : World) (hR : Rd w R g c ts s) : Calls Tryz.prog 155 #[.pointer (some ⟨R, 0, none⟩)] w (TP w R g c ts (declV ts s)) := by
 have hXl := X.lt
 have F0 := Hd ((Fr.start hR).node hXl ncz)
 have HN := Hd fun W (h : Rd W R g c ts s) => node_any X 9 W h
 have HX := Hd fun q W (h : Rd W R g c ts q) => xpr_any X q W h
 have HNM := Hd fun q W (h : Rd W R g c ts q) => name_any X (s := q) W h
 have HSL := Hd fun W (h : Rd W R g c ts s) => skip_any' X (s := s) [108, 101, 116] (by simp) W h
 have HTY := Hd fun q W (h : Rd W R g c ts q) => typN_any X (s := q) W h
 have HNX := Hd fun W (h : Rd W R g c ts (tyS ts (exc ts (nmS ts (adv s)) [58]))) => next_any X W h
 have hF := fldT (nxt ts (tyS ts (exc ts (nmS ts (adv s)) [58])))
 have hq1 : ((str (nxt ts (tyS ts (exc ts (nmS ts (adv s)) [58]))).text).toList == [61]) = hasT ts (tyS ts (exc ts (nmS ts (adv s)) [58])) [61] := by have := hasT_bytes ts (tyS ts (exc ts (nmS ts (adv s)) [58])) [61]; rw [str_toList [61]] at this; exact this
 unfold skp at HSL
 rw [hn] at HSL
 have HE0 := Hd fun W (h : Rd W R g c ts s) => expect_any X (s := s) [118, 97, 114] (by simp) W h
 rw [exc_has hv] at HE0
 have HEO := Hd fun q W (h : Rd W R g c ts q) => expect_any X (s := q) [58] (by simp) W h
 have HEC := Hd fun q W (h : Rd W R g c ts q) => expect_any X (s := q) [59] (by simp) W h
 have HL : Hid (nc (labK 9 (ln ts s)) = [.int .i64 9, .string ⟨#[]⟩, .int .u64 0, .int .i64 0, .bool false, .int .i64 0, .int .i64 0, .int .i64 0, .int .i64 0, .int .i64 ((ln ts s : Nat) : Int), .slice none 0 0]) := Hd rfl
 rw [HL.out] at HN
 cases h1 : hasT ts (tyS ts (exc ts (nmS ts (adv s)) [58])) [61] with
 | true =>
  have HM : Hid (declV ts s = (.node { labK 9 (ln ts s) with name := nmV ts (adv s), wd := (tyV' ts (exc ts (nmS ts (adv s)) [58])).1, sg := (tyV' ts (exc ts (nmS ts (adv s)) [58])).2 } [(xpr ts (adv (tyS ts (exc ts (nmS ts (adv s)) [58])))).1], exc ts (xpr ts (adv (tyS ts (exc ts (nmS ts (adv s)) [58])))).2 [59])) := Hd (by unfold declV; simp only [h1]; rfl)
  rw [HM.out]
  rw [h1] at hq1
  have HEQ := Hd fun W (h : Rd W R g c ts (tyS ts (exc ts (nmS ts (adv s)) [58]))) => expect_any X (s := (tyS ts (exc ts (nmS ts (adv s)) [58]))) [61] (by simp) W h
  rw [exc_has h1] at HEQ
  clear HM hR HL hv h1 hn
  go_enter Tryz.func155, Tryz.ntmps155
  go_wp2_with fail
  refine (HN.out _ F0.out.rd).mono ?_
  rintro e v1 ⟨rfl, hb⟩
  have G1 := Hd (F0.out.quiet hXl hb)
  clear hb
  obtain ⟨hc0, hf0⟩ := G1.out.b0.all
  have hz0 := G1.out.b0.lt
  unfold ncz at hc0
  have hq10 := G1.out.b0.lt
  have G2 := Hd (G1.out.node hXl [.int .i64 9, .string ⟨#[]⟩, .int .u64 0, .int .i64 0, .bool false, .int .i64 0, .int .i64 0, .int .i64 0, .int .i64 0, .int .i64 ((ln ts s : Nat) : Int), .slice none 0 0])
  go_wp2_with fail
  refine (HSL.out _ G2.out.rd).mono ?_
  rintro e v2 ⟨rfl, hr, hs⟩
  clear hc0 hf0 hz0
  have G3 := Hd (G2.out.call hr hs)
  clear hr hs
  obtain ⟨hc0, hf0, hz0, hc1, hf1, hz1⟩ := G3.out.l2
  go_wp2_with fail
  refine (HE0.out _ G3.out.rd).mono ?_
  rintro e v3 ⟨rfl, hr, hs⟩
  have G4 := Hd (G3.out.call hr hs)
  clear hr hs hc0 hf0 hz0 hc1 hf1 hz1
  obtain ⟨hc0, hf0, hz0, hc1, hf1, hz1⟩ := G4.out.l2
  go_wp2_with fail
  refine (HNM.out _ _ G4.out.rd).mono ?_
  rintro e v4 ⟨rfl, hr, hs⟩
  have G5 := Hd (G4.out.call hr hs)
  clear hr hs hc0 hf0 hz0 hc1 hf1 hz1
  obtain ⟨hc0, hf0, hz0, hc1, hf1, hz1⟩ := G5.out.l2
  have G6 := Hd (G5.out.s1 hXl (.string (str (nmV ts (adv s)))))
  go_wp2_with fail
  refine (HEO.out _ _ G6.out.rd).mono ?_
  rintro e v5 ⟨rfl, hr, hs⟩
  have G7 := Hd (G6.out.call hr hs)
  clear hr hs hc0 hf0 hz0 hc1 hf1 hz1
  obtain ⟨hc0, hf0, hz0, hc1, hf1, hz1⟩ := G7.out.l2
  go_wp2_with fail
  refine (HTY.out _ _ G7.out.rd).mono ?_
  rintro e v6 ⟨rfl, hr, hs⟩
  have G8 := Hd (G7.out.call hr hs)
  clear hr hs hc0 hf0 hz0 hc1 hf1 hz1
  obtain ⟨hc0, hf0, hz0, hc1, hf1, hz1⟩ := G8.out.l2
  have G9 := Hd (G8.out.s3 hXl (.int .i64 ((tyV' ts (exc ts (nmS ts (adv s)) [58])).1 : Int)))
  have G10 := Hd (G9.out.s4 hXl (.bool (tyV' ts (exc ts (nmS ts (adv s)) [58])).2))
  go_wp2_with fail
  refine (HNX.out _ G10.out.rd).mono ?_
  rintro e v7 ⟨rfl, hb⟩
  have G11 := Hd (G10.out.quiet hXl hb)
  clear hb hc0 hf0 hz0 hc1 hf1 hz1
  obtain ⟨hc0, hf0, hz0, hc1, hf1, hz1⟩ := G11.out.l2
  go_wp2_with fail
  refine (HEQ.out _ G11.out.rd).mono ?_
  rintro e v8 ⟨rfl, hr, hs⟩
  have G12 := Hd (G11.out.call hr hs)
  clear hr hs hc0 hf0 hz0 hc1 hf1 hz1
  obtain ⟨hc0, hf0, hz0, hc1, hf1, hz1⟩ := G12.out.l2
  go_wp2_with fail
  refine (HX.out _ _ G12.out.rd).mono ?_
  rintro e v9 ⟨l1, x1, n1, k1, rfl, hT, hr, hs⟩
  clear hc0 hf0 hz0 hc1 hf1 hz1
  have G13 := Hd (G12.out.tree hT hr hs)
  clear hT hr hs
  obtain ⟨hc0, hf0, hz0, hc1, hf1, hz1⟩ := G13.out.l2
  have G14 := Hd (G13.out.s10 hXl (.slice (some ⟨v9.heap.size, 0, none⟩) 1 1))
  have G15 := Hd (G14.out.kidz1 hXl v9.heap.size (by simp only [size_setCell, stor11_size]) (List.Mem.head _) { labK 9 (ln ts s) with name := nmV ts (adv s), wd := (tyV' ts (exc ts (nmS ts (adv s)) [58])).1, sg := (tyV' ts (exc ts (nmS ts (adv s)) [58])).2 })
  go_wp2_with fail
  refine (HEC.out _ _ G15.out.rd).mono ?_
  rintro e v10 ⟨rfl, hr, hs⟩
  have G16 := Hd (G15.out.call hr hs)
  clear hr hs hc0 hf0 hz0 hc1 hf1 hz1
  obtain ⟨hc0, hf0, hz0, hc1, hf1, hz1⟩ := G16.out.l2
  go_wp2
  have G17 := Hd (G16.out.stoR hXl (List.Mem.tail _ (List.Mem.head _)) rfl (.int .i64 9) (.string (str (nmV ts (adv s)))) (.int .u64 0) (.int .i64 ((tyV' ts (exc ts (nmS ts (adv s)) [58])).1 : Int)) (.bool (tyV' ts (exc ts (nmS ts (adv s)) [58])).2) (.int .i64 0) (.int .i64 0) (.int .i64 0) (.int .i64 0) (.int .i64 ((ln ts s : Nat) : Int)) (.slice (some ⟨v9.heap.size, 0, none⟩) 1 1))
  refine bodyPost_ret (G17.out.b0.res1 Tryz.results155 Tryz.underlying28 rfl infoNd _ rfl) rfl ?_
  exact G17.out.outT (rfl)
 | false =>
  have HM : Hid (declV ts s = (.node { labK 9 (ln ts s) with name := nmV ts (adv s), wd := (tyV' ts (exc ts (nmS ts (adv s)) [58])).1, sg := (tyV' ts (exc ts (nmS ts (adv s)) [58])).2 } [], exc ts (tyS ts (exc ts (nmS ts (adv s)) [58])) [59])) := Hd (by unfold declV; simp only [h1]; rfl)
  rw [HM.out]
  rw [h1] at hq1
  clear HM hR HL hv h1 hn
  go_enter Tryz.func155, Tryz.ntmps155
  go_wp2_with fail
  refine (HN.out _ F0.out.rd).mono ?_
  rintro e v1 ⟨rfl, hb⟩
  have G1 := Hd (F0.out.quiet hXl hb)
  clear hb
  obtain ⟨hc0, hf0⟩ := G1.out.b0.all
  have hz0 := G1.out.b0.lt
  unfold ncz at hc0
  have hq10 := G1.out.b0.lt
  have G2 := Hd (G1.out.node hXl [.int .i64 9, .string ⟨#[]⟩, .int .u64 0, .int .i64 0, .bool false, .int .i64 0, .int .i64 0, .int .i64 0, .int .i64 0, .int .i64 ((ln ts s : Nat) : Int), .slice none 0 0])
  go_wp2_with fail
  refine (HSL.out _ G2.out.rd).mono ?_
  rintro e v2 ⟨rfl, hr, hs⟩
  clear hc0 hf0 hz0
  have G3 := Hd (G2.out.call hr hs)
  clear hr hs
  obtain ⟨hc0, hf0, hz0, hc1, hf1, hz1⟩ := G3.out.l2
  go_wp2_with fail
  refine (HE0.out _ G3.out.rd).mono ?_
  rintro e v3 ⟨rfl, hr, hs⟩
  have G4 := Hd (G3.out.call hr hs)
  clear hr hs hc0 hf0 hz0 hc1 hf1 hz1
  obtain ⟨hc0, hf0, hz0, hc1, hf1, hz1⟩ := G4.out.l2
  go_wp2_with fail
  refine (HNM.out _ _ G4.out.rd).mono ?_
  rintro e v4 ⟨rfl, hr, hs⟩
  have G5 := Hd (G4.out.call hr hs)
  clear hr hs hc0 hf0 hz0 hc1 hf1 hz1
  obtain ⟨hc0, hf0, hz0, hc1, hf1, hz1⟩ := G5.out.l2
  have G6 := Hd (G5.out.s1 hXl (.string (str (nmV ts (adv s)))))
  go_wp2_with fail
  refine (HEO.out _ _ G6.out.rd).mono ?_
  rintro e v5 ⟨rfl, hr, hs⟩
  have G7 := Hd (G6.out.call hr hs)
  clear hr hs hc0 hf0 hz0 hc1 hf1 hz1
  obtain ⟨hc0, hf0, hz0, hc1, hf1, hz1⟩ := G7.out.l2
  go_wp2_with fail
  refine (HTY.out _ _ G7.out.rd).mono ?_
  rintro e v6 ⟨rfl, hr, hs⟩
  have G8 := Hd (G7.out.call hr hs)
  clear hr hs hc0 hf0 hz0 hc1 hf1 hz1
  obtain ⟨hc0, hf0, hz0, hc1, hf1, hz1⟩ := G8.out.l2
  have G9 := Hd (G8.out.s3 hXl (.int .i64 ((tyV' ts (exc ts (nmS ts (adv s)) [58])).1 : Int)))
  have G10 := Hd (G9.out.s4 hXl (.bool (tyV' ts (exc ts (nmS ts (adv s)) [58])).2))
  go_wp2_with fail
  refine (HNX.out _ G10.out.rd).mono ?_
  rintro e v7 ⟨rfl, hb⟩
  have G11 := Hd (G10.out.quiet hXl hb)
  clear hb hc0 hf0 hz0 hc1 hf1 hz1
  obtain ⟨hc0, hf0, hz0, hc1, hf1, hz1⟩ := G11.out.l2
  have G12 := Hd (G11.out.leaf { labK 9 (ln ts s) with name := nmV ts (adv s), wd := (tyV' ts (exc ts (nmS ts (adv s)) [58])).1, sg := (tyV' ts (exc ts (nmS ts (adv s)) [58])).2 })
  go_wp2_with fail
  refine (HEC.out _ _ G12.out.rd).mono ?_
  rintro e v8 ⟨rfl, hr, hs⟩
  have G13 := Hd (G12.out.call hr hs)
  clear hr hs hc0 hf0 hz0 hc1 hf1 hz1
  obtain ⟨hc0, hf0, hz0, hc1, hf1, hz1⟩ := G13.out.l2
  go_wp2
  have G14 := Hd (G13.out.stoR hXl (List.Mem.tail _ (List.Mem.head _)) rfl (.int .i64 9) (.string (str (nmV ts (adv s)))) (.int .u64 0) (.int .i64 ((tyV' ts (exc ts (nmS ts (adv s)) [58])).1 : Int)) (.bool (tyV' ts (exc ts (nmS ts (adv s)) [58])).2) (.int .i64 0) (.int .i64 0) (.int .i64 0) (.int .i64 0) (.int .i64 ((ln ts s : Nat) : Int)) (.slice none 0 0))
  refine bodyPost_ret (G14.out.b0.res1 Tryz.results155 Tryz.underlying28 rfl infoNd _ rfl) rfl ?_
  exact G14.out.outT (rfl)
end Go.Proofs.YtkliclihpobmiaaGreatDoor
