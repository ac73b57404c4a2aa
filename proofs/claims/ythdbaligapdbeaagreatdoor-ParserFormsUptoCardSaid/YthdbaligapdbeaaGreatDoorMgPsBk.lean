/- All rules of expressions: the contract of expr. -/
import Derived.Test.YthdbaligapdbeaaGreatDoorMgPsUn
import Derived.Test.YthdbaligapdbeaaGreatDoorMgPsBi
import Derived.Test.YthdbaligapdbeaaGreatDoorMgPsWi
import Derived.Deep.AppendLies
import Derived.Deep.RegionLaw
import Derived.Deep.RegionWith
import Derived.BigQuiet
namespace Go.Proofs.YthdbaligapdbeaaGreatDoor
open Go Go.RowKit
set_option linter.unusedVariables false

theorem ec_all {ts : List Tok} {R g c : Nat} (X : Ctx ts R g c) : ∀ f f1, f1 ≤ f → EC ts R g c f1 := by
 intro f
 induction f with
 | zero =>
  intro f1 h1
  obtain rfl : f1 = 0 := by omega
  exact ⟨fun s w _ h => by omega, fun l s w hl _ h => by omega, fun s w _ h => by omega, fun s w _ h => by omega, fun s w _ h => by omega, fun s w _ h => by omega⟩
 | succ f ih =>
  intro f1 h1
  by_cases hle : f1 ≤ f
  ·exact ih f1 hle
  ·obtain rfl : f1 = f + 1 := by omega
   have H := ih f (Nat.le_refl _)
   exact ⟨fun s w hR h => expr_step X f H s w hR h, fun l s w hl hR h => binary_step X f ih l hl s w hR h, fun s w hR h => cast_step X f H s w hR h, fun s w hR h => unary_step X f H s w hR h, fun s w hR h => primary_step X f H s w hR h, fun s w hR h => use_step X f H s w hR h⟩
theorem rem_le {ts : List Tok} {s : Sg} : rem ts s ≤ ts.length := by
 unfold rem
 split
 ·omega
 ·omega
theorem xpr_any {ts : List Tok} {R g c : Nat} (X : Ctx ts R g c) (s : Sg) (w : World) (hR : Rd w R g c ts s) : Calls Tryz.prog 211 #[.pointer (some ⟨R, 0, none⟩)] w (TP w R g c ts (xpr ts s)) := by
 have h := (ec_all X (big ts) (big ts) (Nat.le_refl _)).ex s w hR (by have := rem_le (ts := ts) (s := s); unfold big; omega)
 unfold xpr
 exact h
theorem exc_has {ts : List Tok} {s : Sg} {t : List UInt8} (h : hasT ts s t = true) : exc ts s t = adv s := by unfold exc; rw [if_pos h]
end Go.Proofs.YthdbaligapdbeaaGreatDoor
/- The rules send, result, declaration: contracts. -/
namespace Go.Proofs.YthdbaligapdbeaaGreatDoor
open Go Go.RowKit
set_option linter.unusedVariables false
set_option linter.unusedSimpArgs false

set_option maxHeartbeats 2000000 in
set_option maxRecDepth 100000 in
theorem send_any {ts : List Tok} {R g c : Nat} (X : Ctx ts R g c) (s : Sg) (hv : hasT ts s [115, 101, 110, 100] = true) (w : World) (hR : Rd w R g c ts s) : Calls Tryz.prog 187 #[.pointer (some ⟨R, 0, none⟩)] w (TP w R g c ts (sendM ts s)) := by
 have hXl := X.lt
 have F0 := Hd ((Fr.start hR).node hXl ncz)
 have HN := Hd fun W (h : Rd W R g c ts s) => node_any X 16 W h
 have HX := Hd fun q W (h : Rd W R g c ts q) => xpr_any X q W h
 have HNM := Hd fun q W (h : Rd W R g c ts q) => name_any X (s := q) W h
 have HE0 := Hd fun W (h : Rd W R g c ts s) => expect_any X (s := s) [115, 101, 110, 100] (by simp) W h
 rw [exc_has hv] at HE0
 have HEO := Hd fun q W (h : Rd W R g c ts q) => expect_any X (s := q) [40] (by simp) W h
 have HES := Hd fun q W (h : Rd W R g c ts q) => expect_any X (s := q) [41] (by simp) W h
 have HEC := Hd fun q W (h : Rd W R g c ts q) => expect_any X (s := q) [59] (by simp) W h
 have HL : Hid (nc (labK 16 (ln ts s)) = [.int .i64 16, .string ⟨#[]⟩, .int .u64 0, .int .i64 0, .bool false, .int .i64 0, .int .i64 0, .int .i64 0, .int .i64 0, .int .i64 ((ln ts s : Nat) : Int), .slice none 0 0]) := Hd rfl
 rw [HL.out] at HN
 have HM : Hid (sendM ts s = (.node { labK 16 (ln ts s) with name := nmV ts (adv s) } [(xpr ts (exc ts (nmS ts (adv s)) [40])).1], exc ts (exc ts (xpr ts (exc ts (nmS ts (adv s)) [40])).2 [41]) [59])) := Hd rfl
 rw [HM.out]
 clear HM hR HL hv
 go_enter Tryz.func187, Tryz.ntmps187
 go_wp2_with fail
 refine (HN.out _ F0.out.rd).mono ?_
 rintro e v1 ⟨rfl, hb⟩
 have G1 := Hd (F0.out.quiet hXl hb)
 clear hb
 obtain ⟨hc0, hf0⟩ := G1.out.b0.all
 have hz0 := G1.out.b0.lt
 unfold ncz at hc0
 have hq10 := G1.out.b0.lt
 have G2 := Hd (G1.out.node hXl [.int .i64 16, .string ⟨#[]⟩, .int .u64 0, .int .i64 0, .bool false, .int .i64 0, .int .i64 0, .int .i64 0, .int .i64 0, .int .i64 ((ln ts s : Nat) : Int), .slice none 0 0])
 go_wp2_with fail
 refine (HE0.out _ G2.out.rd).mono ?_
 rintro e v2 ⟨rfl, hr, hs⟩
 clear hc0 hf0 hz0
 have G3 := Hd (G2.out.call hr hs)
 clear hr hs
 obtain ⟨hc0, hf0, hz0, hc1, hf1, hz1⟩ := G3.out.l2
 go_wp2_with fail
 refine (HNM.out _ _ G3.out.rd).mono ?_
 rintro e v3 ⟨rfl, hr, hs⟩
 have G4 := Hd (G3.out.call hr hs)
 clear hr hs hc0 hf0 hz0 hc1 hf1 hz1
 obtain ⟨hc0, hf0, hz0, hc1, hf1, hz1⟩ := G4.out.l2
 have G5 := Hd (G4.out.s1 hXl (.string (str (nmV ts (adv s)))))
 go_wp2_with fail
 refine (HEO.out _ _ G5.out.rd).mono ?_
 rintro e v4 ⟨rfl, hr, hs⟩
 have G6 := Hd (G5.out.call hr hs)
 clear hr hs hc0 hf0 hz0 hc1 hf1 hz1
 obtain ⟨hc0, hf0, hz0, hc1, hf1, hz1⟩ := G6.out.l2
 go_wp2_with fail
 refine (HX.out _ _ G6.out.rd).mono ?_
 rintro e v5 ⟨l1, x1, n1, k1, rfl, hT, hr, hs⟩
 clear hc0 hf0 hz0 hc1 hf1 hz1
 have G7 := Hd (G6.out.tree hT hr hs)
 clear hT hr hs
 obtain ⟨hc0, hf0, hz0, hc1, hf1, hz1⟩ := G7.out.l2
 have G8 := Hd (G7.out.s10 hXl (.slice (some ⟨v5.heap.size, 0, none⟩) 1 1))
 have G9 := Hd (G8.out.kidz1 hXl v5.heap.size (by simp only [size_setCell, stor11_size]) (List.Mem.head _) { labK 16 (ln ts s) with name := nmV ts (adv s) })
 go_wp2_with fail
 refine (HES.out _ _ G9.out.rd).mono ?_
 rintro e v6 ⟨rfl, hr, hs⟩
 have G10 := Hd (G9.out.call hr hs)
 clear hr hs hc0 hf0 hz0 hc1 hf1 hz1
 obtain ⟨hc0, hf0, hz0, hc1, hf1, hz1⟩ := G10.out.l2
 go_wp2_with fail
 refine (HEC.out _ _ G10.out.rd).mono ?_
 rintro e v7 ⟨rfl, hr, hs⟩
 have G11 := Hd (G10.out.call hr hs)
 clear hr hs hc0 hf0 hz0 hc1 hf1 hz1
 obtain ⟨hc0, hf0, hz0, hc1, hf1, hz1⟩ := G11.out.l2
 go_wp2
 have G12 := Hd (G11.out.stoR hXl (List.Mem.tail _ (List.Mem.head _)) rfl (.int .i64 16) (.string (str (nmV ts (adv s)))) (.int .u64 0) (.int .i64 0) (.bool false) (.int .i64 0) (.int .i64 0) (.int .i64 0) (.int .i64 0) (.int .i64 ((ln ts s : Nat) : Int)) (.slice (some ⟨v5.heap.size, 0, none⟩) 1 1))
 refine bodyPost_ret (G12.out.b0.res1 Tryz.results187 Tryz.underlying27 rfl infoNd _ rfl) rfl ?_
 exact G12.out.outT (rfl)

set_option maxHeartbeats 2000000 in
set_option maxRecDepth 100000 in
theorem result_any {ts : List Tok} {R g c : Nat} (X : Ctx ts R g c) (s : Sg) (hv : hasT ts s [114, 101, 116, 117, 114, 110] = true) (w : World) (hR : Rd w R g c ts s) : Calls Tryz.prog 188 #[.pointer (some ⟨R, 0, none⟩)] w (TP w R g c ts (resM ts s)) := by
 have hXl := X.lt
 have F0 := Hd ((Fr.start hR).node hXl ncz)
 have HN := Hd fun W (h : Rd W R g c ts s) => node_any X 17 W h
 have HX := Hd fun q W (h : Rd W R g c ts q) => xpr_any X q W h
 have HNM := Hd fun q W (h : Rd W R g c ts q) => name_any X (s := q) W h
 have HE0 := Hd fun W (h : Rd W R g c ts s) => expect_any X (s := s) [114, 101, 116, 117, 114, 110] (by simp) W h
 rw [exc_has hv] at HE0
 have HEC := Hd fun q W (h : Rd W R g c ts q) => expect_any X (s := q) [59] (by simp) W h
 have HL : Hid (nc (labK 17 (ln ts s)) = [.int .i64 17, .string ⟨#[]⟩, .int .u64 0, .int .i64 0, .bool false, .int .i64 0, .int .i64 0, .int .i64 0, .int .i64 0, .int .i64 ((ln ts s : Nat) : Int), .slice none 0 0]) := Hd rfl
 rw [HL.out] at HN
 have HM : Hid (resM ts s = (.node (labK 17 (ln ts s)) [(xpr ts (adv s)).1], exc ts (xpr ts (adv s)).2 [59])) := Hd rfl
 rw [HM.out]
 clear HM hR HL hv HNM
 go_enter Tryz.func188, Tryz.ntmps188
 go_wp2_with fail
 refine (HN.out _ F0.out.rd).mono ?_
 rintro e v1 ⟨rfl, hb⟩
 have G1 := Hd (F0.out.quiet hXl hb)
 clear hb
 obtain ⟨hc0, hf0⟩ := G1.out.b0.all
 have hz0 := G1.out.b0.lt
 unfold ncz at hc0
 have hq10 := G1.out.b0.lt
 have G2 := Hd (G1.out.node hXl [.int .i64 17, .string ⟨#[]⟩, .int .u64 0, .int .i64 0, .bool false, .int .i64 0, .int .i64 0, .int .i64 0, .int .i64 0, .int .i64 ((ln ts s : Nat) : Int), .slice none 0 0])
 go_wp2_with fail
 refine (HE0.out _ G2.out.rd).mono ?_
 rintro e v2 ⟨rfl, hr, hs⟩
 clear hc0 hf0 hz0
 have G3 := Hd (G2.out.call hr hs)
 clear hr hs
 obtain ⟨hc0, hf0, hz0, hc1, hf1, hz1⟩ := G3.out.l2
 go_wp2_with fail
 refine (HX.out _ _ G3.out.rd).mono ?_
 rintro e v3 ⟨l1, x1, n1, k1, rfl, hT, hr, hs⟩
 clear hc0 hf0 hz0 hc1 hf1 hz1
 have G4 := Hd (G3.out.tree hT hr hs)
 clear hT hr hs
 obtain ⟨hc0, hf0, hz0, hc1, hf1, hz1⟩ := G4.out.l2
 have G5 := Hd (G4.out.s10 hXl (.slice (some ⟨v3.heap.size, 0, none⟩) 1 1))
 have G6 := Hd (G5.out.kidz1 hXl v3.heap.size (by simp only [size_setCell, stor11_size]) (List.Mem.head _) (labK 17 (ln ts s)))
 go_wp2_with fail
 refine (HEC.out _ _ G6.out.rd).mono ?_
 rintro e v4 ⟨rfl, hr, hs⟩
 have G7 := Hd (G6.out.call hr hs)
 clear hr hs hc0 hf0 hz0 hc1 hf1 hz1
 obtain ⟨hc0, hf0, hz0, hc1, hf1, hz1⟩ := G7.out.l2
 go_wp2
 have G8 := Hd (G7.out.stoR hXl (List.Mem.tail _ (List.Mem.head _)) rfl (.int .i64 17) (.string ⟨#[]⟩) (.int .u64 0) (.int .i64 0) (.bool false) (.int .i64 0) (.int .i64 0) (.int .i64 0) (.int .i64 0) (.int .i64 ((ln ts s : Nat) : Int)) (.slice (some ⟨v3.heap.size, 0, none⟩) 1 1))
 refine bodyPost_ret (G8.out.b0.res1 Tryz.results188 Tryz.underlying27 rfl infoNd _ rfl) rfl ?_
 exact G8.out.outT (rfl)

set_option maxHeartbeats 2000000 in
set_option maxRecDepth 100000 in
theorem declL_any {ts : List Tok} {R g c : Nat} (X : Ctx ts R g c) (s : Sg) (hv : hasT ts s [108, 101, 116] = true) (w : World) (hR : Rd w R g c ts s) : Calls Tryz.prog 184 #[.pointer (some ⟨R, 0, none⟩)] w (TP w R g c ts (declL ts s)) := by
 have hXl := X.lt
 have F0 := Hd ((Fr.start hR).node hXl ncz)
 have HN := Hd fun W (h : Rd W R g c ts s) => node_any X 9 W h
 have HX := Hd fun q W (h : Rd W R g c ts q) => xpr_any X q W h
 have HNM := Hd fun q W (h : Rd W R g c ts q) => name_any X (s := q) W h
 have HSL := Hd fun W (h : Rd W R g c ts s) => skip_any' X (s := s) [108, 101, 116] (by simp) W h
 have HSC := Hd fun W (h : Rd W R g c ts (nmS ts (adv s))) => skip_any' X [58] (by simp) W h
 have HTY := Hd fun q W (h : Rd W R g c ts q) => typN_any X (s := q) W h
 unfold skp at HSL HSC
 rw [hv] at HSL
 have HEQ := Hd fun q W (h : Rd W R g c ts q) => expect_any X (s := q) [61] (by simp) W h
 have HEC := Hd fun q W (h : Rd W R g c ts q) => expect_any X (s := q) [59] (by simp) W h
 have HL : Hid (nc (labK 9 (ln ts s)) = [.int .i64 9, .string ⟨#[]⟩, .int .u64 0, .int .i64 0, .bool false, .int .i64 0, .int .i64 0, .int .i64 0, .int .i64 0, .int .i64 ((ln ts s : Nat) : Int), .slice none 0 0]) := Hd rfl
 rw [HL.out] at HN
 cases h1 : hasT ts (nmS ts (adv s)) [58] with
 | true =>
  have HM : Hid (declL ts s = (.node { labK 10 (ln ts s) with name := nmV ts (adv s), wd := (tyV' ts (adv (nmS ts (adv s)))).1, sg := (tyV' ts (adv (nmS ts (adv s)))).2 } [(xpr ts (exc ts (tyS ts (adv (nmS ts (adv s)))) [61])).1], exc ts (xpr ts (exc ts (tyS ts (adv (nmS ts (adv s)))) [61])).2 [59])) := Hd (by unfold declL; simp only [h1]; rfl)
  rw [HM.out]
  rw [h1] at HSC
  clear HM hR HL hv h1
  go_enter Tryz.func184, Tryz.ntmps184
  go_wp2_with fail
  refine (HN.out _ F0.out.rd).mono ?_
  rintro e v1 ⟨rfl, hb⟩
  have G1 := Hd (F0.out.quiet hXl hb)
  clear hb
  obtain ⟨hc0, hf0⟩ := G1.out.b0.all
  have hz0 := G1.out.b0.lt
  unfold ncz at hc0
  have hq10 := G1.out.b0.lt
  have G2 := Hd (G1.out.node hXl [.int .i64 9, .string ⟨#[]⟩, .int .u64 0, .int .i64 0, .bool false, .int .i64 0, .int .i64 0, .int .i64 0, .int .i64 0, .int .i64 ((ln ts s : Nat) : Int), .slice none 0 0])
  go_wp2_with fail
  refine (HSL.out _ G2.out.rd).mono ?_
  rintro e v2 ⟨rfl, hr, hs⟩
  clear hc0 hf0 hz0
  have G3 := Hd (G2.out.call hr hs)
  clear hr hs
  obtain ⟨hc0, hf0, hz0, hc1, hf1, hz1⟩ := G3.out.l2
  have G4 := Hd (G3.out.s0 hXl (.int .i64 10))
  go_wp2_with fail
  refine (HNM.out _ _ G4.out.rd).mono ?_
  rintro e v3 ⟨rfl, hr, hs⟩
  have G5 := Hd (G4.out.call hr hs)
  clear hr hs hc0 hf0 hz0 hc1 hf1 hz1
  obtain ⟨hc0, hf0, hz0, hc1, hf1, hz1⟩ := G5.out.l2
  have G6 := Hd (G5.out.s1 hXl (.string (str (nmV ts (adv s)))))
  go_wp2_with fail
  refine (HSC.out _ G6.out.rd).mono ?_
  rintro e v4 ⟨rfl, hr, hs⟩
  have G7 := Hd (G6.out.call hr hs)
  clear hr hs hc0 hf0 hz0 hc1 hf1 hz1
  obtain ⟨hc0, hf0, hz0, hc1, hf1, hz1⟩ := G7.out.l2
  go_wp2_with fail
  refine (HTY.out _ _ G7.out.rd).mono ?_
  rintro e v5 ⟨rfl, hr, hs⟩
  have G8 := Hd (G7.out.call hr hs)
  clear hr hs hc0 hf0 hz0 hc1 hf1 hz1
  obtain ⟨hc0, hf0, hz0, hc1, hf1, hz1⟩ := G8.out.l2
  have G9 := Hd (G8.out.s3 hXl (.int .i64 ((tyV' ts (adv (nmS ts (adv s)))).1 : Int)))
  have G10 := Hd (G9.out.s4 hXl (.bool (tyV' ts (adv (nmS ts (adv s)))).2))
  go_wp2_with fail
  refine (HEQ.out _ _ G10.out.rd).mono ?_
  rintro e v6 ⟨rfl, hr, hs⟩
  have G11 := Hd (G10.out.call hr hs)
  clear hr hs hc0 hf0 hz0 hc1 hf1 hz1
  obtain ⟨hc0, hf0, hz0, hc1, hf1, hz1⟩ := G11.out.l2
  go_wp2_with fail
  refine (HX.out _ _ G11.out.rd).mono ?_
  rintro e v7 ⟨l1, x1, n1, k1, rfl, hT, hr, hs⟩
  clear hc0 hf0 hz0 hc1 hf1 hz1
  have G12 := Hd (G11.out.tree hT hr hs)
  clear hT hr hs
  obtain ⟨hc0, hf0, hz0, hc1, hf1, hz1⟩ := G12.out.l2
  have G13 := Hd (G12.out.s10 hXl (.slice (some ⟨v7.heap.size, 0, none⟩) 1 1))
  have G14 := Hd (G13.out.kidz1 hXl v7.heap.size (by simp only [size_setCell, stor11_size]) (List.Mem.head _) { labK 10 (ln ts s) with name := nmV ts (adv s), wd := (tyV' ts (adv (nmS ts (adv s)))).1, sg := (tyV' ts (adv (nmS ts (adv s)))).2 })
  go_wp2_with fail
  refine (HEC.out _ _ G14.out.rd).mono ?_
  rintro e v8 ⟨rfl, hr, hs⟩
  have G15 := Hd (G14.out.call hr hs)
  clear hr hs hc0 hf0 hz0 hc1 hf1 hz1
  obtain ⟨hc0, hf0, hz0, hc1, hf1, hz1⟩ := G15.out.l2
  go_wp2
  have G16 := Hd (G15.out.stoR hXl (List.Mem.tail _ (List.Mem.head _)) rfl (.int .i64 10) (.string (str (nmV ts (adv s)))) (.int .u64 0) (.int .i64 ((tyV' ts (adv (nmS ts (adv s)))).1 : Int)) (.bool (tyV' ts (adv (nmS ts (adv s)))).2) (.int .i64 0) (.int .i64 0) (.int .i64 0) (.int .i64 0) (.int .i64 ((ln ts s : Nat) : Int)) (.slice (some ⟨v7.heap.size, 0, none⟩) 1 1))
  refine bodyPost_ret (G16.out.b0.res1 Tryz.results184 Tryz.underlying27 rfl infoNd _ rfl) rfl ?_
  exact G16.out.outT (rfl)
 | false =>
  have HM : Hid (declL ts s = (.node { labK 10 (ln ts s) with name := nmV ts (adv s) } [(xpr ts (exc ts (nmS ts (adv s)) [61])).1], exc ts (xpr ts (exc ts (nmS ts (adv s)) [61])).2 [59])) := Hd (by unfold declL; simp only [h1]; rfl)
  rw [HM.out]
  rw [h1] at HSC
  clear HM hR HL hv h1
  go_enter Tryz.func184, Tryz.ntmps184
  go_wp2_with fail
  refine (HN.out _ F0.out.rd).mono ?_
  rintro e v1 ⟨rfl, hb⟩
  have G1 := Hd (F0.out.quiet hXl hb)
  clear hb
  obtain ⟨hc0, hf0⟩ := G1.out.b0.all
  have hz0 := G1.out.b0.lt
  unfold ncz at hc0
  have hq10 := G1.out.b0.lt
  have G2 := Hd (G1.out.node hXl [.int .i64 9, .string ⟨#[]⟩, .int .u64 0, .int .i64 0, .bool false, .int .i64 0, .int .i64 0, .int .i64 0, .int .i64 0, .int .i64 ((ln ts s : Nat) : Int), .slice none 0 0])
  go_wp2_with fail
  refine (HSL.out _ G2.out.rd).mono ?_
  rintro e v2 ⟨rfl, hr, hs⟩
  clear hc0 hf0 hz0
  have G3 := Hd (G2.out.call hr hs)
  clear hr hs
  obtain ⟨hc0, hf0, hz0, hc1, hf1, hz1⟩ := G3.out.l2
  have G4 := Hd (G3.out.s0 hXl (.int .i64 10))
  go_wp2_with fail
  refine (HNM.out _ _ G4.out.rd).mono ?_
  rintro e v3 ⟨rfl, hr, hs⟩
  have G5 := Hd (G4.out.call hr hs)
  clear hr hs hc0 hf0 hz0 hc1 hf1 hz1
  obtain ⟨hc0, hf0, hz0, hc1, hf1, hz1⟩ := G5.out.l2
  have G6 := Hd (G5.out.s1 hXl (.string (str (nmV ts (adv s)))))
  go_wp2_with fail
  refine (HSC.out _ G6.out.rd).mono ?_
  rintro e v4 ⟨rfl, hr, hs⟩
  have G7 := Hd (G6.out.call hr hs)
  clear hr hs hc0 hf0 hz0 hc1 hf1 hz1
  obtain ⟨hc0, hf0, hz0, hc1, hf1, hz1⟩ := G7.out.l2
  go_wp2_with fail
  refine (HEQ.out _ _ G7.out.rd).mono ?_
  rintro e v5 ⟨rfl, hr, hs⟩
  have G8 := Hd (G7.out.call hr hs)
  clear hr hs hc0 hf0 hz0 hc1 hf1 hz1
  obtain ⟨hc0, hf0, hz0, hc1, hf1, hz1⟩ := G8.out.l2
  go_wp2_with fail
  refine (HX.out _ _ G8.out.rd).mono ?_
  rintro e v6 ⟨l1, x1, n1, k1, rfl, hT, hr, hs⟩
  clear hc0 hf0 hz0 hc1 hf1 hz1
  have G9 := Hd (G8.out.tree hT hr hs)
  clear hT hr hs
  obtain ⟨hc0, hf0, hz0, hc1, hf1, hz1⟩ := G9.out.l2
  have G10 := Hd (G9.out.s10 hXl (.slice (some ⟨v6.heap.size, 0, none⟩) 1 1))
  have G11 := Hd (G10.out.kidz1 hXl v6.heap.size (by simp only [size_setCell, stor11_size]) (List.Mem.head _) { labK 10 (ln ts s) with name := nmV ts (adv s) })
  go_wp2_with fail
  refine (HEC.out _ _ G11.out.rd).mono ?_
  rintro e v7 ⟨rfl, hr, hs⟩
  have G12 := Hd (G11.out.call hr hs)
  clear hr hs hc0 hf0 hz0 hc1 hf1 hz1
  obtain ⟨hc0, hf0, hz0, hc1, hf1, hz1⟩ := G12.out.l2
  go_wp2
  have G13 := Hd (G12.out.stoR hXl (List.Mem.tail _ (List.Mem.head _)) rfl (.int .i64 10) (.string (str (nmV ts (adv s)))) (.int .u64 0) (.int .i64 0) (.bool false) (.int .i64 0) (.int .i64 0) (.int .i64 0) (.int .i64 0) (.int .i64 ((ln ts s : Nat) : Int)) (.slice (some ⟨v6.heap.size, 0, none⟩) 1 1))
  refine bodyPost_ret (G13.out.b0.res1 Tryz.results184 Tryz.underlying27 rfl infoNd _ rfl) rfl ?_
  exact G13.out.outT (rfl)

set_option maxHeartbeats 2000000 in
set_option maxRecDepth 100000 in
theorem declV_any {ts : List Tok} {R g c : Nat} (X : Ctx ts R g c) (s : Sg) (hv : hasT ts s [118, 97, 114] = true) (hn : hasT ts s [108, 101, 116] = false) (w : World) (hR : Rd w R g c ts s) : Calls Tryz.prog 184 #[.pointer (some ⟨R, 0, none⟩)] w (TP w R g c ts (declV ts s)) := by
 have hXl := X.lt
 have F0 := Hd ((Fr.start hR).node hXl ncz)
 have HN := Hd fun W (h : Rd W R g c ts s) => node_any X 9 W h
 have HX := Hd fun q W (h : Rd W R g c ts q) => xpr_any X q W h
 have HNM := Hd fun q W (h : Rd W R g c ts q) => name_any X (s := q) W h
 have HSL := Hd fun W (h : Rd W R g c ts s) => skip_any' X (s := s) [108, 101, 116] (by simp) W h
 have HTY := Hd fun q W (h : Rd W R g c ts q) => typN_any X (s := q) W h
 have HNX := Hd fun W (h : Rd W R g c ts (tyS ts (exc ts (nmS ts (adv s)) [58]))) => next_any X W h
 have hF := fldT (nxt ts (tyS ts (exc ts (nmS ts (adv s)) [58])))
 have hq1 : ((str (nxt ts (tyS ts (exc ts (nmS ts (adv s)) [58]))).text).toList == [61]) = hasT ts (tyS ts (exc ts (nmS ts (adv s)) [58])) [61] := by have := hasT_bytes ts (tyS ts (exc ts (nmS ts (adv s)) [58])) [61]; rw [str_toList [61]] at this; exact this
 unfold skp at HSL
 rw [hn] at HSL
 have HE0 := Hd fun W (h : Rd W R g c ts s) => expect_any X (s := s) [118, 97, 114] (by simp) W h
 rw [exc_has hv] at HE0
 have HEO := Hd fun q W (h : Rd W R g c ts q) => expect_any X (s := q) [58] (by simp) W h
 have HEC := Hd fun q W (h : Rd W R g c ts q) => expect_any X (s := q) [59] (by simp) W h
 have HL : Hid (nc (labK 9 (ln ts s)) = [.int .i64 9, .string ⟨#[]⟩, .int .u64 0, .int .i64 0, .bool false, .int .i64 0, .int .i64 0, .int .i64 0, .int .i64 0, .int .i64 ((ln ts s : Nat) : Int), .slice none 0 0]) := Hd rfl
 rw [HL.out] at HN
 cases h1 : hasT ts (tyS ts (exc ts (nmS ts (adv s)) [58])) [61] with
 | true =>
  have HM : Hid (declV ts s = (.node { labK 9 (ln ts s) with name := nmV ts (adv s), wd := (tyV' ts (exc ts (nmS ts (adv s)) [58])).1, sg := (tyV' ts (exc ts (nmS ts (adv s)) [58])).2 } [(xpr ts (adv (tyS ts (exc ts (nmS ts (adv s)) [58])))).1], exc ts (xpr ts (adv (tyS ts (exc ts (nmS ts (adv s)) [58])))).2 [59])) := Hd (by unfold declV; simp only [h1]; rfl)
  rw [HM.out]
  rw [h1] at hq1
  have HEQ := Hd fun W (h : Rd W R g c ts (tyS ts (exc ts (nmS ts (adv s)) [58]))) => expect_any X (s := (tyS ts (exc ts (nmS ts (adv s)) [58]))) [61] (by simp) W h
  rw [exc_has h1] at HEQ
  clear HM hR HL hv h1 hn
  go_enter Tryz.func184, Tryz.ntmps184
  go_wp2_with fail
  refine (HN.out _ F0.out.rd).mono ?_
  rintro e v1 ⟨rfl, hb⟩
  have G1 := Hd (F0.out.quiet hXl hb)
  clear hb
  obtain ⟨hc0, hf0⟩ := G1.out.b0.all
  have hz0 := G1.out.b0.lt
  unfold ncz at hc0
  have hq10 := G1.out.b0.lt
  have G2 := Hd (G1.out.node hXl [.int .i64 9, .string ⟨#[]⟩, .int .u64 0, .int .i64 0, .bool false, .int .i64 0, .int .i64 0, .int .i64 0, .int .i64 0, .int .i64 ((ln ts s : Nat) : Int), .slice none 0 0])
  go_wp2_with fail
  refine (HSL.out _ G2.out.rd).mono ?_
  rintro e v2 ⟨rfl, hr, hs⟩
  clear hc0 hf0 hz0
  have G3 := Hd (G2.out.call hr hs)
  clear hr hs
  obtain ⟨hc0, hf0, hz0, hc1, hf1, hz1⟩ := G3.out.l2
  go_wp2_with fail
  refine (HE0.out _ G3.out.rd).mono ?_
  rintro e v3 ⟨rfl, hr, hs⟩
  have G4 := Hd (G3.out.call hr hs)
  clear hr hs hc0 hf0 hz0 hc1 hf1 hz1
  obtain ⟨hc0, hf0, hz0, hc1, hf1, hz1⟩ := G4.out.l2
  go_wp2_with fail
  refine (HNM.out _ _ G4.out.rd).mono ?_
  rintro e v4 ⟨rfl, hr, hs⟩
  have G5 := Hd (G4.out.call hr hs)
  clear hr hs hc0 hf0 hz0 hc1 hf1 hz1
  obtain ⟨hc0, hf0, hz0, hc1, hf1, hz1⟩ := G5.out.l2
  have G6 := Hd (G5.out.s1 hXl (.string (str (nmV ts (adv s)))))
  go_wp2_with fail
  refine (HEO.out _ _ G6.out.rd).mono ?_
  rintro e v5 ⟨rfl, hr, hs⟩
  have G7 := Hd (G6.out.call hr hs)
  clear hr hs hc0 hf0 hz0 hc1 hf1 hz1
  obtain ⟨hc0, hf0, hz0, hc1, hf1, hz1⟩ := G7.out.l2
  go_wp2_with fail
  refine (HTY.out _ _ G7.out.rd).mono ?_
  rintro e v6 ⟨rfl, hr, hs⟩
  have G8 := Hd (G7.out.call hr hs)
  clear hr hs hc0 hf0 hz0 hc1 hf1 hz1
  obtain ⟨hc0, hf0, hz0, hc1, hf1, hz1⟩ := G8.out.l2
  have G9 := Hd (G8.out.s3 hXl (.int .i64 ((tyV' ts (exc ts (nmS ts (adv s)) [58])).1 : Int)))
  have G10 := Hd (G9.out.s4 hXl (.bool (tyV' ts (exc ts (nmS ts (adv s)) [58])).2))
  go_wp2_with fail
  refine (HNX.out _ G10.out.rd).mono ?_
  rintro e v7 ⟨rfl, hb⟩
  have G11 := Hd (G10.out.quiet hXl hb)
  clear hb hc0 hf0 hz0 hc1 hf1 hz1
  obtain ⟨hc0, hf0, hz0, hc1, hf1, hz1⟩ := G11.out.l2
  go_wp2_with fail
  refine (HEQ.out _ G11.out.rd).mono ?_
  rintro e v8 ⟨rfl, hr, hs⟩
  have G12 := Hd (G11.out.call hr hs)
  clear hr hs hc0 hf0 hz0 hc1 hf1 hz1
  obtain ⟨hc0, hf0, hz0, hc1, hf1, hz1⟩ := G12.out.l2
  go_wp2_with fail
  refine (HX.out _ _ G12.out.rd).mono ?_
  rintro e v9 ⟨l1, x1, n1, k1, rfl, hT, hr, hs⟩
  clear hc0 hf0 hz0 hc1 hf1 hz1
  have G13 := Hd (G12.out.tree hT hr hs)
  clear hT hr hs
  obtain ⟨hc0, hf0, hz0, hc1, hf1, hz1⟩ := G13.out.l2
  have G14 := Hd (G13.out.s10 hXl (.slice (some ⟨v9.heap.size, 0, none⟩) 1 1))
  have G15 := Hd (G14.out.kidz1 hXl v9.heap.size (by simp only [size_setCell, stor11_size]) (List.Mem.head _) { labK 9 (ln ts s) with name := nmV ts (adv s), wd := (tyV' ts (exc ts (nmS ts (adv s)) [58])).1, sg := (tyV' ts (exc ts (nmS ts (adv s)) [58])).2 })
  go_wp2_with fail
  refine (HEC.out _ _ G15.out.rd).mono ?_
  rintro e v10 ⟨rfl, hr, hs⟩
  have G16 := Hd (G15.out.call hr hs)
  clear hr hs hc0 hf0 hz0 hc1 hf1 hz1
  obtain ⟨hc0, hf0, hz0, hc1, hf1, hz1⟩ := G16.out.l2
  go_wp2
  have G17 := Hd (G16.out.stoR hXl (List.Mem.tail _ (List.Mem.head _)) rfl (.int .i64 9) (.string (str (nmV ts (adv s)))) (.int .u64 0) (.int .i64 ((tyV' ts (exc ts (nmS ts (adv s)) [58])).1 : Int)) (.bool (tyV' ts (exc ts (nmS ts (adv s)) [58])).2) (.int .i64 0) (.int .i64 0) (.int .i64 0) (.int .i64 0) (.int .i64 ((ln ts s : Nat) : Int)) (.slice (some ⟨v9.heap.size, 0, none⟩) 1 1))
  refine bodyPost_ret (G17.out.b0.res1 Tryz.results184 Tryz.underlying27 rfl infoNd _ rfl) rfl ?_
  exact G17.out.outT (rfl)
 | false =>
  have HM : Hid (declV ts s = (.node { labK 9 (ln ts s) with name := nmV ts (adv s), wd := (tyV' ts (exc ts (nmS ts (adv s)) [58])).1, sg := (tyV' ts (exc ts (nmS ts (adv s)) [58])).2 } [], exc ts (tyS ts (exc ts (nmS ts (adv s)) [58])) [59])) := Hd (by unfold declV; simp only [h1]; rfl)
  rw [HM.out]
  rw [h1] at hq1
  clear HM hR HL hv h1 hn
  go_enter Tryz.func184, Tryz.ntmps184
  go_wp2_with fail
  refine (HN.out _ F0.out.rd).mono ?_
  rintro e v1 ⟨rfl, hb⟩
  have G1 := Hd (F0.out.quiet hXl hb)
  clear hb
  obtain ⟨hc0, hf0⟩ := G1.out.b0.all
  have hz0 := G1.out.b0.lt
  unfold ncz at hc0
  have hq10 := G1.out.b0.lt
  have G2 := Hd (G1.out.node hXl [.int .i64 9, .string ⟨#[]⟩, .int .u64 0, .int .i64 0, .bool false, .int .i64 0, .int .i64 0, .int .i64 0, .int .i64 0, .int .i64 ((ln ts s : Nat) : Int), .slice none 0 0])
  go_wp2_with fail
  refine (HSL.out _ G2.out.rd).mono ?_
  rintro e v2 ⟨rfl, hr, hs⟩
  clear hc0 hf0 hz0
  have G3 := Hd (G2.out.call hr hs)
  clear hr hs
  obtain ⟨hc0, hf0, hz0, hc1, hf1, hz1⟩ := G3.out.l2
  go_wp2_with fail
  refine (HE0.out _ G3.out.rd).mono ?_
  rintro e v3 ⟨rfl, hr, hs⟩
  have G4 := Hd (G3.out.call hr hs)
  clear hr hs hc0 hf0 hz0 hc1 hf1 hz1
  obtain ⟨hc0, hf0, hz0, hc1, hf1, hz1⟩ := G4.out.l2
  go_wp2_with fail
  refine (HNM.out _ _ G4.out.rd).mono ?_
  rintro e v4 ⟨rfl, hr, hs⟩
  have G5 := Hd (G4.out.call hr hs)
  clear hr hs hc0 hf0 hz0 hc1 hf1 hz1
  obtain ⟨hc0, hf0, hz0, hc1, hf1, hz1⟩ := G5.out.l2
  have G6 := Hd (G5.out.s1 hXl (.string (str (nmV ts (adv s)))))
  go_wp2_with fail
  refine (HEO.out _ _ G6.out.rd).mono ?_
  rintro e v5 ⟨rfl, hr, hs⟩
  have G7 := Hd (G6.out.call hr hs)
  clear hr hs hc0 hf0 hz0 hc1 hf1 hz1
  obtain ⟨hc0, hf0, hz0, hc1, hf1, hz1⟩ := G7.out.l2
  go_wp2_with fail
  refine (HTY.out _ _ G7.out.rd).mono ?_
  rintro e v6 ⟨rfl, hr, hs⟩
  have G8 := Hd (G7.out.call hr hs)
  clear hr hs hc0 hf0 hz0 hc1 hf1 hz1
  obtain ⟨hc0, hf0, hz0, hc1, hf1, hz1⟩ := G8.out.l2
  have G9 := Hd (G8.out.s3 hXl (.int .i64 ((tyV' ts (exc ts (nmS ts (adv s)) [58])).1 : Int)))
  have G10 := Hd (G9.out.s4 hXl (.bool (tyV' ts (exc ts (nmS ts (adv s)) [58])).2))
  go_wp2_with fail
  refine (HNX.out _ G10.out.rd).mono ?_
  rintro e v7 ⟨rfl, hb⟩
  have G11 := Hd (G10.out.quiet hXl hb)
  clear hb hc0 hf0 hz0 hc1 hf1 hz1
  obtain ⟨hc0, hf0, hz0, hc1, hf1, hz1⟩ := G11.out.l2
  have G12 := Hd (G11.out.leaf { labK 9 (ln ts s) with name := nmV ts (adv s), wd := (tyV' ts (exc ts (nmS ts (adv s)) [58])).1, sg := (tyV' ts (exc ts (nmS ts (adv s)) [58])).2 })
  go_wp2_with fail
  refine (HEC.out _ _ G12.out.rd).mono ?_
  rintro e v8 ⟨rfl, hr, hs⟩
  have G13 := Hd (G12.out.call hr hs)
  clear hr hs hc0 hf0 hz0 hc1 hf1 hz1
  obtain ⟨hc0, hf0, hz0, hc1, hf1, hz1⟩ := G13.out.l2
  go_wp2
  have G14 := Hd (G13.out.stoR hXl (List.Mem.tail _ (List.Mem.head _)) rfl (.int .i64 9) (.string (str (nmV ts (adv s)))) (.int .u64 0) (.int .i64 ((tyV' ts (exc ts (nmS ts (adv s)) [58])).1 : Int)) (.bool (tyV' ts (exc ts (nmS ts (adv s)) [58])).2) (.int .i64 0) (.int .i64 0) (.int .i64 0) (.int .i64 0) (.int .i64 ((ln ts s : Nat) : Int)) (.slice none 0 0))
  refine bodyPost_ret (G14.out.b0.res1 Tryz.results184 Tryz.underlying27 rfl infoNd _ rfl) rfl ?_
  exact G14.out.outT (rfl)
end Go.Proofs.YthdbaligapdbeaaGreatDoor
/- A frame whose first local node owns its Kids, to which nodes are appended. -/
namespace Go.Proofs.YthdbaligapdbeaaGreatDoor
open Go Go.RowKit
set_option linter.unusedVariables false

structure FK (w0 w : World) (R g c : Nat) (ts : List Tok) (s : Sg) (Ls : List (Nat × List Value)) (base : Nat) (v : Value) (ks : List Tree) : Prop where
 fr : Fr w0 w R g c ts s Ls []
 kd : Kids w base v ks
 hb : ∀ L cs, (L, cs) ∈ Ls → L < base
 hw : base ≤ w.heap.size
 hw0 : w0.heap.size ≤ base
 few : ks.length ≤ 100000
section
variable {w0 w : World} {R g c : Nat} {ts : List Tok} {s : Sg} {Ls : List (Nat × List Value)} {base : Nat} {v : Value} {ks : List Tree}
theorem FK.hR (F : FK w0 w R g c ts s Ls base v ks) : R < base := Nat.lt_of_lt_of_le F.fr.hR F.hw0
theorem FK.shape (F : FK w0 w R g c ts s Ls base v ks) : ∃ x k, v = .slice x ks.length k := F.kd.shape
theorem FK.call (F : FK w0 w R g c ts s Ls base v ks) {w' : World} {s' : Sg} (hr : Rd w' R g c ts s') (hs : St w w' R) : FK w0 w' R g c ts s' Ls base v ks :=
 ⟨F.fr.call hr hs, St.kids hs F.kd F.hR, F.hb, Nat.le_trans F.hw (St.size hs), F.hw0, F.few⟩
theorem FK.quiet (F : FK w0 w R g c ts s Ls base v ks) (hg : g < R) {w' : World} (hb : Below w.heap.size w w') : FK w0 w' R g c ts s Ls base v ks := F.call (F.fr.rd.below hg hb F.fr.rd.lt) (St.of_below hb)
theorem FK.drewN (F : FK w0 w R g c ts s Ls base v ks) (n : Nat) : FK w0 (w.drewN n) R g c ts s Ls base v ks := F.call (F.fr.rd.drewN n) ((St.refl w R).drewN n)
theorem FK.drew (F : FK w0 w R g c ts s Ls base v ks) : FK w0 w.drew R g c ts s Ls base v ks := F.drewN 1
theorem FK.tree (F : FK w0 w R g c ts s Ls base v ks) (l : Lab) : Fr w0 w R g c ts s Ls [(lcells l v, .node l ks)] := by
 refine ⟨F.fr.rd, F.fr.st, F.fr.bl, fun xs t h => ?_, F.fr.hR, F.fr.nd⟩
 simp at h
 obtain ⟨rfl, rfl⟩ := h
 exact (F.kd.tree l).mono fun k hk _ => ⟨Nat.le_trans F.hw0 hk, fun L ys hL => by have := F.hb L ys hL; omega⟩
theorem FK.set0 {L : Nat} {cs : List Value} (F : FK w0 w R g c ts s ((L, cs) :: Ls) base v ks) (hg : g < R) (i : Nat) (u : Value) (cs' : List Value) (h : cs' = cs.set i u) : FK w0 (w.setCell ⟨L, i, none⟩ u) R g c ts s ((L, cs') :: Ls) base v ks := by
 have hL := F.hb L cs (by simp)
 refine ⟨F.fr.set0 hg i u cs' h, F.kd.keep fun k hk _ => Below.heap_setCell _ _ _ _ (by show k ≠ L; omega), fun M xs hm => ?_, by rw [size_setCell]; exact F.hw, F.hw0, F.few⟩
 rcases List.mem_cons.1 hm with hm | hm
 ·injection hm with h1 h2
  omega
 ·exact F.hb M xs (by simp [hm])
theorem Fr.fk (F : Fr w0 w R g c ts s Ls []) : FK w0 w R g c ts s Ls w.heap.size (.slice none 0 0) [] :=
 ⟨F, kids_nil _ _, fun L cs h => F.lt h, Nat.le_refl _, F.size, by simp⟩
theorem Fr.fkL (F : Fr w0 w R g c ts s Ls []) {w' : World} {s' : Sg} {u : Value} {us : List Tree} (hk : Kids w' w.heap.size u us) (hr : Rd w' R g c ts s') (hs : St w w' R) (hf : us.length ≤ 100000) : FK w0 w' R g c ts s' Ls w.heap.size u us :=
 ⟨F.call hr hs, hk, fun L cs h => F.lt h, St.size hs, F.size, hf⟩
structure FT (w0 wa w : World) (R g c : Nat) (ts : List Tok) (s : Sg) (Ls : List (Nat × List Value)) (base : Nat) (v : Value) (ks : List Tree) (cs : List Value) (t : Tree) : Prop where
 fr : Fr w0 w R g c ts s Ls []
 kd : Kids wa base v ks
 st : St wa w R
 ht : TreeAt w (wa.heap.size ≤ ·) cs t
 hb : ∀ L cs, (L, cs) ∈ Ls → L < base
 hw : base ≤ wa.heap.size
 hw0 : w0.heap.size ≤ base
 few : ks.length ≤ 99999
theorem FK.callT (F : FK w0 w R g c ts s Ls base v ks) (hf : ks.length ≤ 99999) {w' : World} {s' : Sg} {cs : List Value} {t : Tree} (ht : TreeAt w' (w.heap.size ≤ ·) cs t) (hr : Rd w' R g c ts s') (hs : St w w' R) : FT w0 w w' R g c ts s' Ls base v ks cs t :=
 ⟨F.fr.call hr hs, F.kd, hs, ht, F.hb, F.hw, F.hw0, hf⟩
theorem fk_append {P : Program} {ops : Array Oper} {o : Oper} {a : Act} {K : Act → World → Prop} {Q : Exit → Act → World → Prop} {E : Prop} {wa : World} {cs : List Value} {t : Tree} (T : FT w0 wa w R g c ts s Ls base v ks cs t) (hg : g < R) (hgd : o.guard = none) (sl x : Operand) (ty : TypeId)
  (ho : o.op = .call { callee := .builtin .append, args := #[sl, x], argTypes := #[ty, ty] }) (hty : P.underlying ty = some (.slice 27))
  (hinfo : (P.info? 27).map (fun i => (i.zero, i.size, i.bytes)) = some (some (.agg #[.int .i64 0, .string ⟨#[]⟩, .int .u64 0, .int .i64 0, .bool false, .int .i64 0, .int .i64 0, .int .i64 0, .int .i64 0, .int .i64 0, .slice none 0 0]), 11, 112))
  (hs : a.eval sl = v) (hx : a.eval x = .slice (some ⟨w.heap.size, 0, none⟩) 1 1)
  (h : ∀ (g3 c3 : Nat) (w' : World), FK w0 w' R g c ts s Ls base (.slice (some ⟨g3, 0, none⟩) (ks.length + 1) c3) (ks ++ [t]) → K (a.put o.dst (.slice (some ⟨g3, 0, none⟩) (ks.length + 1) c3)) w') :
  if Region.wanted o (yielded ops a.tmps) = true then Oper.wp P o a (w.alloc (.cells cs.toArray 27)) K Q else E := by
 obtain ⟨C, o1, o2⟩ := T.kd
 have hR := Nat.lt_of_lt_of_le T.fr.hR T.hw0
 have o5 : w.ownsRow base 27 11 v ks.length (flat C ks.length) := o1.kept T.st (by
  right
  intro e
  have := (o1.lt R e).1
  omega)
 have hown := o5.alloc (.cells cs.toArray 27)
 have hsz := St.size T.st
 have hl := T.ht.length
 have hw := T.hw
 have hf := T.few
 obtain ⟨i0, hi0, hz0, hz1, hz2⟩ := info_parts hinfo
 have hza : (w.alloc (.cells cs.toArray 27)).heap.size = w.heap.size + 1 := by simp
 refine step_append_lies (w := w.alloc (.cells cs.toArray 27)) hgd sl x ty ho base 27 i0 _ 11 112 hty hi0 hz0 hz1 hz2 (by rfl) (by decide) v ks.length (flat C ks.length) hs hown ⟨w.heap.size, 0, none⟩ 1 1 cs hx (by omega)
  (World.news_of_block (cs := cs.toArray) (t := 27) (fr := (0, 0)) (heap_alloc_new w _)) ?_ (by decide) (by unfold maxLen; omega) (by omega) (by omega) (w.heap.size + 1) hza ?_
 ·obtain ⟨l, xx, n, k, rfl⟩ := T.ht.form
  intro z hz
  simp at hz
  rcases hz with rfl | rfl | rfl | rfl | rfl | rfl | rfl | rfl | rfl | rfl | rfl <;> rfl
 ·intro g3 c3 w6 ho3 hg3 hat3 hlt3
  have hgo : ∀ k, v.ownBlock = some k → base ≤ k ∧ k < wa.heap.size := fun k hk => o1.lt k hk
  have hFa := T.fr.alloc hg (.cells cs.toArray 27)
  have hst6 : St w0 w6 R := St.own hFa.st hg3 fun k hk => by have := (hgo k hk).1; have := T.hw0; omega
  refine h g3 c3 w6 ⟨⟨hFa.rd.own hg hg3 fun k hk => by have := (hgo k hk).1; omega, hst6, fun L xs hL => ?_, fun xs u hu => by simp at hu, T.fr.hR, T.fr.nd⟩, ?_, T.hb, ?_, T.hw0, by rw [List.length_append]; simp; omega⟩
  ·have h1 := hFa.bl L xs hL
   refine ⟨(hg3.block L h1.1.lt (fun e => ?_)).trans h1.1, h1.2⟩
   have := (hgo L e.symm).1
   have := T.hb L xs hL
   omega
  ·refine kids_push (w0 := wa) (C := C) (w := w.alloc (.cells cs.toArray 27)) o1 o2 (fun k hk hlt => ?_) (by omega) hw (T.ht.keep (fun k _ hk => Below.heap_alloc w _ k hk) fun k hk _ => hk) hg3 ?_ ho3
   ·exact (Below.heap_alloc w _ k (by omega)).trans (World.grownBy.block T.st k hlt (fun e => by injection e with e; omega))
   ·rcases hat3 with hl2 | hl2
    ·exact .inl hl2
    ·exact .inr (by omega)
  ·have := hg3.size
   omega
structure FB (w0 w : World) (R g c : Nat) (ts : List Tok) (s : Sg) (Ls : List (Nat × List Value)) (base : Nat) (Tb : List (List Value × Tree)) : Prop where
 fr : Fr w0 w R g c ts s Ls []
 tb : ∀ cs t, (cs, t) ∈ Tb → TreeAt w (base ≤ ·) cs t
 hb : ∀ L cs, (L, cs) ∈ Ls → L < base
 hw : base ≤ w.heap.size
 hw0 : w0.heap.size ≤ base
theorem Fr.fb (F : Fr w0 w R g c ts s Ls []) : FB w0 w R g c ts s Ls w.heap.size [] := ⟨F, fun cs t h => by simp at h, fun L cs h => F.lt h, Nat.le_refl _, F.size⟩
section
variable {Tb : List (List Value × Tree)}
theorem FB.call (F : FB w0 w R g c ts s Ls base Tb) {w' : World} {s' : Sg} (hr : Rd w' R g c ts s') (hs : St w w' R) : FB w0 w' R g c ts s' Ls base Tb :=
 ⟨F.fr.call hr hs, fun cs t h => (F.tb cs t h).keep (fun k hk hl => World.grownBy.block hs k hl (fun e => by injection e with e; have := F.fr.hR; have := F.hw0; omega)) fun _ hk _ => hk, F.hb, Nat.le_trans F.hw (St.size hs), F.hw0⟩
theorem FB.tree (F : FB w0 w R g c ts s Ls base Tb) {w' : World} {s' : Sg} {cs : List Value} {t : Tree} (ht : TreeAt w' (w.heap.size ≤ ·) cs t) (hr : Rd w' R g c ts s') (hs : St w w' R) : FB w0 w' R g c ts s' Ls base ((cs, t) :: Tb) := by
 have F1 := F.call hr hs
 refine ⟨F1.fr, fun xs u h => ?_, F1.hb, F1.hw, F1.hw0⟩
 rcases List.mem_cons.1 h with h | h
 ·injection h with h1 h2
  subst h1 h2
  exact ht.mono fun q hq _ => Nat.le_trans F.hw hq
 ·exact F1.tb xs u h
theorem FB.set0 {L : Nat} {cs : List Value} (F : FB w0 w R g c ts s ((L, cs) :: Ls) base Tb) (hg : g < R) (i : Nat) (u : Value) (cs' : List Value) (h : cs' = cs.set i u) : FB w0 (w.setCell ⟨L, i, none⟩ u) R g c ts s ((L, cs') :: Ls) base Tb := by
 have hL := F.hb L cs (by simp)
 refine ⟨F.fr.set0 hg i u cs' h, fun xs t ht => (F.tb xs t ht).keep (fun k hk _ => Below.heap_setCell _ _ _ _ (by show k ≠ L; omega)) fun _ hk _ => hk, fun M xs hm => ?_, by rw [size_setCell]; exact F.hw, F.hw0⟩
 rcases List.mem_cons.1 hm with hm | hm
 ·injection hm with h1 h2
  omega
 ·exact F.hb M xs (by simp [hm])
theorem FB.two (F : FB w0 w R g c ts s Ls base Tb) (hg : g < R) {c1 c2 : List Value} {t1 t2 : Tree} (h1 : (c1, t1) ∈ Tb) (h2 : (c2, t2) ∈ Tb) (cs : List Value) (hcs : cs = c1 ++ c2) (H : Nat) (hH : w.heap.size = H) : FK w0 (w.alloc (.cells cs.toArray 27)) R g c ts s Ls base (.slice (some ⟨H, 0, none⟩) 2 2) [t1, t2] := by
 subst hH
 have T1 := F.tb _ _ h1
 have T2 := F.tb _ _ h2
 have hl1 := T1.length
 have hl2 := T2.length
 refine ⟨F.fr.alloc hg _, ⟨fun i => if i = 0 then c1 else c2, ?_, fun i hi => ?_⟩, F.hb, Nat.le_trans F.hw (by simp), F.hw0, by simp⟩
 ·have := World.ownsRow_lit (base := base) (e := 27) (size := 11) w cs.toArray 2 F.hw (by unfold maxLen; omega) (by rw [hcs]; simp; omega)
  have e : flat (fun i => if i = 0 then c1 else c2) 2 = cs := by rw [hcs]; simp [flat, List.range_succ]
  show (w.alloc _).ownsRow base 27 11 _ 2 (flat _ 2)
  rw [e]
  exact this
 ·have hk : ∀ {xs t}, TreeAt w (base ≤ ·) xs t → TreeAt (w.alloc (.cells cs.toArray 27)) (fun k => base ≤ k ∧ some k ≠ (Value.slice (some ⟨w.heap.size, 0, none⟩) 2 2).ownBlock) xs t := fun h => h.keep (fun g _ hg => Below.heap_alloc w _ g hg) fun k hk hlt => ⟨hk, fun e => by injection e with e; have : k = w.heap.size := e; omega⟩
  simp at hi
  match i, hi with
  | 0, _ => exact hk T1
  | 1, _ => exact hk T2
end
end
theorem FK.s0 {w0 w : World} {R g c : Nat} {ts : List Tok} {s : Sg} {Ls : List (Nat × List Value)} {base : Nat} {u : Value} {ks : List Tree} {L : Nat} {x0 x1 x2 x3 x4 x5 x6 x7 x8 x9 x10 : Value} (F : FK w0 w R g c ts s ((L, [x0, x1, x2, x3, x4, x5, x6, x7, x8, x9, x10]) :: Ls) base u ks) (hg : g < R) (v : Value) : FK w0 (w.setCell ⟨L, 0, none⟩ v) R g c ts s ((L, [v, x1, x2, x3, x4, x5, x6, x7, x8, x9, x10]) :: Ls) base u ks := F.set0 hg 0 v _ rfl
theorem FK.s1 {w0 w : World} {R g c : Nat} {ts : List Tok} {s : Sg} {Ls : List (Nat × List Value)} {base : Nat} {u : Value} {ks : List Tree} {L : Nat} {x0 x1 x2 x3 x4 x5 x6 x7 x8 x9 x10 : Value} (F : FK w0 w R g c ts s ((L, [x0, x1, x2, x3, x4, x5, x6, x7, x8, x9, x10]) :: Ls) base u ks) (hg : g < R) (v : Value) : FK w0 (w.setCell ⟨L, 1, none⟩ v) R g c ts s ((L, [x0, v, x2, x3, x4, x5, x6, x7, x8, x9, x10]) :: Ls) base u ks := F.set0 hg 1 v _ rfl
theorem FK.s2 {w0 w : World} {R g c : Nat} {ts : List Tok} {s : Sg} {Ls : List (Nat × List Value)} {base : Nat} {u : Value} {ks : List Tree} {L : Nat} {x0 x1 x2 x3 x4 x5 x6 x7 x8 x9 x10 : Value} (F : FK w0 w R g c ts s ((L, [x0, x1, x2, x3, x4, x5, x6, x7, x8, x9, x10]) :: Ls) base u ks) (hg : g < R) (v : Value) : FK w0 (w.setCell ⟨L, 2, none⟩ v) R g c ts s ((L, [x0, x1, v, x3, x4, x5, x6, x7, x8, x9, x10]) :: Ls) base u ks := F.set0 hg 2 v _ rfl
theorem FK.s3 {w0 w : World} {R g c : Nat} {ts : List Tok} {s : Sg} {Ls : List (Nat × List Value)} {base : Nat} {u : Value} {ks : List Tree} {L : Nat} {x0 x1 x2 x3 x4 x5 x6 x7 x8 x9 x10 : Value} (F : FK w0 w R g c ts s ((L, [x0, x1, x2, x3, x4, x5, x6, x7, x8, x9, x10]) :: Ls) base u ks) (hg : g < R) (v : Value) : FK w0 (w.setCell ⟨L, 3, none⟩ v) R g c ts s ((L, [x0, x1, x2, v, x4, x5, x6, x7, x8, x9, x10]) :: Ls) base u ks := F.set0 hg 3 v _ rfl
theorem FK.s4 {w0 w : World} {R g c : Nat} {ts : List Tok} {s : Sg} {Ls : List (Nat × List Value)} {base : Nat} {u : Value} {ks : List Tree} {L : Nat} {x0 x1 x2 x3 x4 x5 x6 x7 x8 x9 x10 : Value} (F : FK w0 w R g c ts s ((L, [x0, x1, x2, x3, x4, x5, x6, x7, x8, x9, x10]) :: Ls) base u ks) (hg : g < R) (v : Value) : FK w0 (w.setCell ⟨L, 4, none⟩ v) R g c ts s ((L, [x0, x1, x2, x3, v, x5, x6, x7, x8, x9, x10]) :: Ls) base u ks := F.set0 hg 4 v _ rfl
theorem FK.s5 {w0 w : World} {R g c : Nat} {ts : List Tok} {s : Sg} {Ls : List (Nat × List Value)} {base : Nat} {u : Value} {ks : List Tree} {L : Nat} {x0 x1 x2 x3 x4 x5 x6 x7 x8 x9 x10 : Value} (F : FK w0 w R g c ts s ((L, [x0, x1, x2, x3, x4, x5, x6, x7, x8, x9, x10]) :: Ls) base u ks) (hg : g < R) (v : Value) : FK w0 (w.setCell ⟨L, 5, none⟩ v) R g c ts s ((L, [x0, x1, x2, x3, x4, v, x6, x7, x8, x9, x10]) :: Ls) base u ks := F.set0 hg 5 v _ rfl
theorem FK.s6 {w0 w : World} {R g c : Nat} {ts : List Tok} {s : Sg} {Ls : List (Nat × List Value)} {base : Nat} {u : Value} {ks : List Tree} {L : Nat} {x0 x1 x2 x3 x4 x5 x6 x7 x8 x9 x10 : Value} (F : FK w0 w R g c ts s ((L, [x0, x1, x2, x3, x4, x5, x6, x7, x8, x9, x10]) :: Ls) base u ks) (hg : g < R) (v : Value) : FK w0 (w.setCell ⟨L, 6, none⟩ v) R g c ts s ((L, [x0, x1, x2, x3, x4, x5, v, x7, x8, x9, x10]) :: Ls) base u ks := F.set0 hg 6 v _ rfl
theorem FK.s10 {w0 w : World} {R g c : Nat} {ts : List Tok} {s : Sg} {Ls : List (Nat × List Value)} {base : Nat} {u : Value} {ks : List Tree} {L : Nat} {x0 x1 x2 x3 x4 x5 x6 x7 x8 x9 x10 : Value} (F : FK w0 w R g c ts s ((L, [x0, x1, x2, x3, x4, x5, x6, x7, x8, x9, x10]) :: Ls) base u ks) (hg : g < R) (v : Value) : FK w0 (w.setCell ⟨L, 10, none⟩ v) R g c ts s ((L, [x0, x1, x2, x3, x4, x5, x6, x7, x8, x9, v]) :: Ls) base u ks := F.set0 hg 10 v _ rfl
end Go.Proofs.YthdbaligapdbeaaGreatDoor
/- The rule change: contract. -/
namespace Go.Proofs.YthdbaligapdbeaaGreatDoor
open Go Go.RowKit
set_option linter.unusedVariables false
set_option linter.unusedSimpArgs false

set_option maxHeartbeats 2000000 in
set_option maxRecDepth 100000 in
theorem change_any {ts : List Tok} {R g c : Nat} (X : Ctx ts R g c) (s : Sg) (w : World) (hR : Rd w R g c ts s) : Calls Tryz.prog 189 #[.pointer (some ⟨R, 0, none⟩)] w (TP w R g c ts (change ts s)) := by
 have hXl := X.lt
 have F0 := Hd ((Fr.start hR).node hXl ncz)
 have HN := Hd fun W (h : Rd W R g c ts s) => node_any X 11 W h
 have HX := Hd fun q W (h : Rd W R g c ts q) => xpr_any X q W h
 have HNM := Hd fun q W (h : Rd W R g c ts q) => name_any X (s := q) W h
 have HSK := Hd fun W (h : Rd W R g c ts (nmS ts s)) => skip_any' X [91] (by simp) W h
 unfold skp at HSK
 have HEB := Hd fun q W (h : Rd W R g c ts q) => expect_any X (s := q) [93] (by simp) W h
 have HEQ := Hd fun q W (h : Rd W R g c ts q) => expect_any X (s := q) [61] (by simp) W h
 have HEC := Hd fun q W (h : Rd W R g c ts q) => expect_any X (s := q) [59] (by simp) W h
 have HL : Hid (nc (labK 11 (ln ts s)) = [.int .i64 11, .string ⟨#[]⟩, .int .u64 0, .int .i64 0, .bool false, .int .i64 0, .int .i64 0, .int .i64 0, .int .i64 0, .int .i64 ((ln ts s : Nat) : Int), .slice none 0 0]) := Hd rfl
 rw [HL.out] at HN
 cases h1 : hasT ts (nmS ts s) [91] with
 | true =>
  have HM : Hid (change ts s = (.node { labK 12 (ln ts s) with name := nmV ts s } [(xpr ts (adv (nmS ts s))).1, (xpr ts (exc ts (exc ts (xpr ts (adv (nmS ts s))).2 [93]) [61])).1], exc ts (xpr ts (exc ts (exc ts (xpr ts (adv (nmS ts s))).2 [93]) [61])).2 [59])) := Hd (by unfold change; simp only [h1]; rfl)
  rw [HM.out]
  rw [h1] at HSK
  clear HM hR HL h1
  go_enter Tryz.func189, Tryz.ntmps189
  go_wp2_with fail
  refine (HN.out _ F0.out.rd).mono ?_
  rintro e v1 ⟨rfl, hb⟩
  have G1 := Hd (F0.out.quiet hXl hb)
  clear hb
  obtain ⟨hc0, hf0⟩ := G1.out.b0.all
  have hz0 := G1.out.b0.lt
  unfold ncz at hc0
  have hq10 := G1.out.b0.lt
  have G2 := Hd (G1.out.node hXl [.int .i64 11, .string ⟨#[]⟩, .int .u64 0, .int .i64 0, .bool false, .int .i64 0, .int .i64 0, .int .i64 0, .int .i64 0, .int .i64 ((ln ts s : Nat) : Int), .slice none 0 0])
  go_wp2_with fail
  refine (HNM.out _ _ G2.out.rd).mono ?_
  rintro e v2 ⟨rfl, hr, hs⟩
  clear hc0 hf0 hz0
  have G3 := Hd (G2.out.call hr hs)
  clear hr hs
  obtain ⟨hc0, hf0, hz0, hc1, hf1, hz1⟩ := G3.out.l2
  have G4 := Hd (G3.out.s1 hXl (.string (str (nmV ts s))))
  go_wp2_with fail
  refine (HSK.out _ G4.out.rd).mono ?_
  rintro e v3 ⟨rfl, hr, hs⟩
  have G5 := Hd (G4.out.call hr hs)
  clear hr hs hc0 hf0 hz0 hc1 hf1 hz1
  obtain ⟨hc0, hf0, hz0, hc1, hf1, hz1⟩ := G5.out.l2
  have G6 := Hd (G5.out.fk)
  have G7 := Hd (G6.out.s0 hXl (.int .i64 12))
  go_wp2
  have G8 := Hd (G7.out.drew)
  go_region_law (first | (refine fk_append KT1.out hXl (by rfl) _ _ _ (by rfl) Tryz.underlying25 infoNd2 (by rfl) (by simp [Act.eval]) ?_; intro g1 c1 u1 hk6; have KX1 := Hd hk6; clear hk6; obtain ⟨hd10, he10, hy10, hd11, he11, hy11⟩ := KX1.out.fr.l2) | (go_simp; go_at_call 211; refine (HX.out _ _ G8.out.fr.rd).mono ?_; rintro e y1 ⟨l1, x1, n1, k1, rfl, hT, hr, hs⟩; have KT1 := Hd (G8.out.callT (by simp) hT hr hs); clear hT hr hs; obtain ⟨hu10, hv10, hw10, hu11, hv11, hw11⟩ := KT1.out.fr.l2))
  all_goals
   clear hu10 hv10 hw10 hu11 hv11 hw11
   clear hc0 hf0 hz0 hc1 hf1 hz1
   have G9 := Hd (KX1.out.s10 hXl (.slice (some ⟨g1, 0, none⟩) 1 c1))
   go_wp2_with fail
   refine (HEB.out _ _ G9.out.fr.rd).mono ?_
   rintro e v4 ⟨rfl, hr, hs⟩
   have G10 := Hd (G9.out.call hr hs)
   clear hr hs
   obtain ⟨hc0, hf0, hz0, hc1, hf1, hz1⟩ := G10.out.fr.l2
   go_wp2_with fail
   refine (HEQ.out _ _ G10.out.fr.rd).mono ?_
   rintro e v5 ⟨rfl, hr, hs⟩
   have G11 := Hd (G10.out.call hr hs)
   clear hr hs hc0 hf0 hz0 hc1 hf1 hz1
   obtain ⟨hc0, hf0, hz0, hc1, hf1, hz1⟩ := G11.out.fr.l2
   go_wp2
   have G12 := Hd (G11.out.drew)
   go_region_law (first | (refine fk_append KT2.out hXl (by rfl) _ _ _ (by rfl) Tryz.underlying25 infoNd2 (by rfl) (by simp [Act.eval]) ?_; intro g2 c2 u2 hk6; have KX2 := Hd hk6; clear hk6; obtain ⟨hd20, he20, hy20, hd21, he21, hy21⟩ := KX2.out.fr.l2) | (go_simp; go_at_call 211; refine (HX.out _ _ G12.out.fr.rd).mono ?_; rintro e y2 ⟨l2, x2, n2, k2, rfl, hT, hr, hs⟩; have KT2 := Hd (G12.out.callT (by simp) hT hr hs); clear hT hr hs; obtain ⟨hu20, hv20, hw20, hu21, hv21, hw21⟩ := KT2.out.fr.l2))
   all_goals
    clear hu20 hv20 hw20 hu21 hv21 hw21
    clear hc0 hf0 hz0 hc1 hf1 hz1
    have G13 := Hd (KX2.out.s10 hXl (.slice (some ⟨g2, 0, none⟩) 2 c2))
    go_wp2_with fail
    refine (HEC.out _ _ G13.out.fr.rd).mono ?_
    rintro e v6 ⟨rfl, hr, hs⟩
    have G14 := Hd (G13.out.call hr hs)
    clear hr hs
    obtain ⟨hc0, hf0, hz0, hc1, hf1, hz1⟩ := G14.out.fr.l2
    have G15 := Hd (G14.out.tree { labK 12 (ln ts s) with name := nmV ts s })
    go_wp2
    have G16 := Hd (G15.out.stoR hXl (List.Mem.tail _ (List.Mem.head _)) rfl (.int .i64 12) (.string (str (nmV ts s))) (.int .u64 0) (.int .i64 0) (.bool false) (.int .i64 0) (.int .i64 0) (.int .i64 0) (.int .i64 0) (.int .i64 ((ln ts s : Nat) : Int)) (.slice (some ⟨g2, 0, none⟩) 2 c2))
    refine bodyPost_ret (G16.out.b0.res1 Tryz.results189 Tryz.underlying27 rfl infoNd _ rfl) rfl ?_
    exact G16.out.outT (rfl)
 | false =>
  have HM : Hid (change ts s = (.node { labK 11 (ln ts s) with name := nmV ts s } [(xpr ts (exc ts (nmS ts s) [61])).1], exc ts (xpr ts (exc ts (nmS ts s) [61])).2 [59])) := Hd (by unfold change; simp only [h1]; rfl)
  rw [HM.out]
  rw [h1] at HSK
  clear HM hR HL h1
  go_enter Tryz.func189, Tryz.ntmps189
  go_wp2_with fail
  refine (HN.out _ F0.out.rd).mono ?_
  rintro e v1 ⟨rfl, hb⟩
  have G1 := Hd (F0.out.quiet hXl hb)
  clear hb
  obtain ⟨hc0, hf0⟩ := G1.out.b0.all
  have hz0 := G1.out.b0.lt
  unfold ncz at hc0
  have hq10 := G1.out.b0.lt
  have G2 := Hd (G1.out.node hXl [.int .i64 11, .string ⟨#[]⟩, .int .u64 0, .int .i64 0, .bool false, .int .i64 0, .int .i64 0, .int .i64 0, .int .i64 0, .int .i64 ((ln ts s : Nat) : Int), .slice none 0 0])
  go_wp2_with fail
  refine (HNM.out _ _ G2.out.rd).mono ?_
  rintro e v2 ⟨rfl, hr, hs⟩
  clear hc0 hf0 hz0
  have G3 := Hd (G2.out.call hr hs)
  clear hr hs
  obtain ⟨hc0, hf0, hz0, hc1, hf1, hz1⟩ := G3.out.l2
  have G4 := Hd (G3.out.s1 hXl (.string (str (nmV ts s))))
  go_wp2_with fail
  refine (HSK.out _ G4.out.rd).mono ?_
  rintro e v3 ⟨rfl, hr, hs⟩
  have G5 := Hd (G4.out.call hr hs)
  clear hr hs hc0 hf0 hz0 hc1 hf1 hz1
  obtain ⟨hc0, hf0, hz0, hc1, hf1, hz1⟩ := G5.out.l2
  have G6 := Hd (G5.out.fk)
  go_wp2_with fail
  refine (HEQ.out _ _ G6.out.fr.rd).mono ?_
  rintro e v4 ⟨rfl, hr, hs⟩
  have G7 := Hd (G6.out.call hr hs)
  clear hr hs hc0 hf0 hz0 hc1 hf1 hz1
  obtain ⟨hc0, hf0, hz0, hc1, hf1, hz1⟩ := G7.out.fr.l2
  go_wp2
  have G8 := Hd (G7.out.drew)
  go_region_law (first | (refine fk_append KT1.out hXl (by rfl) _ _ _ (by rfl) Tryz.underlying25 infoNd2 (by rfl) (by simp [Act.eval]) ?_; intro g1 c1 u1 hk6; have KX1 := Hd hk6; clear hk6; obtain ⟨hd10, he10, hy10, hd11, he11, hy11⟩ := KX1.out.fr.l2) | (go_simp; go_at_call 211; refine (HX.out _ _ G8.out.fr.rd).mono ?_; rintro e y1 ⟨l1, x1, n1, k1, rfl, hT, hr, hs⟩; have KT1 := Hd (G8.out.callT (by simp) hT hr hs); clear hT hr hs; obtain ⟨hu10, hv10, hw10, hu11, hv11, hw11⟩ := KT1.out.fr.l2))
  all_goals
   clear hu10 hv10 hw10 hu11 hv11 hw11
   clear hc0 hf0 hz0 hc1 hf1 hz1
   have G9 := Hd (KX1.out.s10 hXl (.slice (some ⟨g1, 0, none⟩) 1 c1))
   go_wp2_with fail
   refine (HEC.out _ _ G9.out.fr.rd).mono ?_
   rintro e v5 ⟨rfl, hr, hs⟩
   have G10 := Hd (G9.out.call hr hs)
   clear hr hs
   obtain ⟨hc0, hf0, hz0, hc1, hf1, hz1⟩ := G10.out.fr.l2
   have G11 := Hd (G10.out.tree { labK 11 (ln ts s) with name := nmV ts s })
   go_wp2
   have G12 := Hd (G11.out.stoR hXl (List.Mem.tail _ (List.Mem.head _)) rfl (.int .i64 11) (.string (str (nmV ts s))) (.int .u64 0) (.int .i64 0) (.bool false) (.int .i64 0) (.int .i64 0) (.int .i64 0) (.int .i64 0) (.int .i64 ((ln ts s : Nat) : Int)) (.slice (some ⟨g1, 0, none⟩) 1 c1))
   refine bodyPost_ret (G12.out.b0.res1 Tryz.results189 Tryz.underlying27 rfl infoNd _ rfl) rfl ?_
   exact G12.out.outT (rfl)
end Go.Proofs.YthdbaligapdbeaaGreatDoor
/- The rules of statements: what the code does with fuel. -/
namespace Go.Proofs.YthdbaligapdbeaaGreatDoor
open Go Go.RowKit
set_option linter.unusedVariables false

def one (x : List Tree × Sg) : Tree × Sg := (x.1.headD tree0, x.2)
structure SC (ts : List Tok) (R g c f : Nat) : Prop where
 bk : ∀ s w, Rd w R g c ts s → 8 * rem ts s + 6 ≤ f → Calls Tryz.prog 118 #[.pointer (some ⟨R, 0, none⟩)] w (TP w R g c ts (one (S ts f .bk s)))
 st : ∀ s w, s.bad = false ∧ s.i < ts.length → Rd w R g c ts s → 8 * rem ts s + 4 ≤ f → Calls Tryz.prog 158 #[.pointer (some ⟨R, 0, none⟩)] w (TP w R g c ts (one (S ts f .st s)))
 br : ∀ s w, hasT ts s [105, 102] = true → Rd w R g c ts s → 8 * rem ts s + 3 ≤ f → Calls Tryz.prog 185 #[.pointer (some ⟨R, 0, none⟩)] w (TP w R g c ts (one (S ts f .br s)))
theorem S_one {ts : List Tok} : ∀ f n s, (∀ acc, n ≠ .bs acc) → (S ts f n s).1 = [(one (S ts f n s)).1] := by
 intro f
 induction f with
 | zero => intro n s _; rfl
 | succ f ih =>
  intro n s hn
  cases n with
  | bs acc => exact absurd rfl (hn acc)
  | bk => rfl
  | br =>
   unfold one
   rw [S]
   split
   ·split <;> rfl
   ·rfl
  | lp =>
   unfold one
   rw [S]
   dsimp only
   split <;> rfl
  | st =>
   have h1 := ih .br s (by simp)
   have h2 := ih .lp s (by simp)
   unfold one at h1 h2 ⊢
   rw [S]
   split
   ·rfl
   ·split
    ·rfl
    ·split
     ·exact h1
     ·split
      ·exact h2
      ·split
       ·rfl
       ·split <;> rfl
theorem S_bs_end {ts : List Tok} {f : Nat} {acc : List Tree} {s : Sg} (h : ¬ (s.bad = false ∧ s.i < ts.length ∧ hasT ts s [125] = false)) : S ts (f + 1) (.bs acc) s = (acc, s) := by rw [S, if_neg h]
theorem S_bs_more {ts : List Tok} {f : Nat} {acc : List Tree} {s : Sg} (h : s.bad = false ∧ s.i < ts.length ∧ hasT ts s [125] = false) : S ts (f + 1) (.bs acc) s = S ts f (.bs (acc ++ [(one (S ts f .st s)).1])) (one (S ts f .st s)).2 := by
 rw [S, if_pos h, S_one f .st s (by simp)]
 rfl
theorem st_prog {ts : List Tok} {f : Nat} {s : Sg} (hs : s.bad = false ∧ s.i < ts.length) : rem ts (S ts (f + 2) .st s).2 + 1 ≤ rem ts s := by
 have ha := rem_adv hs
 have key : ∀ t, On ts (adv s) t → rem ts t + 1 ≤ rem ts s := fun t ht => by have := rem_on ht; omega
 have hst : rem ts (stop s) + 1 ≤ rem ts s := by unfold rem stop; rw [hs.1]; simp; omega
 rw [S]
 split
 ·rename_i h
  refine key _ ?_
  unfold declV
  dsimp only
  split
  ·exact (nmS_on _ _).trans (exc_on.trans ((tyS_on _ _).trans ((adv_on (hasT_in ‹_›)).trans ((xpr_on _ _).trans exc_on))))
  ·exact (nmS_on _ _).trans (exc_on.trans ((tyS_on _ _).trans exc_on))
 ·split
  ·refine key _ ?_
   unfold declL
   dsimp only
   have h1 : On ts (adv s) (if hasT ts (nmS ts (adv s)) [58] = true then tyS ts (adv (nmS ts (adv s))) else nmS ts (adv s)) :=
    On.ite (fun h2 => (nmS_on _ _).trans ((adv_on (hasT_in h2)).trans (tyS_on _ _))) fun _ => nmS_on _ _
   exact h1.trans (exc_on.trans ((xpr_on _ _).trans exc_on))
  ·split
   ·rename_i h
    refine key _ ?_
    have h1 : On ts (adv s) (S ts f .bk (xpr ts (adv s)).2).2 := (xpr_on _ _).trans (S_on ts _ _ _ trivial)
    rw [S]
    split
    ·split
     ·exact h1.trans ((adv_on (hasT_in ‹_›)).trans (S_on ts _ _ _ (hasT_in ‹_›)))
     ·exact h1.trans ((adv_on (hasT_in ‹_›)).trans (S_on ts _ _ _ trivial))
    ·exact h1
   ·split
    ·rename_i h
     refine key _ ?_
     rw [S]
     dsimp only
     by_cases h35 : hasT ts s [35] = true
     ·have hd : On ts (adv s) (dirs ts 3 0 0 s).2.2 := by
       rw [dirs, if_pos ⟨.inl rfl, h35⟩]
       exact (dir_on _ _ _ _).trans (dirs_on _ _ _ _ _)
      split
      ·exact hd.trans ((adv_on (hasT_in ‹_›)).trans ((nmS_on _ _).trans (exc_on.trans ((tyS_on _ _).trans (exc_on.trans ((xpr_on _ _).trans (exc_on.trans ((xpr_on _ _).trans (S_on ts _ _ _ trivial)))))))))
      ·exact hd.trans (exc_on.trans ((xpr_on _ _).trans (S_on ts _ _ _ trivial)))
     ·have hd : dirs ts 3 0 0 s = (0, 0, s) := by rw [dirs, if_neg (fun h => h35 h.2)]
      rw [hd]
      dsimp only
      split
      ·exact (nmS_on _ _).trans (exc_on.trans ((tyS_on _ _).trans (exc_on.trans ((xpr_on _ _).trans (exc_on.trans ((xpr_on _ _).trans (S_on ts _ _ _ trivial)))))))
      ·rename_i hf
       have hw : hasT ts s [119, 104, 105, 108, 101] = true := by
        simp [h35, hf] at h
        exact h
       rw [exc_has hw]
       exact (xpr_on _ _).trans (S_on ts _ _ _ trivial)
    ·split
     ·exact key _ ((nmS_on _ _).trans (exc_on.trans ((xpr_on _ _).trans (exc_on.trans exc_on))))
     ·split
      ·exact key _ ((xpr_on _ _).trans exc_on)
      ·unfold change
       dsimp only
       have hn : On ts (adv s) (nmS ts s) ∨ nmS ts s = stop s := by
        unfold nmS
        split
        ·exact .inl (On.refl _ _)
        ·exact .inr rfl
       rcases hn with hn | hn
       ·refine key _ ?_
        split
        ·exact hn.trans ((adv_on (hasT_in ‹_›)).trans ((xpr_on _ _).trans (exc_on.trans (exc_on.trans ((xpr_on _ _).trans exc_on)))))
        ·exact hn.trans (exc_on.trans ((xpr_on _ _).trans exc_on))
       ·have key2 : ∀ t, On ts (stop s) t → rem ts t + 1 ≤ rem ts s := fun t ht => by have := rem_on ht; omega
        refine key2 _ ?_
        rw [hn]
        split
        ·exact (adv_on (hasT_in ‹_›)).trans ((xpr_on _ _).trans (exc_on.trans (exc_on.trans ((xpr_on _ _).trans exc_on))))
        ·exact exc_on.trans ((xpr_on _ _).trans exc_on)
theorem S_br_no {ts : List Tok} {f : Nat} {s : Sg} (h : hasT ts (one (S ts f .bk (xpr ts (adv s)).2)).2 [101, 108, 115, 101] = false) : one (S ts (f + 1) .br s) = (.node (labK 13 (ln ts s)) [(xpr ts (adv s)).1, (one (S ts f .bk (xpr ts (adv s)).2)).1], (one (S ts f .bk (xpr ts (adv s)).2)).2) := by
 have h1 := S_one f .bk (xpr ts (adv s)).2 (ts := ts) (by simp)
 have h2 : hasT ts (S ts f .bk (xpr ts (adv s)).2).2 [101, 108, 115, 101] = false := h
 rw [one, S, if_neg (by simp [h2]), h1]
 rfl
theorem S_br_if {ts : List Tok} {f : Nat} {s : Sg} (h : hasT ts (one (S ts f .bk (xpr ts (adv s)).2)).2 [101, 108, 115, 101] = true) (h3 : hasT ts (adv (one (S ts f .bk (xpr ts (adv s)).2)).2) [105, 102] = true) :
  one (S ts (f + 1) .br s) = (.node (labK 13 (ln ts s)) [(xpr ts (adv s)).1, (one (S ts f .bk (xpr ts (adv s)).2)).1, (one (S ts f .br (adv (one (S ts f .bk (xpr ts (adv s)).2)).2))).1], (one (S ts f .br (adv (one (S ts f .bk (xpr ts (adv s)).2)).2))).2) := by
 have h1 := S_one f .bk (xpr ts (adv s)).2 (ts := ts) (by simp)
 have h4 := S_one f .br (adv (one (S ts f .bk (xpr ts (adv s)).2)).2) (ts := ts) (by simp)
 have h2 : hasT ts (S ts f .bk (xpr ts (adv s)).2).2 [101, 108, 115, 101] = true := h
 have h5 : hasT ts (adv (S ts f .bk (xpr ts (adv s)).2).2) [105, 102] = true := h3
 have h6 : (S ts f .br (adv (S ts f .bk (xpr ts (adv s)).2).2)).1 = [(one (S ts f .br (adv (one (S ts f .bk (xpr ts (adv s)).2)).2))).1] := h4
 rw [one, S, if_pos h2, if_pos h5, h1, h6]
 rfl
theorem S_br_el {ts : List Tok} {f : Nat} {s : Sg} (h : hasT ts (one (S ts f .bk (xpr ts (adv s)).2)).2 [101, 108, 115, 101] = true) (h3 : hasT ts (adv (one (S ts f .bk (xpr ts (adv s)).2)).2) [105, 102] = false) :
  one (S ts (f + 1) .br s) = (.node (labK 13 (ln ts s)) [(xpr ts (adv s)).1, (one (S ts f .bk (xpr ts (adv s)).2)).1, (one (S ts f .bk (adv (one (S ts f .bk (xpr ts (adv s)).2)).2))).1], (one (S ts f .bk (adv (one (S ts f .bk (xpr ts (adv s)).2)).2))).2) := by
 have h1 := S_one f .bk (xpr ts (adv s)).2 (ts := ts) (by simp)
 have h4 := S_one f .bk (adv (one (S ts f .bk (xpr ts (adv s)).2)).2) (ts := ts) (by simp)
 have h2 : hasT ts (S ts f .bk (xpr ts (adv s)).2).2 [101, 108, 115, 101] = true := h
 have h5 : hasT ts (adv (S ts f .bk (xpr ts (adv s)).2).2) [105, 102] = false := h3
 have h6 : (S ts f .bk (adv (S ts f .bk (xpr ts (adv s)).2).2)).1 = [(one (S ts f .bk (adv (one (S ts f .bk (xpr ts (adv s)).2)).2))).1] := h4
 rw [one, S, if_pos h2, if_neg (by simp [h5]), h1, h6]
 rfl
theorem atOf_adv2 {ts : List Tok} {s t : Sg} (h : s.bad = false ∧ s.i < ts.length) (ht : On ts s t) (hr : rem ts t + 1 ≤ rem ts s) (hi : t.i ≤ ts.length) : atOf ts s < atOf ts t ∧ atOf ts t ≤ ts.length := by
 have h1 := ht.1
 unfold rem at hr
 unfold atOf
 rw [h.1] at hr ⊢
 cases hb : t.bad with
 | false => rw [hb] at hr; simp at hr ⊢; omega
 | true => simp; omega
theorem hasT_excl {ts : List Tok} {s : Sg} {a b : List UInt8} (h : hasT ts s a = true) (hab : a ≠ b) : hasT ts s b = false := by
 unfold hasT at h ⊢
 rw [of_decide_eq_true h]
 simp [hab]
end Go.Proofs.YthdbaligapdbeaaGreatDoor
/- The rule branch: contract. -/
namespace Go.Proofs.YthdbaligapdbeaaGreatDoor
open Go Go.RowKit
set_option linter.unusedVariables false
set_option linter.unusedSimpArgs false

set_option maxHeartbeats 2000000 in
set_option maxRecDepth 100000 in
theorem branch_step {ts : List Tok} {R g c : Nat} (X : Ctx ts R g c) (f : Nat) (H : SC ts R g c f) (s : Sg) (hv : hasT ts s [105, 102] = true) (w : World) (hR : Rd w R g c ts s) (hf : 8 * rem ts s + 3 ≤ f + 1) : Calls Tryz.prog 185 #[.pointer (some ⟨R, 0, none⟩)] w (TP w R g c ts (one (S ts (f + 1) .br s))) := by
 have hXl := X.lt
 have F0 := Hd ((Fr.start hR).node hXl ncz)
 have HN := Hd fun W (h : Rd W R g c ts s) => node_any X 13 W h
 have HX := Hd fun q W (h : Rd W R g c ts q) => xpr_any X q W h
 have HNM := Hd fun q W (h : Rd W R g c ts q) => name_any X (s := q) W h
 have HE0 := Hd fun W (h : Rd W R g c ts s) => expect_any X (s := s) [105, 102] (by simp) W h
 rw [exc_has hv] at HE0
 have hin := hasT_in hv
 have hra := rem_adv hin
 have hrx := rem_on (xpr_on ts (adv s))
 have HBK := Hd fun W (h : Rd W R g c ts (xpr ts (adv s)).2) => H.bk _ W h (by omega)
 have hrb : rem ts (one (S ts f .bk (xpr ts (adv s)).2)).2 ≤ rem ts (xpr ts (adv s)).2 := rem_on (S_on ts f .bk _ trivial)
 have HSK := Hd fun W (h : Rd W R g c ts (one (S ts f .bk (xpr ts (adv s)).2)).2) => skip_any' X [101, 108, 115, 101] (by simp) W h
 unfold skp at HSK
 have HL : Hid (nc (labK 13 (ln ts s)) = [.int .i64 13, .string ⟨#[]⟩, .int .u64 0, .int .i64 0, .bool false, .int .i64 0, .int .i64 0, .int .i64 0, .int .i64 0, .int .i64 ((ln ts s : Nat) : Int), .slice none 0 0]) := Hd rfl
 rw [HL.out] at HN
 cases h1 : hasT ts (one (S ts f .bk (xpr ts (adv s)).2)).2 [101, 108, 115, 101] with
 | false =>
  have HM : Hid (one (S ts (f + 1) .br s) = (.node (labK 13 (ln ts s)) [(xpr ts (adv s)).1, (one (S ts f .bk (xpr ts (adv s)).2)).1], (one (S ts f .bk (xpr ts (adv s)).2)).2)) := Hd (S_br_no h1)
  rw [HM.out]
  rw [h1] at HSK
  clear HM hR HL h1 H hin hra hrx hrb hf hv HNM
  go_enter Tryz.func185, Tryz.ntmps185
  go_wp2_with fail
  refine (HN.out _ F0.out.rd).mono ?_
  rintro e v1 ⟨rfl, hb⟩
  have G1 := Hd (F0.out.quiet hXl hb)
  clear hb
  obtain ⟨hc0, hf0⟩ := G1.out.b0.all
  have hz0 := G1.out.b0.lt
  unfold ncz at hc0
  have hq10 := G1.out.b0.lt
  have G2 := Hd (G1.out.node hXl [.int .i64 13, .string ⟨#[]⟩, .int .u64 0, .int .i64 0, .bool false, .int .i64 0, .int .i64 0, .int .i64 0, .int .i64 0, .int .i64 ((ln ts s : Nat) : Int), .slice none 0 0])
  go_wp2_with fail
  refine (HE0.out _ G2.out.rd).mono ?_
  rintro e v2 ⟨rfl, hr, hs⟩
  clear hc0 hf0 hz0
  have G3 := Hd (G2.out.call hr hs)
  clear hr hs
  obtain ⟨hc0, hf0, hz0, hc1, hf1, hz1⟩ := G3.out.l2
  have G4 := Hd (G3.out.fb)
  go_wp2_with fail
  refine (HX.out _ _ G4.out.fr.rd).mono ?_
  rintro e v3 ⟨l1, x1, n1, k1, rfl, hT, hr, hs⟩
  clear hc0 hf0 hz0 hc1 hf1 hz1
  have G5 := Hd (G4.out.tree hT hr hs)
  clear hT hr hs
  obtain ⟨hc0, hf0, hz0, hc1, hf1, hz1⟩ := G5.out.fr.l2
  go_wp2_with fail
  refine (HBK.out _ G5.out.fr.rd).mono ?_
  rintro e v4 ⟨l2, x2, n2, k2, rfl, hT, hr, hs⟩
  clear hc0 hf0 hz0 hc1 hf1 hz1
  have G6 := Hd (G5.out.tree hT hr hs)
  clear hT hr hs
  obtain ⟨hc0, hf0, hz0, hc1, hf1, hz1⟩ := G6.out.fr.l2
  have G7 := Hd (G6.out.set0 hXl 10 (.slice (some ⟨v4.heap.size, 0, none⟩) 2 2) [.int .i64 13, .string ⟨#[]⟩, .int .u64 0, .int .i64 0, .bool false, .int .i64 0, .int .i64 0, .int .i64 0, .int .i64 0, .int .i64 ((ln ts s : Nat) : Int), .slice (some ⟨v4.heap.size, 0, none⟩) 2 2] rfl)
  have G8 := Hd (G7.out.two hXl (List.Mem.tail _ (List.Mem.head _)) (List.Mem.head _) [.int .i64 l1.kind, .string (str l1.name), .int .u64 l1.num, .int .i64 l1.wd, .bool l1.sg, .int .i64 l1.op, .int .i64 l1.fac, .int .i64 l1.pip, .int .i64 l1.unr, .int .i64 l1.line, .slice x1 n1 k1, .int .i64 l2.kind, .string (str l2.name), .int .u64 l2.num, .int .i64 l2.wd, .bool l2.sg, .int .i64 l2.op, .int .i64 l2.fac, .int .i64 l2.pip, .int .i64 l2.unr, .int .i64 l2.line, .slice x2 n2 k2] rfl v4.heap.size (by simp only [size_setCell]))
  go_wp2_with fail
  refine (HSK.out _ G8.out.fr.rd).mono ?_
  rintro e v5 ⟨rfl, hr, hs⟩
  have G9 := Hd (G8.out.call hr hs)
  clear hr hs hc0 hf0 hz0 hc1 hf1 hz1
  obtain ⟨hc0, hf0, hz0, hc1, hf1, hz1⟩ := G9.out.fr.l2
  have G10 := Hd (G9.out.tree (labK 13 (ln ts s)))
  go_wp2
  have G11 := Hd (G10.out.stoR hXl (List.Mem.tail _ (List.Mem.head _)) rfl (.int .i64 13) (.string ⟨#[]⟩) (.int .u64 0) (.int .i64 0) (.bool false) (.int .i64 0) (.int .i64 0) (.int .i64 0) (.int .i64 0) (.int .i64 ((ln ts s : Nat) : Int)) (.slice (some ⟨v4.heap.size, 0, none⟩) 2 2))
  refine bodyPost_ret (G11.out.b0.res1 Tryz.results185 Tryz.underlying27 rfl infoNd _ rfl) rfl ?_
  exact G11.out.outT (rfl)
 | true =>
  have hin2 := hasT_in h1
  have hra2 := rem_adv hin2
  rw [h1] at HSK
  have HNX := Hd fun W (h : Rd W R g c ts (adv (one (S ts f .bk (xpr ts (adv s)).2)).2)) => next_any X W h
  have hF := fldT (nxt ts (adv (one (S ts f .bk (xpr ts (adv s)).2)).2))
  have hq1 : ((str (nxt ts (adv (one (S ts f .bk (xpr ts (adv s)).2)).2)).text).toList == [105, 102]) = hasT ts (adv (one (S ts f .bk (xpr ts (adv s)).2)).2) [105, 102] := by have := hasT_bytes ts (adv (one (S ts f .bk (xpr ts (adv s)).2)).2) [105, 102]; rw [str_toList [105, 102]] at this; exact this
  cases h2 : hasT ts (adv (one (S ts f .bk (xpr ts (adv s)).2)).2) [105, 102] with
  | true =>
   have HM : Hid (one (S ts (f + 1) .br s) = (.node (labK 13 (ln ts s)) [(xpr ts (adv s)).1, (one (S ts f .bk (xpr ts (adv s)).2)).1, (one (S ts f .br (adv (one (S ts f .bk (xpr ts (adv s)).2)).2))).1], (one (S ts f .br (adv (one (S ts f .bk (xpr ts (adv s)).2)).2))).2)) := Hd (S_br_if h1 h2)
   rw [HM.out]
   rw [h2] at hq1
   have HRU := Hd fun W (h : Rd W R g c ts (adv (one (S ts f .bk (xpr ts (adv s)).2)).2)) => H.br _ W h2 h (by omega)
   clear HM hR HL h1 h2 H hin hra hrx hrb hf hv hin2 hra2 HNM
   go_enter Tryz.func185, Tryz.ntmps185
   go_wp2_with fail
   refine (HN.out _ F0.out.rd).mono ?_
   rintro e v1 ⟨rfl, hb⟩
   have G1 := Hd (F0.out.quiet hXl hb)
   clear hb
   obtain ⟨hc0, hf0⟩ := G1.out.b0.all
   have hz0 := G1.out.b0.lt
   unfold ncz at hc0
   have hq10 := G1.out.b0.lt
   have G2 := Hd (G1.out.node hXl [.int .i64 13, .string ⟨#[]⟩, .int .u64 0, .int .i64 0, .bool false, .int .i64 0, .int .i64 0, .int .i64 0, .int .i64 0, .int .i64 ((ln ts s : Nat) : Int), .slice none 0 0])
   go_wp2_with fail
   refine (HE0.out _ G2.out.rd).mono ?_
   rintro e v2 ⟨rfl, hr, hs⟩
   clear hc0 hf0 hz0
   have G3 := Hd (G2.out.call hr hs)
   clear hr hs
   obtain ⟨hc0, hf0, hz0, hc1, hf1, hz1⟩ := G3.out.l2
   have G4 := Hd (G3.out.fb)
   go_wp2_with fail
   refine (HX.out _ _ G4.out.fr.rd).mono ?_
   rintro e v3 ⟨l1, x1, n1, k1, rfl, hT, hr, hs⟩
   clear hc0 hf0 hz0 hc1 hf1 hz1
   have G5 := Hd (G4.out.tree hT hr hs)
   clear hT hr hs
   obtain ⟨hc0, hf0, hz0, hc1, hf1, hz1⟩ := G5.out.fr.l2
   go_wp2_with fail
   refine (HBK.out _ G5.out.fr.rd).mono ?_
   rintro e v4 ⟨l2, x2, n2, k2, rfl, hT, hr, hs⟩
   clear hc0 hf0 hz0 hc1 hf1 hz1
   have G6 := Hd (G5.out.tree hT hr hs)
   clear hT hr hs
   obtain ⟨hc0, hf0, hz0, hc1, hf1, hz1⟩ := G6.out.fr.l2
   have G7 := Hd (G6.out.set0 hXl 10 (.slice (some ⟨v4.heap.size, 0, none⟩) 2 2) [.int .i64 13, .string ⟨#[]⟩, .int .u64 0, .int .i64 0, .bool false, .int .i64 0, .int .i64 0, .int .i64 0, .int .i64 0, .int .i64 ((ln ts s : Nat) : Int), .slice (some ⟨v4.heap.size, 0, none⟩) 2 2] rfl)
   have G8 := Hd (G7.out.two hXl (List.Mem.tail _ (List.Mem.head _)) (List.Mem.head _) [.int .i64 l1.kind, .string (str l1.name), .int .u64 l1.num, .int .i64 l1.wd, .bool l1.sg, .int .i64 l1.op, .int .i64 l1.fac, .int .i64 l1.pip, .int .i64 l1.unr, .int .i64 l1.line, .slice x1 n1 k1, .int .i64 l2.kind, .string (str l2.name), .int .u64 l2.num, .int .i64 l2.wd, .bool l2.sg, .int .i64 l2.op, .int .i64 l2.fac, .int .i64 l2.pip, .int .i64 l2.unr, .int .i64 l2.line, .slice x2 n2 k2] rfl v4.heap.size (by simp only [size_setCell]))
   go_wp2_with fail
   refine (HSK.out _ G8.out.fr.rd).mono ?_
   rintro e v5 ⟨rfl, hr, hs⟩
   have G9 := Hd (G8.out.call hr hs)
   clear hr hs hc0 hf0 hz0 hc1 hf1 hz1
   obtain ⟨hc0, hf0, hz0, hc1, hf1, hz1⟩ := G9.out.fr.l2
   go_wp2_with fail
   refine (HNX.out _ G9.out.fr.rd).mono ?_
   rintro e v6 ⟨rfl, hb⟩
   have G10 := Hd (G9.out.quiet hXl hb)
   clear hb hc0 hf0 hz0 hc1 hf1 hz1
   obtain ⟨hc0, hf0, hz0, hc1, hf1, hz1⟩ := G10.out.fr.l2
   go_wp2
   have G11 := Hd (G10.out.drew)
   go_region_law (first | (refine fk_append KT1.out hXl (by rfl) _ _ _ (by rfl) Tryz.underlying25 infoNd2 (by rfl) (by simp [Act.eval]) ?_; intro g1 c1 u1 hk6; have KX1 := Hd hk6; clear hk6; obtain ⟨hd10, he10, hy10, hd11, he11, hy11⟩ := KX1.out.fr.l2) | (go_simp; go_at_call 185; refine (HRU.out _ G11.out.fr.rd).mono ?_; rintro e y1 ⟨l3, x3, n3, k3, rfl, hT, hr, hs⟩; have KT1 := Hd (G11.out.callT (by simp) hT hr hs); clear hT hr hs; obtain ⟨hu10, hv10, hw10, hu11, hv11, hw11⟩ := KT1.out.fr.l2))
   all_goals
    clear hu10 hv10 hw10 hu11 hv11 hw11
    clear hc0 hf0 hz0 hc1 hf1 hz1
    have G12 := Hd (KX1.out.set0 hXl 10 (.slice (some ⟨g1, 0, none⟩) 3 c1) [.int .i64 13, .string ⟨#[]⟩, .int .u64 0, .int .i64 0, .bool false, .int .i64 0, .int .i64 0, .int .i64 0, .int .i64 0, .int .i64 ((ln ts s : Nat) : Int), .slice (some ⟨g1, 0, none⟩) 3 c1] rfl)
    have G13 := Hd (G12.out.tree (labK 13 (ln ts s)))
    go_wp2
    have G14 := Hd (G13.out.stoR hXl (List.Mem.tail _ (List.Mem.head _)) rfl (.int .i64 13) (.string ⟨#[]⟩) (.int .u64 0) (.int .i64 0) (.bool false) (.int .i64 0) (.int .i64 0) (.int .i64 0) (.int .i64 0) (.int .i64 ((ln ts s : Nat) : Int)) (.slice (some ⟨g1, 0, none⟩) 3 c1))
    refine bodyPost_ret (G14.out.b0.res1 Tryz.results185 Tryz.underlying27 rfl infoNd _ rfl) rfl ?_
    exact G14.out.outT (rfl)
  | false =>
   have HM : Hid (one (S ts (f + 1) .br s) = (.node (labK 13 (ln ts s)) [(xpr ts (adv s)).1, (one (S ts f .bk (xpr ts (adv s)).2)).1, (one (S ts f .bk (adv (one (S ts f .bk (xpr ts (adv s)).2)).2))).1], (one (S ts f .bk (adv (one (S ts f .bk (xpr ts (adv s)).2)).2))).2)) := Hd (S_br_el h1 h2)
   rw [HM.out]
   rw [h2] at hq1
   have HRU := Hd fun W (h : Rd W R g c ts (adv (one (S ts f .bk (xpr ts (adv s)).2)).2)) => H.bk _ W h (by omega)
   clear HM hR HL h1 h2 H hin hra hrx hrb hf hv hin2 hra2 HNM
   go_enter Tryz.func185, Tryz.ntmps185
   go_wp2_with fail
   refine (HN.out _ F0.out.rd).mono ?_
   rintro e v1 ⟨rfl, hb⟩
   have G1 := Hd (F0.out.quiet hXl hb)
   clear hb
   obtain ⟨hc0, hf0⟩ := G1.out.b0.all
   have hz0 := G1.out.b0.lt
   unfold ncz at hc0
   have hq10 := G1.out.b0.lt
   have G2 := Hd (G1.out.node hXl [.int .i64 13, .string ⟨#[]⟩, .int .u64 0, .int .i64 0, .bool false, .int .i64 0, .int .i64 0, .int .i64 0, .int .i64 0, .int .i64 ((ln ts s : Nat) : Int), .slice none 0 0])
   go_wp2_with fail
   refine (HE0.out _ G2.out.rd).mono ?_
   rintro e v2 ⟨rfl, hr, hs⟩
   clear hc0 hf0 hz0
   have G3 := Hd (G2.out.call hr hs)
   clear hr hs
   obtain ⟨hc0, hf0, hz0, hc1, hf1, hz1⟩ := G3.out.l2
   have G4 := Hd (G3.out.fb)
   go_wp2_with fail
   refine (HX.out _ _ G4.out.fr.rd).mono ?_
   rintro e v3 ⟨l1, x1, n1, k1, rfl, hT, hr, hs⟩
   clear hc0 hf0 hz0 hc1 hf1 hz1
   have G5 := Hd (G4.out.tree hT hr hs)
   clear hT hr hs
   obtain ⟨hc0, hf0, hz0, hc1, hf1, hz1⟩ := G5.out.fr.l2
   go_wp2_with fail
   refine (HBK.out _ G5.out.fr.rd).mono ?_
   rintro e v4 ⟨l2, x2, n2, k2, rfl, hT, hr, hs⟩
   clear hc0 hf0 hz0 hc1 hf1 hz1
   have G6 := Hd (G5.out.tree hT hr hs)
   clear hT hr hs
   obtain ⟨hc0, hf0, hz0, hc1, hf1, hz1⟩ := G6.out.fr.l2
   have G7 := Hd (G6.out.set0 hXl 10 (.slice (some ⟨v4.heap.size, 0, none⟩) 2 2) [.int .i64 13, .string ⟨#[]⟩, .int .u64 0, .int .i64 0, .bool false, .int .i64 0, .int .i64 0, .int .i64 0, .int .i64 0, .int .i64 ((ln ts s : Nat) : Int), .slice (some ⟨v4.heap.size, 0, none⟩) 2 2] rfl)
   have G8 := Hd (G7.out.two hXl (List.Mem.tail _ (List.Mem.head _)) (List.Mem.head _) [.int .i64 l1.kind, .string (str l1.name), .int .u64 l1.num, .int .i64 l1.wd, .bool l1.sg, .int .i64 l1.op, .int .i64 l1.fac, .int .i64 l1.pip, .int .i64 l1.unr, .int .i64 l1.line, .slice x1 n1 k1, .int .i64 l2.kind, .string (str l2.name), .int .u64 l2.num, .int .i64 l2.wd, .bool l2.sg, .int .i64 l2.op, .int .i64 l2.fac, .int .i64 l2.pip, .int .i64 l2.unr, .int .i64 l2.line, .slice x2 n2 k2] rfl v4.heap.size (by simp only [size_setCell]))
   go_wp2_with fail
   refine (HSK.out _ G8.out.fr.rd).mono ?_
   rintro e v5 ⟨rfl, hr, hs⟩
   have G9 := Hd (G8.out.call hr hs)
   clear hr hs hc0 hf0 hz0 hc1 hf1 hz1
   obtain ⟨hc0, hf0, hz0, hc1, hf1, hz1⟩ := G9.out.fr.l2
   go_wp2_with fail
   refine (HNX.out _ G9.out.fr.rd).mono ?_
   rintro e v6 ⟨rfl, hb⟩
   have G10 := Hd (G9.out.quiet hXl hb)
   clear hb hc0 hf0 hz0 hc1 hf1 hz1
   obtain ⟨hc0, hf0, hz0, hc1, hf1, hz1⟩ := G10.out.fr.l2
   go_wp2
   have G11 := Hd (G10.out.drew)
   go_region_law (first | (refine fk_append KT1.out hXl (by rfl) _ _ _ (by rfl) Tryz.underlying25 infoNd2 (by rfl) (by simp [Act.eval]) ?_; intro g1 c1 u1 hk6; have KX1 := Hd hk6; clear hk6; obtain ⟨hd10, he10, hy10, hd11, he11, hy11⟩ := KX1.out.fr.l2) | (go_simp; go_at_call 118; refine (HRU.out _ G11.out.fr.rd).mono ?_; rintro e y1 ⟨l3, x3, n3, k3, rfl, hT, hr, hs⟩; have KT1 := Hd (G11.out.callT (by simp) hT hr hs); clear hT hr hs; obtain ⟨hu10, hv10, hw10, hu11, hv11, hw11⟩ := KT1.out.fr.l2))
   all_goals
    clear hu10 hv10 hw10 hu11 hv11 hw11
    clear hc0 hf0 hz0 hc1 hf1 hz1
    have G12 := Hd (KX1.out.set0 hXl 10 (.slice (some ⟨g1, 0, none⟩) 3 c1) [.int .i64 13, .string ⟨#[]⟩, .int .u64 0, .int .i64 0, .bool false, .int .i64 0, .int .i64 0, .int .i64 0, .int .i64 0, .int .i64 ((ln ts s : Nat) : Int), .slice (some ⟨g1, 0, none⟩) 3 c1] rfl)
    have G13 := Hd (G12.out.tree (labK 13 (ln ts s)))
    go_wp2
    have G14 := Hd (G13.out.stoR hXl (List.Mem.tail _ (List.Mem.head _)) rfl (.int .i64 13) (.string ⟨#[]⟩) (.int .u64 0) (.int .i64 0) (.bool false) (.int .i64 0) (.int .i64 0) (.int .i64 0) (.int .i64 0) (.int .i64 ((ln ts s : Nat) : Int)) (.slice (some ⟨g1, 0, none⟩) 3 c1))
    refine bodyPost_ret (G14.out.b0.res1 Tryz.results185 Tryz.underlying27 rfl infoNd _ rfl) rfl ?_
    exact G14.out.outT (rfl)
end Go.Proofs.YthdbaligapdbeaaGreatDoor
/- The rule statement: contract. -/
namespace Go.Proofs.YthdbaligapdbeaaGreatDoor
open Go Go.RowKit
set_option linter.unusedVariables false
set_option linter.unusedSimpArgs false

set_option maxHeartbeats 2000000 in
set_option maxRecDepth 100000 in
theorem statement_step {ts : List Tok} {R g c : Nat} (X : Ctx ts R g c) (f : Nat) (H : SC ts R g c f) (HLP : ∀ s w, (hasT ts s [35] || hasT ts s [102, 111, 114] || hasT ts s [119, 104, 105, 108, 101]) = true → Rd w R g c ts s → 8 * rem ts s + 3 ≤ f → Calls Tryz.prog 186 #[.pointer (some ⟨R, 0, none⟩)] w (TP w R g c ts (one (S ts f .lp s)))) (s : Sg) (w : World) (hR : Rd w R g c ts s) (hf : 8 * rem ts s + 4 ≤ f + 1) : Calls Tryz.prog 158 #[.pointer (some ⟨R, 0, none⟩)] w (TP w R g c ts (one (S ts (f + 1) .st s))) := by
 have hXl := X.lt
 have F0 := Hd ((Fr.start hR).node hXl ncz)
 have HNX := Hd fun W (h : Rd W R g c ts s) => next_any X W h
 have hF := fldT (nxt ts s)
 have q0 : ((str (nxt ts s).text).toList == [118, 97, 114]) = hasT ts s [118, 97, 114] := by have := hasT_bytes ts s [118, 97, 114]; rw [str_toList [118, 97, 114]] at this; exact this
 have q1 : ((str (nxt ts s).text).toList == [108, 101, 116]) = hasT ts s [108, 101, 116] := by have := hasT_bytes ts s [108, 101, 116]; rw [str_toList [108, 101, 116]] at this; exact this
 have q2 : ((str (nxt ts s).text).toList == [105, 102]) = hasT ts s [105, 102] := by have := hasT_bytes ts s [105, 102]; rw [str_toList [105, 102]] at this; exact this
 have q3 : ((str (nxt ts s).text).toList == [35]) = hasT ts s [35] := by have := hasT_bytes ts s [35]; rw [str_toList [35]] at this; exact this
 have q4 : ((str (nxt ts s).text).toList == [102, 111, 114]) = hasT ts s [102, 111, 114] := by have := hasT_bytes ts s [102, 111, 114]; rw [str_toList [102, 111, 114]] at this; exact this
 have q5 : ((str (nxt ts s).text).toList == [119, 104, 105, 108, 101]) = hasT ts s [119, 104, 105, 108, 101] := by have := hasT_bytes ts s [119, 104, 105, 108, 101]; rw [str_toList [119, 104, 105, 108, 101]] at this; exact this
 have q6 : ((str (nxt ts s).text).toList == [115, 101, 110, 100]) = hasT ts s [115, 101, 110, 100] := by have := hasT_bytes ts s [115, 101, 110, 100]; rw [str_toList [115, 101, 110, 100]] at this; exact this
 have q7 : ((str (nxt ts s).text).toList == [114, 101, 116, 117, 114, 110]) = hasT ts s [114, 101, 116, 117, 114, 110] := by have := hasT_bytes ts s [114, 101, 116, 117, 114, 110]; rw [str_toList [114, 101, 116, 117, 114, 110]] at this; exact this
 cases g0 : hasT ts s [118, 97, 114] with
 | true =>
  have HM : Hid (one (S ts (f + 1) .st s) = declV ts s) := Hd (by unfold one; rw [S]; simp [g0])
  rw [HM.out]
  rw [g0] at q0
  have HRU := Hd (fun W (h : Rd W R g c ts s) => declV_any X s g0 (hasT_excl g0 (by decide)) W h)
  clear HM hR H HLP hf q1 q2 q3 q4 q5 q6 q7 g0
  go_enter Tryz.func158, Tryz.ntmps158
  go_wp2_with fail
  refine (HNX.out _ F0.out.rd).mono ?_
  rintro e v1 ⟨rfl, hb⟩
  have G1 := Hd (F0.out.quiet hXl hb)
  clear hb
  obtain ⟨hc0, hf0⟩ := G1.out.b0.all
  have hz0 := G1.out.b0.lt
  unfold ncz at hc0
  go_wp2_with fail
  refine (HRU.out _ G1.out.rd).mono ?_
  rintro e v2 ⟨l1, x1, n1, k1, rfl, hT, hr, hs⟩
  clear hc0 hf0 hz0
  have G2 := Hd (G1.out.tree hT hr hs)
  clear hT hr hs
  obtain ⟨hc0, hf0⟩ := G2.out.b0.all
  have hz0 := G2.out.b0.lt
  unfold ncz at hc0
  go_wp2
  have G3 := Hd (G2.out.stoR hXl (List.Mem.head _) rfl (.int .i64 l1.kind) (.string (str l1.name)) (.int .u64 l1.num) (.int .i64 l1.wd) (.bool l1.sg) (.int .i64 l1.op) (.int .i64 l1.fac) (.int .i64 l1.pip) (.int .i64 l1.unr) (.int .i64 l1.line) (.slice x1 n1 k1))
  refine bodyPost_ret (G3.out.b0.res1 Tryz.results158 Tryz.underlying27 rfl infoNd _ rfl) rfl ?_
  exact G3.out.outT (rfl)
 | false =>
  rw [g0] at q0
  cases g1 : hasT ts s [108, 101, 116] with
  | true =>
   have HM : Hid (one (S ts (f + 1) .st s) = declL ts s) := Hd (by unfold one; rw [S]; simp [g0, g1])
   rw [HM.out]
   rw [g1] at q1
   have HRU := Hd (fun W (h : Rd W R g c ts s) => declL_any X s g1 W h)
   clear HM hR H HLP hf q2 q3 q4 q5 q6 q7 g0 g1
   go_enter Tryz.func158, Tryz.ntmps158
   go_wp2_with fail
   refine (HNX.out _ F0.out.rd).mono ?_
   rintro e v1 ⟨rfl, hb⟩
   have G1 := Hd (F0.out.quiet hXl hb)
   clear hb
   obtain ⟨hc0, hf0⟩ := G1.out.b0.all
   have hz0 := G1.out.b0.lt
   unfold ncz at hc0
   go_wp2_with fail
   refine (HRU.out _ G1.out.rd).mono ?_
   rintro e v2 ⟨l1, x1, n1, k1, rfl, hT, hr, hs⟩
   clear hc0 hf0 hz0
   have G2 := Hd (G1.out.tree hT hr hs)
   clear hT hr hs
   obtain ⟨hc0, hf0⟩ := G2.out.b0.all
   have hz0 := G2.out.b0.lt
   unfold ncz at hc0
   go_wp2
   have G3 := Hd (G2.out.stoR hXl (List.Mem.head _) rfl (.int .i64 l1.kind) (.string (str l1.name)) (.int .u64 l1.num) (.int .i64 l1.wd) (.bool l1.sg) (.int .i64 l1.op) (.int .i64 l1.fac) (.int .i64 l1.pip) (.int .i64 l1.unr) (.int .i64 l1.line) (.slice x1 n1 k1))
   refine bodyPost_ret (G3.out.b0.res1 Tryz.results158 Tryz.underlying27 rfl infoNd _ rfl) rfl ?_
   exact G3.out.outT (rfl)
  | false =>
   rw [g1] at q1
   cases g2 : hasT ts s [105, 102] with
   | true =>
    have HM : Hid (one (S ts (f + 1) .st s) = one (S ts f .br s)) := Hd (by unfold one; rw [S]; simp [g0, g1, g2])
    rw [HM.out]
    rw [g2] at q2
    have HRU := Hd (fun W (h : Rd W R g c ts s) => H.br s W g2 h (by omega))
    clear HM hR H HLP hf q3 q4 q5 q6 q7 g0 g1 g2
    go_enter Tryz.func158, Tryz.ntmps158
    go_wp2_with fail
    refine (HNX.out _ F0.out.rd).mono ?_
    rintro e v1 ⟨rfl, hb⟩
    have G1 := Hd (F0.out.quiet hXl hb)
    clear hb
    obtain ⟨hc0, hf0⟩ := G1.out.b0.all
    have hz0 := G1.out.b0.lt
    unfold ncz at hc0
    go_wp2_with fail
    refine (HRU.out _ G1.out.rd).mono ?_
    rintro e v2 ⟨l1, x1, n1, k1, rfl, hT, hr, hs⟩
    clear hc0 hf0 hz0
    have G2 := Hd (G1.out.tree hT hr hs)
    clear hT hr hs
    obtain ⟨hc0, hf0⟩ := G2.out.b0.all
    have hz0 := G2.out.b0.lt
    unfold ncz at hc0
    go_wp2
    have G3 := Hd (G2.out.stoR hXl (List.Mem.head _) rfl (.int .i64 l1.kind) (.string (str l1.name)) (.int .u64 l1.num) (.int .i64 l1.wd) (.bool l1.sg) (.int .i64 l1.op) (.int .i64 l1.fac) (.int .i64 l1.pip) (.int .i64 l1.unr) (.int .i64 l1.line) (.slice x1 n1 k1))
    refine bodyPost_ret (G3.out.b0.res1 Tryz.results158 Tryz.underlying27 rfl infoNd _ rfl) rfl ?_
    exact G3.out.outT (rfl)
   | false =>
    rw [g2] at q2
    cases g3 : hasT ts s [35] with
    | true =>
     have HM : Hid (one (S ts (f + 1) .st s) = one (S ts f .lp s)) := Hd (by unfold one; rw [S]; simp [g0, g1, g2, g3])
     rw [HM.out]
     rw [g3] at q3
     have HRU := Hd (fun W (h : Rd W R g c ts s) => HLP s W (by simp [g3]) h (by omega))
     clear HM hR H HLP hf q4 q5 q6 q7 g0 g1 g2 g3
     go_enter Tryz.func158, Tryz.ntmps158
     go_wp2_with fail
     refine (HNX.out _ F0.out.rd).mono ?_
     rintro e v1 ⟨rfl, hb⟩
     have G1 := Hd (F0.out.quiet hXl hb)
     clear hb
     obtain ⟨hc0, hf0⟩ := G1.out.b0.all
     have hz0 := G1.out.b0.lt
     unfold ncz at hc0
     go_wp2_with fail
     refine (HRU.out _ G1.out.rd).mono ?_
     rintro e v2 ⟨l1, x1, n1, k1, rfl, hT, hr, hs⟩
     clear hc0 hf0 hz0
     have G2 := Hd (G1.out.tree hT hr hs)
     clear hT hr hs
     obtain ⟨hc0, hf0⟩ := G2.out.b0.all
     have hz0 := G2.out.b0.lt
     unfold ncz at hc0
     go_wp2
     have G3 := Hd (G2.out.stoR hXl (List.Mem.head _) rfl (.int .i64 l1.kind) (.string (str l1.name)) (.int .u64 l1.num) (.int .i64 l1.wd) (.bool l1.sg) (.int .i64 l1.op) (.int .i64 l1.fac) (.int .i64 l1.pip) (.int .i64 l1.unr) (.int .i64 l1.line) (.slice x1 n1 k1))
     refine bodyPost_ret (G3.out.b0.res1 Tryz.results158 Tryz.underlying27 rfl infoNd _ rfl) rfl ?_
     exact G3.out.outT (rfl)
    | false =>
     rw [g3] at q3
     cases g4 : hasT ts s [102, 111, 114] with
     | true =>
      have HM : Hid (one (S ts (f + 1) .st s) = one (S ts f .lp s)) := Hd (by unfold one; rw [S]; simp [g0, g1, g2, g3, g4])
      rw [HM.out]
      rw [g4] at q4
      have HRU := Hd (fun W (h : Rd W R g c ts s) => HLP s W (by simp [g4]) h (by omega))
      clear HM hR H HLP hf q5 q6 q7 g0 g1 g2 g3 g4
      go_enter Tryz.func158, Tryz.ntmps158
      go_wp2_with fail
      refine (HNX.out _ F0.out.rd).mono ?_
      rintro e v1 ⟨rfl, hb⟩
      have G1 := Hd (F0.out.quiet hXl hb)
      clear hb
      obtain ⟨hc0, hf0⟩ := G1.out.b0.all
      have hz0 := G1.out.b0.lt
      unfold ncz at hc0
      go_wp2_with fail
      refine (HRU.out _ G1.out.rd).mono ?_
      rintro e v2 ⟨l1, x1, n1, k1, rfl, hT, hr, hs⟩
      clear hc0 hf0 hz0
      have G2 := Hd (G1.out.tree hT hr hs)
      clear hT hr hs
      obtain ⟨hc0, hf0⟩ := G2.out.b0.all
      have hz0 := G2.out.b0.lt
      unfold ncz at hc0
      go_wp2
      have G3 := Hd (G2.out.stoR hXl (List.Mem.head _) rfl (.int .i64 l1.kind) (.string (str l1.name)) (.int .u64 l1.num) (.int .i64 l1.wd) (.bool l1.sg) (.int .i64 l1.op) (.int .i64 l1.fac) (.int .i64 l1.pip) (.int .i64 l1.unr) (.int .i64 l1.line) (.slice x1 n1 k1))
      refine bodyPost_ret (G3.out.b0.res1 Tryz.results158 Tryz.underlying27 rfl infoNd _ rfl) rfl ?_
      exact G3.out.outT (rfl)
     | false =>
      rw [g4] at q4
      cases g5 : hasT ts s [119, 104, 105, 108, 101] with
      | true =>
       have HM : Hid (one (S ts (f + 1) .st s) = one (S ts f .lp s)) := Hd (by unfold one; rw [S]; simp [g0, g1, g2, g3, g4, g5])
       rw [HM.out]
       rw [g5] at q5
       have HRU := Hd (fun W (h : Rd W R g c ts s) => HLP s W (by simp [g5]) h (by omega))
       clear HM hR H HLP hf q6 q7 g0 g1 g2 g3 g4 g5
       go_enter Tryz.func158, Tryz.ntmps158
       go_wp2_with fail
       refine (HNX.out _ F0.out.rd).mono ?_
       rintro e v1 ⟨rfl, hb⟩
       have G1 := Hd (F0.out.quiet hXl hb)
       clear hb
       obtain ⟨hc0, hf0⟩ := G1.out.b0.all
       have hz0 := G1.out.b0.lt
       unfold ncz at hc0
       go_wp2_with fail
       refine (HRU.out _ G1.out.rd).mono ?_
       rintro e v2 ⟨l1, x1, n1, k1, rfl, hT, hr, hs⟩
       clear hc0 hf0 hz0
       have G2 := Hd (G1.out.tree hT hr hs)
       clear hT hr hs
       obtain ⟨hc0, hf0⟩ := G2.out.b0.all
       have hz0 := G2.out.b0.lt
       unfold ncz at hc0
       go_wp2
       have G3 := Hd (G2.out.stoR hXl (List.Mem.head _) rfl (.int .i64 l1.kind) (.string (str l1.name)) (.int .u64 l1.num) (.int .i64 l1.wd) (.bool l1.sg) (.int .i64 l1.op) (.int .i64 l1.fac) (.int .i64 l1.pip) (.int .i64 l1.unr) (.int .i64 l1.line) (.slice x1 n1 k1))
       refine bodyPost_ret (G3.out.b0.res1 Tryz.results158 Tryz.underlying27 rfl infoNd _ rfl) rfl ?_
       exact G3.out.outT (rfl)
      | false =>
       rw [g5] at q5
       cases g6 : hasT ts s [115, 101, 110, 100] with
       | true =>
        have HM : Hid (one (S ts (f + 1) .st s) = sendM ts s) := Hd (by unfold one; rw [S]; simp [g0, g1, g2, g3, g4, g5, g6])
        rw [HM.out]
        rw [g6] at q6
        have HRU := Hd (fun W (h : Rd W R g c ts s) => send_any X s g6 W h)
        clear HM hR H HLP hf q7 g0 g1 g2 g3 g4 g5 g6
        go_enter Tryz.func158, Tryz.ntmps158
        go_wp2_with fail
        refine (HNX.out _ F0.out.rd).mono ?_
        rintro e v1 ⟨rfl, hb⟩
        have G1 := Hd (F0.out.quiet hXl hb)
        clear hb
        obtain ⟨hc0, hf0⟩ := G1.out.b0.all
        have hz0 := G1.out.b0.lt
        unfold ncz at hc0
        go_wp2_with fail
        refine (HRU.out _ G1.out.rd).mono ?_
        rintro e v2 ⟨l1, x1, n1, k1, rfl, hT, hr, hs⟩
        clear hc0 hf0 hz0
        have G2 := Hd (G1.out.tree hT hr hs)
        clear hT hr hs
        obtain ⟨hc0, hf0⟩ := G2.out.b0.all
        have hz0 := G2.out.b0.lt
        unfold ncz at hc0
        go_wp2
        have G3 := Hd (G2.out.stoR hXl (List.Mem.head _) rfl (.int .i64 l1.kind) (.string (str l1.name)) (.int .u64 l1.num) (.int .i64 l1.wd) (.bool l1.sg) (.int .i64 l1.op) (.int .i64 l1.fac) (.int .i64 l1.pip) (.int .i64 l1.unr) (.int .i64 l1.line) (.slice x1 n1 k1))
        refine bodyPost_ret (G3.out.b0.res1 Tryz.results158 Tryz.underlying27 rfl infoNd _ rfl) rfl ?_
        exact G3.out.outT (rfl)
       | false =>
        rw [g6] at q6
        cases g7 : hasT ts s [114, 101, 116, 117, 114, 110] with
        | true =>
         have HM : Hid (one (S ts (f + 1) .st s) = resM ts s) := Hd (by unfold one; rw [S]; simp [g0, g1, g2, g3, g4, g5, g6, g7])
         rw [HM.out]
         rw [g7] at q7
         have HRU := Hd (fun W (h : Rd W R g c ts s) => result_any X s g7 W h)
         clear HM hR H HLP hf  g0 g1 g2 g3 g4 g5 g6 g7
         go_enter Tryz.func158, Tryz.ntmps158
         go_wp2_with fail
         refine (HNX.out _ F0.out.rd).mono ?_
         rintro e v1 ⟨rfl, hb⟩
         have G1 := Hd (F0.out.quiet hXl hb)
         clear hb
         obtain ⟨hc0, hf0⟩ := G1.out.b0.all
         have hz0 := G1.out.b0.lt
         unfold ncz at hc0
         go_wp2_with fail
         refine (HRU.out _ G1.out.rd).mono ?_
         rintro e v2 ⟨l1, x1, n1, k1, rfl, hT, hr, hs⟩
         clear hc0 hf0 hz0
         have G2 := Hd (G1.out.tree hT hr hs)
         clear hT hr hs
         obtain ⟨hc0, hf0⟩ := G2.out.b0.all
         have hz0 := G2.out.b0.lt
         unfold ncz at hc0
         go_wp2
         have G3 := Hd (G2.out.stoR hXl (List.Mem.head _) rfl (.int .i64 l1.kind) (.string (str l1.name)) (.int .u64 l1.num) (.int .i64 l1.wd) (.bool l1.sg) (.int .i64 l1.op) (.int .i64 l1.fac) (.int .i64 l1.pip) (.int .i64 l1.unr) (.int .i64 l1.line) (.slice x1 n1 k1))
         refine bodyPost_ret (G3.out.b0.res1 Tryz.results158 Tryz.underlying27 rfl infoNd _ rfl) rfl ?_
         exact G3.out.outT (rfl)
        | false =>
         rw [g7] at q7
         have HM : Hid (one (S ts (f + 1) .st s) = change ts s) := Hd (by unfold one; rw [S]; simp [g0, g1, g2, g3, g4, g5, g6, g7])
         rw [HM.out]
         have HRU := Hd fun W (h : Rd W R g c ts s) => change_any X s W h
         clear HM hR H HLP hf g0 g1 g2 g3 g4 g5 g6 g7
         go_enter Tryz.func158, Tryz.ntmps158
         go_wp2_with fail
         refine (HNX.out _ F0.out.rd).mono ?_
         rintro e v1 ⟨rfl, hb⟩
         have G1 := Hd (F0.out.quiet hXl hb)
         clear hb
         obtain ⟨hc0, hf0⟩ := G1.out.b0.all
         have hz0 := G1.out.b0.lt
         unfold ncz at hc0
         go_wp2_with fail
         refine (HRU.out _ G1.out.rd).mono ?_
         rintro e v2 ⟨l1, x1, n1, k1, rfl, hT, hr, hs⟩
         clear hc0 hf0 hz0
         have G2 := Hd (G1.out.tree hT hr hs)
         clear hT hr hs
         obtain ⟨hc0, hf0⟩ := G2.out.b0.all
         have hz0 := G2.out.b0.lt
         unfold ncz at hc0
         go_wp2
         have G3 := Hd (G2.out.stoR hXl (List.Mem.head _) rfl (.int .i64 l1.kind) (.string (str l1.name)) (.int .u64 l1.num) (.int .i64 l1.wd) (.bool l1.sg) (.int .i64 l1.op) (.int .i64 l1.fac) (.int .i64 l1.pip) (.int .i64 l1.unr) (.int .i64 l1.line) (.slice x1 n1 k1))
         refine bodyPost_ret (G3.out.b0.res1 Tryz.results158 Tryz.underlying27 rfl infoNd _ rfl) rfl ?_
         exact G3.out.outT (rfl)
end Go.Proofs.YthdbaligapdbeaaGreatDoor
/- The rule block: contract. -/
namespace Go.Proofs.YthdbaligapdbeaaGreatDoor
open Go Go.RowKit
set_option linter.unusedVariables false
set_option linter.unusedSimpArgs false

def BkSt (ts : List Tok) (R g c : Nat) (w : World) (L0 L1 f base : Nat) (Z : List Tree × Sg) (L9 : Nat) (wr : World) (st : Sg) : Prop :=
  ∃ (x : Option Addr) (k F : Nat) (acc : List Tree), FK w wr R g c ts st [(L1, [.int .i64 8, .string ⟨#[]⟩, .int .u64 0, .int .i64 0, .bool false, .int .i64 0, .int .i64 0, .int .i64 0, .int .i64 0, .int .i64 (L9 : Int), .slice x acc.length k]), (L0, ncz)] base (.slice x acc.length k) acc ∧ Z = S ts (F + 1) (.bs acc) st ∧ 8 * rem ts st + 5 ≤ F + 1 ∧ F ≤ f ∧ acc.length + rem ts st ≤ ts.length
set_option maxHeartbeats 2000000 in
set_option maxRecDepth 100000 in
theorem block_step {ts : List Tok} {R g c : Nat} (X : Ctx ts R g c) (f : Nat) (H : ∀ f1, f1 ≤ f → SC ts R g c f1) (s : Sg) (w : World) (hR : Rd w R g c ts s) (hf : 8 * rem ts s + 6 ≤ f + 1) : Calls Tryz.prog 118 #[.pointer (some ⟨R, 0, none⟩)] w (TP w R g c ts (one (S ts (f + 1) .bk s))) := by
  have hXl := X.lt
  have F0 := Hd ((Fr.start hR).node hXl ncz)
  have HN := Hd fun W (h : Rd W R g c ts s) => node_any X 8 W h
  have HEO := Hd fun q W (h : Rd W R g c ts q) => expect_any X (s := q) [123] (by simp) W h
  have HEC := Hd fun q W (h : Rd W R g c ts q) => expect_any X (s := q) [125] (by simp) W h
  have HNX := Hd fun q W (h : Rd W R g c ts q) => next_any X (s := q) W h
  have HFT := Hd fun q W => fldT (nxt ts q) W
  have hrx := rem_on (exc_on (ts := ts) (s := s) (c := 123) (t := []))
  have hlen := X.len
  have HL : Hid (nc (labK 8 (ln ts s)) = [.int .i64 8, .string ⟨#[]⟩, .int .u64 0, .int .i64 0, .bool false, .int .i64 0, .int .i64 0, .int .i64 0, .int .i64 0, .int .i64 ((ln ts s : Nat) : Int), .slice none 0 0]) := Hd rfl
  rw [HL.out] at HN
  obtain ⟨f1, rfl⟩ : ∃ f1, f = f1 + 1 := ⟨f - 1, by omega⟩
  obtain ⟨Z, hZ⟩ : ∃ Z, Z = S ts (f1 + 1) (.bs []) (exc ts s [123]) := ⟨_, rfl⟩
  have HM : Hid (one (S ts (f1 + 1 + 1) .bk s) = (.node (labK 8 (ln ts s)) Z.1, exc ts Z.2 [125])) := Hd (by rw [hZ]; rfl)
  rw [HM.out]
  have HZ := Hd hZ
  have HIH := Hd H
  have hrl : rem ts (exc ts s [123]) ≤ ts.length := rem_le
  have hfu : 8 * rem ts (exc ts s [123]) + 5 ≤ f1 + 1 := by omega
  clear HM hR HL hZ hf H hrx
  generalize ln ts s = L9 at *
  go_enter Tryz.func118, Tryz.ntmps118
  go_wp2_with fail
  refine (HN.out _ F0.out.rd).mono ?_
  rintro e v1 ⟨rfl, hb⟩
  have G1 := Hd (F0.out.quiet hXl hb)
  clear hb
  obtain ⟨hc0, hf0⟩ := G1.out.b0.all
  have hz0 := G1.out.b0.lt
  unfold ncz at hc0
  have hq10 := G1.out.b0.lt
  have G2 := Hd (G1.out.node hXl [.int .i64 8, .string ⟨#[]⟩, .int .u64 0, .int .i64 0, .bool false, .int .i64 0, .int .i64 0, .int .i64 0, .int .i64 0, .int .i64 (L9 : Int), .slice none 0 0])
  go_wp2_with fail
  refine (HEO.out _ _ G2.out.rd).mono ?_
  rintro e v2 ⟨rfl, hr, hs⟩
  clear hc0 hf0 hz0
  have G3 := Hd (G2.out.call hr hs)
  clear hr hs
  obtain ⟨hc0, hf0, hz0, hc1, hf1, hz1⟩ := G3.out.l2
  have G4 := Hd (G3.out.fk)
  have h0 : Hid (BkSt ts R g c w w.heap.size v1.heap.size (f1 + 1) v2.heap.size Z L9 v2 (exc ts s [123])) := Hd ⟨none, 0, f1, [], G4.out, HZ.out, hfu, by omega, by simp; exact hrl⟩
  have hL01 : w.heap.size < v1.heap.size := hq10
  clear hfu HZ hrl HN
  go_wp2
  go_loopw [8] (fun _ wr => ∃ st, Hid (BkSt ts R g c w w.heap.size v1.heap.size (f1 + 1) v2.heap.size Z L9 wr st)) (fun _ wr => ts.length - atW wr R)
  case atStart => exact ⟨_, h0⟩
  case round =>
    obtain ⟨st, hT⟩ := hrel
    obtain ⟨xk, kk, F, acc, hFr, hZ, hfu2, hFf, hal⟩ := hT.out
    have J0 := Hd hFr
    have HZ2 := Hd hZ
    obtain ⟨c0, c1, c2, f1a, f2a⟩ := J0.out.fr.rd.cells
    have hzR := J0.out.fr.rd.lt
    have hatl := atOf_le (ts := ts) J0.out.fr.rd.hi
    have hm0 := atW_rd J0.out.fr.rd
    clear hFr hZ hT h0 c2 f1a f2a
    by_cases hat : atOf ts st < ts.length
    · have hst : st.bad = false ∧ st.i < ts.length := by
        unfold atOf at hat
        cases hb : st.bad with
        | true => rw [hb] at hat; simp at hat
        | false => rw [hb] at hat; exact ⟨rfl, by simpa using hat⟩
      have qa : (atOf ts st : Int) < (ts.length : Int) := by omega
      have hq1 : ((str (nxt ts st).text).toList == [125]) = hasT ts st [125] := by have := hasT_bytes ts st [125]; rw [str_toList [125]] at this; exact this
      have hF := HFT.out st
      cases hc : hasT ts st [125] with
      | false =>
        rw [hc] at hq1
        have hq2 : ((str (nxt ts st).text).toList != [125]) = true := by simp only [bne, hq1]; rfl
        obtain ⟨F2, rfl⟩ : ∃ F2, F = F2 + 2 := ⟨F - 2, by have := rem_adv hst; omega⟩
        have HZ3 : Hid (Z = S ts (F2 + 2) (.bs (acc ++ [(one (S ts (F2 + 2) .st st)).1])) (one (S ts (F2 + 2) .st st)).2) := Hd (HZ2.out.trans (S_bs_more ⟨hst.1, hst.2, hc⟩))
        have hpr : rem ts (one (S ts (F2 + 2) .st st)).2 + 1 ≤ rem ts st := st_prog hst
        have HON : Hid (On ts st (one (S ts (F2 + 2) .st st)).2) := Hd (S_on ts (F2 + 2) .st st trivial)
        have HST := Hd fun W (h : Rd W R g c ts st) => (HIH.out (F2 + 2) hFf).st st W hst h (by omega)
        have HHIN := Hd hst
        have hfew : acc.length ≤ 99999 := by omega
        have hmm : Hid (atW wr R = atOf ts st) := Hd hm0
        have HAT := Hd hat
        clear HZ2 hst hc hm0 hat
        have hne : 0 < ts.length := by have := HAT.out; omega
        go_wp2
        have G31 := Hd (J0.out.drew)
        go_region_with (go_at_call 78; refine (HNX.out st _ G31.out.fr.rd).mono ?_; rintro e v5 ⟨rfl, hb⟩; have G40 := Hd (G31.out.quiet hXl hb); clear hb)
        all_goals
          clear c0 c1 hzR qa
          obtain ⟨hc0, hf0, hz0, hc1, hf1, hz1⟩ := G40.out.fr.l2
          go_wp2
          have G41 := Hd (G40.out.drew)
          go_region_law (first | (refine fk_append KT1.out hXl (by rfl) _ _ _ (by rfl) Tryz.underlying25 infoNd2 (by rfl) (by simp [Act.eval]) ?_; intro g1 c1 u1 hk6; have KX1 := Hd hk6; clear hk6; obtain ⟨hd10, he10, hy10, hd11, he11, hy11⟩ := KX1.out.fr.l2) | (go_simp; go_at_call 158; refine (HST.out _ G41.out.fr.rd).mono ?_; rintro e y1 ⟨l3, x3, n3, k3, rfl, hT, hr, hs⟩; have KT1 := Hd (G41.out.callT hfew hT hr hs); clear hT hr hs; obtain ⟨hu10, hv10, hw10, hu11, hv11, hw11⟩ := KT1.out.fr.l2))
          all_goals
            clear hu10 hv10 hw10 hu11 hv11 hw11
            clear hc0 hf0 hz0 hc1 hf1 hz1
            have G42 := Hd (KX1.out.s10 hXl (.slice (some ⟨g1, 0, none⟩) (acc.length + 1) c1))
            have JE := Hd G42.out
            have hm1 := atW_rd JE.out.fr.rd
            have hma := atOf_adv2 HHIN.out HON.out hpr JE.out.fr.rd.hi
            have hal2 : (acc ++ [(one (S ts (F2 + 2) .st st)).1]).length = acc.length + 1 := by simp
            have HN2 : Hid (BkSt ts R g c w w.heap.size v1.heap.size (f1 + 1) v2.heap.size Z L9 _ (one (S ts (F2 + 2) .st st)).2) := Hd ⟨some ⟨g1, 0, none⟩, c1, F2 + 1, _, (by rw [hal2]; exact JE.out), HZ3.out, by omega, by omega, by rw [hal2]; omega⟩
            have HM1 := Hd hm1
            have HM : Hid (ts.length - atOf ts (one (S ts (F2 + 2) .st st)).2 < ts.length - atOf ts st) := Hd (by omega)
            clear hm1 hma hal2
            go_wp2
            go_roundw
            case rel => exact ⟨_, HN2⟩
            case measure => (rw [hmm.out]; refine Nat.lt_of_le_of_lt (Nat.le_of_eq ?_) HM.out; exact congrArg (ts.length - ·) HM1.out)
      | true =>
        rw [hc] at hq1
        have hq2 : ((str (nxt ts st).text).toList != [125]) = false := by simp only [bne, hq1]; rfl
        have HZ3 : Hid (Z = (acc, st)) := Hd (HZ2.out.trans (S_bs_end (by rw [hc]; simp)))
        have hmm : Hid (atW wr R = atOf ts st) := Hd hm0
        have HAT := Hd hat
        clear HZ2 hst hc hm0 hat
        have hne : 0 < ts.length := by have := HAT.out; omega
        go_wp2
        have G31 := Hd (J0.out.drew)
        go_region_with (go_at_call 78; refine (HNX.out st _ G31.out.fr.rd).mono ?_; rintro e v5 ⟨rfl, hb⟩; have G40 := Hd (G31.out.quiet hXl hb); clear hb)
        all_goals
          clear c0 c1 hzR qa
          obtain ⟨hc0, hf0, hz0, hc1, hf1, hz1⟩ := G40.out.fr.l2
          have hzz := HZ3.out
          subst hzz
          go_wp2_with fail
          refine (HEC.out _ _ G40.out.fr.rd).mono ?_
          rintro e v6 ⟨rfl, hr, hs⟩
          have G41 := Hd (G40.out.call hr hs)
          clear hr hs hc0 hf0 hz0 hc1 hf1 hz1
          obtain ⟨hc0, hf0, hz0, hc1, hf1, hz1⟩ := G41.out.fr.l2
          have G42 := Hd (G41.out.tree (labK 8 L9))
          go_wp2
          have G43 := Hd (G42.out.stoR hXl (List.Mem.tail _ (List.Mem.head _)) rfl (.int .i64 8) (.string ⟨#[]⟩) (.int .u64 0) (.int .i64 0) (.bool false) (.int .i64 0) (.int .i64 0) (.int .i64 0) (.int .i64 0) (.int .i64 (L9 : Int)) (.slice xk acc.length kk))
          refine bodyPost_ret (G43.out.b0.res1 Tryz.results118 Tryz.underlying27 rfl infoNd _ rfl) rfl ?_
          exact G43.out.outT (rfl)
    · have HZ3 : Hid (Z = (acc, st)) := Hd (HZ2.out.trans (S_bs_end (by
          unfold atOf at hat
          intro hh
          rw [hh.1] at hat
          exact hat (by simpa using hh.2.1))))
      have qa : decide ((atOf ts st : Int) < (ts.length : Int)) = false := by simp; omega
      have qb : decide (atOf ts st < ts.length) = false := by simp; omega
      clear HZ2 hat hm0
      go_wp2
      go_quiet (fail)
      have G51 := Hd (J0.out.drewN nq)
      have hzz := HZ3.out
      subst hzz
      go_wp2_with fail
      refine (HEC.out _ _ G51.out.fr.rd).mono ?_
      rintro e v5 ⟨rfl, hr, hs⟩
      have G52 := Hd (G51.out.call hr hs)
      clear hr hs
      obtain ⟨hc0, hf0, hz0, hc1, hf1, hz1⟩ := G52.out.fr.l2
      have G53 := Hd (G52.out.tree (labK 8 L9))
      go_wp2
      have G54 := Hd (G53.out.stoR hXl (List.Mem.tail _ (List.Mem.head _)) rfl (.int .i64 8) (.string ⟨#[]⟩) (.int .u64 0) (.int .i64 0) (.bool false) (.int .i64 0) (.int .i64 0) (.int .i64 0) (.int .i64 0) (.int .i64 (L9 : Int)) (.slice xk acc.length kk))
      refine bodyPost_ret (G54.out.b0.res1 Tryz.results118 Tryz.underlying27 rfl infoNd _ rfl) rfl ?_
      exact G54.out.outT (rfl)
end Go.Proofs.YthdbaligapdbeaaGreatDoor
