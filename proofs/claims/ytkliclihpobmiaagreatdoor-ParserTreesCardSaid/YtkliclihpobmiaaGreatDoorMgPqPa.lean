/- The reference's rule param: contracts. -/
import Derived.Test.YtkliclihpobmiaaGreatDoorMgPqBi
import Derived.Test.YtkliclihpobmiaaGreatDoorMgPqLv
namespace Go.Proofs.YtkliclihpobmiaaGreatDoor
namespace Q
open Go Go.RowKit
set_option linter.unusedVariables false
set_option linter.unusedSimpArgs false

theorem nuV_le (ts : List Tok) (s : Sg) (k : Nat) : nuV ts s k ≤ 1048576 := by
 unfold nuV
 split
 ·rename_i ho; unfold okN at ho; simp at ho; omega
 ·omega
set_option maxHeartbeats 2000000 in
set_option maxRecDepth 100000 in
theorem scal_any {ts : List Tok} {R g c : Nat} (X : QC ts R g c) (s : Sg) (w : World) (hR : Rd w R g c ts s) : Calls Tryz.prog 108 #[.pointer (some ⟨R, 0, none⟩), .int .i64 2] w (TP w R g c ts (scalQ ts s)) := by
 have hXl := X.x.lt
 have F0 := Hd ((Fr.start hR).node hXl ncz)
 have HLN := Hd fun W (h : Rd W R g c ts s) => line_any X.x W h
 have HNM := Hd fun W (h : Rd W R g c ts s) => name_any X.x W h
 have HTY := Hd fun q W (h : Rd W R g c ts q) => typ_any X (s := q) W h
 have HTK := Hd fun t (ht : t ≠ []) q W (h : Rd W R g c ts q) => take_any X.x (s := q) t ht W h
 have HNU := Hd fun q W (h : Rd W R g c ts q) => numb_any X.x (s := q) 0 (by omega) W h
 have HEL := Hd fun q W (h : Rd W R g c ts q) => need_any X.x (s := q) [58] (by simp) W h
 have HEB := Hd fun q W (h : Rd W R g c ts q) => need_any X.x (s := q) [93] (by simp) W h
 unfold skp at HTK
 have HM : Hid (scalQ ts s = (.node { labK 4 (lnR ts s) with name := nmV ts s, wd := (tyV' ts (exc ts (nmS ts s) [58])).1, sg := (tyV' ts (exc ts (nmS ts s) [58])).2 } [], tyS ts (exc ts (nmS ts s) [58]))) := Hd rfl
 rw [HM.out]
 clear HM hR HTK HNU HEB
 go_enter Tryz.func108, Tryz.ntmps108
 go_wp2_with fail
 refine (HLN.out _ F0.out.rd).mono ?_
 rintro e v1 ⟨rfl, hb⟩
 have G1 := Hd (F0.out.quiet hXl hb)
 clear hb
 obtain ⟨hc0, hf0⟩ := G1.out.b0.all
 have hz0 := G1.out.b0.lt
 unfold ncz at hc0
 have hq10 := G1.out.b0.lt
 have G2 := Hd (G1.out.node hXl [.int .i64 4, .string ⟨#[]⟩, .int .u64 0, .int .i64 0, .bool false, .int .i64 0, .int .i64 0, .int .i64 0, .int .i64 0, .int .i64 ((lnR ts s : Nat) : Int), .slice none 0 0])
 go_wp2_with fail
 refine (HNM.out _ G2.out.rd).mono ?_
 rintro e v2 ⟨rfl, hr, hs⟩
 clear hc0 hf0 hz0
 have G3 := Hd (G2.out.call hr hs)
 clear hr hs
 obtain ⟨hc0, hf0, hz0, hc1, hf1, hz1⟩ := G3.out.l2
 have G4 := Hd (G3.out.s1 hXl (.string (str (nmV ts s))))
 go_wp2_with fail
 refine (HEL.out _ _ G4.out.rd).mono ?_
 rintro e v3 ⟨rfl, hr, hs⟩
 have G5 := Hd (G4.out.call hr hs)
 clear hr hs hc0 hf0 hz0 hc1 hf1 hz1
 obtain ⟨hc0, hf0, hz0, hc1, hf1, hz1⟩ := G5.out.l2
 go_wp2_with fail
 refine (HTY.out _ _ G5.out.rd).mono ?_
 rintro e v4 ⟨rfl, hr, hs⟩
 have G6 := Hd (G5.out.call hr hs)
 clear hr hs hc0 hf0 hz0 hc1 hf1 hz1
 obtain ⟨hc0, hf0, hz0, hc1, hf1, hz1⟩ := G6.out.l2
 have G7 := Hd (G6.out.s3 hXl (.int .i64 ((tyV' ts (exc ts (nmS ts s) [58])).1 : Int)))
 have G8 := Hd (G7.out.s4 hXl (.bool (tyV' ts (exc ts (nmS ts s) [58])).2))
 have G9 := Hd (G8.out.leaf { labK 4 (lnR ts s) with name := nmV ts s, wd := (tyV' ts (exc ts (nmS ts s) [58])).1, sg := (tyV' ts (exc ts (nmS ts s) [58])).2 })
 go_wp2
 have G10 := Hd (G9.out.stoR hXl (List.Mem.tail _ (List.Mem.head _)) rfl (.int .i64 4) (.string (str (nmV ts s))) (.int .u64 0) (.int .i64 ((tyV' ts (exc ts (nmS ts s) [58])).1 : Int)) (.bool (tyV' ts (exc ts (nmS ts s) [58])).2) (.int .i64 0) (.int .i64 0) (.int .i64 0) (.int .i64 0) (.int .i64 ((lnR ts s : Nat) : Int)) (.slice none 0 0))
 refine bodyPost_ret (G10.out.b0.res1 Tryz.results108 Tryz.underlying28 rfl infoNd _ rfl) rfl ?_
 exact G10.out.outT (rfl)

set_option maxHeartbeats 2000000 in
set_option maxRecDepth 100000 in
theorem prm_any {ts : List Tok} {R g c : Nat} (X : QC ts R g c) (s : Sg) (w : World) (hR : Rd w R g c ts s) : Calls Tryz.prog 108 #[.pointer (some ⟨R, 0, none⟩), .int .i64 3] w (TP w R g c ts (prmQ ts s)) := by
 have hXl := X.x.lt
 have F0 := Hd ((Fr.start hR).node hXl ncz)
 have HLN := Hd fun W (h : Rd W R g c ts s) => line_any X.x W h
 have HNM := Hd fun W (h : Rd W R g c ts s) => name_any X.x W h
 have HTY := Hd fun q W (h : Rd W R g c ts q) => typ_any X (s := q) W h
 have HTK := Hd fun t (ht : t ≠ []) q W (h : Rd W R g c ts q) => take_any X.x (s := q) t ht W h
 have HNU := Hd fun q W (h : Rd W R g c ts q) => numb_any X.x (s := q) 0 (by omega) W h
 have HEL := Hd fun q W (h : Rd W R g c ts q) => need_any X.x (s := q) [58] (by simp) W h
 have HEB := Hd fun q W (h : Rd W R g c ts q) => need_any X.x (s := q) [93] (by simp) W h
 unfold skp at HTK
 have HTI := Hd fun W (h : Rd W R g c ts (exc ts (nmS ts s) [58])) => HTK.out [105, 110] (by simp) (exc ts (nmS ts s) [58]) W h
 have HTO := Hd fun W (h : Rd W R g c ts (exc ts (nmS ts s) [58])) => HTK.out [111, 117, 116] (by simp) (exc ts (nmS ts s) [58]) W h
 cases b1 : hasT ts (exc ts (nmS ts s) [58]) [105, 110] with
 | true =>
  rw [b1] at HTI
  have hpk : prmK ts (exc ts (nmS ts s) [58]) = 6 := by unfold prmK; rw [b1]; rfl
  have hps : prmS ts (exc ts (nmS ts s) [58]) = adv (exc ts (nmS ts s) [58]) := by unfold prmS; rw [b1]; rfl
  clear b1 HTO
  have HM : Hid (prmQ ts s = (.node { labK 6 (lnR ts s) with name := nmV ts s, wd := (tyV' ts (adv (exc ts (nmS ts s) [58]))).1, sg := (tyV' ts (adv (exc ts (nmS ts s) [58]))).2 } [], tyS ts (adv (exc ts (nmS ts s) [58])))) := Hd (by unfold prmQ; simp only [hpk, hps]; rfl)
  rw [HM.out]
  clear HM hpk hps hR HTK HNU HEB
  go_enter Tryz.func108, Tryz.ntmps108
  go_wp2_with fail
  refine (HLN.out _ F0.out.rd).mono ?_
  rintro e v1 ⟨rfl, hb⟩
  have G1 := Hd (F0.out.quiet hXl hb)
  clear hb
  obtain ⟨hc0, hf0⟩ := G1.out.b0.all
  have hz0 := G1.out.b0.lt
  unfold ncz at hc0
  have hq10 := G1.out.b0.lt
  have G2 := Hd (G1.out.node hXl [.int .i64 4, .string ⟨#[]⟩, .int .u64 0, .int .i64 0, .bool false, .int .i64 0, .int .i64 0, .int .i64 0, .int .i64 0, .int .i64 ((lnR ts s : Nat) : Int), .slice none 0 0])
  go_wp2_with fail
  refine (HNM.out _ G2.out.rd).mono ?_
  rintro e v2 ⟨rfl, hr, hs⟩
  clear hc0 hf0 hz0
  have G3 := Hd (G2.out.call hr hs)
  clear hr hs
  obtain ⟨hc0, hf0, hz0, hc1, hf1, hz1⟩ := G3.out.l2
  have G4 := Hd (G3.out.s1 hXl (.string (str (nmV ts s))))
  go_wp2_with fail
  refine (HEL.out _ _ G4.out.rd).mono ?_
  rintro e v3 ⟨rfl, hr, hs⟩
  have G5 := Hd (G4.out.call hr hs)
  clear hr hs hc0 hf0 hz0 hc1 hf1 hz1
  obtain ⟨hc0, hf0, hz0, hc1, hf1, hz1⟩ := G5.out.l2
  go_wp2_with fail
  refine (HTI.out _ G5.out.rd).mono ?_
  rintro e v4 ⟨rfl, hr, hs⟩
  have G6 := Hd (G5.out.call hr hs)
  clear hr hs hc0 hf0 hz0 hc1 hf1 hz1
  obtain ⟨hc0, hf0, hz0, hc1, hf1, hz1⟩ := G6.out.l2
  have G7 := Hd (G6.out.s0 hXl (.int .i64 6))
  go_wp2_with fail
  refine (HTY.out _ _ G7.out.rd).mono ?_
  rintro e v5 ⟨rfl, hr, hs⟩
  have G8 := Hd (G7.out.call hr hs)
  clear hr hs hc0 hf0 hz0 hc1 hf1 hz1
  obtain ⟨hc0, hf0, hz0, hc1, hf1, hz1⟩ := G8.out.l2
  have G9 := Hd (G8.out.s3 hXl (.int .i64 ((tyV' ts (adv (exc ts (nmS ts s) [58]))).1 : Int)))
  have G10 := Hd (G9.out.s4 hXl (.bool (tyV' ts (adv (exc ts (nmS ts s) [58]))).2))
  have G11 := Hd (G10.out.leaf { labK 6 (lnR ts s) with name := nmV ts s, wd := (tyV' ts (adv (exc ts (nmS ts s) [58]))).1, sg := (tyV' ts (adv (exc ts (nmS ts s) [58]))).2 })
  go_wp2
  have G12 := Hd (G11.out.stoR hXl (List.Mem.tail _ (List.Mem.head _)) rfl (.int .i64 6) (.string (str (nmV ts s))) (.int .u64 0) (.int .i64 ((tyV' ts (adv (exc ts (nmS ts s) [58]))).1 : Int)) (.bool (tyV' ts (adv (exc ts (nmS ts s) [58]))).2) (.int .i64 0) (.int .i64 0) (.int .i64 0) (.int .i64 0) (.int .i64 ((lnR ts s : Nat) : Int)) (.slice none 0 0))
  refine bodyPost_ret (G12.out.b0.res1 Tryz.results108 Tryz.underlying28 rfl infoNd _ rfl) rfl ?_
  exact G12.out.outT (rfl)
 | false =>
  rw [b1] at HTI
  cases b2 : hasT ts (exc ts (nmS ts s) [58]) [111, 117, 116] with
  | true =>
   rw [b2] at HTO
   have hpk : prmK ts (exc ts (nmS ts s) [58]) = 7 := by unfold prmK; rw [b1, b2]; rfl
   have hps : prmS ts (exc ts (nmS ts s) [58]) = adv (exc ts (nmS ts s) [58]) := by unfold prmS; rw [b1, b2]; rfl
   clear b1 b2
   have HM : Hid (prmQ ts s = (.node { labK 7 (lnR ts s) with name := nmV ts s, wd := (tyV' ts (adv (exc ts (nmS ts s) [58]))).1, sg := (tyV' ts (adv (exc ts (nmS ts s) [58]))).2 } [], tyS ts (adv (exc ts (nmS ts s) [58])))) := Hd (by unfold prmQ; simp only [hpk, hps]; rfl)
   rw [HM.out]
   clear HM hpk hps hR HTK HNU HEB
   go_enter Tryz.func108, Tryz.ntmps108
   go_wp2_with fail
   refine (HLN.out _ F0.out.rd).mono ?_
   rintro e v1 ⟨rfl, hb⟩
   have G1 := Hd (F0.out.quiet hXl hb)
   clear hb
   obtain ⟨hc0, hf0⟩ := G1.out.b0.all
   have hz0 := G1.out.b0.lt
   unfold ncz at hc0
   have hq10 := G1.out.b0.lt
   have G2 := Hd (G1.out.node hXl [.int .i64 4, .string ⟨#[]⟩, .int .u64 0, .int .i64 0, .bool false, .int .i64 0, .int .i64 0, .int .i64 0, .int .i64 0, .int .i64 ((lnR ts s : Nat) : Int), .slice none 0 0])
   go_wp2_with fail
   refine (HNM.out _ G2.out.rd).mono ?_
   rintro e v2 ⟨rfl, hr, hs⟩
   clear hc0 hf0 hz0
   have G3 := Hd (G2.out.call hr hs)
   clear hr hs
   obtain ⟨hc0, hf0, hz0, hc1, hf1, hz1⟩ := G3.out.l2
   have G4 := Hd (G3.out.s1 hXl (.string (str (nmV ts s))))
   go_wp2_with fail
   refine (HEL.out _ _ G4.out.rd).mono ?_
   rintro e v3 ⟨rfl, hr, hs⟩
   have G5 := Hd (G4.out.call hr hs)
   clear hr hs hc0 hf0 hz0 hc1 hf1 hz1
   obtain ⟨hc0, hf0, hz0, hc1, hf1, hz1⟩ := G5.out.l2
   go_wp2_with fail
   refine (HTI.out _ G5.out.rd).mono ?_
   rintro e v4 ⟨rfl, hr, hs⟩
   have G6 := Hd (G5.out.call hr hs)
   clear hr hs hc0 hf0 hz0 hc1 hf1 hz1
   obtain ⟨hc0, hf0, hz0, hc1, hf1, hz1⟩ := G6.out.l2
   go_wp2_with fail
   refine (HTO.out _ G6.out.rd).mono ?_
   rintro e v5 ⟨rfl, hr, hs⟩
   have G7 := Hd (G6.out.call hr hs)
   clear hr hs hc0 hf0 hz0 hc1 hf1 hz1
   obtain ⟨hc0, hf0, hz0, hc1, hf1, hz1⟩ := G7.out.l2
   have G8 := Hd (G7.out.s0 hXl (.int .i64 7))
   go_wp2_with fail
   refine (HTY.out _ _ G8.out.rd).mono ?_
   rintro e v6 ⟨rfl, hr, hs⟩
   have G9 := Hd (G8.out.call hr hs)
   clear hr hs hc0 hf0 hz0 hc1 hf1 hz1
   obtain ⟨hc0, hf0, hz0, hc1, hf1, hz1⟩ := G9.out.l2
   have G10 := Hd (G9.out.s3 hXl (.int .i64 ((tyV' ts (adv (exc ts (nmS ts s) [58]))).1 : Int)))
   have G11 := Hd (G10.out.s4 hXl (.bool (tyV' ts (adv (exc ts (nmS ts s) [58]))).2))
   have G12 := Hd (G11.out.leaf { labK 7 (lnR ts s) with name := nmV ts s, wd := (tyV' ts (adv (exc ts (nmS ts s) [58]))).1, sg := (tyV' ts (adv (exc ts (nmS ts s) [58]))).2 })
   go_wp2
   have G13 := Hd (G12.out.stoR hXl (List.Mem.tail _ (List.Mem.head _)) rfl (.int .i64 7) (.string (str (nmV ts s))) (.int .u64 0) (.int .i64 ((tyV' ts (adv (exc ts (nmS ts s) [58]))).1 : Int)) (.bool (tyV' ts (adv (exc ts (nmS ts s) [58]))).2) (.int .i64 0) (.int .i64 0) (.int .i64 0) (.int .i64 0) (.int .i64 ((lnR ts s : Nat) : Int)) (.slice none 0 0))
   refine bodyPost_ret (G13.out.b0.res1 Tryz.results108 Tryz.underlying28 rfl infoNd _ rfl) rfl ?_
   exact G13.out.outT (rfl)
  | false =>
   rw [b2] at HTO
   have hpk : prmK ts (exc ts (nmS ts s) [58]) = 4 := by unfold prmK; rw [b1, b2]; rfl
   have hps : prmS ts (exc ts (nmS ts s) [58]) = (exc ts (nmS ts s) [58]) := by unfold prmS; rw [b1, b2]; rfl
   clear b1 b2
   have HT3 := Hd fun W (h : Rd W R g c ts (tyS ts (exc ts (nmS ts s) [58]))) => HTK.out [91] (by simp) (tyS ts (exc ts (nmS ts s) [58])) W h
   cases b3 : hasT ts (tyS ts (exc ts (nmS ts s) [58])) [91] with
   | false =>
    have HM : Hid (prmQ ts s = (.node { labK 4 (lnR ts s) with name := nmV ts s, wd := (tyV' ts (exc ts (nmS ts s) [58])).1, sg := (tyV' ts (exc ts (nmS ts s) [58])).2 } [], (tyS ts (exc ts (nmS ts s) [58])))) := Hd (by unfold prmQ; simp only [hpk, hps, b3]; rfl)
    rw [HM.out]
    rw [b3] at HT3
    clear HM hpk hps hR HTK HNU HEB b3
    go_enter Tryz.func108, Tryz.ntmps108
    go_wp2_with fail
    refine (HLN.out _ F0.out.rd).mono ?_
    rintro e v1 ⟨rfl, hb⟩
    have G1 := Hd (F0.out.quiet hXl hb)
    clear hb
    obtain ⟨hc0, hf0⟩ := G1.out.b0.all
    have hz0 := G1.out.b0.lt
    unfold ncz at hc0
    have hq10 := G1.out.b0.lt
    have G2 := Hd (G1.out.node hXl [.int .i64 4, .string ⟨#[]⟩, .int .u64 0, .int .i64 0, .bool false, .int .i64 0, .int .i64 0, .int .i64 0, .int .i64 0, .int .i64 ((lnR ts s : Nat) : Int), .slice none 0 0])
    go_wp2_with fail
    refine (HNM.out _ G2.out.rd).mono ?_
    rintro e v2 ⟨rfl, hr, hs⟩
    clear hc0 hf0 hz0
    have G3 := Hd (G2.out.call hr hs)
    clear hr hs
    obtain ⟨hc0, hf0, hz0, hc1, hf1, hz1⟩ := G3.out.l2
    have G4 := Hd (G3.out.s1 hXl (.string (str (nmV ts s))))
    go_wp2_with fail
    refine (HEL.out _ _ G4.out.rd).mono ?_
    rintro e v3 ⟨rfl, hr, hs⟩
    have G5 := Hd (G4.out.call hr hs)
    clear hr hs hc0 hf0 hz0 hc1 hf1 hz1
    obtain ⟨hc0, hf0, hz0, hc1, hf1, hz1⟩ := G5.out.l2
    go_wp2_with fail
    refine (HTI.out _ G5.out.rd).mono ?_
    rintro e v4 ⟨rfl, hr, hs⟩
    have G6 := Hd (G5.out.call hr hs)
    clear hr hs hc0 hf0 hz0 hc1 hf1 hz1
    obtain ⟨hc0, hf0, hz0, hc1, hf1, hz1⟩ := G6.out.l2
    go_wp2_with fail
    refine (HTO.out _ G6.out.rd).mono ?_
    rintro e v5 ⟨rfl, hr, hs⟩
    have G7 := Hd (G6.out.call hr hs)
    clear hr hs hc0 hf0 hz0 hc1 hf1 hz1
    obtain ⟨hc0, hf0, hz0, hc1, hf1, hz1⟩ := G7.out.l2
    go_wp2_with fail
    refine (HTY.out _ _ G7.out.rd).mono ?_
    rintro e v6 ⟨rfl, hr, hs⟩
    have G8 := Hd (G7.out.call hr hs)
    clear hr hs hc0 hf0 hz0 hc1 hf1 hz1
    obtain ⟨hc0, hf0, hz0, hc1, hf1, hz1⟩ := G8.out.l2
    have G9 := Hd (G8.out.s3 hXl (.int .i64 ((tyV' ts (exc ts (nmS ts s) [58])).1 : Int)))
    have G10 := Hd (G9.out.s4 hXl (.bool (tyV' ts (exc ts (nmS ts s) [58])).2))
    go_wp2_with fail
    refine (HT3.out _ G10.out.rd).mono ?_
    rintro e v7 ⟨rfl, hr, hs⟩
    have G11 := Hd (G10.out.call hr hs)
    clear hr hs hc0 hf0 hz0 hc1 hf1 hz1
    obtain ⟨hc0, hf0, hz0, hc1, hf1, hz1⟩ := G11.out.l2
    have G12 := Hd (G11.out.leaf { labK 4 (lnR ts s) with name := nmV ts s, wd := (tyV' ts (exc ts (nmS ts s) [58])).1, sg := (tyV' ts (exc ts (nmS ts s) [58])).2 })
    go_wp2
    have G13 := Hd (G12.out.stoR hXl (List.Mem.tail _ (List.Mem.head _)) rfl (.int .i64 4) (.string (str (nmV ts s))) (.int .u64 0) (.int .i64 ((tyV' ts (exc ts (nmS ts s) [58])).1 : Int)) (.bool (tyV' ts (exc ts (nmS ts s) [58])).2) (.int .i64 0) (.int .i64 0) (.int .i64 0) (.int .i64 0) (.int .i64 ((lnR ts s : Nat) : Int)) (.slice none 0 0))
    refine bodyPost_ret (G13.out.b0.res1 Tryz.results108 Tryz.underlying28 rfl infoNd _ rfl) rfl ?_
    exact G13.out.outT (rfl)
   | true =>
    rw [b3] at HT3
    have HDC := Hd fun W (h : Rd W R g c ts (exc ts (nuS ts (adv (tyS ts (exc ts (nmS ts s) [58]))) 0) [93])) => HTK.out [99, 121, 99, 108, 105, 99] (by simp) (exc ts (nuS ts (adv (tyS ts (exc ts (nmS ts s) [58]))) 0) [93]) W h
    have HDB := Hd fun W (h : Rd W R g c ts (exc ts (nuS ts (adv (tyS ts (exc ts (nmS ts s) [58]))) 0) [93])) => HTK.out [98, 108, 111, 99, 107, 115] (by simp) (exc ts (nuS ts (adv (tyS ts (exc ts (nmS ts s) [58]))) 0) [93]) W h
    have HDK := Hd fun W (h : Rd W R g c ts (exc ts (nuS ts (adv (tyS ts (exc ts (nmS ts s) [58]))) 0) [93])) => HTK.out [99, 111, 109, 112, 108, 101, 116, 101] (by simp) (exc ts (nuS ts (adv (tyS ts (exc ts (nmS ts s) [58]))) 0) [93]) W h
    cases d0 : hasT ts (exc ts (nuS ts (adv (tyS ts (exc ts (nmS ts s) [58]))) 0) [93]) [99, 121, 99, 108, 105, 99] with
    | true =>
     rw [d0] at HDC
     have HM : Hid (prmQ ts s = (.node { labK 5 (lnR ts s) with name := nmV ts s, wd := (tyV' ts (exc ts (nmS ts s) [58])).1, sg := (tyV' ts (exc ts (nmS ts s) [58])).2, num := (nuV ts (adv (tyS ts (exc ts (nmS ts s) [58]))) 0 : Nat), op := (1 : Nat), fac := ((nuV ts (adv (exc ts (nuS ts (adv (tyS ts (exc ts (nmS ts s) [58]))) 0) [93])) 0 : Nat) : Nat) } [], nuS ts (adv (exc ts (nuS ts (adv (tyS ts (exc ts (nmS ts s) [58]))) 0) [93])) 0)) := Hd (by unfold prmQ; simp only [hpk, hps, b3]; simp [divO, divF, divS, d0])
     rw [HM.out]
     have hle := nuV_le ts (adv (exc ts (nuS ts (adv (tyS ts (exc ts (nmS ts s) [58]))) 0) [93])) 0
     have hwr : IntKind.i64.wrap ((nuV ts (adv (exc ts (nuS ts (adv (tyS ts (exc ts (nmS ts s) [58]))) 0) [93])) 0 : Nat) : Int) = ((nuV ts (adv (exc ts (nuS ts (adv (tyS ts (exc ts (nmS ts s) [58]))) 0) [93])) 0 : Nat) : Int) := IntWalk.i64_in _ (by omega)
     clear hle
     clear HM hpk hps hR HTK b3 d0
     go_enter Tryz.func108, Tryz.ntmps108
     go_wp2_with fail
     refine (HLN.out _ F0.out.rd).mono ?_
     rintro e v1 ⟨rfl, hb⟩
     have G1 := Hd (F0.out.quiet hXl hb)
     clear hb
     obtain ⟨hc0, hf0⟩ := G1.out.b0.all
     have hz0 := G1.out.b0.lt
     unfold ncz at hc0
     have hq10 := G1.out.b0.lt
     have G2 := Hd (G1.out.node hXl [.int .i64 4, .string ⟨#[]⟩, .int .u64 0, .int .i64 0, .bool false, .int .i64 0, .int .i64 0, .int .i64 0, .int .i64 0, .int .i64 ((lnR ts s : Nat) : Int), .slice none 0 0])
     go_wp2_with fail
     refine (HNM.out _ G2.out.rd).mono ?_
     rintro e v2 ⟨rfl, hr, hs⟩
     clear hc0 hf0 hz0
     have G3 := Hd (G2.out.call hr hs)
     clear hr hs
     obtain ⟨hc0, hf0, hz0, hc1, hf1, hz1⟩ := G3.out.l2
     have G4 := Hd (G3.out.s1 hXl (.string (str (nmV ts s))))
     go_wp2_with fail
     refine (HEL.out _ _ G4.out.rd).mono ?_
     rintro e v3 ⟨rfl, hr, hs⟩
     have G5 := Hd (G4.out.call hr hs)
     clear hr hs hc0 hf0 hz0 hc1 hf1 hz1
     obtain ⟨hc0, hf0, hz0, hc1, hf1, hz1⟩ := G5.out.l2
     go_wp2_with fail
     refine (HTI.out _ G5.out.rd).mono ?_
     rintro e v4 ⟨rfl, hr, hs⟩
     have G6 := Hd (G5.out.call hr hs)
     clear hr hs hc0 hf0 hz0 hc1 hf1 hz1
     obtain ⟨hc0, hf0, hz0, hc1, hf1, hz1⟩ := G6.out.l2
     go_wp2_with fail
     refine (HTO.out _ G6.out.rd).mono ?_
     rintro e v5 ⟨rfl, hr, hs⟩
     have G7 := Hd (G6.out.call hr hs)
     clear hr hs hc0 hf0 hz0 hc1 hf1 hz1
     obtain ⟨hc0, hf0, hz0, hc1, hf1, hz1⟩ := G7.out.l2
     go_wp2_with fail
     refine (HTY.out _ _ G7.out.rd).mono ?_
     rintro e v6 ⟨rfl, hr, hs⟩
     have G8 := Hd (G7.out.call hr hs)
     clear hr hs hc0 hf0 hz0 hc1 hf1 hz1
     obtain ⟨hc0, hf0, hz0, hc1, hf1, hz1⟩ := G8.out.l2
     have G9 := Hd (G8.out.s3 hXl (.int .i64 ((tyV' ts (exc ts (nmS ts s) [58])).1 : Int)))
     have G10 := Hd (G9.out.s4 hXl (.bool (tyV' ts (exc ts (nmS ts s) [58])).2))
     go_wp2_with fail
     refine (HT3.out _ G10.out.rd).mono ?_
     rintro e v7 ⟨rfl, hr, hs⟩
     have G11 := Hd (G10.out.call hr hs)
     clear hr hs hc0 hf0 hz0 hc1 hf1 hz1
     obtain ⟨hc0, hf0, hz0, hc1, hf1, hz1⟩ := G11.out.l2
     have G12 := Hd (G11.out.s0 hXl (.int .i64 5))
     go_wp2_with fail
     refine (HNU.out _ _ G12.out.rd).mono ?_
     rintro e v8 ⟨rfl, hr, hs⟩
     have G13 := Hd (G12.out.call hr hs)
     clear hr hs hc0 hf0 hz0 hc1 hf1 hz1
     obtain ⟨hc0, hf0, hz0, hc1, hf1, hz1⟩ := G13.out.l2
     have G14 := Hd (G13.out.s2 hXl (.int .u64 ((nuV ts (adv (tyS ts (exc ts (nmS ts s) [58]))) 0 : Nat) : Int)))
     go_wp2_with fail
     refine (HEB.out _ _ G14.out.rd).mono ?_
     rintro e v9 ⟨rfl, hr, hs⟩
     have G15 := Hd (G14.out.call hr hs)
     clear hr hs hc0 hf0 hz0 hc1 hf1 hz1
     obtain ⟨hc0, hf0, hz0, hc1, hf1, hz1⟩ := G15.out.l2
     go_wp2_with fail
     refine (HDC.out _ G15.out.rd).mono ?_
     rintro e v10 ⟨rfl, hr, hs⟩
     have G16 := Hd (G15.out.call hr hs)
     clear hr hs hc0 hf0 hz0 hc1 hf1 hz1
     obtain ⟨hc0, hf0, hz0, hc1, hf1, hz1⟩ := G16.out.l2
     have G17 := Hd (G16.out.s5 hXl (.int .i64 1))
     go_wp2_with fail
     refine (HNU.out _ _ G17.out.rd).mono ?_
     rintro e v11 ⟨rfl, hr, hs⟩
     have G18 := Hd (G17.out.call hr hs)
     clear hr hs hc0 hf0 hz0 hc1 hf1 hz1
     obtain ⟨hc0, hf0, hz0, hc1, hf1, hz1⟩ := G18.out.l2
     have G19 := Hd (G18.out.s6 hXl (.int .i64 ((nuV ts (adv (exc ts (nuS ts (adv (tyS ts (exc ts (nmS ts s) [58]))) 0) [93])) 0 : Nat) : Int)))
     have G20 := Hd (G19.out.leaf { labK 5 (lnR ts s) with name := nmV ts s, wd := (tyV' ts (exc ts (nmS ts s) [58])).1, sg := (tyV' ts (exc ts (nmS ts s) [58])).2, num := (nuV ts (adv (tyS ts (exc ts (nmS ts s) [58]))) 0 : Nat), op := (1 : Nat), fac := ((nuV ts (adv (exc ts (nuS ts (adv (tyS ts (exc ts (nmS ts s) [58]))) 0) [93])) 0 : Nat) : Nat) })
     go_wp2
     have G21 := Hd (G20.out.stoR hXl (List.Mem.tail _ (List.Mem.head _)) rfl (.int .i64 5) (.string (str (nmV ts s))) (.int .u64 ((nuV ts (adv (tyS ts (exc ts (nmS ts s) [58]))) 0 : Nat) : Int)) (.int .i64 ((tyV' ts (exc ts (nmS ts s) [58])).1 : Int)) (.bool (tyV' ts (exc ts (nmS ts s) [58])).2) (.int .i64 1) (.int .i64 ((nuV ts (adv (exc ts (nuS ts (adv (tyS ts (exc ts (nmS ts s) [58]))) 0) [93])) 0 : Nat) : Int)) (.int .i64 0) (.int .i64 0) (.int .i64 ((lnR ts s : Nat) : Int)) (.slice none 0 0))
     refine bodyPost_ret (G21.out.b0.res1 Tryz.results108 Tryz.underlying28 rfl infoNd _ rfl) rfl ?_
     exact G21.out.outT (rfl)
    | false =>
     rw [d0] at HDC
     cases d1 : hasT ts (exc ts (nuS ts (adv (tyS ts (exc ts (nmS ts s) [58]))) 0) [93]) [98, 108, 111, 99, 107, 115] with
     | true =>
      rw [d1] at HDB
      have HM : Hid (prmQ ts s = (.node { labK 5 (lnR ts s) with name := nmV ts s, wd := (tyV' ts (exc ts (nmS ts s) [58])).1, sg := (tyV' ts (exc ts (nmS ts s) [58])).2, num := (nuV ts (adv (tyS ts (exc ts (nmS ts s) [58]))) 0 : Nat), op := (2 : Nat), fac := ((nuV ts (adv (exc ts (nuS ts (adv (tyS ts (exc ts (nmS ts s) [58]))) 0) [93])) 0 : Nat) : Nat) } [], nuS ts (adv (exc ts (nuS ts (adv (tyS ts (exc ts (nmS ts s) [58]))) 0) [93])) 0)) := Hd (by unfold prmQ; simp only [hpk, hps, b3]; simp [divO, divF, divS, d0, d1])
      rw [HM.out]
      have hle := nuV_le ts (adv (exc ts (nuS ts (adv (tyS ts (exc ts (nmS ts s) [58]))) 0) [93])) 0
      have hwr : IntKind.i64.wrap ((nuV ts (adv (exc ts (nuS ts (adv (tyS ts (exc ts (nmS ts s) [58]))) 0) [93])) 0 : Nat) : Int) = ((nuV ts (adv (exc ts (nuS ts (adv (tyS ts (exc ts (nmS ts s) [58]))) 0) [93])) 0 : Nat) : Int) := IntWalk.i64_in _ (by omega)
      clear hle
      clear HM hpk hps hR HTK b3 d0 d1
      go_enter Tryz.func108, Tryz.ntmps108
      go_wp2_with fail
      refine (HLN.out _ F0.out.rd).mono ?_
      rintro e v1 ⟨rfl, hb⟩
      have G1 := Hd (F0.out.quiet hXl hb)
      clear hb
      obtain ⟨hc0, hf0⟩ := G1.out.b0.all
      have hz0 := G1.out.b0.lt
      unfold ncz at hc0
      have hq10 := G1.out.b0.lt
      have G2 := Hd (G1.out.node hXl [.int .i64 4, .string ⟨#[]⟩, .int .u64 0, .int .i64 0, .bool false, .int .i64 0, .int .i64 0, .int .i64 0, .int .i64 0, .int .i64 ((lnR ts s : Nat) : Int), .slice none 0 0])
      go_wp2_with fail
      refine (HNM.out _ G2.out.rd).mono ?_
      rintro e v2 ⟨rfl, hr, hs⟩
      clear hc0 hf0 hz0
      have G3 := Hd (G2.out.call hr hs)
      clear hr hs
      obtain ⟨hc0, hf0, hz0, hc1, hf1, hz1⟩ := G3.out.l2
      have G4 := Hd (G3.out.s1 hXl (.string (str (nmV ts s))))
      go_wp2_with fail
      refine (HEL.out _ _ G4.out.rd).mono ?_
      rintro e v3 ⟨rfl, hr, hs⟩
      have G5 := Hd (G4.out.call hr hs)
      clear hr hs hc0 hf0 hz0 hc1 hf1 hz1
      obtain ⟨hc0, hf0, hz0, hc1, hf1, hz1⟩ := G5.out.l2
      go_wp2_with fail
      refine (HTI.out _ G5.out.rd).mono ?_
      rintro e v4 ⟨rfl, hr, hs⟩
      have G6 := Hd (G5.out.call hr hs)
      clear hr hs hc0 hf0 hz0 hc1 hf1 hz1
      obtain ⟨hc0, hf0, hz0, hc1, hf1, hz1⟩ := G6.out.l2
      go_wp2_with fail
      refine (HTO.out _ G6.out.rd).mono ?_
      rintro e v5 ⟨rfl, hr, hs⟩
      have G7 := Hd (G6.out.call hr hs)
      clear hr hs hc0 hf0 hz0 hc1 hf1 hz1
      obtain ⟨hc0, hf0, hz0, hc1, hf1, hz1⟩ := G7.out.l2
      go_wp2_with fail
      refine (HTY.out _ _ G7.out.rd).mono ?_
      rintro e v6 ⟨rfl, hr, hs⟩
      have G8 := Hd (G7.out.call hr hs)
      clear hr hs hc0 hf0 hz0 hc1 hf1 hz1
      obtain ⟨hc0, hf0, hz0, hc1, hf1, hz1⟩ := G8.out.l2
      have G9 := Hd (G8.out.s3 hXl (.int .i64 ((tyV' ts (exc ts (nmS ts s) [58])).1 : Int)))
      have G10 := Hd (G9.out.s4 hXl (.bool (tyV' ts (exc ts (nmS ts s) [58])).2))
      go_wp2_with fail
      refine (HT3.out _ G10.out.rd).mono ?_
      rintro e v7 ⟨rfl, hr, hs⟩
      have G11 := Hd (G10.out.call hr hs)
      clear hr hs hc0 hf0 hz0 hc1 hf1 hz1
      obtain ⟨hc0, hf0, hz0, hc1, hf1, hz1⟩ := G11.out.l2
      have G12 := Hd (G11.out.s0 hXl (.int .i64 5))
      go_wp2_with fail
      refine (HNU.out _ _ G12.out.rd).mono ?_
      rintro e v8 ⟨rfl, hr, hs⟩
      have G13 := Hd (G12.out.call hr hs)
      clear hr hs hc0 hf0 hz0 hc1 hf1 hz1
      obtain ⟨hc0, hf0, hz0, hc1, hf1, hz1⟩ := G13.out.l2
      have G14 := Hd (G13.out.s2 hXl (.int .u64 ((nuV ts (adv (tyS ts (exc ts (nmS ts s) [58]))) 0 : Nat) : Int)))
      go_wp2_with fail
      refine (HEB.out _ _ G14.out.rd).mono ?_
      rintro e v9 ⟨rfl, hr, hs⟩
      have G15 := Hd (G14.out.call hr hs)
      clear hr hs hc0 hf0 hz0 hc1 hf1 hz1
      obtain ⟨hc0, hf0, hz0, hc1, hf1, hz1⟩ := G15.out.l2
      go_wp2_with fail
      refine (HDC.out _ G15.out.rd).mono ?_
      rintro e v10 ⟨rfl, hr, hs⟩
      have G16 := Hd (G15.out.call hr hs)
      clear hr hs hc0 hf0 hz0 hc1 hf1 hz1
      obtain ⟨hc0, hf0, hz0, hc1, hf1, hz1⟩ := G16.out.l2
      go_wp2_with fail
      refine (HDB.out _ G16.out.rd).mono ?_
      rintro e v11 ⟨rfl, hr, hs⟩
      have G17 := Hd (G16.out.call hr hs)
      clear hr hs hc0 hf0 hz0 hc1 hf1 hz1
      obtain ⟨hc0, hf0, hz0, hc1, hf1, hz1⟩ := G17.out.l2
      have G18 := Hd (G17.out.s5 hXl (.int .i64 2))
      go_wp2_with fail
      refine (HNU.out _ _ G18.out.rd).mono ?_
      rintro e v12 ⟨rfl, hr, hs⟩
      have G19 := Hd (G18.out.call hr hs)
      clear hr hs hc0 hf0 hz0 hc1 hf1 hz1
      obtain ⟨hc0, hf0, hz0, hc1, hf1, hz1⟩ := G19.out.l2
      have G20 := Hd (G19.out.s6 hXl (.int .i64 ((nuV ts (adv (exc ts (nuS ts (adv (tyS ts (exc ts (nmS ts s) [58]))) 0) [93])) 0 : Nat) : Int)))
      have G21 := Hd (G20.out.leaf { labK 5 (lnR ts s) with name := nmV ts s, wd := (tyV' ts (exc ts (nmS ts s) [58])).1, sg := (tyV' ts (exc ts (nmS ts s) [58])).2, num := (nuV ts (adv (tyS ts (exc ts (nmS ts s) [58]))) 0 : Nat), op := (2 : Nat), fac := ((nuV ts (adv (exc ts (nuS ts (adv (tyS ts (exc ts (nmS ts s) [58]))) 0) [93])) 0 : Nat) : Nat) })
      go_wp2
      have G22 := Hd (G21.out.stoR hXl (List.Mem.tail _ (List.Mem.head _)) rfl (.int .i64 5) (.string (str (nmV ts s))) (.int .u64 ((nuV ts (adv (tyS ts (exc ts (nmS ts s) [58]))) 0 : Nat) : Int)) (.int .i64 ((tyV' ts (exc ts (nmS ts s) [58])).1 : Int)) (.bool (tyV' ts (exc ts (nmS ts s) [58])).2) (.int .i64 2) (.int .i64 ((nuV ts (adv (exc ts (nuS ts (adv (tyS ts (exc ts (nmS ts s) [58]))) 0) [93])) 0 : Nat) : Int)) (.int .i64 0) (.int .i64 0) (.int .i64 ((lnR ts s : Nat) : Int)) (.slice none 0 0))
      refine bodyPost_ret (G22.out.b0.res1 Tryz.results108 Tryz.underlying28 rfl infoNd _ rfl) rfl ?_
      exact G22.out.outT (rfl)
     | false =>
      rw [d1] at HDB
      cases d2 : hasT ts (exc ts (nuS ts (adv (tyS ts (exc ts (nmS ts s) [58]))) 0) [93]) [99, 111, 109, 112, 108, 101, 116, 101] with
      | true =>
       rw [d2] at HDK
       have HM : Hid (prmQ ts s = (.node { labK 5 (lnR ts s) with name := nmV ts s, wd := (tyV' ts (exc ts (nmS ts s) [58])).1, sg := (tyV' ts (exc ts (nmS ts s) [58])).2, num := (nuV ts (adv (tyS ts (exc ts (nmS ts s) [58]))) 0 : Nat), op := (3 : Nat), fac := ((0 : Nat) : Nat) } [], adv (exc ts (nuS ts (adv (tyS ts (exc ts (nmS ts s) [58]))) 0) [93]))) := Hd (by unfold prmQ; simp only [hpk, hps, b3]; simp [divO, divF, divS, d0, d1, d2])
       rw [HM.out]
       clear HM hpk hps hR HTK b3 d0 d1 d2
       go_enter Tryz.func108, Tryz.ntmps108
       go_wp2_with fail
       refine (HLN.out _ F0.out.rd).mono ?_
       rintro e v1 ⟨rfl, hb⟩
       have G1 := Hd (F0.out.quiet hXl hb)
       clear hb
       obtain ⟨hc0, hf0⟩ := G1.out.b0.all
       have hz0 := G1.out.b0.lt
       unfold ncz at hc0
       have hq10 := G1.out.b0.lt
       have G2 := Hd (G1.out.node hXl [.int .i64 4, .string ⟨#[]⟩, .int .u64 0, .int .i64 0, .bool false, .int .i64 0, .int .i64 0, .int .i64 0, .int .i64 0, .int .i64 ((lnR ts s : Nat) : Int), .slice none 0 0])
       go_wp2_with fail
       refine (HNM.out _ G2.out.rd).mono ?_
       rintro e v2 ⟨rfl, hr, hs⟩
       clear hc0 hf0 hz0
       have G3 := Hd (G2.out.call hr hs)
       clear hr hs
       obtain ⟨hc0, hf0, hz0, hc1, hf1, hz1⟩ := G3.out.l2
       have G4 := Hd (G3.out.s1 hXl (.string (str (nmV ts s))))
       go_wp2_with fail
       refine (HEL.out _ _ G4.out.rd).mono ?_
       rintro e v3 ⟨rfl, hr, hs⟩
       have G5 := Hd (G4.out.call hr hs)
       clear hr hs hc0 hf0 hz0 hc1 hf1 hz1
       obtain ⟨hc0, hf0, hz0, hc1, hf1, hz1⟩ := G5.out.l2
       go_wp2_with fail
       refine (HTI.out _ G5.out.rd).mono ?_
       rintro e v4 ⟨rfl, hr, hs⟩
       have G6 := Hd (G5.out.call hr hs)
       clear hr hs hc0 hf0 hz0 hc1 hf1 hz1
       obtain ⟨hc0, hf0, hz0, hc1, hf1, hz1⟩ := G6.out.l2
       go_wp2_with fail
       refine (HTO.out _ G6.out.rd).mono ?_
       rintro e v5 ⟨rfl, hr, hs⟩
       have G7 := Hd (G6.out.call hr hs)
       clear hr hs hc0 hf0 hz0 hc1 hf1 hz1
       obtain ⟨hc0, hf0, hz0, hc1, hf1, hz1⟩ := G7.out.l2
       go_wp2_with fail
       refine (HTY.out _ _ G7.out.rd).mono ?_
       rintro e v6 ⟨rfl, hr, hs⟩
       have G8 := Hd (G7.out.call hr hs)
       clear hr hs hc0 hf0 hz0 hc1 hf1 hz1
       obtain ⟨hc0, hf0, hz0, hc1, hf1, hz1⟩ := G8.out.l2
       have G9 := Hd (G8.out.s3 hXl (.int .i64 ((tyV' ts (exc ts (nmS ts s) [58])).1 : Int)))
       have G10 := Hd (G9.out.s4 hXl (.bool (tyV' ts (exc ts (nmS ts s) [58])).2))
       go_wp2_with fail
       refine (HT3.out _ G10.out.rd).mono ?_
       rintro e v7 ⟨rfl, hr, hs⟩
       have G11 := Hd (G10.out.call hr hs)
       clear hr hs hc0 hf0 hz0 hc1 hf1 hz1
       obtain ⟨hc0, hf0, hz0, hc1, hf1, hz1⟩ := G11.out.l2
       have G12 := Hd (G11.out.s0 hXl (.int .i64 5))
       go_wp2_with fail
       refine (HNU.out _ _ G12.out.rd).mono ?_
       rintro e v8 ⟨rfl, hr, hs⟩
       have G13 := Hd (G12.out.call hr hs)
       clear hr hs hc0 hf0 hz0 hc1 hf1 hz1
       obtain ⟨hc0, hf0, hz0, hc1, hf1, hz1⟩ := G13.out.l2
       have G14 := Hd (G13.out.s2 hXl (.int .u64 ((nuV ts (adv (tyS ts (exc ts (nmS ts s) [58]))) 0 : Nat) : Int)))
       go_wp2_with fail
       refine (HEB.out _ _ G14.out.rd).mono ?_
       rintro e v9 ⟨rfl, hr, hs⟩
       have G15 := Hd (G14.out.call hr hs)
       clear hr hs hc0 hf0 hz0 hc1 hf1 hz1
       obtain ⟨hc0, hf0, hz0, hc1, hf1, hz1⟩ := G15.out.l2
       go_wp2_with fail
       refine (HDC.out _ G15.out.rd).mono ?_
       rintro e v10 ⟨rfl, hr, hs⟩
       have G16 := Hd (G15.out.call hr hs)
       clear hr hs hc0 hf0 hz0 hc1 hf1 hz1
       obtain ⟨hc0, hf0, hz0, hc1, hf1, hz1⟩ := G16.out.l2
       go_wp2_with fail
       refine (HDB.out _ G16.out.rd).mono ?_
       rintro e v11 ⟨rfl, hr, hs⟩
       have G17 := Hd (G16.out.call hr hs)
       clear hr hs hc0 hf0 hz0 hc1 hf1 hz1
       obtain ⟨hc0, hf0, hz0, hc1, hf1, hz1⟩ := G17.out.l2
       go_wp2_with fail
       refine (HDK.out _ G17.out.rd).mono ?_
       rintro e v12 ⟨rfl, hr, hs⟩
       have G18 := Hd (G17.out.call hr hs)
       clear hr hs hc0 hf0 hz0 hc1 hf1 hz1
       obtain ⟨hc0, hf0, hz0, hc1, hf1, hz1⟩ := G18.out.l2
       have G19 := Hd (G18.out.s5 hXl (.int .i64 3))
       have G20 := Hd (G19.out.leaf { labK 5 (lnR ts s) with name := nmV ts s, wd := (tyV' ts (exc ts (nmS ts s) [58])).1, sg := (tyV' ts (exc ts (nmS ts s) [58])).2, num := (nuV ts (adv (tyS ts (exc ts (nmS ts s) [58]))) 0 : Nat), op := (3 : Nat), fac := ((0 : Nat) : Nat) })
       go_wp2
       have G21 := Hd (G20.out.stoR hXl (List.Mem.tail _ (List.Mem.head _)) rfl (.int .i64 5) (.string (str (nmV ts s))) (.int .u64 ((nuV ts (adv (tyS ts (exc ts (nmS ts s) [58]))) 0 : Nat) : Int)) (.int .i64 ((tyV' ts (exc ts (nmS ts s) [58])).1 : Int)) (.bool (tyV' ts (exc ts (nmS ts s) [58])).2) (.int .i64 3) (.int .i64 0) (.int .i64 0) (.int .i64 0) (.int .i64 ((lnR ts s : Nat) : Int)) (.slice none 0 0))
       refine bodyPost_ret (G21.out.b0.res1 Tryz.results108 Tryz.underlying28 rfl infoNd _ rfl) rfl ?_
       exact G21.out.outT (rfl)
      | false =>
       rw [d2] at HDK
       have HM : Hid (prmQ ts s = (.node { labK 5 (lnR ts s) with name := nmV ts s, wd := (tyV' ts (exc ts (nmS ts s) [58])).1, sg := (tyV' ts (exc ts (nmS ts s) [58])).2, num := (nuV ts (adv (tyS ts (exc ts (nmS ts s) [58]))) 0 : Nat), op := (0 : Nat), fac := ((0 : Nat) : Nat) } [], (exc ts (nuS ts (adv (tyS ts (exc ts (nmS ts s) [58]))) 0) [93]))) := Hd (by unfold prmQ; simp only [hpk, hps, b3]; simp [divO, divF, divS, d0, d1, d2])
       rw [HM.out]
       clear HM hpk hps hR HTK b3 d0 d1 d2
       go_enter Tryz.func108, Tryz.ntmps108
       go_wp2_with fail
       refine (HLN.out _ F0.out.rd).mono ?_
       rintro e v1 ⟨rfl, hb⟩
       have G1 := Hd (F0.out.quiet hXl hb)
       clear hb
       obtain ⟨hc0, hf0⟩ := G1.out.b0.all
       have hz0 := G1.out.b0.lt
       unfold ncz at hc0
       have hq10 := G1.out.b0.lt
       have G2 := Hd (G1.out.node hXl [.int .i64 4, .string ⟨#[]⟩, .int .u64 0, .int .i64 0, .bool false, .int .i64 0, .int .i64 0, .int .i64 0, .int .i64 0, .int .i64 ((lnR ts s : Nat) : Int), .slice none 0 0])
       go_wp2_with fail
       refine (HNM.out _ G2.out.rd).mono ?_
       rintro e v2 ⟨rfl, hr, hs⟩
       clear hc0 hf0 hz0
       have G3 := Hd (G2.out.call hr hs)
       clear hr hs
       obtain ⟨hc0, hf0, hz0, hc1, hf1, hz1⟩ := G3.out.l2
       have G4 := Hd (G3.out.s1 hXl (.string (str (nmV ts s))))
       go_wp2_with fail
       refine (HEL.out _ _ G4.out.rd).mono ?_
       rintro e v3 ⟨rfl, hr, hs⟩
       have G5 := Hd (G4.out.call hr hs)
       clear hr hs hc0 hf0 hz0 hc1 hf1 hz1
       obtain ⟨hc0, hf0, hz0, hc1, hf1, hz1⟩ := G5.out.l2
       go_wp2_with fail
       refine (HTI.out _ G5.out.rd).mono ?_
       rintro e v4 ⟨rfl, hr, hs⟩
       have G6 := Hd (G5.out.call hr hs)
       clear hr hs hc0 hf0 hz0 hc1 hf1 hz1
       obtain ⟨hc0, hf0, hz0, hc1, hf1, hz1⟩ := G6.out.l2
       go_wp2_with fail
       refine (HTO.out _ G6.out.rd).mono ?_
       rintro e v5 ⟨rfl, hr, hs⟩
       have G7 := Hd (G6.out.call hr hs)
       clear hr hs hc0 hf0 hz0 hc1 hf1 hz1
       obtain ⟨hc0, hf0, hz0, hc1, hf1, hz1⟩ := G7.out.l2
       go_wp2_with fail
       refine (HTY.out _ _ G7.out.rd).mono ?_
       rintro e v6 ⟨rfl, hr, hs⟩
       have G8 := Hd (G7.out.call hr hs)
       clear hr hs hc0 hf0 hz0 hc1 hf1 hz1
       obtain ⟨hc0, hf0, hz0, hc1, hf1, hz1⟩ := G8.out.l2
       have G9 := Hd (G8.out.s3 hXl (.int .i64 ((tyV' ts (exc ts (nmS ts s) [58])).1 : Int)))
       have G10 := Hd (G9.out.s4 hXl (.bool (tyV' ts (exc ts (nmS ts s) [58])).2))
       go_wp2_with fail
       refine (HT3.out _ G10.out.rd).mono ?_
       rintro e v7 ⟨rfl, hr, hs⟩
       have G11 := Hd (G10.out.call hr hs)
       clear hr hs hc0 hf0 hz0 hc1 hf1 hz1
       obtain ⟨hc0, hf0, hz0, hc1, hf1, hz1⟩ := G11.out.l2
       have G12 := Hd (G11.out.s0 hXl (.int .i64 5))
       go_wp2_with fail
       refine (HNU.out _ _ G12.out.rd).mono ?_
       rintro e v8 ⟨rfl, hr, hs⟩
       have G13 := Hd (G12.out.call hr hs)
       clear hr hs hc0 hf0 hz0 hc1 hf1 hz1
       obtain ⟨hc0, hf0, hz0, hc1, hf1, hz1⟩ := G13.out.l2
       have G14 := Hd (G13.out.s2 hXl (.int .u64 ((nuV ts (adv (tyS ts (exc ts (nmS ts s) [58]))) 0 : Nat) : Int)))
       go_wp2_with fail
       refine (HEB.out _ _ G14.out.rd).mono ?_
       rintro e v9 ⟨rfl, hr, hs⟩
       have G15 := Hd (G14.out.call hr hs)
       clear hr hs hc0 hf0 hz0 hc1 hf1 hz1
       obtain ⟨hc0, hf0, hz0, hc1, hf1, hz1⟩ := G15.out.l2
       go_wp2_with fail
       refine (HDC.out _ G15.out.rd).mono ?_
       rintro e v10 ⟨rfl, hr, hs⟩
       have G16 := Hd (G15.out.call hr hs)
       clear hr hs hc0 hf0 hz0 hc1 hf1 hz1
       obtain ⟨hc0, hf0, hz0, hc1, hf1, hz1⟩ := G16.out.l2
       go_wp2_with fail
       refine (HDB.out _ G16.out.rd).mono ?_
       rintro e v11 ⟨rfl, hr, hs⟩
       have G17 := Hd (G16.out.call hr hs)
       clear hr hs hc0 hf0 hz0 hc1 hf1 hz1
       obtain ⟨hc0, hf0, hz0, hc1, hf1, hz1⟩ := G17.out.l2
       go_wp2_with fail
       refine (HDK.out _ G17.out.rd).mono ?_
       rintro e v12 ⟨rfl, hr, hs⟩
       have G18 := Hd (G17.out.call hr hs)
       clear hr hs hc0 hf0 hz0 hc1 hf1 hz1
       obtain ⟨hc0, hf0, hz0, hc1, hf1, hz1⟩ := G18.out.l2
       have G19 := Hd (G18.out.leaf { labK 5 (lnR ts s) with name := nmV ts s, wd := (tyV' ts (exc ts (nmS ts s) [58])).1, sg := (tyV' ts (exc ts (nmS ts s) [58])).2, num := (nuV ts (adv (tyS ts (exc ts (nmS ts s) [58]))) 0 : Nat), op := (0 : Nat), fac := ((0 : Nat) : Nat) })
       go_wp2
       have G20 := Hd (G19.out.stoR hXl (List.Mem.tail _ (List.Mem.head _)) rfl (.int .i64 5) (.string (str (nmV ts s))) (.int .u64 ((nuV ts (adv (tyS ts (exc ts (nmS ts s) [58]))) 0 : Nat) : Int)) (.int .i64 ((tyV' ts (exc ts (nmS ts s) [58])).1 : Int)) (.bool (tyV' ts (exc ts (nmS ts s) [58])).2) (.int .i64 0) (.int .i64 0) (.int .i64 0) (.int .i64 0) (.int .i64 ((lnR ts s : Nat) : Int)) (.slice none 0 0))
       refine bodyPost_ret (G20.out.b0.res1 Tryz.results108 Tryz.underlying28 rfl infoNd _ rfl) rfl ?_
       exact G20.out.outT (rfl)
end Q
end Go.Proofs.YtkliclihpobmiaaGreatDoor
