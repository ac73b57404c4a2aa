/- The reference's rule primary: contract. -/
import Derived.Test.YtkliclihpobmiaaGreatDoorMgPqBi
import Derived.Test.YtkliclihpobmiaaGreatDoorMgPqLv
import Derived.Deep.RegionWith
import Derived.BigRegion
namespace Go.Proofs.YtkliclihpobmiaaGreatDoor
namespace Q
open Go Go.RowKit
set_option linter.unusedVariables false
set_option linter.unusedSimpArgs false

theorem EQ_pr {ts : List Tok} {f : Nat} {s : Sg} : EQ ts (f + 1) .pr s = (if kd ts s = 3 then (.node { labK 18 (lnR ts s) with num := (nxt ts s).num } [], adv s)
  else if hasT ts s [116, 114, 117, 101] then (.node { labK 18 (lnR ts s) with num := 1, wd := 1 } [], adv s)
  else if hasT ts s [102, 97, 108, 115, 101] then (.node { labK 18 (lnR ts s) with wd := 1 } [], adv s)
  else if hasT ts s [114, 101, 99, 118] then (.node { labK 26 (lnR ts s) with name := nmV ts (exc ts (adv s) [40]) } [], exc ts (nmS ts (exc ts (adv s) [40])) [41])
  else if hasT ts s [40] then ((EQ ts f .ex (adv s)).1, exc ts (EQ ts f .ex (adv s)).2 [41])
  else if kd ts s = 1 then EQ ts f .us s
  else if f = 0 then (tree0, s) else (.node (labK 0 (lnR ts s)) [], stop s)) := by rw [EQ]
theorem EQ_us {ts : List Tok} {f : Nat} {s : Sg} : EQ ts (f + 1) .us s = (if hasT ts (nmS ts s) [91] then (.node { labK 20 (lnR ts s) with name := nmV ts s } [(EQ ts f .ex (adv (nmS ts s))).1], exc ts (EQ ts f .ex (adv (nmS ts s))).2 [93])
  else if hasT ts (nmS ts s) [40] then (.node { labK 25 (lnR ts s) with name := nmV ts s } (listM ts (fun q => EQ ts f .ex q) f (nmS ts s)).1, (listM ts (fun q => EQ ts f .ex q) f (nmS ts s)).2)
  else (.node { labK 19 (lnR ts s) with name := nmV ts s } [], nmS ts s)) := by rw [EQ]
theorem str_lit (ts : List Tok) (s : Sg) (t : List UInt8) : ((str (tx ts s)).toList == t) = hasT ts s t := by have := str_bytes ts s t; rw [str_toList t] at this; exact this
def CaSt (ts : List Tok) (R g c : Nat) (w : World) (L0 L1 base : Nat) (item : Sg → Tree × Sg) (B0 : Nat) (Z : List Tree × Sg) (nm : ByteArray) (line : Nat) (wr : World) (st : Sg) : Prop :=
 ∃ (x : Option Addr) (k F : Nat) (acc : List Tree), FK w wr R g c ts st [(L1, [.int .i64 25, .string nm, .int .u64 0, .int .i64 0, .bool false, .int .i64 0, .int .i64 0, .int .i64 0, .int .i64 0, .int .i64 (line : Int), .slice x acc.length k]), (L0, ncz)] base (.slice x acc.length k) acc ∧ Z = more ts item F acc st ∧ rem ts st + 1 ≤ F ∧ acc.length + rem ts st ≤ ts.length + 1 ∧ rem ts st ≤ B0
set_option maxHeartbeats 2000000 in
set_option maxRecDepth 100000 in
theorem primary_step {ts : List Tok} {R g c : Nat} (X : QC ts R g c) (f : Nat) (H : ∀ f1, f1 ≤ f → EC ts R g c f1) (s : Sg) (w : World) (hR : Rd w R g c ts s) (hf : 32 * rem ts s + 8 ≤ f + 1) : Calls Tryz.prog 198 #[.pointer (some ⟨R, 0, none⟩)] w (TP w R g c ts (EQ ts (f + 1) .pr s)) := by
 have hXl := X.x.lt
 have F0 := Hd ((Fr.start hR).node hXl ncz)
 have HLN := Hd fun W (h : Rd W R g c ts s) => line_any X.x W h
 have HK := Hd fun W (h : Rd W R g c ts s) => kind_any X.x W h
 have HT := Hd fun W (h : Rd W R g c ts s) => text_any X.x W h
 have hqT := str_lit ts s [116, 114, 117, 101]
 have hqF := str_lit ts s [102, 97, 108, 115, 101]
 have HSC := Hd fun W (h : Rd W R g c ts s) => take_any X.x [114, 101, 99, 118] (by simp) W h
 have HSD := Hd fun W (h : Rd W R g c ts s) => take_any X.x [40] (by simp) W h
 have HEO := Hd fun q W (h : Rd W R g c ts q) => need_any X.x (s := q) [40] (by simp) W h
 have HES := Hd fun q W (h : Rd W R g c ts q) => need_any X.x (s := q) [41] (by simp) W h
 have HEB := Hd fun q W (h : Rd W R g c ts q) => need_any X.x (s := q) [93] (by simp) W h
 have HNM := Hd fun q W (h : Rd W R g c ts q) => name_any X.x (s := q) W h
 have HTK := Hd fun t (ht : t ≠ []) q W (h : Rd W R g c ts q) => take_any X.x (s := q) t ht W h
 have hlen := X.x.len
 have hcap := X.x.cap
 unfold skp at HSC HSD HTK
 obtain ⟨f1, rfl⟩ : ∃ f1, f = f1 + 1 := ⟨f - 1, by omega⟩
 by_cases h3 : kd ts s = 3
 ·have hin := kd_in h3 (by decide)
  have HE : Hid (EQ ts (f1 + 1 + 1) .pr s = (.node { labK 18 (lnR ts s) with num := (nxt ts s).num } [], adv s)) := Hd (by rw [EQ_pr, if_pos h3])
  rw [HE.out]
  rw [h3] at HK
  have HIN := Hd hin
  have HNX : Hid (nxt ts s = tat ts s.i) := Hd (tx_at hin.1)
  have hil : s.i < 65536 := by omega
  have hA : (s.i : Int) < (ts.length : Int) := by omega
  have hA2 := hin.2
  clear HE H hR h3 hin HT hqT hqF HSC HSD HEO HES HEB HNM HTK hf
  go_enter Tryz.func198, Tryz.ntmps198
  go_wp2_with fail
  refine (HLN.out _ F0.out.rd).mono ?_
  rintro e v1 ⟨rfl, hb⟩
  have G1 := Hd (F0.out.quiet hXl hb)
  clear hb
  obtain ⟨hc0, hf0⟩ := G1.out.b0.all
  have hz0 := G1.out.b0.lt
  unfold ncz at hc0
  have hq10 := G1.out.b0.lt
  have G2 := Hd (G1.out.node hXl [.int .i64 0, .string ⟨#[]⟩, .int .u64 0, .int .i64 0, .bool false, .int .i64 0, .int .i64 0, .int .i64 0, .int .i64 0, .int .i64 ((lnR ts s : Nat) : Int), .slice none 0 0])
  go_wp2_with fail
  refine (HK.out _ G2.out.rd).mono ?_
  rintro e v2 ⟨rfl, hb⟩
  clear hc0 hf0 hz0
  have G3 := Hd (G2.out.quiet hXl hb)
  clear hb
  obtain ⟨hc0, hf0, hz0, hc1, hf1, hz1⟩ := G3.out.l2
  have hRn0 := (G3.out.bl _ _ (List.Mem.head _)).2
  have hRn1 := (G3.out.bl _ _ (List.Mem.tail _ (List.Mem.head _))).2
  have hRw := G3.out.hR
  have hgw : g < w.heap.size := by omega
  obtain ⟨c0, c1, c2, fr1, fr2⟩ := G3.out.rd.cells
  have hzR := G3.out.rd.lt
  have hzg := G3.out.rd.tk.1
  have d2 := (G3.out.rd.tk.2 s.i hA2).2.2.1
  rw [← HNX.out] at d2
  clear c2 fr2
  have G4 := Hd (G3.out.s0 hXl (.int .i64 18))
  have G5 := Hd (G4.out.s2 hXl (.int .u64 ((nxt ts s).num : Int)))
  go_wp2
  go_region
  have G6 := Hd (G5.out.advR hXl HIN.out (v := (s.i : Int) + 1) rfl)
  have G7 := Hd (G6.out.leaf { labK 18 (lnR ts s) with num := (nxt ts s).num })
  go_wp2
  have G8 := Hd (G7.out.stoR hXl (List.Mem.tail _ (List.Mem.head _)) rfl (.int .i64 18) (.string ⟨#[]⟩) (.int .u64 ((nxt ts s).num : Int)) (.int .i64 0) (.bool false) (.int .i64 0) (.int .i64 0) (.int .i64 0) (.int .i64 0) (.int .i64 ((lnR ts s : Nat) : Int)) (.slice none 0 0))
  have G9 := Hd (G8.out.drew)
  refine bodyPost_ret (G9.out.b0.res1 Tryz.results198 Tryz.underlying28 rfl infoNd _ rfl) rfl ?_
  exact G9.out.outT (rfl)
 ·have qk : ((kd ts s : Int) == 3) = false := by simp; omega
  cases g0 : hasT ts s [116, 114, 117, 101] with
  | true =>
   have hin := hasT_in g0
   have hra := rem_adv hin
   have HE : Hid (EQ ts (f1 + 1 + 1) .pr s = (.node { labK 18 (lnR ts s) with num := 1, wd := 1 } [], adv s)) := Hd (by rw [EQ_pr, if_neg h3, if_pos g0])
   rw [HE.out]
   rw [g0] at hqT
   have HIN := Hd hin
   have hil : s.i < 65536 := by omega
   clear HE H hR hin hra h3 hf hlen g0
   go_enter Tryz.func198, Tryz.ntmps198
   go_wp2_with fail
   refine (HLN.out _ F0.out.rd).mono ?_
   rintro e v1 ⟨rfl, hb⟩
   have G1 := Hd (F0.out.quiet hXl hb)
   clear hb
   obtain ⟨hc0, hf0⟩ := G1.out.b0.all
   have hz0 := G1.out.b0.lt
   unfold ncz at hc0
   have hq10 := G1.out.b0.lt
   have G2 := Hd (G1.out.node hXl [.int .i64 0, .string ⟨#[]⟩, .int .u64 0, .int .i64 0, .bool false, .int .i64 0, .int .i64 0, .int .i64 0, .int .i64 0, .int .i64 ((lnR ts s : Nat) : Int), .slice none 0 0])
   go_wp2_with fail
   refine (HK.out _ G2.out.rd).mono ?_
   rintro e v2 ⟨rfl, hb⟩
   clear hc0 hf0 hz0
   have G3 := Hd (G2.out.quiet hXl hb)
   clear hb
   obtain ⟨hc0, hf0, hz0, hc1, hf1, hz1⟩ := G3.out.l2
   go_wp2_with fail
   refine (HT.out _ G3.out.rd).mono ?_
   rintro e v3 ⟨rfl, hb⟩
   have G4 := Hd (G3.out.quiet hXl hb)
   clear hb hc0 hf0 hz0 hc1 hf1 hz1
   obtain ⟨hc0, hf0, hz0, hc1, hf1, hz1⟩ := G4.out.l2
   have G5 := Hd (G4.out.s0 hXl (.int .i64 18))
   have G6 := Hd (G5.out.s3 hXl (.int .i64 1))
   have G7 := Hd (G6.out.s4 hXl (.bool false))
   go_wp2_with fail
   refine (HT.out _ G7.out.rd).mono ?_
   rintro e v4 ⟨rfl, hb⟩
   have G8 := Hd (G7.out.quiet hXl hb)
   clear hb hc0 hf0 hz0 hc1 hf1 hz1
   obtain ⟨hc0, hf0, hz0, hc1, hf1, hz1⟩ := G8.out.l2
   have G9 := Hd (G8.out.s2 hXl (.int .u64 1))
   have hRn0 := (G8.out.bl _ _ (List.Mem.head _)).2
   have hRn1 := (G8.out.bl _ _ (List.Mem.tail _ (List.Mem.head _))).2
   have hRw := G8.out.hR
   obtain ⟨c0, c1, c2, fr1, fr2⟩ := G8.out.rd.cells
   have hzR := G8.out.rd.lt
   clear c0 c2 fr2
   have G10 := Hd (G9.out.advR hXl HIN.out (v := (s.i : Int) + 1) rfl)
   have G11 := Hd (G10.out.leaf { labK 18 (lnR ts s) with num := 1, wd := 1 })
   go_wp2
   have G12 := Hd (G11.out.stoR hXl (List.Mem.tail _ (List.Mem.head _)) rfl (.int .i64 18) (.string ⟨#[]⟩) (.int .u64 1) (.int .i64 1) (.bool false) (.int .i64 0) (.int .i64 0) (.int .i64 0) (.int .i64 0) (.int .i64 ((lnR ts s : Nat) : Int)) (.slice none 0 0))
   refine bodyPost_ret (G12.out.b0.res1 Tryz.results198 Tryz.underlying28 rfl infoNd _ rfl) rfl ?_
   exact G12.out.outT (rfl)
  | false =>
   rw [g0] at hqT
   cases g1 : hasT ts s [102, 97, 108, 115, 101] with
   | true =>
    have hin := hasT_in g1
    have hra := rem_adv hin
    have HE : Hid (EQ ts (f1 + 1 + 1) .pr s = (.node { labK 18 (lnR ts s) with wd := 1 } [], adv s)) := Hd (by rw [EQ_pr, if_neg h3, if_neg (by simp [g0]), if_pos g1])
    rw [HE.out]
    rw [g1] at hqF
    have HIN := Hd hin
    have hil : s.i < 65536 := by omega
    clear HE H hR hin hra h3 hf hlen g0 g1
    go_enter Tryz.func198, Tryz.ntmps198
    go_wp2_with fail
    refine (HLN.out _ F0.out.rd).mono ?_
    rintro e v1 ⟨rfl, hb⟩
    have G1 := Hd (F0.out.quiet hXl hb)
    clear hb
    obtain ⟨hc0, hf0⟩ := G1.out.b0.all
    have hz0 := G1.out.b0.lt
    unfold ncz at hc0
    have hq10 := G1.out.b0.lt
    have G2 := Hd (G1.out.node hXl [.int .i64 0, .string ⟨#[]⟩, .int .u64 0, .int .i64 0, .bool false, .int .i64 0, .int .i64 0, .int .i64 0, .int .i64 0, .int .i64 ((lnR ts s : Nat) : Int), .slice none 0 0])
    go_wp2_with fail
    refine (HK.out _ G2.out.rd).mono ?_
    rintro e v2 ⟨rfl, hb⟩
    clear hc0 hf0 hz0
    have G3 := Hd (G2.out.quiet hXl hb)
    clear hb
    obtain ⟨hc0, hf0, hz0, hc1, hf1, hz1⟩ := G3.out.l2
    go_wp2_with fail
    refine (HT.out _ G3.out.rd).mono ?_
    rintro e v3 ⟨rfl, hb⟩
    have G4 := Hd (G3.out.quiet hXl hb)
    clear hb hc0 hf0 hz0 hc1 hf1 hz1
    obtain ⟨hc0, hf0, hz0, hc1, hf1, hz1⟩ := G4.out.l2
    go_wp2_with fail
    refine (HT.out _ G4.out.rd).mono ?_
    rintro e v4 ⟨rfl, hb⟩
    have G5 := Hd (G4.out.quiet hXl hb)
    clear hb hc0 hf0 hz0 hc1 hf1 hz1
    obtain ⟨hc0, hf0, hz0, hc1, hf1, hz1⟩ := G5.out.l2
    have G6 := Hd (G5.out.s0 hXl (.int .i64 18))
    have G7 := Hd (G6.out.s3 hXl (.int .i64 1))
    have G8 := Hd (G7.out.s4 hXl (.bool false))
    go_wp2_with fail
    refine (HT.out _ G8.out.rd).mono ?_
    rintro e v5 ⟨rfl, hb⟩
    have G9 := Hd (G8.out.quiet hXl hb)
    clear hb hc0 hf0 hz0 hc1 hf1 hz1
    obtain ⟨hc0, hf0, hz0, hc1, hf1, hz1⟩ := G9.out.l2
    have hRn0 := (G9.out.bl _ _ (List.Mem.head _)).2
    have hRn1 := (G9.out.bl _ _ (List.Mem.tail _ (List.Mem.head _))).2
    have hRw := G9.out.hR
    obtain ⟨c0, c1, c2, fr1, fr2⟩ := G9.out.rd.cells
    have hzR := G9.out.rd.lt
    clear c0 c2 fr2
    have G10 := Hd (G9.out.advR hXl HIN.out (v := (s.i : Int) + 1) rfl)
    have G11 := Hd (G10.out.leaf { labK 18 (lnR ts s) with wd := 1 })
    go_wp2
    have G12 := Hd (G11.out.stoR hXl (List.Mem.tail _ (List.Mem.head _)) rfl (.int .i64 18) (.string ⟨#[]⟩) (.int .u64 0) (.int .i64 1) (.bool false) (.int .i64 0) (.int .i64 0) (.int .i64 0) (.int .i64 0) (.int .i64 ((lnR ts s : Nat) : Int)) (.slice none 0 0))
    refine bodyPost_ret (G12.out.b0.res1 Tryz.results198 Tryz.underlying28 rfl infoNd _ rfl) rfl ?_
    exact G12.out.outT (rfl)
   | false =>
    rw [g1] at hqF
    cases g2 : hasT ts s [114, 101, 99, 118] with
    | true =>
     have hin := hasT_in g2
     have hra := rem_adv hin
     have HE : Hid (EQ ts (f1 + 1 + 1) .pr s = (.node { labK 26 (lnR ts s) with name := nmV ts (exc ts (adv s) [40]) } [], exc ts (nmS ts (exc ts (adv s) [40])) [41])) := Hd (by rw [EQ_pr, if_neg h3, if_neg (by simp [g0]), if_neg (by simp [g1]), if_pos g2])
     rw [HE.out]
     rw [g2] at HSC
     have HIN := Hd hin
     have hil : s.i < 65536 := by omega
     clear HE H hR hin hra h3 hf hlen g0 g1 g2
     go_enter Tryz.func198, Tryz.ntmps198
     go_wp2_with fail
     refine (HLN.out _ F0.out.rd).mono ?_
     rintro e v1 ⟨rfl, hb⟩
     have G1 := Hd (F0.out.quiet hXl hb)
     clear hb
     obtain ⟨hc0, hf0⟩ := G1.out.b0.all
     have hz0 := G1.out.b0.lt
     unfold ncz at hc0
     have hq10 := G1.out.b0.lt
     have G2 := Hd (G1.out.node hXl [.int .i64 0, .string ⟨#[]⟩, .int .u64 0, .int .i64 0, .bool false, .int .i64 0, .int .i64 0, .int .i64 0, .int .i64 0, .int .i64 ((lnR ts s : Nat) : Int), .slice none 0 0])
     go_wp2_with fail
     refine (HK.out _ G2.out.rd).mono ?_
     rintro e v2 ⟨rfl, hb⟩
     clear hc0 hf0 hz0
     have G3 := Hd (G2.out.quiet hXl hb)
     clear hb
     obtain ⟨hc0, hf0, hz0, hc1, hf1, hz1⟩ := G3.out.l2
     go_wp2_with fail
     refine (HT.out _ G3.out.rd).mono ?_
     rintro e v3 ⟨rfl, hb⟩
     have G4 := Hd (G3.out.quiet hXl hb)
     clear hb hc0 hf0 hz0 hc1 hf1 hz1
     obtain ⟨hc0, hf0, hz0, hc1, hf1, hz1⟩ := G4.out.l2
     go_wp2_with fail
     refine (HT.out _ G4.out.rd).mono ?_
     rintro e v4 ⟨rfl, hb⟩
     have G5 := Hd (G4.out.quiet hXl hb)
     clear hb hc0 hf0 hz0 hc1 hf1 hz1
     obtain ⟨hc0, hf0, hz0, hc1, hf1, hz1⟩ := G5.out.l2
     go_wp2_with fail
     refine (HSC.out _ G5.out.rd).mono ?_
     rintro e v5 ⟨rfl, hr, hs⟩
     have G6 := Hd (G5.out.call hr hs)
     clear hr hs hc0 hf0 hz0 hc1 hf1 hz1
     obtain ⟨hc0, hf0, hz0, hc1, hf1, hz1⟩ := G6.out.l2
     have G7 := Hd (G6.out.s0 hXl (.int .i64 26))
     go_wp2_with fail
     refine (HEO.out _ _ G7.out.rd).mono ?_
     rintro e v6 ⟨rfl, hr, hs⟩
     have G8 := Hd (G7.out.call hr hs)
     clear hr hs hc0 hf0 hz0 hc1 hf1 hz1
     obtain ⟨hc0, hf0, hz0, hc1, hf1, hz1⟩ := G8.out.l2
     go_wp2_with fail
     refine (HNM.out _ _ G8.out.rd).mono ?_
     rintro e v7 ⟨rfl, hr, hs⟩
     have G9 := Hd (G8.out.call hr hs)
     clear hr hs hc0 hf0 hz0 hc1 hf1 hz1
     obtain ⟨hc0, hf0, hz0, hc1, hf1, hz1⟩ := G9.out.l2
     have G10 := Hd (G9.out.s1 hXl (.string (str (nmV ts (exc ts (adv s) [40])))))
     go_wp2_with fail
     refine (HES.out _ _ G10.out.rd).mono ?_
     rintro e v8 ⟨rfl, hr, hs⟩
     have G11 := Hd (G10.out.call hr hs)
     clear hr hs hc0 hf0 hz0 hc1 hf1 hz1
     obtain ⟨hc0, hf0, hz0, hc1, hf1, hz1⟩ := G11.out.l2
     have G12 := Hd (G11.out.leaf { labK 26 (lnR ts s) with name := nmV ts (exc ts (adv s) [40]) })
     go_wp2
     have G13 := Hd (G12.out.stoR hXl (List.Mem.tail _ (List.Mem.head _)) rfl (.int .i64 26) (.string (str (nmV ts (exc ts (adv s) [40])))) (.int .u64 0) (.int .i64 0) (.bool false) (.int .i64 0) (.int .i64 0) (.int .i64 0) (.int .i64 0) (.int .i64 ((lnR ts s : Nat) : Int)) (.slice none 0 0))
     refine bodyPost_ret (G13.out.b0.res1 Tryz.results198 Tryz.underlying28 rfl infoNd _ rfl) rfl ?_
     exact G13.out.outT (rfl)
    | false =>
     rw [g2] at HSC
     cases g3 : hasT ts s [40] with
     | true =>
      have hin := hasT_in g3
      have hra := rem_adv hin
      have HE : Hid (EQ ts (f1 + 1 + 1) .pr s = ((EQ ts (f1 + 1) .ex (adv s)).1, exc ts (EQ ts (f1 + 1) .ex (adv s)).2 [41])) := Hd (by rw [EQ_pr, if_neg h3, if_neg (by simp [g0]), if_neg (by simp [g1]), if_neg (by simp [g2]), if_pos g3])
      rw [HE.out]
      rw [g3] at HSD
      have HIN := Hd hin
      have hil : s.i < 65536 := by omega
      have HEX := Hd fun W (h : Rd W R g c ts (adv s)) => (H (f1 + 1) (Nat.le_refl _)).ex _ W h (by omega)
      clear HE H hR hin hra h3 hf hlen g0 g1 g2 g3
      go_enter Tryz.func198, Tryz.ntmps198
      go_wp2_with fail
      refine (HLN.out _ F0.out.rd).mono ?_
      rintro e v1 ⟨rfl, hb⟩
      have G1 := Hd (F0.out.quiet hXl hb)
      clear hb
      obtain ⟨hc0, hf0⟩ := G1.out.b0.all
      have hz0 := G1.out.b0.lt
      unfold ncz at hc0
      have hq10 := G1.out.b0.lt
      have G2 := Hd (G1.out.node hXl [.int .i64 0, .string ⟨#[]⟩, .int .u64 0, .int .i64 0, .bool false, .int .i64 0, .int .i64 0, .int .i64 0, .int .i64 0, .int .i64 ((lnR ts s : Nat) : Int), .slice none 0 0])
      go_wp2_with fail
      refine (HK.out _ G2.out.rd).mono ?_
      rintro e v2 ⟨rfl, hb⟩
      clear hc0 hf0 hz0
      have G3 := Hd (G2.out.quiet hXl hb)
      clear hb
      obtain ⟨hc0, hf0, hz0, hc1, hf1, hz1⟩ := G3.out.l2
      go_wp2_with fail
      refine (HT.out _ G3.out.rd).mono ?_
      rintro e v3 ⟨rfl, hb⟩
      have G4 := Hd (G3.out.quiet hXl hb)
      clear hb hc0 hf0 hz0 hc1 hf1 hz1
      obtain ⟨hc0, hf0, hz0, hc1, hf1, hz1⟩ := G4.out.l2
      go_wp2_with fail
      refine (HT.out _ G4.out.rd).mono ?_
      rintro e v4 ⟨rfl, hb⟩
      have G5 := Hd (G4.out.quiet hXl hb)
      clear hb hc0 hf0 hz0 hc1 hf1 hz1
      obtain ⟨hc0, hf0, hz0, hc1, hf1, hz1⟩ := G5.out.l2
      go_wp2_with fail
      refine (HSC.out _ G5.out.rd).mono ?_
      rintro e v5 ⟨rfl, hr, hs⟩
      have G6 := Hd (G5.out.call hr hs)
      clear hr hs hc0 hf0 hz0 hc1 hf1 hz1
      obtain ⟨hc0, hf0, hz0, hc1, hf1, hz1⟩ := G6.out.l2
      go_wp2_with fail
      refine (HSD.out _ G6.out.rd).mono ?_
      rintro e v6 ⟨rfl, hr, hs⟩
      have G7 := Hd (G6.out.call hr hs)
      clear hr hs hc0 hf0 hz0 hc1 hf1 hz1
      obtain ⟨hc0, hf0, hz0, hc1, hf1, hz1⟩ := G7.out.l2
      go_wp2_with fail
      refine (HEX.out _ G7.out.rd).mono ?_
      rintro e v7 ⟨l1, x1, n1, k1, rfl, hT, hr, hs⟩
      clear hc0 hf0 hz0 hc1 hf1 hz1
      have G8 := Hd (G7.out.tree hT hr hs)
      clear hT hr hs
      obtain ⟨hc0, hf0, hz0, hc1, hf1, hz1⟩ := G8.out.l2
      have G9 := Hd (G8.out.stor0 hXl rfl (.int .i64 l1.kind) (.string (str l1.name)) (.int .u64 l1.num) (.int .i64 l1.wd) (.bool l1.sg) (.int .i64 l1.op) (.int .i64 l1.fac) (.int .i64 l1.pip) (.int .i64 l1.unr) (.int .i64 l1.line) (.slice x1 n1 k1))
      go_wp2_with fail
      refine (HES.out _ _ G9.out.rd).mono ?_
      rintro e v8 ⟨rfl, hr, hs⟩
      have G10 := Hd (G9.out.call hr hs)
      clear hr hs hc0 hf0 hz0 hc1 hf1 hz1
      obtain ⟨hc0, hf0, hz0, hc1, hf1, hz1⟩ := G10.out.l2
      go_wp2
      have G11 := Hd (G10.out.stoR hXl (List.Mem.tail _ (List.Mem.head _)) rfl (.int .i64 l1.kind) (.string (str l1.name)) (.int .u64 l1.num) (.int .i64 l1.wd) (.bool l1.sg) (.int .i64 l1.op) (.int .i64 l1.fac) (.int .i64 l1.pip) (.int .i64 l1.unr) (.int .i64 l1.line) (.slice x1 n1 k1))
      refine bodyPost_ret (G11.out.b0.res1 Tryz.results198 Tryz.underlying28 rfl infoNd _ rfl) rfl ?_
      exact G11.out.outT (rfl)
     | false =>
      rw [g3] at HSD
      by_cases h1 : kd ts s = 1
      ·skip
       have hin := kd_in h1 (by decide)
       have hnm : nmS ts s = adv s := if_pos h1
       have hra := rem_adv hin
       have HTB := Hd fun W (h : Rd W R g c ts (nmS ts s)) => take_any X.x [91] (by simp) W h
       have HTP := Hd fun W (h : Rd W R g c ts (nmS ts s)) => take_any X.x [40] (by simp) W h
       unfold skp at HTB HTP
       rw [h1] at HK
       have HP : EQ ts (f1 + 1 + 1) .pr s = EQ ts (f1 + 1) .us s := by rw [EQ_pr, if_neg h3, if_neg (by simp [g0]), if_neg (by simp [g1]), if_neg (by simp [g2]), if_neg (by simp [g3]), if_pos h1]
       rw [HP, EQ_us]
       rw [← hnm] at hra
       clear HP hR h3 g0 g1 g2 g3 h1 hnm hin
       cases b1 : hasT ts (nmS ts s) [91] with
       | true =>
        have hin := hasT_in b1
        have hrb := rem_adv hin
        rw [b1] at HTB
        rw [if_pos rfl]
        have HEX := Hd fun W (h : Rd W R g c ts (adv (nmS ts s))) => (H f1 (Nat.le_succ _)).ex _ W h (by omega)
        clear H hin hra hrb hf hlen b1 HTP
        go_enter Tryz.func198, Tryz.ntmps198
        go_wp2_with fail
        refine (HLN.out _ F0.out.rd).mono ?_
        rintro e v1 ⟨rfl, hb⟩
        have G1 := Hd (F0.out.quiet hXl hb)
        clear hb
        obtain ⟨hc0, hf0⟩ := G1.out.b0.all
        have hz0 := G1.out.b0.lt
        unfold ncz at hc0
        have hq10 := G1.out.b0.lt
        have G2 := Hd (G1.out.node hXl [.int .i64 0, .string ⟨#[]⟩, .int .u64 0, .int .i64 0, .bool false, .int .i64 0, .int .i64 0, .int .i64 0, .int .i64 0, .int .i64 ((lnR ts s : Nat) : Int), .slice none 0 0])
        go_wp2_with fail
        refine (HK.out _ G2.out.rd).mono ?_
        rintro e v2 ⟨rfl, hb⟩
        clear hc0 hf0 hz0
        have G3 := Hd (G2.out.quiet hXl hb)
        clear hb
        obtain ⟨hc0, hf0, hz0, hc1, hf1, hz1⟩ := G3.out.l2
        go_wp2_with fail
        refine (HT.out _ G3.out.rd).mono ?_
        rintro e v3 ⟨rfl, hb⟩
        have G4 := Hd (G3.out.quiet hXl hb)
        clear hb hc0 hf0 hz0 hc1 hf1 hz1
        obtain ⟨hc0, hf0, hz0, hc1, hf1, hz1⟩ := G4.out.l2
        go_wp2_with fail
        refine (HT.out _ G4.out.rd).mono ?_
        rintro e v4 ⟨rfl, hb⟩
        have G5 := Hd (G4.out.quiet hXl hb)
        clear hb hc0 hf0 hz0 hc1 hf1 hz1
        obtain ⟨hc0, hf0, hz0, hc1, hf1, hz1⟩ := G5.out.l2
        go_wp2_with fail
        refine (HSC.out _ G5.out.rd).mono ?_
        rintro e v5 ⟨rfl, hr, hs⟩
        have G6 := Hd (G5.out.call hr hs)
        clear hr hs hc0 hf0 hz0 hc1 hf1 hz1
        obtain ⟨hc0, hf0, hz0, hc1, hf1, hz1⟩ := G6.out.l2
        go_wp2_with fail
        refine (HSD.out _ G6.out.rd).mono ?_
        rintro e v6 ⟨rfl, hr, hs⟩
        have G7 := Hd (G6.out.call hr hs)
        clear hr hs hc0 hf0 hz0 hc1 hf1 hz1
        obtain ⟨hc0, hf0, hz0, hc1, hf1, hz1⟩ := G7.out.l2
        go_wp2_with fail
        refine (HK.out _ G7.out.rd).mono ?_
        rintro e v7 ⟨rfl, hb⟩
        have G8 := Hd (G7.out.quiet hXl hb)
        clear hb hc0 hf0 hz0 hc1 hf1 hz1
        obtain ⟨hc0, hf0, hz0, hc1, hf1, hz1⟩ := G8.out.l2
        go_wp2_with fail
        refine (HNM.out _ _ G8.out.rd).mono ?_
        rintro e v8 ⟨rfl, hr, hs⟩
        have G9 := Hd (G8.out.call hr hs)
        clear hr hs hc0 hf0 hz0 hc1 hf1 hz1
        obtain ⟨hc0, hf0, hz0, hc1, hf1, hz1⟩ := G9.out.l2
        have G10 := Hd (G9.out.s1 hXl (.string (str (nmV ts s))))
        have G11 := Hd (G10.out.s0 hXl (.int .i64 19))
        go_wp2_with fail
        refine (HTB.out _ G11.out.rd).mono ?_
        rintro e v9 ⟨rfl, hr, hs⟩
        have G12 := Hd (G11.out.call hr hs)
        clear hr hs hc0 hf0 hz0 hc1 hf1 hz1
        obtain ⟨hc0, hf0, hz0, hc1, hf1, hz1⟩ := G12.out.l2
        have G13 := Hd (G12.out.fk)
        have G14 := Hd (G13.out.s0 hXl (.int .i64 20))
        go_wp2
        have G15 := Hd (G14.out.drew)
        go_region_law (first | (refine fk_append KT1.out hXl (by rfl) _ _ _ (by rfl) Tryz.underlying26 infoNd2 (by rfl) (by simp [Act.eval]) ?_; intro g1 c1 u1 hk6; have KX1 := Hd hk6; clear hk6; obtain ⟨hd10, he10, hy10, hd11, he11, hy11⟩ := KX1.out.fr.l2) | (go_simp; go_at_call 161; refine (HEX.out _ G15.out.fr.rd).mono ?_; rintro e y1 ⟨l1, x1, n1, k1, rfl, hT, hr, hs⟩; have KT1 := Hd (G15.out.callT (by simp) hT hr hs); clear hT hr hs; obtain ⟨hu10, hv10, hw10, hu11, hv11, hw11⟩ := KT1.out.fr.l2))
        all_goals
         clear hu10 hv10 hw10 hu11 hv11 hw11
         clear hc0 hf0 hz0 hc1 hf1 hz1
         have G16 := Hd (KX1.out.s10 hXl (.slice (some ⟨g1, 0, none⟩) 1 c1))
         go_wp2_with fail
         refine (HEB.out _ _ G16.out.fr.rd).mono ?_
         rintro e v10 ⟨rfl, hr, hs⟩
         have G17 := Hd (G16.out.call hr hs)
         clear hr hs
         obtain ⟨hc0, hf0, hz0, hc1, hf1, hz1⟩ := G17.out.fr.l2
         have G18 := Hd (G17.out.tree { labK 20 (lnR ts s) with name := nmV ts s })
         go_wp2
         have G19 := Hd (G18.out.stoR hXl (List.Mem.tail _ (List.Mem.head _)) rfl (.int .i64 20) (.string (str (nmV ts s))) (.int .u64 0) (.int .i64 0) (.bool false) (.int .i64 0) (.int .i64 0) (.int .i64 0) (.int .i64 0) (.int .i64 ((lnR ts s : Nat) : Int)) (.slice (some ⟨g1, 0, none⟩) 1 c1))
         refine bodyPost_ret (G19.out.b0.res1 Tryz.results198 Tryz.underlying28 rfl infoNd _ rfl) rfl ?_
         exact G19.out.outT (rfl)
       | false =>
        rw [b1] at HTB
        rw [if_neg (by simp)]
        cases b2 : hasT ts (nmS ts s) [40] with
        | false =>
         rw [b2] at HTP
         rw [if_neg (by simp)]
         clear H hra hf hlen b1 b2
         go_enter Tryz.func198, Tryz.ntmps198
         go_wp2_with fail
         refine (HLN.out _ F0.out.rd).mono ?_
         rintro e v1 ⟨rfl, hb⟩
         have G1 := Hd (F0.out.quiet hXl hb)
         clear hb
         obtain ⟨hc0, hf0⟩ := G1.out.b0.all
         have hz0 := G1.out.b0.lt
         unfold ncz at hc0
         have hq10 := G1.out.b0.lt
         have G2 := Hd (G1.out.node hXl [.int .i64 0, .string ⟨#[]⟩, .int .u64 0, .int .i64 0, .bool false, .int .i64 0, .int .i64 0, .int .i64 0, .int .i64 0, .int .i64 ((lnR ts s : Nat) : Int), .slice none 0 0])
         go_wp2_with fail
         refine (HK.out _ G2.out.rd).mono ?_
         rintro e v2 ⟨rfl, hb⟩
         clear hc0 hf0 hz0
         have G3 := Hd (G2.out.quiet hXl hb)
         clear hb
         obtain ⟨hc0, hf0, hz0, hc1, hf1, hz1⟩ := G3.out.l2
         go_wp2_with fail
         refine (HT.out _ G3.out.rd).mono ?_
         rintro e v3 ⟨rfl, hb⟩
         have G4 := Hd (G3.out.quiet hXl hb)
         clear hb hc0 hf0 hz0 hc1 hf1 hz1
         obtain ⟨hc0, hf0, hz0, hc1, hf1, hz1⟩ := G4.out.l2
         go_wp2_with fail
         refine (HT.out _ G4.out.rd).mono ?_
         rintro e v4 ⟨rfl, hb⟩
         have G5 := Hd (G4.out.quiet hXl hb)
         clear hb hc0 hf0 hz0 hc1 hf1 hz1
         obtain ⟨hc0, hf0, hz0, hc1, hf1, hz1⟩ := G5.out.l2
         go_wp2_with fail
         refine (HSC.out _ G5.out.rd).mono ?_
         rintro e v5 ⟨rfl, hr, hs⟩
         have G6 := Hd (G5.out.call hr hs)
         clear hr hs hc0 hf0 hz0 hc1 hf1 hz1
         obtain ⟨hc0, hf0, hz0, hc1, hf1, hz1⟩ := G6.out.l2
         go_wp2_with fail
         refine (HSD.out _ G6.out.rd).mono ?_
         rintro e v6 ⟨rfl, hr, hs⟩
         have G7 := Hd (G6.out.call hr hs)
         clear hr hs hc0 hf0 hz0 hc1 hf1 hz1
         obtain ⟨hc0, hf0, hz0, hc1, hf1, hz1⟩ := G7.out.l2
         go_wp2_with fail
         refine (HK.out _ G7.out.rd).mono ?_
         rintro e v7 ⟨rfl, hb⟩
         have G8 := Hd (G7.out.quiet hXl hb)
         clear hb hc0 hf0 hz0 hc1 hf1 hz1
         obtain ⟨hc0, hf0, hz0, hc1, hf1, hz1⟩ := G8.out.l2
         go_wp2_with fail
         refine (HNM.out _ _ G8.out.rd).mono ?_
         rintro e v8 ⟨rfl, hr, hs⟩
         have G9 := Hd (G8.out.call hr hs)
         clear hr hs hc0 hf0 hz0 hc1 hf1 hz1
         obtain ⟨hc0, hf0, hz0, hc1, hf1, hz1⟩ := G9.out.l2
         have G10 := Hd (G9.out.s1 hXl (.string (str (nmV ts s))))
         have G11 := Hd (G10.out.s0 hXl (.int .i64 19))
         go_wp2_with fail
         refine (HTB.out _ G11.out.rd).mono ?_
         rintro e v9 ⟨rfl, hr, hs⟩
         have G12 := Hd (G11.out.call hr hs)
         clear hr hs hc0 hf0 hz0 hc1 hf1 hz1
         obtain ⟨hc0, hf0, hz0, hc1, hf1, hz1⟩ := G12.out.l2
         go_wp2_with fail
         refine (HTP.out _ G12.out.rd).mono ?_
         rintro e v10 ⟨rfl, hr, hs⟩
         have G13 := Hd (G12.out.call hr hs)
         clear hr hs hc0 hf0 hz0 hc1 hf1 hz1
         obtain ⟨hc0, hf0, hz0, hc1, hf1, hz1⟩ := G13.out.l2
         have G14 := Hd (G13.out.leaf { labK 19 (lnR ts s) with name := nmV ts s })
         go_wp2
         have G15 := Hd (G14.out.stoR hXl (List.Mem.tail _ (List.Mem.head _)) rfl (.int .i64 19) (.string (str (nmV ts s))) (.int .u64 0) (.int .i64 0) (.bool false) (.int .i64 0) (.int .i64 0) (.int .i64 0) (.int .i64 0) (.int .i64 ((lnR ts s : Nat) : Int)) (.slice none 0 0))
         refine bodyPost_ret (G15.out.b0.res1 Tryz.results198 Tryz.underlying28 rfl infoNd _ rfl) rfl ?_
         exact G15.out.outT (rfl)
        | true =>
         have hin := hasT_in b2
         have hrb := rem_adv hin
         rw [b2] at HTP
         rw [if_pos rfl]
         have hexc : exc ts (nmS ts s) [40] = adv (nmS ts s) := by unfold exc; rw [b2]; rfl
         unfold listM
         rw [hexc]
         have HTZ := Hd fun W (h : Rd W R g c ts (adv (nmS ts s))) => take_any X.x [41] (by simp) W h
         unfold skp at HTZ
         cases b3 : hasT ts (adv (nmS ts s)) [41] with
         | true =>
          rw [b3] at HTZ
          rw [if_pos rfl]
          clear H hin hra hrb hf hlen b1 b2 b3 hexc
          go_enter Tryz.func198, Tryz.ntmps198
          go_wp2_with fail
          refine (HLN.out _ F0.out.rd).mono ?_
          rintro e v1 ⟨rfl, hb⟩
          have G1 := Hd (F0.out.quiet hXl hb)
          clear hb
          obtain ⟨hc0, hf0⟩ := G1.out.b0.all
          have hz0 := G1.out.b0.lt
          unfold ncz at hc0
          have hq10 := G1.out.b0.lt
          have G2 := Hd (G1.out.node hXl [.int .i64 0, .string ⟨#[]⟩, .int .u64 0, .int .i64 0, .bool false, .int .i64 0, .int .i64 0, .int .i64 0, .int .i64 0, .int .i64 ((lnR ts s : Nat) : Int), .slice none 0 0])
          go_wp2_with fail
          refine (HK.out _ G2.out.rd).mono ?_
          rintro e v2 ⟨rfl, hb⟩
          clear hc0 hf0 hz0
          have G3 := Hd (G2.out.quiet hXl hb)
          clear hb
          obtain ⟨hc0, hf0, hz0, hc1, hf1, hz1⟩ := G3.out.l2
          go_wp2_with fail
          refine (HT.out _ G3.out.rd).mono ?_
          rintro e v3 ⟨rfl, hb⟩
          have G4 := Hd (G3.out.quiet hXl hb)
          clear hb hc0 hf0 hz0 hc1 hf1 hz1
          obtain ⟨hc0, hf0, hz0, hc1, hf1, hz1⟩ := G4.out.l2
          go_wp2_with fail
          refine (HT.out _ G4.out.rd).mono ?_
          rintro e v4 ⟨rfl, hb⟩
          have G5 := Hd (G4.out.quiet hXl hb)
          clear hb hc0 hf0 hz0 hc1 hf1 hz1
          obtain ⟨hc0, hf0, hz0, hc1, hf1, hz1⟩ := G5.out.l2
          go_wp2_with fail
          refine (HSC.out _ G5.out.rd).mono ?_
          rintro e v5 ⟨rfl, hr, hs⟩
          have G6 := Hd (G5.out.call hr hs)
          clear hr hs hc0 hf0 hz0 hc1 hf1 hz1
          obtain ⟨hc0, hf0, hz0, hc1, hf1, hz1⟩ := G6.out.l2
          go_wp2_with fail
          refine (HSD.out _ G6.out.rd).mono ?_
          rintro e v6 ⟨rfl, hr, hs⟩
          have G7 := Hd (G6.out.call hr hs)
          clear hr hs hc0 hf0 hz0 hc1 hf1 hz1
          obtain ⟨hc0, hf0, hz0, hc1, hf1, hz1⟩ := G7.out.l2
          go_wp2_with fail
          refine (HK.out _ G7.out.rd).mono ?_
          rintro e v7 ⟨rfl, hb⟩
          have G8 := Hd (G7.out.quiet hXl hb)
          clear hb hc0 hf0 hz0 hc1 hf1 hz1
          obtain ⟨hc0, hf0, hz0, hc1, hf1, hz1⟩ := G8.out.l2
          go_wp2_with fail
          refine (HNM.out _ _ G8.out.rd).mono ?_
          rintro e v8 ⟨rfl, hr, hs⟩
          have G9 := Hd (G8.out.call hr hs)
          clear hr hs hc0 hf0 hz0 hc1 hf1 hz1
          obtain ⟨hc0, hf0, hz0, hc1, hf1, hz1⟩ := G9.out.l2
          have G10 := Hd (G9.out.s1 hXl (.string (str (nmV ts s))))
          have G11 := Hd (G10.out.s0 hXl (.int .i64 19))
          go_wp2_with fail
          refine (HTB.out _ G11.out.rd).mono ?_
          rintro e v9 ⟨rfl, hr, hs⟩
          have G12 := Hd (G11.out.call hr hs)
          clear hr hs hc0 hf0 hz0 hc1 hf1 hz1
          obtain ⟨hc0, hf0, hz0, hc1, hf1, hz1⟩ := G12.out.l2
          go_wp2_with fail
          refine (HTP.out _ G12.out.rd).mono ?_
          rintro e v10 ⟨rfl, hr, hs⟩
          have G13 := Hd (G12.out.call hr hs)
          clear hr hs hc0 hf0 hz0 hc1 hf1 hz1
          obtain ⟨hc0, hf0, hz0, hc1, hf1, hz1⟩ := G13.out.l2
          have G14 := Hd (G13.out.s0 hXl (.int .i64 25))
          go_wp2_with fail
          refine (HTZ.out _ G14.out.rd).mono ?_
          rintro e v11 ⟨rfl, hr, hs⟩
          have G15 := Hd (G14.out.call hr hs)
          clear hr hs hc0 hf0 hz0 hc1 hf1 hz1
          obtain ⟨hc0, hf0, hz0, hc1, hf1, hz1⟩ := G15.out.l2
          have G16 := Hd (G15.out.leaf { labK 25 (lnR ts s) with name := nmV ts s })
          go_wp2
          have G17 := Hd (G16.out.stoR hXl (List.Mem.tail _ (List.Mem.head _)) rfl (.int .i64 25) (.string (str (nmV ts s))) (.int .u64 0) (.int .i64 0) (.bool false) (.int .i64 0) (.int .i64 0) (.int .i64 0) (.int .i64 0) (.int .i64 ((lnR ts s : Nat) : Int)) (.slice none 0 0))
          refine bodyPost_ret (G17.out.b0.res1 Tryz.results198 Tryz.underlying28 rfl infoNd _ rfl) rfl ?_
          exact G17.out.outT (rfl)
         | false =>
          rw [b3] at HTZ
          rw [if_neg (by simp)]
          obtain ⟨f2, rfl⟩ : ∃ f2, f1 = f2 + 1 := ⟨f1 - 1, by omega⟩
          have HI := Hd fun q W (hq : rem ts q ≤ rem ts (adv (nmS ts s))) (h : Rd W R g c ts q) => (H (f2 + 1) (Nat.le_succ _)).ex q W h (by omega)
          obtain ⟨item, hitem⟩ : ∃ item, item = fun q => EQ ts (f2 + 1) .ex q := ⟨_, rfl⟩
          have HI2 : Hid (∀ q W, rem ts q ≤ rem ts (adv (nmS ts s)) → Rd W R g c ts q → Calls Tryz.prog 161 #[.pointer (some ⟨R, 0, none⟩)] W (TP W R g c ts (item q))) := Hd fun q W hq h => by rw [hitem]; exact HI.out q W hq h
          have HIO : Hid (∀ q, On ts q (item q).2) := Hd fun q => by rw [hitem]; exact EQ_on ts (f2 + 1) .ex trivial q
          rw [← hitem]
          have hr1 := rem_on (HIO.out (adv (nmS ts s)))
          obtain ⟨B0, hB0⟩ : ∃ B0, B0 = rem ts (adv (nmS ts s)) := ⟨_, rfl⟩
          rw [← hB0] at HI2 hr1 hrb
          have hrl : rem ts (adv (nmS ts s)) ≤ ts.length := rem_le
          rw [← hB0] at hrl
          have HX0 := Hd fun W (h : Rd W R g c ts (adv (nmS ts s))) => HI2.out (adv (nmS ts s)) W (by omega) h
          have hfu : rem ts (item (adv (nmS ts s))).2 + 1 ≤ f2 + 1 := by omega
          obtain ⟨Z, hZ⟩ : ∃ Z, Z = more ts item (f2 + 1) [(item (adv (nmS ts s))).1] (item (adv (nmS ts s))).2 := ⟨_, rfl⟩
          rw [← hZ]
          have HZ := Hd hZ
          clear H HI hitem hin hra hrb hf b1 b2 b3 hexc hZ hB0
          go_enter Tryz.func198, Tryz.ntmps198
          go_wp2_with fail
          refine (HLN.out _ F0.out.rd).mono ?_
          rintro e v1 ⟨rfl, hb⟩
          have G1 := Hd (F0.out.quiet hXl hb)
          clear hb
          obtain ⟨hc0, hf0⟩ := G1.out.b0.all
          have hz0 := G1.out.b0.lt
          unfold ncz at hc0
          have hq10 := G1.out.b0.lt
          have G2 := Hd (G1.out.node hXl [.int .i64 0, .string ⟨#[]⟩, .int .u64 0, .int .i64 0, .bool false, .int .i64 0, .int .i64 0, .int .i64 0, .int .i64 0, .int .i64 ((lnR ts s : Nat) : Int), .slice none 0 0])
          go_wp2_with fail
          refine (HK.out _ G2.out.rd).mono ?_
          rintro e v2 ⟨rfl, hb⟩
          clear hc0 hf0 hz0
          have G3 := Hd (G2.out.quiet hXl hb)
          clear hb
          obtain ⟨hc0, hf0, hz0, hc1, hf1, hz1⟩ := G3.out.l2
          go_wp2_with fail
          refine (HT.out _ G3.out.rd).mono ?_
          rintro e v3 ⟨rfl, hb⟩
          have G4 := Hd (G3.out.quiet hXl hb)
          clear hb hc0 hf0 hz0 hc1 hf1 hz1
          obtain ⟨hc0, hf0, hz0, hc1, hf1, hz1⟩ := G4.out.l2
          go_wp2_with fail
          refine (HT.out _ G4.out.rd).mono ?_
          rintro e v4 ⟨rfl, hb⟩
          have G5 := Hd (G4.out.quiet hXl hb)
          clear hb hc0 hf0 hz0 hc1 hf1 hz1
          obtain ⟨hc0, hf0, hz0, hc1, hf1, hz1⟩ := G5.out.l2
          go_wp2_with fail
          refine (HSC.out _ G5.out.rd).mono ?_
          rintro e v5 ⟨rfl, hr, hs⟩
          have G6 := Hd (G5.out.call hr hs)
          clear hr hs hc0 hf0 hz0 hc1 hf1 hz1
          obtain ⟨hc0, hf0, hz0, hc1, hf1, hz1⟩ := G6.out.l2
          go_wp2_with fail
          refine (HSD.out _ G6.out.rd).mono ?_
          rintro e v6 ⟨rfl, hr, hs⟩
          have G7 := Hd (G6.out.call hr hs)
          clear hr hs hc0 hf0 hz0 hc1 hf1 hz1
          obtain ⟨hc0, hf0, hz0, hc1, hf1, hz1⟩ := G7.out.l2
          go_wp2_with fail
          refine (HK.out _ G7.out.rd).mono ?_
          rintro e v7 ⟨rfl, hb⟩
          have G8 := Hd (G7.out.quiet hXl hb)
          clear hb hc0 hf0 hz0 hc1 hf1 hz1
          obtain ⟨hc0, hf0, hz0, hc1, hf1, hz1⟩ := G8.out.l2
          go_wp2_with fail
          refine (HNM.out _ _ G8.out.rd).mono ?_
          rintro e v8 ⟨rfl, hr, hs⟩
          have G9 := Hd (G8.out.call hr hs)
          clear hr hs hc0 hf0 hz0 hc1 hf1 hz1
          obtain ⟨hc0, hf0, hz0, hc1, hf1, hz1⟩ := G9.out.l2
          have G10 := Hd (G9.out.s1 hXl (.string (str (nmV ts s))))
          have G11 := Hd (G10.out.s0 hXl (.int .i64 19))
          go_wp2_with fail
          refine (HTB.out _ G11.out.rd).mono ?_
          rintro e v9 ⟨rfl, hr, hs⟩
          have G12 := Hd (G11.out.call hr hs)
          clear hr hs hc0 hf0 hz0 hc1 hf1 hz1
          obtain ⟨hc0, hf0, hz0, hc1, hf1, hz1⟩ := G12.out.l2
          go_wp2_with fail
          refine (HTP.out _ G12.out.rd).mono ?_
          rintro e v10 ⟨rfl, hr, hs⟩
          have G13 := Hd (G12.out.call hr hs)
          clear hr hs hc0 hf0 hz0 hc1 hf1 hz1
          obtain ⟨hc0, hf0, hz0, hc1, hf1, hz1⟩ := G13.out.l2
          have G14 := Hd (G13.out.s0 hXl (.int .i64 25))
          go_wp2_with fail
          refine (HTZ.out _ G14.out.rd).mono ?_
          rintro e v11 ⟨rfl, hr, hs⟩
          have G15 := Hd (G14.out.call hr hs)
          clear hr hs hc0 hf0 hz0 hc1 hf1 hz1
          obtain ⟨hc0, hf0, hz0, hc1, hf1, hz1⟩ := G15.out.l2
          have G16 := Hd (G15.out.fk)
          go_wp2
          have G17 := Hd (G16.out.drew)
          go_region_law (first | (refine fk_append KT1.out hXl (by rfl) _ _ _ (by rfl) Tryz.underlying26 infoNd2 (by rfl) (by simp [Act.eval]) ?_; intro g1 c1 u1 hk6; have KX1 := Hd hk6; clear hk6; obtain ⟨hd10, he10, hy10, hd11, he11, hy11⟩ := KX1.out.fr.l2) | (go_simp; go_at_call 161; refine (HX0.out _ G17.out.fr.rd).mono ?_; rintro e y1 ⟨l1, x1, n1, k1, rfl, hT, hr, hs⟩; have KT1 := Hd (G17.out.callT (by simp) hT hr hs); clear hT hr hs; obtain ⟨hu10, hv10, hw10, hu11, hv11, hw11⟩ := KT1.out.fr.l2))
          all_goals
           clear hu10 hv10 hw10 hu11 hv11 hw11
           clear hc0 hf0 hz0 hc1 hf1 hz1
           have G18 := Hd (KX1.out.s10 hXl (.slice (some ⟨g1, 0, none⟩) 1 c1))
           have h0 : Hid (CaSt ts R g c w w.heap.size v1.heap.size v11.heap.size item B0 Z (str (nmV ts s)) (lnR ts s) _ (item (adv (nmS ts s))).2) := Hd ⟨some ⟨g1, 0, none⟩, c1, f2 + 1, [(item (adv (nmS ts s))).1], G18.out, HZ.out, hfu, by simp; omega, hr1⟩
           have hL01 : w.heap.size < v1.heap.size := hq10
           clear hfu HZ HX0
           go_wp2
           go_loopw [108] (fun _ wr => ∃ st, Hid (CaSt ts R g c w w.heap.size v1.heap.size v11.heap.size item B0 Z (str (nmV ts s)) (lnR ts s) wr st)) (fun _ wr => ts.length - atW wr R)
           case atStart => exact ⟨_, h0⟩
           case round =>
            obtain ⟨st, hT⟩ := hrel
            obtain ⟨xk, kk, F, acc, hFr, hZ, hfu2, hal, hB⟩ := hT.out
            have J0 := Hd hFr
            have HZ2 := Hd hZ
            have HS2 := Hd fun W (h : Rd W R g c ts st) => HTK.out [44] (by simp) st W h
            clear hFr hZ hT h0
            cases hh : hasT ts st [44] with
            | true =>
             have hin := hasT_in hh
             have hra := rem_adv hin
             rw [hh] at HS2
             obtain ⟨F2, rfl⟩ : ∃ F2, F = F2 + 1 := ⟨F - 1, by omega⟩
             have HZ3 : Hid (Z = more ts item F2 (acc ++ [(item (adv st)).1]) (item (adv st)).2) := Hd (by rw [HZ2.out, more, if_pos hh])
             have hrt := rem_on (HIO.out (adv st))
             have HX1 := Hd fun W (h : Rd W R g c ts (adv st)) => HI2.out (adv st) W (by omega) h
             have hm0 := atW_rd J0.out.fr.rd
             have HHIN := Hd hin
             have hatl := J0.out.fr.rd.hi
             have hfew : acc.length ≤ 99999 := by omega
             have HON := Hd (HIO.out (adv st))
             clear hh hin HZ2
             go_wp2_with fail
             refine (HS2.out _ J0.out.fr.rd).mono ?_
             rintro e v12 ⟨rfl, hr, hs⟩
             have G71 := Hd (J0.out.call hr hs)
             clear hr hs
             obtain ⟨hc0, hf0, hz0, hc1, hf1, hz1⟩ := G71.out.fr.l2
             go_wp2
             have G72 := Hd (G71.out.drew)
             go_region_law (first | (refine fk_append KT5.out hXl (by rfl) _ _ _ (by rfl) Tryz.underlying26 infoNd2 (by rfl) (by simp [Act.eval]) ?_; intro g5 c5 u5 hk6; have KX5 := Hd hk6; clear hk6; obtain ⟨hd50, he50, hy50, hd51, he51, hy51⟩ := KX5.out.fr.l2) | (go_simp; go_at_call 161; refine (HX1.out _ G72.out.fr.rd).mono ?_; rintro e y5 ⟨l2, x2, n2, k2, rfl, hT, hr, hs⟩; have KT5 := Hd (G72.out.callT hfew hT hr hs); clear hT hr hs; obtain ⟨hu50, hv50, hw50, hu51, hv51, hw51⟩ := KT5.out.fr.l2))
             all_goals
              clear hu50 hv50 hw50 hu51 hv51 hw51
              clear hc0 hf0 hz0 hc1 hf1 hz1
              have G73 := Hd (KX5.out.s10 hXl (.slice (some ⟨g5, 0, none⟩) (acc.length + 1) c5))
              have JE := Hd G73.out
              have hm1 := atW_rd JE.out.fr.rd
              have hma := at_adv HHIN.out HON.out JE.out.fr.rd.hi
              have hal2 : (acc ++ [(item (adv st)).1]).length = acc.length + 1 := by simp
              have HN2 : Hid (CaSt ts R g c w w.heap.size v1.heap.size v11.heap.size item B0 Z (str (nmV ts s)) (lnR ts s) _ (item (adv st)).2) := Hd ⟨some ⟨g5, 0, none⟩, c5, F2, _, (by rw [hal2]; exact JE.out), HZ3.out, by omega, by rw [hal2]; omega, by omega⟩
              have hmm : Hid (atW wr R = st.i) := Hd hm0
              have HM1 := Hd hm1
              have HM : Hid (ts.length - ((item (adv st)).2).i < ts.length - st.i) := Hd (by omega)
              clear hm0 hm1
              go_wp2
              go_roundw
              case rel => exact ⟨_, HN2⟩
              case measure => (rw [hmm.out]; refine Nat.lt_of_le_of_lt (Nat.le_of_eq ?_) HM.out; exact congrArg (ts.length - ·) HM1.out)
            | false =>
             rw [hh] at HS2
             have HZ3 : Hid (Z = (acc, st)) := Hd (by
              rw [HZ2.out]
              cases F with
              | zero => rfl
              | succ F => rw [more, if_neg (by simp [hh])])
             have hz3 := HZ3.out
             subst hz3
             clear hh HZ2 HZ3
             go_wp2_with fail
             refine (HS2.out _ J0.out.fr.rd).mono ?_
             rintro e v13 ⟨rfl, hr, hs⟩
             have G91 := Hd (J0.out.call hr hs)
             clear hr hs
             obtain ⟨hc0, hf0, hz0, hc1, hf1, hz1⟩ := G91.out.fr.l2
             go_wp2_with fail
             refine (HES.out _ _ G91.out.fr.rd).mono ?_
             rintro e v14 ⟨rfl, hr, hs⟩
             have G92 := Hd (G91.out.call hr hs)
             clear hr hs hc0 hf0 hz0 hc1 hf1 hz1
             obtain ⟨hc0, hf0, hz0, hc1, hf1, hz1⟩ := G92.out.fr.l2
             have G93 := Hd (G92.out.tree { labK 25 (lnR ts s) with name := nmV ts s })
             go_wp2
             have G94 := Hd (G93.out.stoR hXl (List.Mem.tail _ (List.Mem.head _)) rfl (.int .i64 25) (.string (str (nmV ts s))) (.int .u64 0) (.int .i64 0) (.bool false) (.int .i64 0) (.int .i64 0) (.int .i64 0) (.int .i64 0) (.int .i64 (lnR ts s : Int)) (.slice xk acc.length kk))
             refine bodyPost_ret (G94.out.b0.res1 Tryz.results198 Tryz.underlying28 rfl infoNd _ rfl) rfl ?_
             exact G94.out.outT (rfl)
      ·have HE : Hid (EQ ts (f1 + 1 + 1) .pr s = (.node (labK 0 (lnR ts s)) [], stop s)) := Hd (by rw [EQ_pr, if_neg h3, if_neg (by simp [g0]), if_neg (by simp [g1]), if_neg (by simp [g2]), if_neg (by simp [g3]), if_neg h1, if_neg (by omega)])
       rw [HE.out]
       have qk1 : ((kd ts s : Int) == 1) = false := by simp; omega
       clear HE H hR h3 hf hlen g0 g1 g2 g3 h1
       go_enter Tryz.func198, Tryz.ntmps198
       go_wp2_with fail
       refine (HLN.out _ F0.out.rd).mono ?_
       rintro e v1 ⟨rfl, hb⟩
       have G1 := Hd (F0.out.quiet hXl hb)
       clear hb
       obtain ⟨hc0, hf0⟩ := G1.out.b0.all
       have hz0 := G1.out.b0.lt
       unfold ncz at hc0
       have hq10 := G1.out.b0.lt
       have G2 := Hd (G1.out.node hXl [.int .i64 0, .string ⟨#[]⟩, .int .u64 0, .int .i64 0, .bool false, .int .i64 0, .int .i64 0, .int .i64 0, .int .i64 0, .int .i64 ((lnR ts s : Nat) : Int), .slice none 0 0])
       go_wp2_with fail
       refine (HK.out _ G2.out.rd).mono ?_
       rintro e v2 ⟨rfl, hb⟩
       clear hc0 hf0 hz0
       have G3 := Hd (G2.out.quiet hXl hb)
       clear hb
       obtain ⟨hc0, hf0, hz0, hc1, hf1, hz1⟩ := G3.out.l2
       go_wp2_with fail
       refine (HT.out _ G3.out.rd).mono ?_
       rintro e v3 ⟨rfl, hb⟩
       have G4 := Hd (G3.out.quiet hXl hb)
       clear hb hc0 hf0 hz0 hc1 hf1 hz1
       obtain ⟨hc0, hf0, hz0, hc1, hf1, hz1⟩ := G4.out.l2
       go_wp2_with fail
       refine (HT.out _ G4.out.rd).mono ?_
       rintro e v4 ⟨rfl, hb⟩
       have G5 := Hd (G4.out.quiet hXl hb)
       clear hb hc0 hf0 hz0 hc1 hf1 hz1
       obtain ⟨hc0, hf0, hz0, hc1, hf1, hz1⟩ := G5.out.l2
       go_wp2_with fail
       refine (HSC.out _ G5.out.rd).mono ?_
       rintro e v5 ⟨rfl, hr, hs⟩
       have G6 := Hd (G5.out.call hr hs)
       clear hr hs hc0 hf0 hz0 hc1 hf1 hz1
       obtain ⟨hc0, hf0, hz0, hc1, hf1, hz1⟩ := G6.out.l2
       go_wp2_with fail
       refine (HSD.out _ G6.out.rd).mono ?_
       rintro e v6 ⟨rfl, hr, hs⟩
       have G7 := Hd (G6.out.call hr hs)
       clear hr hs hc0 hf0 hz0 hc1 hf1 hz1
       obtain ⟨hc0, hf0, hz0, hc1, hf1, hz1⟩ := G7.out.l2
       go_wp2_with fail
       refine (HK.out _ G7.out.rd).mono ?_
       rintro e v7 ⟨rfl, hb⟩
       have G8 := Hd (G7.out.quiet hXl hb)
       clear hb hc0 hf0 hz0 hc1 hf1 hz1
       obtain ⟨hc0, hf0, hz0, hc1, hf1, hz1⟩ := G8.out.l2
       have hRn0 := (G8.out.bl _ _ (List.Mem.head _)).2
       have hRn1 := (G8.out.bl _ _ (List.Mem.tail _ (List.Mem.head _))).2
       have hRw := G8.out.hR
       obtain ⟨c0, c1, c2, fr1, fr2⟩ := G8.out.rd.cells
       have hzR := G8.out.rd.lt
       clear c0 c1 fr1
       have G9 := Hd (G8.out.badR hXl)
       have G10 := Hd (G9.out.leaf (labK 0 (lnR ts s)))
       go_wp2
       have G11 := Hd (G10.out.stoR hXl (List.Mem.tail _ (List.Mem.head _)) rfl (.int .i64 0) (.string ⟨#[]⟩) (.int .u64 0) (.int .i64 0) (.bool false) (.int .i64 0) (.int .i64 0) (.int .i64 0) (.int .i64 0) (.int .i64 ((lnR ts s : Nat) : Int)) (.slice none 0 0))
       refine bodyPost_ret (G11.out.b0.res1 Tryz.results198 Tryz.underlying28 rfl infoNd _ rfl) rfl ?_
       exact G11.out.outT (rfl)
end Q
end Go.Proofs.YtkliclihpobmiaaGreatDoor
