/- The reference's rule function: contracts. -/
import Derived.Test.YtkliclihpobmiaaGreatDoorMgPqSa
import Derived.Test.YtkliclihpobmiaaGreatDoorMgPqPa
import Derived.Test.YtkliclihpobmiaaGreatDoorMgPqPm
import Derived.Deep.RegionWith
import Derived.BigRegion
namespace Go.Proofs.YtkliclihpobmiaaGreatDoor
namespace Q
open Go Go.RowKit
set_option linter.unusedVariables false
set_option linter.unusedSimpArgs false

theorem exc_has {ts : List Tok} {s : Sg} {t : List UInt8} (h : hasT ts s t = true) : exc ts s t = adv s := by unfold exc; rw [h]; rfl
def FnSt (ts : List Tok) (R g c : Nat) (w : World) (L0 L1 base : Nat) (item : Sg → Tree × Sg) (Z : List Tree × Sg) (kind : Int) (nm : ByteArray) (line : Nat) (wr : World) (st : Sg) : Prop :=
 ∃ (x : Option Addr) (k F : Nat) (acc : List Tree), FK w wr R g c ts st [(L1, [.int .i64 kind, .string nm, .int .u64 0, .int .i64 0, .bool false, .int .i64 0, .int .i64 0, .int .i64 0, .int .i64 0, .int .i64 (line : Int), .slice x acc.length k]), (L0, ncz)] base (.slice x acc.length k) acc ∧ Z = more ts item F acc st ∧ rem ts st + 1 ≤ F ∧ acc.length + rem ts st ≤ ts.length + 1
set_option maxHeartbeats 16000000 in
set_option maxRecDepth 100000 in
theorem func_any {ts : List Tok} {R g c : Nat} (X : QC ts R g c) (K : KW ts) (s : Sg) (hv : hasT ts s [102, 110] = true) (w : World) (hR : Rd w R g c ts s) : Calls Tryz.prog 71 #[.pointer (some ⟨R, 0, none⟩)] w (TP w R g c ts (funcQ ts s)) := by
 have hXl := X.x.lt
 have F0 := Hd ((Fr.start hR).node hXl ncz)
 have HLN := Hd fun W (h : Rd W R g c ts s) => line_any X.x W h
 have HT := Hd fun W (h : Rd W R g c ts s) => text_any X.x W h
 have HTX := Hd fun q W (h : Rd W R g c ts q) => text_any X.x (s := q) W h
 have HNM := Hd fun W (h : Rd W R g c ts (adv s)) => name_any X.x (s := adv s) W h
 have HTK := Hd fun t (ht : t ≠ []) q W (h : Rd W R g c ts q) => take_any X.x (s := q) t ht W h
 have HTY := Hd fun q W (h : Rd W R g c ts q) => typ_any X (s := q) W h
 have HBK := Hd fun q W (h : Rd W R g c ts q) => blk_any X K q W h
 have HPA := Hd fun q W (h : Rd W R g c ts q) => scal_any X q W h
 have HEO := Hd fun q W (h : Rd W R g c ts q) => need_any X.x (s := q) [40] (by simp) W h
 have HES := Hd fun q W (h : Rd W R g c ts q) => need_any X.x (s := q) [41] (by simp) W h
 have HEA := Hd fun q W (h : Rd W R g c ts q) => need_any X.x (s := q) [45, 62] (by simp) W h
 unfold skp at HTK
 have HTZ := Hd fun W (h : Rd W R g c ts (exc ts (nmS ts (adv s)) [40])) => HTK.out [41] (by simp) (exc ts (nmS ts (adv s)) [40]) W h
 have hin := hasT_in hv
 have HIN := Hd hin
 have hlen := X.x.len
 have hil : s.i < 65536 := by omega
 have hq0 := str_lit ts s [102, 110]
 rw [hv] at hq0
 obtain ⟨item, hitem⟩ : ∃ item, item = scalQ ts := ⟨_, rfl⟩
 have HIO : Hid (∀ q, On ts q (item q).2) := Hd fun q => by rw [hitem]; exact scal_on ts q
 have HPI : Hid (∀ q W, Rd W R g c ts q → Calls Tryz.prog 108 #[.pointer (some ⟨R, 0, none⟩), .int .i64 2] W (TP W R g c ts (item q))) := Hd fun q W h => by rw [hitem]; exact HPA.out q W h
 obtain ⟨PL, hPL⟩ : ∃ PL, PL = listM ts item (big ts) (nmS ts (adv s)) := ⟨_, rfl⟩
 have HM : Hid (funcQ ts s = (.node { labK 2 (lnR ts s) with name := nmV ts (adv s), wd := (tyV' ts (exc ts PL.2 [45, 62])).1, sg := (tyV' ts (exc ts PL.2 [45, 62])).2 } (PL.1 ++ [(blkQ ts (tyS ts (exc ts PL.2 [45, 62]))).1]), (blkQ ts (tyS ts (exc ts PL.2 [45, 62]))).2)) := Hd (by rw [hPL, hitem]; rfl)
 rw [HM.out]
 clear HM
 unfold listM at hPL
 clear hitem HPA hin hv hR
 have hrl : rem ts (exc ts (nmS ts (adv s)) [40]) ≤ ts.length := rem_le
 cases b3 : hasT ts (exc ts (nmS ts (adv s)) [40]) [41] with
 | true =>
  rw [b3] at HTZ hPL
  rw [if_pos rfl] at hPL
  subst hPL
  clear HPI HIO b3 hrl
  try dsimp only
  go_enter Tryz.func71, Tryz.ntmps71
  go_wp2_with fail
  refine (HLN.out _ F0.out.rd).mono ?_
  rintro e v1 ⟨rfl, hb⟩
  have G1 := Hd (F0.out.quiet hXl hb)
  clear hb
  obtain ⟨hc0, hf0⟩ := G1.out.b0.all
  have hz0 := G1.out.b0.lt
  unfold ncz at hc0
  have hq10 := G1.out.b0.lt
  have G2 := Hd (G1.out.node hXl [.int .i64 3, .string ⟨#[]⟩, .int .u64 0, .int .i64 0, .bool false, .int .i64 0, .int .i64 0, .int .i64 0, .int .i64 0, .int .i64 ((lnR ts s : Nat) : Int), .slice none 0 0])
  go_wp2_with fail
  refine (HT.out _ G2.out.rd).mono ?_
  rintro e v2 ⟨rfl, hb⟩
  clear hc0 hf0 hz0
  have G3 := Hd (G2.out.quiet hXl hb)
  clear hb
  obtain ⟨hc0, hf0, hz0, hc1, hf1, hz1⟩ := G3.out.l2
  have G4 := Hd (G3.out.s0 hXl (.int .i64 2))
  have hRn0 := (G3.out.bl _ _ (List.Mem.head _)).2
  have hRn1 := (G3.out.bl _ _ (List.Mem.tail _ (List.Mem.head _))).2
  have hRw := G3.out.hR
  obtain ⟨c0, c1, c2, fr1, fr2⟩ := G3.out.rd.cells
  have hzR := G3.out.rd.lt
  clear c0 c2 fr2
  have G5 := Hd (G4.out.advR hXl HIN.out (v := (s.i : Int) + 1) rfl)
  go_wp2_with fail
  refine (HNM.out _ G5.out.rd).mono ?_
  rintro e v3 ⟨rfl, hr, hs⟩
  have G6 := Hd (G5.out.call hr hs)
  clear hr hs hc0 hf0 hz0 hc1 hf1 hz1
  obtain ⟨hc0, hf0, hz0, hc1, hf1, hz1⟩ := G6.out.l2
  have G7 := Hd (G6.out.s1 hXl (.string (str (nmV ts (adv s)))))
  go_wp2_with fail
  refine (HEO.out _ _ G7.out.rd).mono ?_
  rintro e v4 ⟨rfl, hr, hs⟩
  have G8 := Hd (G7.out.call hr hs)
  clear hr hs hc0 hf0 hz0 hc1 hf1 hz1
  obtain ⟨hc0, hf0, hz0, hc1, hf1, hz1⟩ := G8.out.l2
  go_wp2_with fail
  refine (HTZ.out _ G8.out.rd).mono ?_
  rintro e v5 ⟨rfl, hr, hs⟩
  have G9 := Hd (G8.out.call hr hs)
  clear hr hs hc0 hf0 hz0 hc1 hf1 hz1
  obtain ⟨hc0, hf0, hz0, hc1, hf1, hz1⟩ := G9.out.l2
  have G10 := Hd (G9.out.fk)
  go_wp2_with fail
  refine (HEA.out _ _ G10.out.fr.rd).mono ?_
  rintro e v6 ⟨rfl, hr, hs⟩
  have G11 := Hd (G10.out.call hr hs)
  clear hr hs hc0 hf0 hz0 hc1 hf1 hz1
  obtain ⟨hc0, hf0, hz0, hc1, hf1, hz1⟩ := G11.out.fr.l2
  go_wp2_with fail
  refine (HTY.out _ _ G11.out.fr.rd).mono ?_
  rintro e v7 ⟨rfl, hr, hs⟩
  have G12 := Hd (G11.out.call hr hs)
  clear hr hs hc0 hf0 hz0 hc1 hf1 hz1
  obtain ⟨hc0, hf0, hz0, hc1, hf1, hz1⟩ := G12.out.fr.l2
  have G13 := Hd (G12.out.s3 hXl (.int .i64 ((tyV' ts (exc ts (adv (exc ts (nmS ts (adv s)) [40])) [45, 62])).1 : Int)))
  have G14 := Hd (G13.out.s4 hXl (.bool (tyV' ts (exc ts (adv (exc ts (nmS ts (adv s)) [40])) [45, 62])).2))
  go_wp2
  have G15 := Hd (G14.out.drew)
  go_region_law (first | (refine fk_append KT1.out hXl (by rfl) _ _ _ (by rfl) Tryz.underlying26 infoNd2 (by rfl) (by simp [Act.eval]) ?_; intro g1 c1 u1 hk6; have KX1 := Hd hk6; clear hk6; obtain ⟨hd10, he10, hy10, hd11, he11, hy11⟩ := KX1.out.fr.l2) | (go_simp; go_at_call 110; refine (HBK.out _ _ G15.out.fr.rd).mono ?_; rintro e y1 ⟨l1, x1, n1, k1, rfl, hT, hr, hs⟩; have KT1 := Hd (G15.out.callT (by simp) hT hr hs); clear hT hr hs; obtain ⟨hu10, hv10, hw10, hu11, hv11, hw11⟩ := KT1.out.fr.l2))
  all_goals
   clear hu10 hv10 hw10 hu11 hv11 hw11
   clear hc0 hf0 hz0 hc1 hf1 hz1
   have G16 := Hd (KX1.out.s10 hXl (.slice (some ⟨g1, 0, none⟩) 1 c1))
   have G17 := Hd (G16.out.tree { labK 2 (lnR ts s) with name := nmV ts (adv s), wd := (tyV' ts (exc ts (adv (exc ts (nmS ts (adv s)) [40])) [45, 62])).1, sg := (tyV' ts (exc ts (adv (exc ts (nmS ts (adv s)) [40])) [45, 62])).2 })
   go_wp2
   have G18 := Hd (G17.out.stoR hXl (List.Mem.tail _ (List.Mem.head _)) rfl (.int .i64 2) (.string (str (nmV ts (adv s)))) (.int .u64 0) (.int .i64 ((tyV' ts (exc ts (adv (exc ts (nmS ts (adv s)) [40])) [45, 62])).1 : Int)) (.bool (tyV' ts (exc ts (adv (exc ts (nmS ts (adv s)) [40])) [45, 62])).2) (.int .i64 0) (.int .i64 0) (.int .i64 0) (.int .i64 0) (.int .i64 ((lnR ts s : Nat) : Int)) (.slice (some ⟨g1, 0, none⟩) 1 c1))
   refine bodyPost_ret (G18.out.b0.res1 Tryz.results71 Tryz.underlying28 rfl infoNd _ rfl) rfl ?_
   exact G18.out.outT (rfl)
 | false =>
  rw [b3] at HTZ hPL
  rw [if_neg (by simp)] at hPL
  obtain ⟨Z, hZ⟩ : ∃ Z, Z = more ts item (big ts) [(item (exc ts (nmS ts (adv s)) [40])).1] (item (exc ts (nmS ts (adv s)) [40])).2 := ⟨_, rfl⟩
  have hPZ : PL = (Z.1, exc ts Z.2 [41]) := by rw [hPL, hZ]
  subst hPZ
  have HZ := Hd hZ
  have hr1 := rem_on (HIO.out (exc ts (nmS ts (adv s)) [40]))
  have HX0 := Hd fun W (h : Rd W R g c ts (exc ts (nmS ts (adv s)) [40])) => HPI.out (exc ts (nmS ts (adv s)) [40]) W h
  have hfu : rem ts (item (exc ts (nmS ts (adv s)) [40])).2 + 1 ≤ big ts := by unfold big; omega
  clear hZ hPL b3
  try dsimp only
  go_enter Tryz.func71, Tryz.ntmps71
  go_wp2_with fail
  refine (HLN.out _ F0.out.rd).mono ?_
  rintro e v1 ⟨rfl, hb⟩
  have G1 := Hd (F0.out.quiet hXl hb)
  clear hb
  obtain ⟨hc0, hf0⟩ := G1.out.b0.all
  have hz0 := G1.out.b0.lt
  unfold ncz at hc0
  have hq10 := G1.out.b0.lt
  have G2 := Hd (G1.out.node hXl [.int .i64 3, .string ⟨#[]⟩, .int .u64 0, .int .i64 0, .bool false, .int .i64 0, .int .i64 0, .int .i64 0, .int .i64 0, .int .i64 ((lnR ts s : Nat) : Int), .slice none 0 0])
  go_wp2_with fail
  refine (HT.out _ G2.out.rd).mono ?_
  rintro e v2 ⟨rfl, hb⟩
  clear hc0 hf0 hz0
  have G3 := Hd (G2.out.quiet hXl hb)
  clear hb
  obtain ⟨hc0, hf0, hz0, hc1, hf1, hz1⟩ := G3.out.l2
  have G4 := Hd (G3.out.s0 hXl (.int .i64 2))
  have hRn0 := (G3.out.bl _ _ (List.Mem.head _)).2
  have hRn1 := (G3.out.bl _ _ (List.Mem.tail _ (List.Mem.head _))).2
  have hRw := G3.out.hR
  obtain ⟨c0, c1, c2, fr1, fr2⟩ := G3.out.rd.cells
  have hzR := G3.out.rd.lt
  clear c0 c2 fr2
  have G5 := Hd (G4.out.advR hXl HIN.out (v := (s.i : Int) + 1) rfl)
  go_wp2_with fail
  refine (HNM.out _ G5.out.rd).mono ?_
  rintro e v3 ⟨rfl, hr, hs⟩
  have G6 := Hd (G5.out.call hr hs)
  clear hr hs hc0 hf0 hz0 hc1 hf1 hz1
  obtain ⟨hc0, hf0, hz0, hc1, hf1, hz1⟩ := G6.out.l2
  have G7 := Hd (G6.out.s1 hXl (.string (str (nmV ts (adv s)))))
  go_wp2_with fail
  refine (HEO.out _ _ G7.out.rd).mono ?_
  rintro e v4 ⟨rfl, hr, hs⟩
  have G8 := Hd (G7.out.call hr hs)
  clear hr hs hc0 hf0 hz0 hc1 hf1 hz1
  obtain ⟨hc0, hf0, hz0, hc1, hf1, hz1⟩ := G8.out.l2
  go_wp2_with fail
  refine (HTZ.out _ G8.out.rd).mono ?_
  rintro e v5 ⟨rfl, hr, hs⟩
  have G9 := Hd (G8.out.call hr hs)
  clear hr hs hc0 hf0 hz0 hc1 hf1 hz1
  obtain ⟨hc0, hf0, hz0, hc1, hf1, hz1⟩ := G9.out.l2
  have G10 := Hd (G9.out.fk)
  go_wp2
  have G11 := Hd (G10.out.drew)
  go_region_law (first | (refine fk_append KT1.out hXl (by rfl) _ _ _ (by rfl) Tryz.underlying26 infoNd2 (by rfl) (by simp [Act.eval]) ?_; intro g1 c1 u1 hk6; have KX1 := Hd hk6; clear hk6; obtain ⟨hd10, he10, hy10, hd11, he11, hy11⟩ := KX1.out.fr.l2) | (go_simp; go_at_call 108; refine (HX0.out _ G11.out.fr.rd).mono ?_; rintro e y1 ⟨l1, x1, n1, k1, rfl, hT, hr, hs⟩; have KT1 := Hd (G11.out.callT (by simp) hT hr hs); clear hT hr hs; obtain ⟨hu10, hv10, hw10, hu11, hv11, hw11⟩ := KT1.out.fr.l2))
  all_goals
   clear hu10 hv10 hw10 hu11 hv11 hw11
   clear hc0 hf0 hz0 hc1 hf1 hz1
   have G12 := Hd (KX1.out.s10 hXl (.slice (some ⟨g1, 0, none⟩) 1 c1))
   have h0 : Hid (FnSt ts R g c w w.heap.size v1.heap.size v5.heap.size item Z 2 (str (nmV ts (adv s))) (lnR ts s) _ (item (exc ts (nmS ts (adv s)) [40])).2) := Hd ⟨some ⟨g1, 0, none⟩, c1, big ts, [(item (exc ts (nmS ts (adv s)) [40])).1], G12.out, HZ.out, hfu, by simp; omega⟩
   have hL01 : w.heap.size < v1.heap.size := hq10
   clear hfu HZ HX0 hr1
   go_wp2
   go_loopw [35] (fun _ wr => ∃ st, Hid (FnSt ts R g c w w.heap.size v1.heap.size v5.heap.size item Z 2 (str (nmV ts (adv s))) (lnR ts s) wr st)) (fun _ wr => ts.length - atW wr R)
   case atStart => exact ⟨_, h0⟩
   case round =>
    obtain ⟨st, hT⟩ := hrel
    obtain ⟨xk, kk, F, acc, hFr, hZ, hfu2, hal⟩ := hT.out
    have J0 := Hd hFr
    have HZ2 := Hd hZ
    have HS2 := Hd fun W (h : Rd W R g c ts st) => HTK.out [44] (by simp) st W h
    have hfew : acc.length ≤ 99999 := by omega
    clear hFr hZ hT h0
    cases hh : hasT ts st [44] with
    | true =>
     have hin := hasT_in hh
     have hra := rem_adv hin
     rw [hh] at HS2
     obtain ⟨F2, rfl⟩ : ∃ F2, F = F2 + 1 := ⟨F - 1, by omega⟩
     have HZ3 : Hid (Z = more ts item F2 (acc ++ [(item (adv st)).1]) (item (adv st)).2) := Hd (by rw [HZ2.out, more, if_pos hh])
     have hrt := rem_on (HIO.out (adv st))
     have HX1 := Hd fun W (h : Rd W R g c ts (adv st)) => HPI.out (adv st) W h
     have hm0 := atW_rd J0.out.fr.rd
     have HHIN := Hd hin
     have hatl := J0.out.fr.rd.hi
     have HON := Hd (HIO.out (adv st))
     clear hh hin HZ2
     go_wp2_with fail
     refine (HS2.out _ J0.out.fr.rd).mono ?_
     rintro e v21 ⟨rfl, hr, hs⟩
     have G71 := Hd (J0.out.call hr hs)
     clear hr hs
     obtain ⟨hc0, hf0, hz0, hc1, hf1, hz1⟩ := G71.out.fr.l2
     go_wp2
     have G72 := Hd (G71.out.drew)
     go_region_law (first | (refine fk_append KT5.out hXl (by rfl) _ _ _ (by rfl) Tryz.underlying26 infoNd2 (by rfl) (by simp [Act.eval]) ?_; intro g5 c5 u5 hk6; have KX5 := Hd hk6; clear hk6; obtain ⟨hd50, he50, hy50, hd51, he51, hy51⟩ := KX5.out.fr.l2) | (go_simp; go_at_call 108; refine (HX1.out _ G72.out.fr.rd).mono ?_; rintro e y5 ⟨l11, x11, n11, k11, rfl, hT, hr, hs⟩; have KT5 := Hd (G72.out.callT hfew hT hr hs); clear hT hr hs; obtain ⟨hu50, hv50, hw50, hu51, hv51, hw51⟩ := KT5.out.fr.l2))
     all_goals
      clear hu50 hv50 hw50 hu51 hv51 hw51
      clear hc0 hf0 hz0 hc1 hf1 hz1
      have G73 := Hd (KX5.out.s10 hXl (.slice (some ⟨g5, 0, none⟩) (acc.length + 1) c5))
      have JE := Hd G73.out
      have hm1 := atW_rd JE.out.fr.rd
      have hma := at_adv HHIN.out HON.out JE.out.fr.rd.hi
      have hal2 : (acc ++ [(item (adv st)).1]).length = acc.length + 1 := by simp
      have HN2 : Hid (FnSt ts R g c w w.heap.size v1.heap.size v5.heap.size item Z 2 (str (nmV ts (adv s))) (lnR ts s) _ (item (adv st)).2) := Hd ⟨some ⟨g5, 0, none⟩, c5, F2, _, (by rw [hal2]; exact JE.out), HZ3.out, by omega, by rw [hal2]; omega⟩
      have hmm : Hid (atW wr R = st.i) := Hd hm0
      have HM1 := Hd hm1
      have HM : Hid (ts.length - ((item (adv st)).2).i < ts.length - st.i) := Hd (by omega)
      clear hm0 hm1
      go_wp2
      go_roundw
      case rel => exact ⟨_, HN2⟩
      case measure => (rw [hmm.out]; refine Nat.lt_of_le_of_lt (Nat.le_of_eq ?_) HM.out; exact congrArg (ts.length - ·) HM1.out)
    | false =>
     rw [hh] at HS2
     have HZ3 : Hid (Z = (acc, st)) := Hd (by
      rw [HZ2.out]
      cases F with
      | zero => rfl
      | succ F => rw [more, if_neg (by simp [hh])])
     have hz3 := HZ3.out
     subst hz3
     clear hh HZ2 HZ3 HIO HPI
     try dsimp only
     go_wp2_with fail
     refine (HS2.out _ J0.out.fr.rd).mono ?_
     rintro e v31 ⟨rfl, hr, hs⟩
     have G91 := Hd (J0.out.call hr hs)
     clear hr hs
     obtain ⟨hc0, hf0, hz0, hc1, hf1, hz1⟩ := G91.out.fr.l2
     go_wp2_with fail
     refine (HES.out _ _ G91.out.fr.rd).mono ?_
     rintro e v32 ⟨rfl, hr, hs⟩
     have G92 := Hd (G91.out.call hr hs)
     clear hr hs hc0 hf0 hz0 hc1 hf1 hz1
     obtain ⟨hc0, hf0, hz0, hc1, hf1, hz1⟩ := G92.out.fr.l2
     go_wp2_with fail
     refine (HEA.out _ _ G92.out.fr.rd).mono ?_
     rintro e v33 ⟨rfl, hr, hs⟩
     have G93 := Hd (G92.out.call hr hs)
     clear hr hs hc0 hf0 hz0 hc1 hf1 hz1
     obtain ⟨hc0, hf0, hz0, hc1, hf1, hz1⟩ := G93.out.fr.l2
     go_wp2_with fail
     refine (HTY.out _ _ G93.out.fr.rd).mono ?_
     rintro e v34 ⟨rfl, hr, hs⟩
     have G94 := Hd (G93.out.call hr hs)
     clear hr hs hc0 hf0 hz0 hc1 hf1 hz1
     obtain ⟨hc0, hf0, hz0, hc1, hf1, hz1⟩ := G94.out.fr.l2
     have G95 := Hd (G94.out.s3 hXl (.int .i64 ((tyV' ts (exc ts (exc ts st [41]) [45, 62])).1 : Int)))
     have G96 := Hd (G95.out.s4 hXl (.bool (tyV' ts (exc ts (exc ts st [41]) [45, 62])).2))
     go_wp2
     have G97 := Hd (G96.out.drew)
     go_region_law (first | (refine fk_append KT8.out hXl (by rfl) _ _ _ (by rfl) Tryz.underlying26 infoNd2 (by rfl) (by simp [Act.eval]) ?_; intro g8 c8 u8 hk6; have KX8 := Hd hk6; clear hk6; obtain ⟨hd80, he80, hy80, hd81, he81, hy81⟩ := KX8.out.fr.l2) | (go_simp; go_at_call 110; refine (HBK.out _ _ G97.out.fr.rd).mono ?_; rintro e y8 ⟨l21, x21, n21, k21, rfl, hT, hr, hs⟩; have KT8 := Hd (G97.out.callT hfew hT hr hs); clear hT hr hs; obtain ⟨hu80, hv80, hw80, hu81, hv81, hw81⟩ := KT8.out.fr.l2))
     all_goals
      clear hu80 hv80 hw80 hu81 hv81 hw81
      clear hc0 hf0 hz0 hc1 hf1 hz1
      have G98 := Hd (KX8.out.s10 hXl (.slice (some ⟨g8, 0, none⟩) (acc.length + 1) c8))
      have G99 := Hd (G98.out.tree { labK 2 (lnR ts s) with name := nmV ts (adv s), wd := (tyV' ts (exc ts (exc ts st [41]) [45, 62])).1, sg := (tyV' ts (exc ts (exc ts st [41]) [45, 62])).2 })
      go_wp2
      have G100 := Hd (G99.out.stoR hXl (List.Mem.tail _ (List.Mem.head _)) rfl (.int .i64 2) (.string (str (nmV ts (adv s)))) (.int .u64 0) (.int .i64 ((tyV' ts (exc ts (exc ts st [41]) [45, 62])).1 : Int)) (.bool (tyV' ts (exc ts (exc ts st [41]) [45, 62])).2) (.int .i64 0) (.int .i64 0) (.int .i64 0) (.int .i64 0) (.int .i64 (lnR ts s : Int)) (.slice (some ⟨g8, 0, none⟩) (acc.length + 1) c8))
      refine bodyPost_ret (G100.out.b0.res1 Tryz.results71 Tryz.underlying28 rfl infoNd _ rfl) rfl ?_
      exact G100.out.outT (rfl)

set_option maxHeartbeats 16000000 in
set_option maxRecDepth 100000 in
theorem kern_any {ts : List Tok} {R g c : Nat} (X : QC ts R g c) (K : KW ts) (s : Sg) (hv : hasT ts s [107, 101, 114, 110, 101, 108] = true) (w : World) (hR : Rd w R g c ts s) : Calls Tryz.prog 71 #[.pointer (some ⟨R, 0, none⟩)] w (TP w R g c ts (kernQ ts s)) := by
 have hXl := X.x.lt
 have F0 := Hd ((Fr.start hR).node hXl ncz)
 have HLN := Hd fun W (h : Rd W R g c ts s) => line_any X.x W h
 have HT := Hd fun W (h : Rd W R g c ts s) => text_any X.x W h
 have HTX := Hd fun q W (h : Rd W R g c ts q) => text_any X.x (s := q) W h
 have HNM := Hd fun W (h : Rd W R g c ts (adv s)) => name_any X.x (s := adv s) W h
 have HTK := Hd fun t (ht : t ≠ []) q W (h : Rd W R g c ts q) => take_any X.x (s := q) t ht W h
 have HTY := Hd fun q W (h : Rd W R g c ts q) => typ_any X (s := q) W h
 have HBK := Hd fun q W (h : Rd W R g c ts q) => blk_any X K q W h
 have HPA := Hd fun q W (h : Rd W R g c ts q) => prm_any X q W h
 have HEO := Hd fun q W (h : Rd W R g c ts q) => need_any X.x (s := q) [40] (by simp) W h
 have HES := Hd fun q W (h : Rd W R g c ts q) => need_any X.x (s := q) [41] (by simp) W h
 have HEA := Hd fun q W (h : Rd W R g c ts q) => need_any X.x (s := q) [45, 62] (by simp) W h
 unfold skp at HTK
 have HTZ := Hd fun W (h : Rd W R g c ts (exc ts (nmS ts (adv s)) [40])) => HTK.out [41] (by simp) (exc ts (nmS ts (adv s)) [40]) W h
 have hin := hasT_in hv
 have HIN := Hd hin
 have hlen := X.x.len
 have hil : s.i < 65536 := by omega
 have hq0 := str_lit ts s [102, 110]
 rw [hasT_two (b := [102, 110]) (by decide) hv] at hq0
 obtain ⟨item, hitem⟩ : ∃ item, item = prmQ ts := ⟨_, rfl⟩
 have HIO : Hid (∀ q, On ts q (item q).2) := Hd fun q => by rw [hitem]; rw [prmQ_st]; exact prm_on ts q
 have HPI : Hid (∀ q W, Rd W R g c ts q → Calls Tryz.prog 108 #[.pointer (some ⟨R, 0, none⟩), .int .i64 3] W (TP W R g c ts (item q))) := Hd fun q W h => by rw [hitem]; exact HPA.out q W h
 obtain ⟨PL, hPL⟩ : ∃ PL, PL = listM ts item (big ts) (nmS ts (adv s)) := ⟨_, rfl⟩
 obtain ⟨Zk, hZk⟩ : ∃ Zk, Zk = kernQ ts s := ⟨_, rfl⟩
 rw [← hZk]
 have HM : Hid (Zk = (if hasT ts PL.2 [45, 62] then (.node { labK 3 (lnR ts s) with name := nmV ts (adv s), wd := (tyV' ts (adv PL.2)).1, sg := (tyV' ts (adv PL.2)).2 } (PL.1 ++ [(blkQ ts (tyS ts (adv PL.2))).1]), (blkQ ts (tyS ts (adv PL.2))).2) else (.node { labK 3 (lnR ts s) with name := nmV ts (adv s) } (PL.1 ++ [(blkQ ts PL.2).1]), (blkQ ts PL.2).2))) := Hd (by rw [hZk, hPL, hitem]; rfl)
 clear hZk
 unfold listM at hPL
 clear hitem HPA hin hv hR
 have hrl : rem ts (exc ts (nmS ts (adv s)) [40]) ≤ ts.length := rem_le
 cases b3 : hasT ts (exc ts (nmS ts (adv s)) [40]) [41] with
 | true =>
  rw [b3] at HTZ hPL
  rw [if_pos rfl] at hPL
  subst hPL
  clear HPI HIO b3 hrl
  try dsimp only
  have HT5 := Hd fun W (h : Rd W R g c ts (adv (exc ts (nmS ts (adv s)) [40]))) => HTX.out (adv (exc ts (nmS ts (adv s)) [40])) W h
  have HE5 := Hd fun W (h : Rd W R g c ts (adv (exc ts (nmS ts (adv s)) [40]))) => HEA.out (adv (exc ts (nmS ts (adv s)) [40])) W h
  have hq5 := str_lit ts (adv (exc ts (nmS ts (adv s)) [40])) [45, 62]
  cases b5 : hasT ts (adv (exc ts (nmS ts (adv s)) [40])) [45, 62] with
  | true =>
   rw [b5] at hq5
   have HM2 := Hd (HM.out.trans (if_pos b5))
   have he5 : exc ts (adv (exc ts (nmS ts (adv s)) [40])) [45, 62] = adv (adv (exc ts (nmS ts (adv s)) [40])) := exc_has b5
   rw [he5] at HE5
   clear he5
   clear b5
   go_enter Tryz.func71, Tryz.ntmps71
   go_wp2_with fail
   refine (HLN.out _ F0.out.rd).mono ?_
   rintro e v1 ⟨rfl, hb⟩
   have G1 := Hd (F0.out.quiet hXl hb)
   clear hb
   obtain ⟨hc0, hf0⟩ := G1.out.b0.all
   have hz0 := G1.out.b0.lt
   unfold ncz at hc0
   have hq10 := G1.out.b0.lt
   have G2 := Hd (G1.out.node hXl [.int .i64 3, .string ⟨#[]⟩, .int .u64 0, .int .i64 0, .bool false, .int .i64 0, .int .i64 0, .int .i64 0, .int .i64 0, .int .i64 ((lnR ts s : Nat) : Int), .slice none 0 0])
   go_wp2_with fail
   refine (HT.out _ G2.out.rd).mono ?_
   rintro e v2 ⟨rfl, hb⟩
   clear hc0 hf0 hz0
   have G3 := Hd (G2.out.quiet hXl hb)
   clear hb
   obtain ⟨hc0, hf0, hz0, hc1, hf1, hz1⟩ := G3.out.l2
   have hRn0 := (G3.out.bl _ _ (List.Mem.head _)).2
   have hRn1 := (G3.out.bl _ _ (List.Mem.tail _ (List.Mem.head _))).2
   have hRw := G3.out.hR
   obtain ⟨c0, c1, c2, fr1, fr2⟩ := G3.out.rd.cells
   have hzR := G3.out.rd.lt
   clear c0 c2 fr2
   have G4 := Hd (G3.out.advR hXl HIN.out (v := (s.i : Int) + 1) rfl)
   go_wp2_with fail
   refine (HNM.out _ G4.out.rd).mono ?_
   rintro e v3 ⟨rfl, hr, hs⟩
   have G5 := Hd (G4.out.call hr hs)
   clear hr hs hc0 hf0 hz0 hc1 hf1 hz1
   obtain ⟨hc0, hf0, hz0, hc1, hf1, hz1⟩ := G5.out.l2
   have G6 := Hd (G5.out.s1 hXl (.string (str (nmV ts (adv s)))))
   go_wp2_with fail
   refine (HEO.out _ _ G6.out.rd).mono ?_
   rintro e v4 ⟨rfl, hr, hs⟩
   have G7 := Hd (G6.out.call hr hs)
   clear hr hs hc0 hf0 hz0 hc1 hf1 hz1
   obtain ⟨hc0, hf0, hz0, hc1, hf1, hz1⟩ := G7.out.l2
   go_wp2_with fail
   refine (HTZ.out _ G7.out.rd).mono ?_
   rintro e v5 ⟨rfl, hr, hs⟩
   have G8 := Hd (G7.out.call hr hs)
   clear hr hs hc0 hf0 hz0 hc1 hf1 hz1
   obtain ⟨hc0, hf0, hz0, hc1, hf1, hz1⟩ := G8.out.l2
   have G9 := Hd (G8.out.fk)
   go_wp2_with fail
   refine (HT5.out _ G9.out.fr.rd).mono ?_
   rintro e v6 ⟨rfl, hb⟩
   have G10 := Hd (G9.out.quiet hXl hb)
   clear hb hc0 hf0 hz0 hc1 hf1 hz1
   obtain ⟨hc0, hf0, hz0, hc1, hf1, hz1⟩ := G10.out.fr.l2
   go_wp2_with fail
   refine (HE5.out _ G10.out.fr.rd).mono ?_
   rintro e v7 ⟨rfl, hr, hs⟩
   have G11 := Hd (G10.out.call hr hs)
   clear hr hs hc0 hf0 hz0 hc1 hf1 hz1
   obtain ⟨hc0, hf0, hz0, hc1, hf1, hz1⟩ := G11.out.fr.l2
   go_wp2_with fail
   refine (HTY.out _ _ G11.out.fr.rd).mono ?_
   rintro e v8 ⟨rfl, hr, hs⟩
   have G12 := Hd (G11.out.call hr hs)
   clear hr hs hc0 hf0 hz0 hc1 hf1 hz1
   obtain ⟨hc0, hf0, hz0, hc1, hf1, hz1⟩ := G12.out.fr.l2
   have G13 := Hd (G12.out.s3 hXl (.int .i64 ((tyV' ts (adv (adv (exc ts (nmS ts (adv s)) [40])))).1 : Int)))
   have G14 := Hd (G13.out.s4 hXl (.bool (tyV' ts (adv (adv (exc ts (nmS ts (adv s)) [40])))).2))
   go_wp2
   have G15 := Hd (G14.out.drew)
   go_region_law (first | (refine fk_append KT1.out hXl (by rfl) _ _ _ (by rfl) Tryz.underlying26 infoNd2 (by rfl) (by simp [Act.eval]) ?_; intro g1 c1 u1 hk6; have KX1 := Hd hk6; clear hk6; obtain ⟨hd10, he10, hy10, hd11, he11, hy11⟩ := KX1.out.fr.l2) | (go_simp; go_at_call 110; refine (HBK.out _ _ G15.out.fr.rd).mono ?_; rintro e y1 ⟨l1, x1, n1, k1, rfl, hT, hr, hs⟩; have KT1 := Hd (G15.out.callT (by simp) hT hr hs); clear hT hr hs; obtain ⟨hu10, hv10, hw10, hu11, hv11, hw11⟩ := KT1.out.fr.l2))
   all_goals
    clear hu10 hv10 hw10 hu11 hv11 hw11
    clear hc0 hf0 hz0 hc1 hf1 hz1
    have G16 := Hd (KX1.out.s10 hXl (.slice (some ⟨g1, 0, none⟩) 1 c1))
    have G17 := Hd (G16.out.tree { labK 3 (lnR ts s) with name := nmV ts (adv s), wd := (tyV' ts (adv (adv (exc ts (nmS ts (adv s)) [40])))).1, sg := (tyV' ts (adv (adv (exc ts (nmS ts (adv s)) [40])))).2 })
    go_wp2
    have G18 := Hd (G17.out.stoR hXl (List.Mem.tail _ (List.Mem.head _)) rfl (.int .i64 3) (.string (str (nmV ts (adv s)))) (.int .u64 0) (.int .i64 ((tyV' ts (adv (adv (exc ts (nmS ts (adv s)) [40])))).1 : Int)) (.bool (tyV' ts (adv (adv (exc ts (nmS ts (adv s)) [40])))).2) (.int .i64 0) (.int .i64 0) (.int .i64 0) (.int .i64 0) (.int .i64 ((lnR ts s : Nat) : Int)) (.slice (some ⟨g1, 0, none⟩) 1 c1))
    refine bodyPost_ret (G18.out.b0.res1 Tryz.results71 Tryz.underlying28 rfl infoNd _ rfl) rfl ?_
    exact G18.out.outT (HM2.out)
  | false =>
   rw [b5] at hq5
   have HM2 := Hd (HM.out.trans (if_neg (fun h => Bool.false_ne_true (b5.symm.trans h))))
   clear HE5
   clear b5
   go_enter Tryz.func71, Tryz.ntmps71
   go_wp2_with fail
   refine (HLN.out _ F0.out.rd).mono ?_
   rintro e v1 ⟨rfl, hb⟩
   have G1 := Hd (F0.out.quiet hXl hb)
   clear hb
   obtain ⟨hc0, hf0⟩ := G1.out.b0.all
   have hz0 := G1.out.b0.lt
   unfold ncz at hc0
   have hq10 := G1.out.b0.lt
   have G2 := Hd (G1.out.node hXl [.int .i64 3, .string ⟨#[]⟩, .int .u64 0, .int .i64 0, .bool false, .int .i64 0, .int .i64 0, .int .i64 0, .int .i64 0, .int .i64 ((lnR ts s : Nat) : Int), .slice none 0 0])
   go_wp2_with fail
   refine (HT.out _ G2.out.rd).mono ?_
   rintro e v2 ⟨rfl, hb⟩
   clear hc0 hf0 hz0
   have G3 := Hd (G2.out.quiet hXl hb)
   clear hb
   obtain ⟨hc0, hf0, hz0, hc1, hf1, hz1⟩ := G3.out.l2
   have hRn0 := (G3.out.bl _ _ (List.Mem.head _)).2
   have hRn1 := (G3.out.bl _ _ (List.Mem.tail _ (List.Mem.head _))).2
   have hRw := G3.out.hR
   obtain ⟨c0, c1, c2, fr1, fr2⟩ := G3.out.rd.cells
   have hzR := G3.out.rd.lt
   clear c0 c2 fr2
   have G4 := Hd (G3.out.advR hXl HIN.out (v := (s.i : Int) + 1) rfl)
   go_wp2_with fail
   refine (HNM.out _ G4.out.rd).mono ?_
   rintro e v3 ⟨rfl, hr, hs⟩
   have G5 := Hd (G4.out.call hr hs)
   clear hr hs hc0 hf0 hz0 hc1 hf1 hz1
   obtain ⟨hc0, hf0, hz0, hc1, hf1, hz1⟩ := G5.out.l2
   have G6 := Hd (G5.out.s1 hXl (.string (str (nmV ts (adv s)))))
   go_wp2_with fail
   refine (HEO.out _ _ G6.out.rd).mono ?_
   rintro e v4 ⟨rfl, hr, hs⟩
   have G7 := Hd (G6.out.call hr hs)
   clear hr hs hc0 hf0 hz0 hc1 hf1 hz1
   obtain ⟨hc0, hf0, hz0, hc1, hf1, hz1⟩ := G7.out.l2
   go_wp2_with fail
   refine (HTZ.out _ G7.out.rd).mono ?_
   rintro e v5 ⟨rfl, hr, hs⟩
   have G8 := Hd (G7.out.call hr hs)
   clear hr hs hc0 hf0 hz0 hc1 hf1 hz1
   obtain ⟨hc0, hf0, hz0, hc1, hf1, hz1⟩ := G8.out.l2
   have G9 := Hd (G8.out.fk)
   go_wp2_with fail
   refine (HT5.out _ G9.out.fr.rd).mono ?_
   rintro e v6 ⟨rfl, hb⟩
   have G10 := Hd (G9.out.quiet hXl hb)
   clear hb hc0 hf0 hz0 hc1 hf1 hz1
   obtain ⟨hc0, hf0, hz0, hc1, hf1, hz1⟩ := G10.out.fr.l2
   go_wp2
   have G11 := Hd (G10.out.drew)
   go_region_law (first | (refine fk_append KT1.out hXl (by rfl) _ _ _ (by rfl) Tryz.underlying26 infoNd2 (by rfl) (by simp [Act.eval]) ?_; intro g1 c1 u1 hk6; have KX1 := Hd hk6; clear hk6; obtain ⟨hd10, he10, hy10, hd11, he11, hy11⟩ := KX1.out.fr.l2) | (go_simp; go_at_call 110; refine (HBK.out _ _ G11.out.fr.rd).mono ?_; rintro e y1 ⟨l1, x1, n1, k1, rfl, hT, hr, hs⟩; have KT1 := Hd (G11.out.callT (by simp) hT hr hs); clear hT hr hs; obtain ⟨hu10, hv10, hw10, hu11, hv11, hw11⟩ := KT1.out.fr.l2))
   all_goals
    clear hu10 hv10 hw10 hu11 hv11 hw11
    clear hc0 hf0 hz0 hc1 hf1 hz1
    have G12 := Hd (KX1.out.s10 hXl (.slice (some ⟨g1, 0, none⟩) 1 c1))
    have G13 := Hd (G12.out.tree { labK 3 (lnR ts s) with name := nmV ts (adv s) })
    go_wp2
    have G14 := Hd (G13.out.stoR hXl (List.Mem.tail _ (List.Mem.head _)) rfl (.int .i64 3) (.string (str (nmV ts (adv s)))) (.int .u64 0) (.int .i64 0) (.bool false) (.int .i64 0) (.int .i64 0) (.int .i64 0) (.int .i64 0) (.int .i64 ((lnR ts s : Nat) : Int)) (.slice (some ⟨g1, 0, none⟩) 1 c1))
    refine bodyPost_ret (G14.out.b0.res1 Tryz.results71 Tryz.underlying28 rfl infoNd _ rfl) rfl ?_
    exact G14.out.outT (HM2.out)
 | false =>
  rw [b3] at HTZ hPL
  rw [if_neg (by simp)] at hPL
  obtain ⟨Z, hZ⟩ : ∃ Z, Z = more ts item (big ts) [(item (exc ts (nmS ts (adv s)) [40])).1] (item (exc ts (nmS ts (adv s)) [40])).2 := ⟨_, rfl⟩
  have hPZ : PL = (Z.1, exc ts Z.2 [41]) := by rw [hPL, hZ]
  subst hPZ
  have HZ := Hd hZ
  have hr1 := rem_on (HIO.out (exc ts (nmS ts (adv s)) [40]))
  have HX0 := Hd fun W (h : Rd W R g c ts (exc ts (nmS ts (adv s)) [40])) => HPI.out (exc ts (nmS ts (adv s)) [40]) W h
  have hfu : rem ts (item (exc ts (nmS ts (adv s)) [40])).2 + 1 ≤ big ts := by unfold big; omega
  clear hZ hPL b3
  try dsimp only
  go_enter Tryz.func71, Tryz.ntmps71
  go_wp2_with fail
  refine (HLN.out _ F0.out.rd).mono ?_
  rintro e v1 ⟨rfl, hb⟩
  have G1 := Hd (F0.out.quiet hXl hb)
  clear hb
  obtain ⟨hc0, hf0⟩ := G1.out.b0.all
  have hz0 := G1.out.b0.lt
  unfold ncz at hc0
  have hq10 := G1.out.b0.lt
  have G2 := Hd (G1.out.node hXl [.int .i64 3, .string ⟨#[]⟩, .int .u64 0, .int .i64 0, .bool false, .int .i64 0, .int .i64 0, .int .i64 0, .int .i64 0, .int .i64 ((lnR ts s : Nat) : Int), .slice none 0 0])
  go_wp2_with fail
  refine (HT.out _ G2.out.rd).mono ?_
  rintro e v2 ⟨rfl, hb⟩
  clear hc0 hf0 hz0
  have G3 := Hd (G2.out.quiet hXl hb)
  clear hb
  obtain ⟨hc0, hf0, hz0, hc1, hf1, hz1⟩ := G3.out.l2
  have hRn0 := (G3.out.bl _ _ (List.Mem.head _)).2
  have hRn1 := (G3.out.bl _ _ (List.Mem.tail _ (List.Mem.head _))).2
  have hRw := G3.out.hR
  obtain ⟨c0, c1, c2, fr1, fr2⟩ := G3.out.rd.cells
  have hzR := G3.out.rd.lt
  clear c0 c2 fr2
  have G4 := Hd (G3.out.advR hXl HIN.out (v := (s.i : Int) + 1) rfl)
  go_wp2_with fail
  refine (HNM.out _ G4.out.rd).mono ?_
  rintro e v3 ⟨rfl, hr, hs⟩
  have G5 := Hd (G4.out.call hr hs)
  clear hr hs hc0 hf0 hz0 hc1 hf1 hz1
  obtain ⟨hc0, hf0, hz0, hc1, hf1, hz1⟩ := G5.out.l2
  have G6 := Hd (G5.out.s1 hXl (.string (str (nmV ts (adv s)))))
  go_wp2_with fail
  refine (HEO.out _ _ G6.out.rd).mono ?_
  rintro e v4 ⟨rfl, hr, hs⟩
  have G7 := Hd (G6.out.call hr hs)
  clear hr hs hc0 hf0 hz0 hc1 hf1 hz1
  obtain ⟨hc0, hf0, hz0, hc1, hf1, hz1⟩ := G7.out.l2
  go_wp2_with fail
  refine (HTZ.out _ G7.out.rd).mono ?_
  rintro e v5 ⟨rfl, hr, hs⟩
  have G8 := Hd (G7.out.call hr hs)
  clear hr hs hc0 hf0 hz0 hc1 hf1 hz1
  obtain ⟨hc0, hf0, hz0, hc1, hf1, hz1⟩ := G8.out.l2
  have G9 := Hd (G8.out.fk)
  go_wp2
  have G10 := Hd (G9.out.drew)
  go_region_law (first | (refine fk_append KT1.out hXl (by rfl) _ _ _ (by rfl) Tryz.underlying26 infoNd2 (by rfl) (by simp [Act.eval]) ?_; intro g1 c1 u1 hk6; have KX1 := Hd hk6; clear hk6; obtain ⟨hd10, he10, hy10, hd11, he11, hy11⟩ := KX1.out.fr.l2) | (go_simp; go_at_call 108; refine (HX0.out _ G10.out.fr.rd).mono ?_; rintro e y1 ⟨l1, x1, n1, k1, rfl, hT, hr, hs⟩; have KT1 := Hd (G10.out.callT (by simp) hT hr hs); clear hT hr hs; obtain ⟨hu10, hv10, hw10, hu11, hv11, hw11⟩ := KT1.out.fr.l2))
  all_goals
   clear hu10 hv10 hw10 hu11 hv11 hw11
   clear hc0 hf0 hz0 hc1 hf1 hz1
   have G11 := Hd (KX1.out.s10 hXl (.slice (some ⟨g1, 0, none⟩) 1 c1))
   have h0 : Hid (FnSt ts R g c w w.heap.size v1.heap.size v5.heap.size item Z 3 (str (nmV ts (adv s))) (lnR ts s) _ (item (exc ts (nmS ts (adv s)) [40])).2) := Hd ⟨some ⟨g1, 0, none⟩, c1, big ts, [(item (exc ts (nmS ts (adv s)) [40])).1], G11.out, HZ.out, hfu, by simp; omega⟩
   have hL01 : w.heap.size < v1.heap.size := hq10
   clear hfu HZ HX0 hr1
   go_wp2
   go_loopw [35] (fun _ wr => ∃ st, Hid (FnSt ts R g c w w.heap.size v1.heap.size v5.heap.size item Z 3 (str (nmV ts (adv s))) (lnR ts s) wr st)) (fun _ wr => ts.length - atW wr R)
   case atStart => exact ⟨_, h0⟩
   case round =>
    obtain ⟨st, hT⟩ := hrel
    obtain ⟨xk, kk, F, acc, hFr, hZ, hfu2, hal⟩ := hT.out
    have J0 := Hd hFr
    have HZ2 := Hd hZ
    have HS2 := Hd fun W (h : Rd W R g c ts st) => HTK.out [44] (by simp) st W h
    have hfew : acc.length ≤ 99999 := by omega
    clear hFr hZ hT h0
    cases hh : hasT ts st [44] with
    | true =>
     have hin := hasT_in hh
     have hra := rem_adv hin
     rw [hh] at HS2
     obtain ⟨F2, rfl⟩ : ∃ F2, F = F2 + 1 := ⟨F - 1, by omega⟩
     have HZ3 : Hid (Z = more ts item F2 (acc ++ [(item (adv st)).1]) (item (adv st)).2) := Hd (by rw [HZ2.out, more, if_pos hh])
     have hrt := rem_on (HIO.out (adv st))
     have HX1 := Hd fun W (h : Rd W R g c ts (adv st)) => HPI.out (adv st) W h
     have hm0 := atW_rd J0.out.fr.rd
     have HHIN := Hd hin
     have hatl := J0.out.fr.rd.hi
     have HON := Hd (HIO.out (adv st))
     clear hh hin HZ2
     go_wp2_with fail
     refine (HS2.out _ J0.out.fr.rd).mono ?_
     rintro e v21 ⟨rfl, hr, hs⟩
     have G71 := Hd (J0.out.call hr hs)
     clear hr hs
     obtain ⟨hc0, hf0, hz0, hc1, hf1, hz1⟩ := G71.out.fr.l2
     go_wp2
     have G72 := Hd (G71.out.drew)
     go_region_law (first | (refine fk_append KT5.out hXl (by rfl) _ _ _ (by rfl) Tryz.underlying26 infoNd2 (by rfl) (by simp [Act.eval]) ?_; intro g5 c5 u5 hk6; have KX5 := Hd hk6; clear hk6; obtain ⟨hd50, he50, hy50, hd51, he51, hy51⟩ := KX5.out.fr.l2) | (go_simp; go_at_call 108; refine (HX1.out _ G72.out.fr.rd).mono ?_; rintro e y5 ⟨l11, x11, n11, k11, rfl, hT, hr, hs⟩; have KT5 := Hd (G72.out.callT hfew hT hr hs); clear hT hr hs; obtain ⟨hu50, hv50, hw50, hu51, hv51, hw51⟩ := KT5.out.fr.l2))
     all_goals
      clear hu50 hv50 hw50 hu51 hv51 hw51
      clear hc0 hf0 hz0 hc1 hf1 hz1
      have G73 := Hd (KX5.out.s10 hXl (.slice (some ⟨g5, 0, none⟩) (acc.length + 1) c5))
      have JE := Hd G73.out
      have hm1 := atW_rd JE.out.fr.rd
      have hma := at_adv HHIN.out HON.out JE.out.fr.rd.hi
      have hal2 : (acc ++ [(item (adv st)).1]).length = acc.length + 1 := by simp
      have HN2 : Hid (FnSt ts R g c w w.heap.size v1.heap.size v5.heap.size item Z 3 (str (nmV ts (adv s))) (lnR ts s) _ (item (adv st)).2) := Hd ⟨some ⟨g5, 0, none⟩, c5, F2, _, (by rw [hal2]; exact JE.out), HZ3.out, by omega, by rw [hal2]; omega⟩
      have hmm : Hid (atW wr R = st.i) := Hd hm0
      have HM1 := Hd hm1
      have HM : Hid (ts.length - ((item (adv st)).2).i < ts.length - st.i) := Hd (by omega)
      clear hm0 hm1
      go_wp2
      go_roundw
      case rel => exact ⟨_, HN2⟩
      case measure => (rw [hmm.out]; refine Nat.lt_of_le_of_lt (Nat.le_of_eq ?_) HM.out; exact congrArg (ts.length - ·) HM1.out)
    | false =>
     rw [hh] at HS2
     have HZ3 : Hid (Z = (acc, st)) := Hd (by
      rw [HZ2.out]
      cases F with
      | zero => rfl
      | succ F => rw [more, if_neg (by simp [hh])])
     have hz3 := HZ3.out
     subst hz3
     clear hh HZ2 HZ3 HIO HPI
     try dsimp only
     have HT5 := Hd fun W (h : Rd W R g c ts (exc ts st [41])) => HTX.out (exc ts st [41]) W h
     have HE5 := Hd fun W (h : Rd W R g c ts (exc ts st [41])) => HEA.out (exc ts st [41]) W h
     have hq5 := str_lit ts (exc ts st [41]) [45, 62]
     cases b5 : hasT ts (exc ts st [41]) [45, 62] with
     | true =>
      rw [b5] at hq5
      have HM2 := Hd (HM.out.trans (if_pos b5))
      have he5 : exc ts (exc ts st [41]) [45, 62] = adv (exc ts st [41]) := exc_has b5
      rw [he5] at HE5
      clear he5
      clear b5
      go_wp2_with fail
      refine (HS2.out _ J0.out.fr.rd).mono ?_
      rintro e v31 ⟨rfl, hr, hs⟩
      have G91 := Hd (J0.out.call hr hs)
      clear hr hs
      obtain ⟨hc0, hf0, hz0, hc1, hf1, hz1⟩ := G91.out.fr.l2
      go_wp2_with fail
      refine (HES.out _ _ G91.out.fr.rd).mono ?_
      rintro e v32 ⟨rfl, hr, hs⟩
      have G92 := Hd (G91.out.call hr hs)
      clear hr hs hc0 hf0 hz0 hc1 hf1 hz1
      obtain ⟨hc0, hf0, hz0, hc1, hf1, hz1⟩ := G92.out.fr.l2
      go_wp2_with fail
      refine (HT5.out _ G92.out.fr.rd).mono ?_
      rintro e v33 ⟨rfl, hb⟩
      have G93 := Hd (G92.out.quiet hXl hb)
      clear hb hc0 hf0 hz0 hc1 hf1 hz1
      obtain ⟨hc0, hf0, hz0, hc1, hf1, hz1⟩ := G93.out.fr.l2
      go_wp2_with fail
      refine (HE5.out _ G93.out.fr.rd).mono ?_
      rintro e v34 ⟨rfl, hr, hs⟩
      have G94 := Hd (G93.out.call hr hs)
      clear hr hs hc0 hf0 hz0 hc1 hf1 hz1
      obtain ⟨hc0, hf0, hz0, hc1, hf1, hz1⟩ := G94.out.fr.l2
      go_wp2_with fail
      refine (HTY.out _ _ G94.out.fr.rd).mono ?_
      rintro e v35 ⟨rfl, hr, hs⟩
      have G95 := Hd (G94.out.call hr hs)
      clear hr hs hc0 hf0 hz0 hc1 hf1 hz1
      obtain ⟨hc0, hf0, hz0, hc1, hf1, hz1⟩ := G95.out.fr.l2
      have G96 := Hd (G95.out.s3 hXl (.int .i64 ((tyV' ts (adv (exc ts st [41]))).1 : Int)))
      have G97 := Hd (G96.out.s4 hXl (.bool (tyV' ts (adv (exc ts st [41]))).2))
      go_wp2
      have G98 := Hd (G97.out.drew)
      go_region_law (first | (refine fk_append KT8.out hXl (by rfl) _ _ _ (by rfl) Tryz.underlying26 infoNd2 (by rfl) (by simp [Act.eval]) ?_; intro g8 c8 u8 hk6; have KX8 := Hd hk6; clear hk6; obtain ⟨hd80, he80, hy80, hd81, he81, hy81⟩ := KX8.out.fr.l2) | (go_simp; go_at_call 110; refine (HBK.out _ _ G98.out.fr.rd).mono ?_; rintro e y8 ⟨l21, x21, n21, k21, rfl, hT, hr, hs⟩; have KT8 := Hd (G98.out.callT hfew hT hr hs); clear hT hr hs; obtain ⟨hu80, hv80, hw80, hu81, hv81, hw81⟩ := KT8.out.fr.l2))
      all_goals
       clear hu80 hv80 hw80 hu81 hv81 hw81
       clear hc0 hf0 hz0 hc1 hf1 hz1
       have G99 := Hd (KX8.out.s10 hXl (.slice (some ⟨g8, 0, none⟩) (acc.length + 1) c8))
       have G100 := Hd (G99.out.tree { labK 3 (lnR ts s) with name := nmV ts (adv s), wd := (tyV' ts (adv (exc ts st [41]))).1, sg := (tyV' ts (adv (exc ts st [41]))).2 })
       go_wp2
       have G101 := Hd (G100.out.stoR hXl (List.Mem.tail _ (List.Mem.head _)) rfl (.int .i64 3) (.string (str (nmV ts (adv s)))) (.int .u64 0) (.int .i64 ((tyV' ts (adv (exc ts st [41]))).1 : Int)) (.bool (tyV' ts (adv (exc ts st [41]))).2) (.int .i64 0) (.int .i64 0) (.int .i64 0) (.int .i64 0) (.int .i64 (lnR ts s : Int)) (.slice (some ⟨g8, 0, none⟩) (acc.length + 1) c8))
       refine bodyPost_ret (G101.out.b0.res1 Tryz.results71 Tryz.underlying28 rfl infoNd _ rfl) rfl ?_
       exact G101.out.outT (HM2.out)
     | false =>
      rw [b5] at hq5
      have HM2 := Hd (HM.out.trans (if_neg (fun h => Bool.false_ne_true (b5.symm.trans h))))
      clear HE5
      clear b5
      go_wp2_with fail
      refine (HS2.out _ J0.out.fr.rd).mono ?_
      rintro e v31 ⟨rfl, hr, hs⟩
      have G91 := Hd (J0.out.call hr hs)
      clear hr hs
      obtain ⟨hc0, hf0, hz0, hc1, hf1, hz1⟩ := G91.out.fr.l2
      go_wp2_with fail
      refine (HES.out _ _ G91.out.fr.rd).mono ?_
      rintro e v32 ⟨rfl, hr, hs⟩
      have G92 := Hd (G91.out.call hr hs)
      clear hr hs hc0 hf0 hz0 hc1 hf1 hz1
      obtain ⟨hc0, hf0, hz0, hc1, hf1, hz1⟩ := G92.out.fr.l2
      go_wp2_with fail
      refine (HT5.out _ G92.out.fr.rd).mono ?_
      rintro e v33 ⟨rfl, hb⟩
      have G93 := Hd (G92.out.quiet hXl hb)
      clear hb hc0 hf0 hz0 hc1 hf1 hz1
      obtain ⟨hc0, hf0, hz0, hc1, hf1, hz1⟩ := G93.out.fr.l2
      go_wp2
      have G94 := Hd (G93.out.drew)
      go_region_law (first | (refine fk_append KT8.out hXl (by rfl) _ _ _ (by rfl) Tryz.underlying26 infoNd2 (by rfl) (by simp [Act.eval]) ?_; intro g8 c8 u8 hk6; have KX8 := Hd hk6; clear hk6; obtain ⟨hd80, he80, hy80, hd81, he81, hy81⟩ := KX8.out.fr.l2) | (go_simp; go_at_call 110; refine (HBK.out _ _ G94.out.fr.rd).mono ?_; rintro e y8 ⟨l21, x21, n21, k21, rfl, hT, hr, hs⟩; have KT8 := Hd (G94.out.callT hfew hT hr hs); clear hT hr hs; obtain ⟨hu80, hv80, hw80, hu81, hv81, hw81⟩ := KT8.out.fr.l2))
      all_goals
       clear hu80 hv80 hw80 hu81 hv81 hw81
       clear hc0 hf0 hz0 hc1 hf1 hz1
       have G95 := Hd (KX8.out.s10 hXl (.slice (some ⟨g8, 0, none⟩) (acc.length + 1) c8))
       have G96 := Hd (G95.out.tree { labK 3 (lnR ts s) with name := nmV ts (adv s) })
       go_wp2
       have G97 := Hd (G96.out.stoR hXl (List.Mem.tail _ (List.Mem.head _)) rfl (.int .i64 3) (.string (str (nmV ts (adv s)))) (.int .u64 0) (.int .i64 0) (.bool false) (.int .i64 0) (.int .i64 0) (.int .i64 0) (.int .i64 0) (.int .i64 (lnR ts s : Int)) (.slice (some ⟨g8, 0, none⟩) (acc.length + 1) c8))
       refine bodyPost_ret (G97.out.b0.res1 Tryz.results71 Tryz.underlying28 rfl infoNd _ rfl) rfl ?_
       exact G97.out.outT (HM2.out)
end Q
end Go.Proofs.YtkliclihpobmiaaGreatDoor
