/- The reference's rule program: contract. -/
import Derived.Test.YtkliclihpobmiaaGreatDoorMgPqFn
import Derived.Test.YtkliclihpobmiaaGreatDoorMgPsPg
import Derived.Deep.RegionWith
import Derived.BigQuiet
import Derived.Test.YtkliclihpobmiaaGreatDoorMgPsPut
import Derived.WalkSpells
namespace Go.Proofs.YtkliclihpobmiaaGreatDoor
namespace Q
open Go Go.RowKit
set_option linter.unusedVariables false
set_option linter.unusedSimpArgs false

theorem unitsQ_end {ts : List Tok} {f : Nat} {acc : List Tree} {s : Sg} (h : ¬ (s.bad = false ∧ s.i < ts.length)) : unitsQ ts (f + 1) acc s = (acc, s) := by rw [unitsQ, if_neg h]
theorem unitsQ_fn {ts : List Tok} {f : Nat} {acc : List Tree} {s : Sg} (h : s.bad = false ∧ s.i < ts.length) (h2 : hasT ts s [102, 110] = true) : unitsQ ts (f + 1) acc s = unitsQ ts f (acc ++ [(funcQ ts s).1]) (funcQ ts s).2 := by rw [unitsQ, if_pos h, if_pos h2]
theorem unitsQ_kn {ts : List Tok} {f : Nat} {acc : List Tree} {s : Sg} (h : s.bad = false ∧ s.i < ts.length) (h2 : hasT ts s [102, 110] = false) (h3 : hasT ts s [107, 101, 114, 110, 101, 108] = true) : unitsQ ts (f + 1) acc s = unitsQ ts f (acc ++ [(kernQ ts s).1]) (kernQ ts s).2 := by rw [unitsQ, if_pos h, if_neg (by simp [h2]), if_pos h3]
theorem unitsQ_no {ts : List Tok} {f : Nat} {acc : List Tree} {s : Sg} (h : s.bad = false ∧ s.i < ts.length) (h2 : hasT ts s [102, 110] = false) (h3 : hasT ts s [107, 101, 114, 110, 101, 108] = false) : unitsQ ts (f + 1) acc s = unitsQ ts f acc (stop s) := by rw [unitsQ, if_pos h, if_neg (by simp [h2]), if_neg (by simp [h3])]
theorem left_less {ts : List Tok} {s t : Sg} (hs : s.bad = false) (h : rem ts t + 1 ≤ rem ts s) : (if t.bad then 0 else ts.length - t.i + 1) < ts.length - s.i + 1 := by
 unfold rem at h
 rw [hs] at h
 cases hb : t.bad with
 | true => simp
 | false => rw [hb] at h; simp at h ⊢; omega
theorem FK.badR {w0 w : World} {R g c : Nat} {ts : List Tok} {s : Sg} {Ls : List (Nat × List Value)} {base : Nat} {v : Value} {ks : List Tree} (F : FK w0 w R g c ts s Ls base v ks) (hg : g < R) : FK w0 (w.setCell ⟨R, 2, none⟩ (.bool true)) R g c ts (stop s) Ls base v ks :=
 F.call (F.fr.rd.failed hg) (St.setR (St.refl w R) rfl _)
def PgSt (ts : List Tok) (R g c : Nat) (w : World) (L0 L1 base : Nat) (Z : List Tree × Sg) (L9 : Nat) (wr : World) (st : Sg) : Prop :=
 ∃ (x : Option Addr) (k F : Nat) (acc : List Tree), FK w wr R g c ts st [(L1, [.int .i64 1, .string ⟨#[]⟩, .int .u64 0, .int .i64 0, .bool false, .int .i64 0, .int .i64 0, .int .i64 0, .int .i64 0, .int .i64 (L9 : Int), .slice x acc.length k]), (L0, ncz)] base (.slice x acc.length k) acc ∧ Z = unitsQ ts (F + 1) acc st ∧ rem ts st ≤ F ∧ acc.length + rem ts st ≤ ts.length
set_option maxHeartbeats 16000000 in
set_option maxRecDepth 100000 in
theorem program_any {ts : List Tok} {R g c : Nat} (X : QC ts R g c) (K : KW ts) (w : World) (hR : Rd w R g c ts ⟨0, false⟩) : Calls Tryz.prog 34 #[.pointer (some ⟨R, 0, none⟩)] w (TP w R g c ts (progQ ts)) := by
 have hXl := X.x.lt
 obtain ⟨s, hs0⟩ : ∃ s : Sg, s = ⟨0, false⟩ := ⟨_, rfl⟩
 rw [← hs0] at hR
 have F0 := Hd ((Fr.start hR).node hXl ncz)
 have HLN := Hd fun W (h : Rd W R g c ts s) => line_any X.x W h
 have HTX := Hd fun q W (h : Rd W R g c ts q) => text_any X.x (s := q) W h
 have HFN := Hd fun q (h1 : hasT ts q [102, 110] = true) W (h : Rd W R g c ts q) => func_any X K q h1 W h
 have HKN := Hd fun q (h1 : hasT ts q [107, 101, 114, 110, 101, 108] = true) W (h : Rd W R g c ts q) => kern_any X K q h1 W h
 have hlen := X.x.len
 obtain ⟨Z, hZ⟩ : ∃ Z, Z = unitsQ ts (ts.length + 1) [] s := ⟨_, rfl⟩
 have HM : Hid (progQ ts = (.node (labK 1 (lnR ts s)) Z.1, Z.2)) := Hd (by rw [hZ, hs0]; rfl)
 rw [HM.out]
 have HZ := Hd hZ
 have HKW := Hd K
 have hrl : rem ts s ≤ ts.length := rem_le
 clear HM hR hZ hs0 K
 generalize lnR ts s = L9 at *
 go_enter Tryz.func34, Tryz.ntmps34
 go_wp2_with fail
 refine (HLN.out _ F0.out.rd).mono ?_
 rintro e v1 ⟨rfl, hb⟩
 have G1 := Hd (F0.out.quiet hXl hb)
 clear hb
 obtain ⟨hc0, hf0⟩ := G1.out.b0.all
 have hz0 := G1.out.b0.lt
 unfold ncz at hc0
 have hq10 := G1.out.b0.lt
 have G2 := Hd (G1.out.node hXl [.int .i64 1, .string ⟨#[]⟩, .int .u64 0, .int .i64 0, .bool false, .int .i64 0, .int .i64 0, .int .i64 0, .int .i64 0, .int .i64 (L9 : Int), .slice none 0 0])
 go_wp2
 have G3 := Hd (G2.out.fk)
 have h0 : Hid (PgSt ts R g c w w.heap.size v1.heap.size _ Z L9 _ s) := Hd ⟨none, 0, ts.length, [], G3.out, HZ.out, hrl, by simp; exact hrl⟩
 have hL01 : w.heap.size < v1.heap.size := hq10
 clear HZ hrl HLN
 go_loopw [7] (fun _ wr => ∃ st, Hid (PgSt ts R g c w w.heap.size v1.heap.size (v1.alloc (.cells #[.int .i64 1, .string ⟨#[]⟩, .int .u64 0, .int .i64 0, .bool false, .int .i64 0, .int .i64 0, .int .i64 0, .int .i64 0, .int .i64 (L9 : Int), .slice none 0 0] 28)).heap.size Z L9 wr st)) (fun _ wr => mW wr R ts.length)
 case atStart => exact ⟨_, h0⟩
 case round =>
  obtain ⟨st, hT⟩ := hrel
  obtain ⟨xk, kk, F, acc, hFr, hZ, hfu2, hal⟩ := hT.out
  have J0 := Hd hFr
  have HZ2 := Hd hZ
  obtain ⟨c0, c1, c2, f1a, f2a⟩ := J0.out.fr.rd.cells
  have hzR := J0.out.fr.rd.lt
  have hatl := J0.out.fr.rd.hi
  have hm0 := mW_rd J0.out.fr.rd
  clear hFr hZ hT h0 f1a f2a
  cases hb : st.bad with
  | true =>
   rw [hb] at c2
   have HZ3 : Hid (Z = (acc, st)) := Hd (HZ2.out.trans (unitsQ_end (by simp [hb])))
   clear HZ2 hb hm0 hfu2 hal
   have hzz := HZ3.out
   subst hzz
   clear HZ3
   go_wp2
   go_quiet (fail)
   have G51 := Hd (J0.out.drewN nq)
   clear c0 c1 c2
   obtain ⟨hc0, hf0, hz0, hc1, hf1, hz1⟩ := G51.out.fr.l2
   have G52 := Hd (G51.out.tree (labK 1 L9))
   go_wp2
   have G53 := Hd (G52.out.stoR hXl (List.Mem.tail _ (List.Mem.head _)) rfl (.int .i64 1) (.string ⟨#[]⟩) (.int .u64 0) (.int .i64 0) (.bool false) (.int .i64 0) (.int .i64 0) (.int .i64 0) (.int .i64 0) (.int .i64 (L9 : Int)) (.slice xk acc.length kk))
   refine bodyPost_ret (G53.out.b0.res1 Tryz.results34 Tryz.underlying28 rfl infoNd _ rfl) rfl ?_
   exact G53.out.outT (rfl)
  | false =>
   rw [hb] at c2 hm0
   by_cases hi : st.i < ts.length
   ·have hst : st.bad = false ∧ st.i < ts.length := ⟨hb, hi⟩
    have qa : decide ((st.i : Int) < (ts.length : Int)) = true := by simp; omega
    have qb : decide (st.i < ts.length) = true := by simp; omega
    have HST := Hd hst
    have hra := rem_adv hst
    obtain ⟨F2, rfl⟩ : ∃ F2, F = F2 + 1 := ⟨F - 1, by omega⟩
    have hfew : acc.length ≤ 99999 := by omega
    have HM0 := Hd hm0
    have hq1 := str_lit ts st [102, 110]
    have hq2 := str_lit ts st [107, 101, 114, 110, 101, 108]
    cases h1 : hasT ts st [102, 110] with
    | true =>
     rw [h1] at hq1
     have HX := Hd fun W (h : Rd W R g c ts st) => HFN.out st h1 W h
     have hpr : rem ts (funcQ ts st).2 + 1 ≤ rem ts st := by rw [funcQ_st HKW.out]; exact func_prog hst
     have HZ3 : Hid (Z = unitsQ ts (F2 + 1) (acc ++ [(funcQ ts st).1]) (funcQ ts st).2) := Hd (HZ2.out.trans (unitsQ_fn hst h1))
     have HM : Hid ((if (funcQ ts st).2.bad then 0 else ts.length - (funcQ ts st).2.i + 1) < ts.length - st.i + 1) := Hd (left_less hb hpr)
     clear HZ2 h1 hb hi hst hm0
     go_wp2
     go_quiet (fail)
     have G71 := Hd (J0.out.drewN nq)
     go_wp2_with fail
     refine (HTX.out _ _ G71.out.fr.rd).mono ?_
     rintro e v5 ⟨rfl, hb⟩
     have G72 := Hd (G71.out.quiet hXl hb)
     clear hb
     obtain ⟨hc0, hf0, hz0, hc1, hf1, hz1⟩ := G72.out.fr.l2
     clear c0 c1 c2 qa qb
     go_wp2
     have G73 := Hd (G72.out.drew)
     go_region_law (first | (refine fk_append KT1.out hXl (by rfl) _ _ _ (by rfl) Tryz.underlying26 infoNd2 (by rfl) (by simp [Act.eval]) ?_; intro g1 c1 u1 hk6; have KX1 := Hd hk6; clear hk6; obtain ⟨hd10, he10, hy10, hd11, he11, hy11⟩ := KX1.out.fr.l2) | (go_simp; go_at_call 71; refine (HX.out _ G73.out.fr.rd).mono ?_; rintro e y1 ⟨l3, x3, n3, k3, rfl, hT, hr, hs⟩; have KT1 := Hd (G73.out.callT hfew hT hr hs); clear hT hr hs; obtain ⟨hu10, hv10, hw10, hu11, hv11, hw11⟩ := KT1.out.fr.l2))
     all_goals
      clear hu10 hv10 hw10 hu11 hv11 hw11
      clear hc0 hf0 hz0 hc1 hf1 hz1
      have G74 := Hd (KX1.out.s10 hXl (.slice (some ⟨g1, 0, none⟩) (acc.length + 1) c1))
      have JE := Hd G74.out
      have hm1 := mW_rd JE.out.fr.rd
      have hal2 : (acc ++ [(funcQ ts st).1]).length = acc.length + 1 := by simp
      have HN2 : Hid (PgSt ts R g c w w.heap.size v1.heap.size (v1.alloc (.cells #[.int .i64 1, .string ⟨#[]⟩, .int .u64 0, .int .i64 0, .bool false, .int .i64 0, .int .i64 0, .int .i64 0, .int .i64 0, .int .i64 (L9 : Int), .slice none 0 0] 28)).heap.size Z L9 _ (funcQ ts st).2) := Hd ⟨some ⟨g1, 0, none⟩, c1, F2, _, (by rw [hal2]; exact JE.out), HZ3.out, by omega, by rw [hal2]; omega⟩
      have HM1 := Hd hm1
      clear hm1 hal2
      go_wp2
      go_roundw
      case rel => exact ⟨_, HN2⟩
      case measure => (rw [HM0.out]; exact Nat.lt_of_le_of_lt (Nat.le_of_eq HM1.out) (by simpa using HM.out))
    | false =>
     rw [h1] at hq1
     cases h2 : hasT ts st [107, 101, 114, 110, 101, 108] with
     | true =>
      rw [h2] at hq2
      have HX := Hd fun W (h : Rd W R g c ts st) => HKN.out st h2 W h
      have hpr : rem ts (kernQ ts st).2 + 1 ≤ rem ts st := by rw [kernQ_st HKW.out st h2]; exact kern_prog hst
      have HZ3 : Hid (Z = unitsQ ts (F2 + 1) (acc ++ [(kernQ ts st).1]) (kernQ ts st).2) := Hd (HZ2.out.trans (unitsQ_kn hst h1 h2))
      have HM : Hid ((if (kernQ ts st).2.bad then 0 else ts.length - (kernQ ts st).2.i + 1) < ts.length - st.i + 1) := Hd (left_less hb hpr)
      clear HZ2 h1 hb hi hst hm0 h2
      go_wp2
      go_quiet (fail)
      have G81 := Hd (J0.out.drewN nq)
      go_wp2_with fail
      refine (HTX.out _ _ G81.out.fr.rd).mono ?_
      rintro e v5 ⟨rfl, hb⟩
      have G82 := Hd (G81.out.quiet hXl hb)
      clear hb
      obtain ⟨hc0, hf0, hz0, hc1, hf1, hz1⟩ := G82.out.fr.l2
      go_wp2_with fail
      refine (HTX.out _ _ G82.out.fr.rd).mono ?_
      rintro e v6 ⟨rfl, hb⟩
      have G83 := Hd (G82.out.quiet hXl hb)
      clear hb hc0 hf0 hz0 hc1 hf1 hz1
      obtain ⟨hc0, hf0, hz0, hc1, hf1, hz1⟩ := G83.out.fr.l2
      clear c0 c1 c2 qa qb
      go_wp2
      have G84 := Hd (G83.out.drew)
      go_region_law (first | (refine fk_append KT1.out hXl (by rfl) _ _ _ (by rfl) Tryz.underlying26 infoNd2 (by rfl) (by simp [Act.eval]) ?_; intro g1 c1 u1 hk6; have KX1 := Hd hk6; clear hk6; obtain ⟨hd10, he10, hy10, hd11, he11, hy11⟩ := KX1.out.fr.l2) | (go_simp; go_at_call 71; refine (HX.out _ G84.out.fr.rd).mono ?_; rintro e y1 ⟨l3, x3, n3, k3, rfl, hT, hr, hs⟩; have KT1 := Hd (G84.out.callT hfew hT hr hs); clear hT hr hs; obtain ⟨hu10, hv10, hw10, hu11, hv11, hw11⟩ := KT1.out.fr.l2))
      all_goals
       clear hu10 hv10 hw10 hu11 hv11 hw11
       clear hc0 hf0 hz0 hc1 hf1 hz1
       have G85 := Hd (KX1.out.s10 hXl (.slice (some ⟨g1, 0, none⟩) (acc.length + 1) c1))
       have JE := Hd G85.out
       have hm1 := mW_rd JE.out.fr.rd
       have hal2 : (acc ++ [(kernQ ts st).1]).length = acc.length + 1 := by simp
       have HN2 : Hid (PgSt ts R g c w w.heap.size v1.heap.size (v1.alloc (.cells #[.int .i64 1, .string ⟨#[]⟩, .int .u64 0, .int .i64 0, .bool false, .int .i64 0, .int .i64 0, .int .i64 0, .int .i64 0, .int .i64 (L9 : Int), .slice none 0 0] 28)).heap.size Z L9 _ (kernQ ts st).2) := Hd ⟨some ⟨g1, 0, none⟩, c1, F2, _, (by rw [hal2]; exact JE.out), HZ3.out, by omega, by rw [hal2]; omega⟩
       have HM1 := Hd hm1
       clear hm1 hal2
       go_wp2
       go_roundw
       case rel => exact ⟨_, HN2⟩
       case measure => (rw [HM0.out]; exact Nat.lt_of_le_of_lt (Nat.le_of_eq HM1.out) (by simpa using HM.out))
     | false =>
      rw [h2] at hq2
      have HZ3 : Hid (Z = unitsQ ts (F2 + 1) acc (stop st)) := Hd (HZ2.out.trans (unitsQ_no hst h1 h2))
      have hr0 : rem ts (stop st) = 0 := rfl
      clear HZ2 h1 hb hi hst hm0 h2
      go_wp2
      go_quiet (fail)
      have G91 := Hd (J0.out.drewN nq)
      go_wp2_with fail
      refine (HTX.out _ _ G91.out.fr.rd).mono ?_
      rintro e v5 ⟨rfl, hb⟩
      have G92 := Hd (G91.out.quiet hXl hb)
      clear hb
      obtain ⟨hc0, hf0, hz0, hc1, hf1, hz1⟩ := G92.out.fr.l2
      go_wp2_with fail
      refine (HTX.out _ _ G92.out.fr.rd).mono ?_
      rintro e v6 ⟨rfl, hb⟩
      have G93 := Hd (G92.out.quiet hXl hb)
      clear hb hc0 hf0 hz0 hc1 hf1 hz1
      obtain ⟨hc0, hf0, hz0, hc1, hf1, hz1⟩ := G93.out.fr.l2
      clear c0 c1 c2 qa qb
      obtain ⟨c0, c1, c2, f1a, f2a⟩ := G93.out.fr.rd.cells
      have hzS := G93.out.fr.rd.lt
      have G94 := Hd (G93.out.badR hXl)
      have JE := Hd G94.out
      have hm1 := mW_rd JE.out.fr.rd
      have HN2 : Hid (PgSt ts R g c w w.heap.size v1.heap.size (v1.alloc (.cells #[.int .i64 1, .string ⟨#[]⟩, .int .u64 0, .int .i64 0, .bool false, .int .i64 0, .int .i64 0, .int .i64 0, .int .i64 0, .int .i64 (L9 : Int), .slice none 0 0] 28)).heap.size Z L9 _ (stop st)) := Hd ⟨xk, kk, F2, _, JE.out, HZ3.out, by omega, by omega⟩
      have HM1 := Hd hm1
      clear hm1 hr0
      go_wp2
      go_roundw
      case rel => exact ⟨_, HN2⟩
      case measure => (rw [HM0.out]; exact Nat.lt_of_le_of_lt (Nat.le_of_eq HM1.out) (by simp [stop]))
   ·have HZ3 : Hid (Z = (acc, st)) := Hd (HZ2.out.trans (unitsQ_end (fun h => hi h.2)))
    have qa : decide ((st.i : Int) < (ts.length : Int)) = false := by simp; omega
    have qb : decide (st.i < ts.length) = false := by simp; omega
    clear HZ2 hb hm0 hfu2 hal hi
    have hzz := HZ3.out
    subst hzz
    clear HZ3
    go_wp2
    go_quiet (fail)
    have G61 := Hd (J0.out.drewN nq)
    clear c0 c1 c2
    obtain ⟨hc0, hf0, hz0, hc1, hf1, hz1⟩ := G61.out.fr.l2
    have G62 := Hd (G61.out.tree (labK 1 L9))
    go_wp2
    have G63 := Hd (G62.out.stoR hXl (List.Mem.tail _ (List.Mem.head _)) rfl (.int .i64 1) (.string ⟨#[]⟩) (.int .u64 0) (.int .i64 0) (.bool false) (.int .i64 0) (.int .i64 0) (.int .i64 0) (.int .i64 0) (.int .i64 (L9 : Int)) (.slice xk acc.length kk))
    refine bodyPost_ret (G63.out.b0.res1 Tryz.results34 Tryz.underlying28 rfl infoNd _ rfl) rfl ?_
    exact G63.out.outT (rfl)
end Q
end Go.Proofs.YtkliclihpobmiaaGreatDoor
/- crowded: contract. -/
namespace Go.Proofs.YtkliclihpobmiaaGreatDoor
open Go Go.RowKit
set_option linter.unusedVariables false

theorem crowd_nil (o : Nat) : crowd o [] = 0 := by rw [crowd]
theorem crowd_cons (o : Nat) (t : Tok) (r : List Tok) : crowd o (t :: r) = if 200 < opens o t then t.line else crowd (opens o t) r := by rw [crowd]
theorem drop_tat' {ts : List Tok} {i : Nat} (h : i < ts.length) : ts.drop i = tat ts i :: ts.drop (i + 1) := by rw [tat_get h]; exact List.drop_eq_getElem_cons h
theorem text_bytes (t u : List UInt8) : ((str t).toList == u) = decide (t = u) := by
 rw [← str_toList u, str_eq, str_toList, decide_eq_decide]
 exact ⟨str_inj, fun h => by rw [h]⟩
structure CrSt (ts : List Tok) (Z : Nat) (w wr : World) (o k : Nat) : Prop where
 eq : Z = crowd o (ts.drop k)
 bel : Below w.heap.size w wr
 le : o ≤ 200

set_option maxHeartbeats 2000000 in
set_option maxRecDepth 100000 in
theorem crowded_any (ts : List Tok) (g c : Nat) (hlen : ts.length ≤ 65536) (hl : ∀ t ∈ ts, t.line ≤ 1000000) (w : World) (hT : TkIn w g ts) :
  Calls Tryz.prog 29 #[.slice (some ⟨g, 0, none⟩) ts.length c] w fun e w' => e = .returned (.int .i64 (crowd 0 ts : Int)) ∧ Below w.heap.size w w' := by
 obtain ⟨Z, hZ⟩ : ∃ Z, Z = crowd 0 ts := ⟨_, rfl⟩
 rw [← hZ]
 have h0 : Hid (CrSt ts Z w w 0 0) := ⟨hZ, Below.refl _ _, by omega⟩
 have HT := Hd hT
 have HL := Hd hl
 clear hZ hT hl
 generalize hN : ts.length = N at *
 have HN := Hd hN
 clear hN
 go_enter Tryz.func29, Tryz.ntmps29
 go_wp2
 go_loopw [3, 8] (fun o i wr => ∃ p k : Nat, k ≤ N ∧ o = .int .i64 (p : Int) ∧ i = .int .i64 (k : Int) ∧ Hid (CrSt ts Z w wr p k)) (fun _ i _ => N - (intOf i).toNat)
 case atStart => exact ⟨0, 0, by omega, rfl, rfl, h0⟩
 case round =>
  clear h0
  obtain ⟨p, k, hk, rfl, rfl, hX⟩ := hrel
  by_cases hkn : k < N
  ·have hkl : k < ts.length := by rw [HN.out]; exact hkn
   obtain ⟨d0, d1, d2, d3, d4⟩ := (HT.out.below hX.out.bel HT.out.1).2 k hkl
   have HB := Hd (hX.out.bel.alloc hX.out.bel.size (.cells #[.int .i64 ((tat ts k).kind : Int), .string (str (tat ts k).text), .int .u64 ((tat ts k).num : Int), .int .i64 ((tat ts k).pos : Int), .int .i64 ((tat ts k).line : Int)] 53))
   have hle := hX.out.le
   have hZ : Hid (Z = if 200 < opens p (tat ts k) then (tat ts k).line else crowd (opens p (tat ts k)) (ts.drop (k + 1))) := Hd (by rw [hX.out.eq, drop_tat' hkl, crowd_cons])
   have hop : opens p (tat ts k) = if isOpen (tat ts k).text then p + 1 else if isShut (tat ts k).text then p - 1 else p := rfl
   have hz := text_bytes (tat ts k).text
   have hm : max ((p : Int) - 1) 0 = ((p - 1 : Nat) : Int) := by omega
   generalize (tat ts k).text = tx at *
   generalize ((tat ts k).line) = ln9 at *
   generalize ((tat ts k).kind : Int) = n1 at *
   generalize ((tat ts k).num : Int) = n2 at *
   generalize ((tat ts k).pos : Int) = n3 at *
   generalize opens p (tat ts k) = o2 at *
   by_cases g0 : tx = [40]
   ·have q0 : ((str tx).toList == [40]) = true := by rw [hz]; rw [g0]; rfl
    have q1 : ((str tx).toList == [91]) = false := by rw [hz]; rw [g0]; decide
    have q2 : ((str tx).toList == [123]) = false := by rw [hz]; rw [g0]; decide
    have q3 : ((str tx).toList == [41]) = false := by rw [hz]; rw [g0]; decide
    have q4 : ((str tx).toList == [93]) = false := by rw [hz]; rw [g0]; decide
    have q5 : ((str tx).toList == [125]) = false := by rw [hz]; rw [g0]; decide
    have ho : o2 = p + 1 := by rw [hop, g0]; rfl
    have hov : (p : Int) + 1 = ((p + 1 : Nat) : Int) := by omega
    subst ho
    clear hop hz g0
    by_cases hbig : 200 < p + 1
    ·have hz2 : Z = ln9 := by rw [hZ.out, if_pos hbig]
     subst hz2
     have qb : (200 : Int) < (p : Int) + 1 := by omega
     clear hZ hm hov
     go_wp2
     go_ret
     exact ⟨rfl, HB.out⟩
    ·have HX : Hid (CrSt ts Z w _ (p + 1) (k + 1)) := Hd ⟨by rw [hZ.out, if_neg hbig], HB.out, by omega⟩
     have qb : (p : Int) + 1 ≤ 200 := by omega
     clear hZ hm hov
     go_wp2
     go_roundw
     case rel => exact ⟨p + 1, k + 1, by omega, by go_num, by go_num, HX⟩
     case measure => simp [intOf]; omega
   by_cases g1 : tx = [91]
   ·have q0 : ((str tx).toList == [40]) = false := by rw [hz]; rw [g1]; decide
    have q1 : ((str tx).toList == [91]) = true := by rw [hz]; rw [g1]; rfl
    have q2 : ((str tx).toList == [123]) = false := by rw [hz]; rw [g1]; decide
    have q3 : ((str tx).toList == [41]) = false := by rw [hz]; rw [g1]; decide
    have q4 : ((str tx).toList == [93]) = false := by rw [hz]; rw [g1]; decide
    have q5 : ((str tx).toList == [125]) = false := by rw [hz]; rw [g1]; decide
    have ho : o2 = p + 1 := by rw [hop, g1]; rfl
    have hov : (p : Int) + 1 = ((p + 1 : Nat) : Int) := by omega
    subst ho
    clear hop hz g0 g1
    by_cases hbig : 200 < p + 1
    ·have hz2 : Z = ln9 := by rw [hZ.out, if_pos hbig]
     subst hz2
     have qb : (200 : Int) < (p : Int) + 1 := by omega
     clear hZ hm hov
     go_wp2
     go_ret
     exact ⟨rfl, HB.out⟩
    ·have HX : Hid (CrSt ts Z w _ (p + 1) (k + 1)) := Hd ⟨by rw [hZ.out, if_neg hbig], HB.out, by omega⟩
     have qb : (p : Int) + 1 ≤ 200 := by omega
     clear hZ hm hov
     go_wp2
     go_roundw
     case rel => exact ⟨p + 1, k + 1, by omega, by go_num, by go_num, HX⟩
     case measure => simp [intOf]; omega
   by_cases g2 : tx = [123]
   ·have q0 : ((str tx).toList == [40]) = false := by rw [hz]; rw [g2]; decide
    have q1 : ((str tx).toList == [91]) = false := by rw [hz]; rw [g2]; decide
    have q2 : ((str tx).toList == [123]) = true := by rw [hz]; rw [g2]; rfl
    have q3 : ((str tx).toList == [41]) = false := by rw [hz]; rw [g2]; decide
    have q4 : ((str tx).toList == [93]) = false := by rw [hz]; rw [g2]; decide
    have q5 : ((str tx).toList == [125]) = false := by rw [hz]; rw [g2]; decide
    have ho : o2 = p + 1 := by rw [hop, g2]; rfl
    have hov : (p : Int) + 1 = ((p + 1 : Nat) : Int) := by omega
    subst ho
    clear hop hz g0 g1 g2
    by_cases hbig : 200 < p + 1
    ·have hz2 : Z = ln9 := by rw [hZ.out, if_pos hbig]
     subst hz2
     have qb : (200 : Int) < (p : Int) + 1 := by omega
     clear hZ hm hov
     go_wp2
     go_ret
     exact ⟨rfl, HB.out⟩
    ·have HX : Hid (CrSt ts Z w _ (p + 1) (k + 1)) := Hd ⟨by rw [hZ.out, if_neg hbig], HB.out, by omega⟩
     have qb : (p : Int) + 1 ≤ 200 := by omega
     clear hZ hm hov
     go_wp2
     go_roundw
     case rel => exact ⟨p + 1, k + 1, by omega, by go_num, by go_num, HX⟩
     case measure => simp [intOf]; omega
   by_cases g3 : tx = [41]
   ·have q0 : ((str tx).toList == [40]) = false := by rw [hz]; rw [g3]; decide
    have q1 : ((str tx).toList == [91]) = false := by rw [hz]; rw [g3]; decide
    have q2 : ((str tx).toList == [123]) = false := by rw [hz]; rw [g3]; decide
    have q3 : ((str tx).toList == [41]) = true := by rw [hz]; rw [g3]; rfl
    have q4 : ((str tx).toList == [93]) = false := by rw [hz]; rw [g3]; decide
    have q5 : ((str tx).toList == [125]) = false := by rw [hz]; rw [g3]; decide
    have ho : o2 = p - 1 := by rw [hop, g3]; rfl
    subst ho
    clear hop hz g0 g1 g2 g3
    have hp1 : (((p - 1 : Nat) : Nat) : Int) ≤ 200 := by omega
    have HX : Hid (CrSt ts Z w _ (p - 1) (k + 1)) := Hd ⟨by rw [hZ.out, if_neg (by omega)], HB.out, by omega⟩
    clear hZ
    go_wp2
    go_roundw
    case rel => exact ⟨p - 1, k + 1, by omega, by first | rfl | (rw [hm]) | go_num, by go_num, HX⟩
    case measure => simp [intOf]; omega
   by_cases g4 : tx = [93]
   ·have q0 : ((str tx).toList == [40]) = false := by rw [hz]; rw [g4]; decide
    have q1 : ((str tx).toList == [91]) = false := by rw [hz]; rw [g4]; decide
    have q2 : ((str tx).toList == [123]) = false := by rw [hz]; rw [g4]; decide
    have q3 : ((str tx).toList == [41]) = false := by rw [hz]; rw [g4]; decide
    have q4 : ((str tx).toList == [93]) = true := by rw [hz]; rw [g4]; rfl
    have q5 : ((str tx).toList == [125]) = false := by rw [hz]; rw [g4]; decide
    have ho : o2 = p - 1 := by rw [hop, g4]; rfl
    subst ho
    clear hop hz g0 g1 g2 g3 g4
    have hp1 : (((p - 1 : Nat) : Nat) : Int) ≤ 200 := by omega
    have HX : Hid (CrSt ts Z w _ (p - 1) (k + 1)) := Hd ⟨by rw [hZ.out, if_neg (by omega)], HB.out, by omega⟩
    clear hZ
    go_wp2
    go_roundw
    case rel => exact ⟨p - 1, k + 1, by omega, by first | rfl | (rw [hm]) | go_num, by go_num, HX⟩
    case measure => simp [intOf]; omega
   by_cases g5 : tx = [125]
   ·have q0 : ((str tx).toList == [40]) = false := by rw [hz]; rw [g5]; decide
    have q1 : ((str tx).toList == [91]) = false := by rw [hz]; rw [g5]; decide
    have q2 : ((str tx).toList == [123]) = false := by rw [hz]; rw [g5]; decide
    have q3 : ((str tx).toList == [41]) = false := by rw [hz]; rw [g5]; decide
    have q4 : ((str tx).toList == [93]) = false := by rw [hz]; rw [g5]; decide
    have q5 : ((str tx).toList == [125]) = true := by rw [hz]; rw [g5]; rfl
    have ho : o2 = p - 1 := by rw [hop, g5]; rfl
    subst ho
    clear hop hz g0 g1 g2 g3 g4 g5
    have hp1 : (((p - 1 : Nat) : Nat) : Int) ≤ 200 := by omega
    have HX : Hid (CrSt ts Z w _ (p - 1) (k + 1)) := Hd ⟨by rw [hZ.out, if_neg (by omega)], HB.out, by omega⟩
    clear hZ
    go_wp2
    go_roundw
    case rel => exact ⟨p - 1, k + 1, by omega, by first | rfl | (rw [hm]) | go_num, by go_num, HX⟩
    case measure => simp [intOf]; omega
   have q0 : ((str tx).toList == [40]) = false := by rw [hz]; simp [g0]
   have q1 : ((str tx).toList == [91]) = false := by rw [hz]; simp [g1]
   have q2 : ((str tx).toList == [123]) = false := by rw [hz]; simp [g2]
   have q3 : ((str tx).toList == [41]) = false := by rw [hz]; simp [g3]
   have q4 : ((str tx).toList == [93]) = false := by rw [hz]; simp [g4]
   have q5 : ((str tx).toList == [125]) = false := by rw [hz]; simp [g5]
   have ho : p = o2 := by rw [hop]; simp [isOpen, isShut, g0, g1, g2, g3, g4, g5]
   subst ho
   clear hop hz g0 g1 g2 g3 g4 g5
   have hp1 : (p : Int) ≤ 200 := by omega
   have HX : Hid (CrSt ts Z w _ (p) (k + 1)) := Hd ⟨by rw [hZ.out, if_neg (by omega)], HB.out, by omega⟩
   clear hm
   clear hZ
   go_wp2
   go_roundw
   case rel => exact ⟨p, k + 1, by omega, by first | rfl | (rw [hm]) | go_num, by go_num, HX⟩
   case measure => simp [intOf]; omega
  ·have hz : Z = 0 := by rw [hX.out.eq, List.drop_of_length_le (by rw [HN.out]; omega), crowd_nil]
   subst hz
   go_wp2
   go_ret
   exact ⟨rfl, hX.out.bel⟩
end Go.Proofs.YtkliclihpobmiaaGreatDoor
/- The reference's deep: contract. -/
namespace Go.Proofs.YtkliclihpobmiaaGreatDoor
namespace Q
open Go Go.RowKit
set_option linter.unusedVariables false
set_option linter.unusedSimpArgs false

set_option maxHeartbeats 2000000 in
set_option maxRecDepth 100000 in
theorem deep_any (ts : List Tok) (g c : Nat) (hlen : ts.length ≤ 65536) (hl : ∀ t ∈ ts, t.line ≤ 1000000) (w : World) (hT : TkIn w g ts) :
  Calls Tryz.prog 33 #[.slice (some ⟨g, 0, none⟩) ts.length c] w fun e w' => e = .returned (.int .i64 (crowd 0 ts : Int)) ∧ Below w.heap.size w w' := by
 obtain ⟨Z, hZ⟩ : ∃ Z, Z = crowd 0 ts := ⟨_, rfl⟩
 rw [← hZ]
 have h0 : Hid (CrSt ts Z w w 0 0) := ⟨hZ, Below.refl _ _, by omega⟩
 have HT := Hd hT
 have HL := Hd hl
 clear hZ hT hl
 generalize hN : ts.length = N at *
 have HN := Hd hN
 clear hN
 go_enter Tryz.func33, Tryz.ntmps33
 go_wp2
 go_loopw [3, 4] (fun o i wr => ∃ p k : Nat, k ≤ N ∧ o = .int .i64 (p : Int) ∧ i = .int .i64 (k : Int) ∧ Hid (CrSt ts Z w wr p k)) (fun _ i _ => N - (intOf i).toNat)
 case atStart => exact ⟨0, 0, by omega, rfl, rfl, h0⟩
 case round =>
  clear h0
  obtain ⟨p, k, hk, rfl, rfl, hX⟩ := hrel
  by_cases hkn : k < N
  ·have hkl : k < ts.length := by rw [HN.out]; exact hkn
   obtain ⟨d0, d1, d2, d3, d4⟩ := (HT.out.below hX.out.bel HT.out.1).2 k hkl
   have HB := Hd hX.out.bel
   have hle := hX.out.le
   have hZ : Hid (Z = if 200 < opens p (tat ts k) then (tat ts k).line else crowd (opens p (tat ts k)) (ts.drop (k + 1))) := Hd (by rw [hX.out.eq, drop_tat' hkl, crowd_cons])
   have hop : opens p (tat ts k) = if isOpen (tat ts k).text then p + 1 else if isShut (tat ts k).text then p - 1 else p := rfl
   have hz := text_bytes (tat ts k).text
   have hm : max ((p : Int) - 1) 0 = ((p - 1 : Nat) : Int) := by omega
   generalize (tat ts k).text = tx at *
   generalize ((tat ts k).line) = ln9 at *
   generalize ((tat ts k).kind : Int) = n1 at *
   generalize ((tat ts k).num : Int) = n2 at *
   generalize ((tat ts k).pos : Int) = n3 at *
   generalize opens p (tat ts k) = o2 at *
   by_cases g0 : tx = [40]
   ·have q0 : ((str tx).toList == [40]) = true := by rw [hz]; rw [g0]; rfl
    have q1 : ((str tx).toList == [91]) = false := by rw [hz]; rw [g0]; decide
    have q2 : ((str tx).toList == [123]) = false := by rw [hz]; rw [g0]; decide
    have q3 : ((str tx).toList == [41]) = false := by rw [hz]; rw [g0]; decide
    have q4 : ((str tx).toList == [93]) = false := by rw [hz]; rw [g0]; decide
    have q5 : ((str tx).toList == [125]) = false := by rw [hz]; rw [g0]; decide
    have ho : o2 = p + 1 := by rw [hop, g0]; rfl
    have hov : (p : Int) + 1 = ((p + 1 : Nat) : Int) := by omega
    subst ho
    clear hop hz g0
    by_cases hbig : 200 < p + 1
    ·have hz2 : Z = ln9 := by rw [hZ.out, if_pos hbig]
     subst hz2
     have qb : (200 : Int) < (p : Int) + 1 := by omega
     clear hZ hm hov
     go_wp2
     go_ret
     exact ⟨rfl, HB.out⟩
    ·have HX : Hid (CrSt ts Z w _ (p + 1) (k + 1)) := Hd ⟨by rw [hZ.out, if_neg hbig], HB.out, by omega⟩
     have qb : (p : Int) + 1 ≤ 200 := by omega
     clear hZ hm hov
     go_wp2
     go_roundw
     case rel => exact ⟨p + 1, k + 1, by omega, by go_num, by go_num, HX⟩
     case measure => simp [intOf]; omega
   by_cases g1 : tx = [91]
   ·have q0 : ((str tx).toList == [40]) = false := by rw [hz]; rw [g1]; decide
    have q1 : ((str tx).toList == [91]) = true := by rw [hz]; rw [g1]; rfl
    have q2 : ((str tx).toList == [123]) = false := by rw [hz]; rw [g1]; decide
    have q3 : ((str tx).toList == [41]) = false := by rw [hz]; rw [g1]; decide
    have q4 : ((str tx).toList == [93]) = false := by rw [hz]; rw [g1]; decide
    have q5 : ((str tx).toList == [125]) = false := by rw [hz]; rw [g1]; decide
    have ho : o2 = p + 1 := by rw [hop, g1]; rfl
    have hov : (p : Int) + 1 = ((p + 1 : Nat) : Int) := by omega
    subst ho
    clear hop hz g0 g1
    by_cases hbig : 200 < p + 1
    ·have hz2 : Z = ln9 := by rw [hZ.out, if_pos hbig]
     subst hz2
     have qb : (200 : Int) < (p : Int) + 1 := by omega
     clear hZ hm hov
     go_wp2
     go_ret
     exact ⟨rfl, HB.out⟩
    ·have HX : Hid (CrSt ts Z w _ (p + 1) (k + 1)) := Hd ⟨by rw [hZ.out, if_neg hbig], HB.out, by omega⟩
     have qb : (p : Int) + 1 ≤ 200 := by omega
     clear hZ hm hov
     go_wp2
     go_roundw
     case rel => exact ⟨p + 1, k + 1, by omega, by go_num, by go_num, HX⟩
     case measure => simp [intOf]; omega
   by_cases g2 : tx = [123]
   ·have q0 : ((str tx).toList == [40]) = false := by rw [hz]; rw [g2]; decide
    have q1 : ((str tx).toList == [91]) = false := by rw [hz]; rw [g2]; decide
    have q2 : ((str tx).toList == [123]) = true := by rw [hz]; rw [g2]; rfl
    have q3 : ((str tx).toList == [41]) = false := by rw [hz]; rw [g2]; decide
    have q4 : ((str tx).toList == [93]) = false := by rw [hz]; rw [g2]; decide
    have q5 : ((str tx).toList == [125]) = false := by rw [hz]; rw [g2]; decide
    have ho : o2 = p + 1 := by rw [hop, g2]; rfl
    have hov : (p : Int) + 1 = ((p + 1 : Nat) : Int) := by omega
    subst ho
    clear hop hz g0 g1 g2
    by_cases hbig : 200 < p + 1
    ·have hz2 : Z = ln9 := by rw [hZ.out, if_pos hbig]
     subst hz2
     have qb : (200 : Int) < (p : Int) + 1 := by omega
     clear hZ hm hov
     go_wp2
     go_ret
     exact ⟨rfl, HB.out⟩
    ·have HX : Hid (CrSt ts Z w _ (p + 1) (k + 1)) := Hd ⟨by rw [hZ.out, if_neg hbig], HB.out, by omega⟩
     have qb : (p : Int) + 1 ≤ 200 := by omega
     clear hZ hm hov
     go_wp2
     go_roundw
     case rel => exact ⟨p + 1, k + 1, by omega, by go_num, by go_num, HX⟩
     case measure => simp [intOf]; omega
   by_cases g3 : tx = [41]
   ·have q0 : ((str tx).toList == [40]) = false := by rw [hz]; rw [g3]; decide
    have q1 : ((str tx).toList == [91]) = false := by rw [hz]; rw [g3]; decide
    have q2 : ((str tx).toList == [123]) = false := by rw [hz]; rw [g3]; decide
    have q3 : ((str tx).toList == [41]) = true := by rw [hz]; rw [g3]; rfl
    have q4 : ((str tx).toList == [93]) = false := by rw [hz]; rw [g3]; decide
    have q5 : ((str tx).toList == [125]) = false := by rw [hz]; rw [g3]; decide
    have ho : o2 = p - 1 := by rw [hop, g3]; rfl
    subst ho
    clear hop hz g0 g1 g2 g3
    have hp1 : (((p - 1 : Nat) : Nat) : Int) ≤ 200 := by omega
    have HX : Hid (CrSt ts Z w _ (p - 1) (k + 1)) := Hd ⟨by rw [hZ.out, if_neg (by omega)], HB.out, by omega⟩
    clear hZ
    go_wp2
    go_roundw
    case rel => exact ⟨p - 1, k + 1, by omega, by first | rfl | (rw [hm]) | go_num, by go_num, HX⟩
    case measure => simp [intOf]; omega
   by_cases g4 : tx = [93]
   ·have q0 : ((str tx).toList == [40]) = false := by rw [hz]; rw [g4]; decide
    have q1 : ((str tx).toList == [91]) = false := by rw [hz]; rw [g4]; decide
    have q2 : ((str tx).toList == [123]) = false := by rw [hz]; rw [g4]; decide
    have q3 : ((str tx).toList == [41]) = false := by rw [hz]; rw [g4]; decide
    have q4 : ((str tx).toList == [93]) = true := by rw [hz]; rw [g4]; rfl
    have q5 : ((str tx).toList == [125]) = false := by rw [hz]; rw [g4]; decide
    have ho : o2 = p - 1 := by rw [hop, g4]; rfl
    subst ho
    clear hop hz g0 g1 g2 g3 g4
    have hp1 : (((p - 1 : Nat) : Nat) : Int) ≤ 200 := by omega
    have HX : Hid (CrSt ts Z w _ (p - 1) (k + 1)) := Hd ⟨by rw [hZ.out, if_neg (by omega)], HB.out, by omega⟩
    clear hZ
    go_wp2
    go_roundw
    case rel => exact ⟨p - 1, k + 1, by omega, by first | rfl | (rw [hm]) | go_num, by go_num, HX⟩
    case measure => simp [intOf]; omega
   by_cases g5 : tx = [125]
   ·have q0 : ((str tx).toList == [40]) = false := by rw [hz]; rw [g5]; decide
    have q1 : ((str tx).toList == [91]) = false := by rw [hz]; rw [g5]; decide
    have q2 : ((str tx).toList == [123]) = false := by rw [hz]; rw [g5]; decide
    have q3 : ((str tx).toList == [41]) = false := by rw [hz]; rw [g5]; decide
    have q4 : ((str tx).toList == [93]) = false := by rw [hz]; rw [g5]; decide
    have q5 : ((str tx).toList == [125]) = true := by rw [hz]; rw [g5]; rfl
    have ho : o2 = p - 1 := by rw [hop, g5]; rfl
    subst ho
    clear hop hz g0 g1 g2 g3 g4 g5
    have hp1 : (((p - 1 : Nat) : Nat) : Int) ≤ 200 := by omega
    have HX : Hid (CrSt ts Z w _ (p - 1) (k + 1)) := Hd ⟨by rw [hZ.out, if_neg (by omega)], HB.out, by omega⟩
    clear hZ
    go_wp2
    go_roundw
    case rel => exact ⟨p - 1, k + 1, by omega, by first | rfl | (rw [hm]) | go_num, by go_num, HX⟩
    case measure => simp [intOf]; omega
   have q0 : ((str tx).toList == [40]) = false := by rw [hz]; simp [g0]
   have q1 : ((str tx).toList == [91]) = false := by rw [hz]; simp [g1]
   have q2 : ((str tx).toList == [123]) = false := by rw [hz]; simp [g2]
   have q3 : ((str tx).toList == [41]) = false := by rw [hz]; simp [g3]
   have q4 : ((str tx).toList == [93]) = false := by rw [hz]; simp [g4]
   have q5 : ((str tx).toList == [125]) = false := by rw [hz]; simp [g5]
   have ho : p = o2 := by rw [hop]; simp [isOpen, isShut, g0, g1, g2, g3, g4, g5]
   subst ho
   clear hop hz g0 g1 g2 g3 g4 g5
   have hp1 : (p : Int) ≤ 200 := by omega
   have HX : Hid (CrSt ts Z w _ (p) (k + 1)) := Hd ⟨by rw [hZ.out, if_neg (by omega)], HB.out, by omega⟩
   clear hm
   clear hZ
   go_wp2
   go_roundw
   case rel => exact ⟨p, k + 1, by omega, by first | rfl | (rw [hm]) | go_num, by go_num, HX⟩
   case measure => simp [intOf]; omega
  ·have hz : Z = 0 := by rw [hX.out.eq, List.drop_of_length_le (by rw [HN.out]; omega), crowd_nil]
   subst hz
   go_wp2
   go_ret
   exact ⟨rfl, hX.out.bel⟩

end Q
end Go.Proofs.YtkliclihpobmiaaGreatDoor
