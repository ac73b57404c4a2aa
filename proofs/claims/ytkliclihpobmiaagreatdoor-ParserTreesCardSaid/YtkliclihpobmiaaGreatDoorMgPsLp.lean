/- The rule loop: contract. -/
import Derived.Test.YtkliclihpobmiaaGreatDoorMgPsFz
import Derived.Deep.CutBlock
import Derived.BigQuiet
namespace Go.Proofs.YtkliclihpobmiaaGreatDoor
open Go Go.RowKit
set_option linter.unusedVariables false
set_option linter.unusedSimpArgs false

set_option maxHeartbeats 8000000 in
set_option maxRecDepth 100000 in
theorem loop_step {ts : List Tok} {R g c : Nat} (X : Ctx ts R g c) (f : Nat) (H : SC ts R g c f) (s : Sg) (hv : (hasT ts s [35] || hasT ts s [102, 111, 114] || hasT ts s [119, 104, 105, 108, 101]) = true) (w : World) (hR : Rd w R g c ts s) (hf : 8 * rem ts s + 3 ≤ f + 1) :
  Calls Tryz.prog 157 #[.pointer (some ⟨R, 0, none⟩)] w (TP w R g c ts (one (S ts (f + 1) .lp s))) := by
 have hXl := X.lt
 have F0 := Hd ((Fr.start hR).node hXl ncz)
 have HN := Hd fun W (h : Rd W R g c ts s) => node_any X 15 W h
 have HL : Hid (nc (labK 15 (ln ts s)) = dcs (ln ts s : Int) 0 0) := Hd rfl
 rw [HL.out] at HN
 unfold dcs at HN
 have HDI := Hd fun (q : Sg) (p u L : Nat) (W : World) (F : Fr w W R g c ts q [(L, dcs (ln ts s : Int) p u), (w.heap.size, ncz)] []) => directive_any X W F
 have HSK := Hd fun q W (h : Rd W R g c ts q) => skip_any' X (s := q) [35] (by simp) W h
 obtain ⟨Z, hZ⟩ : ∃ Z, Z = lpD ts s := ⟨_, rfl⟩
 have HZE := Hd hZ
 have HRS := Hd (And.intro H (And.intro hv hf))
 clear hR H hv hf hZ
 go_enter Tryz.func157, Tryz.ntmps157
 go_wp2_with fail
 refine (HN.out _ F0.out.rd).mono ?_
 rintro e v1 ⟨rfl, hb⟩
 have G1 := Hd (F0.out.quiet hXl hb)
 clear hb
 have hq10 := G1.out.b0.lt
 have G2 := Hd (G1.out.node hXl (dcs (ln ts s : Int) 0 0))
 have h0 : Hid (DrSt w _ R g c ts v1.heap.size w.heap.size (ln ts s : Int) Z 3 0 0 s) := Hd ⟨G2.out, HZE.out.trans (by unfold lpD; rfl), .inr (by decide)⟩
 go_upto_block 0 with fail
 go_cut [] from 6 to 19 (fun wx => Hid (Fr w wx R g c ts (lpD ts s).2.2 [(v1.heap.size, dcs (ln ts s : Int) (lpD ts s).1 (lpD ts s).2.1), (w.heap.size, ncz)] []))
 case first =>
  go_wp2_with fail
  go_loopw [] (fun wr => ∃ fu p u st, Hid (DrSt w wr R g c ts v1.heap.size w.heap.size (ln ts s : Int) Z fu p u st)) (fun wr => ts.length - atW wr R)
  case atStart => exact ⟨_, _, _, _, h0⟩
  case round =>
   obtain ⟨fu, p, u, st, hX⟩ := hrel
   have J0 := Hd hX.out.F
   have HS2 := Hd (HSK.out st)
   clear h0
   obtain ⟨hc0, hf0⟩ := J0.out.b0.all
   unfold dcs at hc0
   have hz0 := J0.out.b0.lt
   by_cases hp : p = 0
   ·subst hp
    have hpu : (0 : Nat) = 0 ∨ u = 0 := .inl rfl
    cases hh : hasT ts st [35] with
    | true =>
     have hin := hasT_in hh
     have HHIN := Hd hin
     obtain ⟨f2, rfl⟩ : ∃ f2, fu = f2 + 1 := ⟨fu - 1, by rcases hX.out.fu with h | h; rw [hin.1] at h; cases h; unfold dz at h; omega⟩
     have HZ3 : Hid (Z = dirs ts f2 (dir ts 0 u (adv st)).1 (dir ts 0 u (adv st)).2.1 (dir ts 0 u (adv st)).2.2) := Hd (by rw [hX.out.eq]; exact dirs_next ⟨hpu, hh⟩)
     have HFU : Hid ((dir ts 0 u (adv st)).2.2.bad = true ∨ dz (dir ts 0 u (adv st)).1 (dir ts 0 u (adv st)).2.1 + 1 ≤ f2) := Hd (dir_fuel hpu (by rcases hX.out.fu with h | h; rw [hin.1] at h; cases h; exact h))
     have hatl := atOf_le (ts := ts) J0.out.rd.hi
     have hmm : Hid (atW wr R = atOf ts st) := Hd (atW_rd J0.out.rd)
     rw [show skp ts st [35] = adv st from if_pos hh] at HS2
     rw [hh] at HS2
     clear hh hin hX hpu
     go_wp2_with fail
     refine (HS2.out _ J0.out.rd).mono ?_
     rintro e v5 ⟨rfl, hr, hs⟩
     have G21 := Hd (J0.out.call hr hs)
     clear hr hs hc0 hf0 hz0
     go_wp2_with fail
     refine (HDI.out _ _ _ _ _ G21.out).mono ?_
     rintro e v6 ⟨rfl, hF6⟩
     have G61 := Hd hF6
     clear hF6
     have HM : Hid (ts.length - atW v6 R < ts.length - atOf ts st) := Hd (by rw [atW_rd G61.out.rd]; have := atOf_adv HHIN.out (dir_on ts 0 u (adv st)) G61.out.rd.hi; omega)
     have HX2 : Hid (DrSt w v6 R g c ts v1.heap.size w.heap.size (ln ts s : Int) Z f2 _ _ _) := Hd ⟨G61.out, HZ3.out, HFU.out⟩
     go_wp2
     go_roundw
     case rel => exact ⟨_, _, _, _, HX2⟩
     case measure => (rw [hmm.out]; exact HM.out)
    | false =>
     have HE : Hid (Z = (0, u, st)) := Hd (by rw [hX.out.eq]; exact dirs_end (by simp [hh]))
     rw [show skp ts st [35] = st from if_neg (by rw [hh]; simp)] at HS2
     rw [hh] at HS2
     clear hh hX
     go_wp2_with fail
     refine (HS2.out _ J0.out.rd).mono ?_
     rintro e v5 ⟨rfl, hr, hs⟩
     have G21 := Hd (J0.out.call hr hs)
     clear hr hs
     go_wp2
     go_meet
     rw [← HZE.out, HE.out]
     exact G21
   ·have q0 : ((p : Int) == 0) = false := by simp; omega
    by_cases hu : u = 0
    ·subst hu
     have hpu : p = 0 ∨ (0 : Nat) = 0 := .inr rfl
     clear hp
     cases hh : hasT ts st [35] with
     | true =>
      have hin := hasT_in hh
      have HHIN := Hd hin
      obtain ⟨f2, rfl⟩ : ∃ f2, fu = f2 + 1 := ⟨fu - 1, by rcases hX.out.fu with h | h; rw [hin.1] at h; cases h; unfold dz at h; omega⟩
      have HZ3 : Hid (Z = dirs ts f2 (dir ts p 0 (adv st)).1 (dir ts p 0 (adv st)).2.1 (dir ts p 0 (adv st)).2.2) := Hd (by rw [hX.out.eq]; exact dirs_next ⟨hpu, hh⟩)
      have HFU : Hid ((dir ts p 0 (adv st)).2.2.bad = true ∨ dz (dir ts p 0 (adv st)).1 (dir ts p 0 (adv st)).2.1 + 1 ≤ f2) := Hd (dir_fuel hpu (by rcases hX.out.fu with h | h; rw [hin.1] at h; cases h; exact h))
      have hatl := atOf_le (ts := ts) J0.out.rd.hi
      have hmm : Hid (atW wr R = atOf ts st) := Hd (atW_rd J0.out.rd)
      rw [show skp ts st [35] = adv st from if_pos hh] at HS2
      rw [hh] at HS2
      clear hh hin hX hpu
      go_wp2_with fail
      refine (HS2.out _ J0.out.rd).mono ?_
      rintro e v5 ⟨rfl, hr, hs⟩
      have G21 := Hd (J0.out.call hr hs)
      clear hr hs hc0 hf0 hz0
      go_wp2_with fail
      refine (HDI.out _ _ _ _ _ G21.out).mono ?_
      rintro e v6 ⟨rfl, hF6⟩
      have G61 := Hd hF6
      clear hF6
      have HM : Hid (ts.length - atW v6 R < ts.length - atOf ts st) := Hd (by rw [atW_rd G61.out.rd]; have := atOf_adv HHIN.out (dir_on ts p 0 (adv st)) G61.out.rd.hi; omega)
      have HX2 : Hid (DrSt w v6 R g c ts v1.heap.size w.heap.size (ln ts s : Int) Z f2 _ _ _) := Hd ⟨G61.out, HZ3.out, HFU.out⟩
      go_wp2
      go_roundw
      case rel => exact ⟨_, _, _, _, HX2⟩
      case measure => (rw [hmm.out]; exact HM.out)
     | false =>
      have HE : Hid (Z = (p, 0, st)) := Hd (by rw [hX.out.eq]; exact dirs_end (by simp [hh]))
      rw [show skp ts st [35] = st from if_neg (by rw [hh]; simp)] at HS2
      rw [hh] at HS2
      clear hh hX
      go_wp2_with fail
      refine (HS2.out _ J0.out.rd).mono ?_
      rintro e v5 ⟨rfl, hr, hs⟩
      have G21 := Hd (J0.out.call hr hs)
      clear hr hs
      go_wp2
      go_meet
      rw [← HZE.out, HE.out]
      exact G21
    ·have q1 : ((u : Int) == 0) = false := by simp; omega
     have HE : Hid (Z = (p, u, st)) := Hd (by rw [hX.out.eq]; exact dirs_end (by simp [hp, hu]))
     clear hX
     go_wp2
     go_meet
     rw [← HZE.out, HE.out]
     exact J0
 case rest =>
  have GD : Hid (Fr w wc R g c ts (lpD ts s).2.2 [(v1.heap.size, [.int .i64 15, .string ⟨#[]⟩, .int .u64 0, .int .i64 0, .bool false, .int .i64 0, .int .i64 0, .int .i64 ((lpD ts s).1 : Int), .int .i64 ((lpD ts s).2.1 : Int), .int .i64 ((ln ts s : Nat) : Int), .slice none 0 0]), (w.heap.size, ncz)] []) := Hd hcut.out
  obtain ⟨H, hv, hf⟩ := HRS.out
  have HFO := Hd fun W (h : Rd W R g c ts (lpD ts s).2.2) => skip_any' X [102, 111, 114] (by simp) W h
  have HX := Hd fun q W (h : Rd W R g c ts q) => xpr_any X q W h
  clear hcut HN HL HDI HSK HZE h0 G1 G2 F0 HRS
  cases h1 : hasT ts (lpD ts s).2.2 [102, 111, 114] with
  | false =>
   obtain ⟨hin, hon⟩ := lp_adv_while hv h1
   have hra := rem_adv hin
   have hr2 := rem_on (hon.trans (xpr_on ts (exc ts (lpD ts s).2.2 [119, 104, 105, 108, 101])))
   have HWH := Hd fun W (h : Rd W R g c ts (lpD ts s).2.2) => expect_any X (s := (lpD ts s).2.2) [119, 104, 105, 108, 101] (by simp) W h
   have HBK := Hd fun W (h : Rd W R g c ts (xpr ts (exc ts (lpD ts s).2.2 [119, 104, 105, 108, 101])).2) => H.bk _ W h (by omega)
   have HM := Hd (S_lp_while (f := f) h1)
   rw [show skp ts (lpD ts s).2.2 [102, 111, 114] = (lpD ts s).2.2 from if_neg (by rw [h1]; simp), h1] at HFO
   clear H hv hf hin hra hr2 h1 hon
   generalize lpD ts s = DD at *
   obtain ⟨PP, UU, SS⟩ := DD
   simp only at *
   obtain ⟨hc0, hf0, hz0, hc1, hf1, hz1⟩ := GD.out.l2
   go_wp2_with fail
   refine (HFO.out _ GD.out.rd).mono ?_
   rintro e v2 ⟨rfl, hr, hs⟩
   have G11 := Hd (GD.out.call hr hs)
   clear hr hs hc0 hf0 hz0 hc1 hf1 hz1
   obtain ⟨hc0, hf0, hz0, hc1, hf1, hz1⟩ := G11.out.l2
   go_wp2_with fail
   refine (HWH.out _ G11.out.rd).mono ?_
   rintro e v3 ⟨rfl, hr, hs⟩
   have G12 := Hd (G11.out.call hr hs)
   clear hr hs hc0 hf0 hz0 hc1 hf1 hz1
   obtain ⟨hc0, hf0, hz0, hc1, hf1, hz1⟩ := G12.out.l2
   go_upto_region 6 with fail
   go_cut [] from 25 to 30 (fun wx => ∃ a : Nat, Hid (Fr w wx R g c ts (one (S ts f .bk (xpr ts (exc ts SS [119, 104, 105, 108, 101])).2)).2 [(v1.heap.size, [.int .i64 15, .string ⟨#[]⟩, .int .u64 0, .int .i64 0, .bool false, .int .i64 0, .int .i64 0, .int .i64 (PP : Int), .int .i64 (UU : Int), .int .i64 ((ln ts s : Nat) : Int), .slice (some ⟨a, 0, none⟩) 2 2]), (w.heap.size, ncz)] [([.int .i64 15, .string ⟨#[]⟩, .int .u64 0, .int .i64 0, .bool false, .int .i64 0, .int .i64 0, .int .i64 (PP : Int), .int .i64 (UU : Int), .int .i64 ((ln ts s : Nat) : Int), .slice (some ⟨a, 0, none⟩) 2 2], .node { labK 15 (ln ts s) with pip := (PP : Int), unr := (UU : Int) } [(xpr ts (exc ts SS [119, 104, 105, 108, 101])).1, (one (S ts f .bk (xpr ts (exc ts SS [119, 104, 105, 108, 101])).2)).1])]))
   case first =>
    have G13 := Hd (G12.out.fb)
    go_wp2_with fail
    refine (HX.out _ _ G13.out.fr.rd).mono ?_
    rintro e v4 ⟨l1, x1, n1, k1, rfl, hT, hr, hs⟩
    clear hc0 hf0 hz0 hc1 hf1 hz1
    have G14 := Hd (G13.out.tree hT hr hs)
    clear hT hr hs
    obtain ⟨hc0, hf0, hz0, hc1, hf1, hz1⟩ := G14.out.fr.l2
    go_wp2_with fail
    refine (HBK.out _ G14.out.fr.rd).mono ?_
    rintro e v5 ⟨l2, x2, n2, k2, rfl, hT, hr, hs⟩
    clear hc0 hf0 hz0 hc1 hf1 hz1
    have G15 := Hd (G14.out.tree hT hr hs)
    clear hT hr hs
    obtain ⟨hc0, hf0, hz0, hc1, hf1, hz1⟩ := G15.out.fr.l2
    have G16 := Hd (G15.out.set0 hXl 10 (.slice (some ⟨v5.heap.size, 0, none⟩) 2 2) [.int .i64 15, .string ⟨#[]⟩, .int .u64 0, .int .i64 0, .bool false, .int .i64 0, .int .i64 0, .int .i64 (PP : Int), .int .i64 (UU : Int), .int .i64 ((ln ts s : Nat) : Int), .slice (some ⟨v5.heap.size, 0, none⟩) 2 2] rfl)
    have G17 := Hd (G16.out.two hXl (List.Mem.tail _ (List.Mem.head _)) (List.Mem.head _) [.int .i64 l1.kind, .string (str l1.name), .int .u64 l1.num, .int .i64 l1.wd, .bool l1.sg, .int .i64 l1.op, .int .i64 l1.fac, .int .i64 l1.pip, .int .i64 l1.unr, .int .i64 l1.line, .slice x1 n1 k1, .int .i64 l2.kind, .string (str l2.name), .int .u64 l2.num, .int .i64 l2.wd, .bool l2.sg, .int .i64 l2.op, .int .i64 l2.fac, .int .i64 l2.pip, .int .i64 l2.unr, .int .i64 l2.line, .slice x2 n2 k2] rfl v5.heap.size (by simp only [size_setCell]))
    have G18 := Hd (G17.out.tree { labK 15 (ln ts s) with pip := (PP : Int), unr := (UU : Int) })
    go_wp2_with fail
    go_meet
    exact ⟨_, G18⟩
   case rest =>
    clear hc0 hf0 hz0 hc1 hf1 hz1
    rename_i wd
    obtain ⟨a, hcu⟩ := hcut
    obtain ⟨hc0, hf0, hz0, hc1, hf1, hz1⟩ := hcu.out.l2
    go_wp2
    have G19 := Hd (hcu.out.stoR hXl (List.Mem.tail _ (List.Mem.head _)) rfl (.int .i64 15) (.string ⟨#[]⟩) (.int .u64 0) (.int .i64 0) (.bool false) (.int .i64 0) (.int .i64 0) (.int .i64 (PP : Int)) (.int .i64 (UU : Int)) (.int .i64 ((ln ts s : Nat) : Int)) (.slice (some ⟨a, 0, none⟩) 2 2))
    refine bodyPost_ret (G19.out.b0.res1 Tryz.results157 Tryz.underlying28 rfl infoNd _ rfl) rfl ?_
    exact G19.out.outT (HM.out)
  | true =>
   obtain ⟨hin, hon⟩ := lp_adv_for hv h1
   have hra := rem_adv hin
   have hr2 := rem_on (hon.trans (fo_on ts s))
   have HNM := Hd fun q W (h : Rd W R g c ts q) => name_any X (s := q) W h
   have HTY := Hd fun q W (h : Rd W R g c ts q) => typN_any X (s := q) W h
   have HE1 := Hd fun W (h : Rd W R g c ts (nmS ts (adv (lpD ts s).2.2))) => expect_any X (s := nmS ts (adv (lpD ts s).2.2)) [58] (by simp) W h
   have HE2 := Hd fun W (h : Rd W R g c ts (tyS ts (fo2 ts s))) => expect_any X (s := tyS ts (fo2 ts s)) [105, 110] (by simp) W h
   have HE3 := Hd fun W (h : Rd W R g c ts (xpr ts (fo3 ts s)).2) => expect_any X (s := (xpr ts (fo3 ts s)).2) [46, 46] (by simp) W h
   rw [← fo2_eq] at HE1
   rw [← fo3_eq] at HE2
   rw [← fo4_eq] at HE3
   have HBK := Hd fun W (h : Rd W R g c ts (xpr ts (fo4 ts s)).2) => H.bk _ W h (by omega)
   have HM := Hd (S_lp_for (f := f) h1)
   rw [show skp ts (lpD ts s).2.2 [102, 111, 114] = adv (lpD ts s).2.2 from if_pos h1, h1] at HFO
   clear H hv hf hin hra hr2 h1 hon
   generalize fo2 ts s = S2 at *
   generalize fo3 ts s = S3 at *
   generalize fo4 ts s = S4 at *
   generalize lpD ts s = DD at *
   obtain ⟨PP, UU, SS⟩ := DD
   simp only at *
   obtain ⟨hc0, hf0, hz0, hc1, hf1, hz1⟩ := GD.out.l2
   go_wp2_with fail
   refine (HFO.out _ GD.out.rd).mono ?_
   rintro e v2 ⟨rfl, hr, hs⟩
   have G11 := Hd (GD.out.call hr hs)
   clear hr hs hc0 hf0 hz0 hc1 hf1 hz1
   obtain ⟨hc0, hf0, hz0, hc1, hf1, hz1⟩ := G11.out.l2
   have G12 := Hd (G11.out.set0 hXl 0 (.int .i64 14) [.int .i64 14, .string ⟨#[]⟩, .int .u64 0, .int .i64 0, .bool false, .int .i64 0, .int .i64 0, .int .i64 (PP : Int), .int .i64 (UU : Int), .int .i64 ((ln ts s : Nat) : Int), .slice none 0 0] rfl)
   go_wp2_with fail
   refine (HNM.out _ _ G12.out.rd).mono ?_
   rintro e v3 ⟨rfl, hr, hs⟩
   have G13 := Hd (G12.out.call hr hs)
   clear hr hs hc0 hf0 hz0 hc1 hf1 hz1
   obtain ⟨hc0, hf0, hz0, hc1, hf1, hz1⟩ := G13.out.l2
   have G14 := Hd (G13.out.set0 hXl 1 (.string (str (nmV ts (adv SS)))) [.int .i64 14, .string (str (nmV ts (adv SS))), .int .u64 0, .int .i64 0, .bool false, .int .i64 0, .int .i64 0, .int .i64 (PP : Int), .int .i64 (UU : Int), .int .i64 ((ln ts s : Nat) : Int), .slice none 0 0] rfl)
   go_wp2_with fail
   refine (HE1.out _ G14.out.rd).mono ?_
   rintro e v4 ⟨rfl, hr, hs⟩
   have G15 := Hd (G14.out.call hr hs)
   clear hr hs hc0 hf0 hz0 hc1 hf1 hz1
   obtain ⟨hc0, hf0, hz0, hc1, hf1, hz1⟩ := G15.out.l2
   go_wp2_with fail
   refine (HTY.out _ _ G15.out.rd).mono ?_
   rintro e v5 ⟨rfl, hr, hs⟩
   have G16 := Hd (G15.out.call hr hs)
   clear hr hs hc0 hf0 hz0 hc1 hf1 hz1
   obtain ⟨hc0, hf0, hz0, hc1, hf1, hz1⟩ := G16.out.l2
   have G17 := Hd (G16.out.set0 hXl 3 (.int .i64 ((tyV' ts S2).1 : Int)) [.int .i64 14, .string (str (nmV ts (adv SS))), .int .u64 0, .int .i64 ((tyV' ts S2).1 : Int), .bool false, .int .i64 0, .int .i64 0, .int .i64 (PP : Int), .int .i64 (UU : Int), .int .i64 ((ln ts s : Nat) : Int), .slice none 0 0] rfl)
   have G18 := Hd (G17.out.set0 hXl 4 (.bool (tyV' ts S2).2) [.int .i64 14, .string (str (nmV ts (adv SS))), .int .u64 0, .int .i64 ((tyV' ts S2).1 : Int), .bool (tyV' ts S2).2, .int .i64 0, .int .i64 0, .int .i64 (PP : Int), .int .i64 (UU : Int), .int .i64 ((ln ts s : Nat) : Int), .slice none 0 0] rfl)
   go_wp2_with fail
   refine (HE2.out _ G18.out.rd).mono ?_
   rintro e v6 ⟨rfl, hr, hs⟩
   have G19 := Hd (G18.out.call hr hs)
   clear hr hs hc0 hf0 hz0 hc1 hf1 hz1
   obtain ⟨hc0, hf0, hz0, hc1, hf1, hz1⟩ := G19.out.l2
   go_upto_region 13 with fail
   go_cut [] from 43 to 51 (fun wx => ∃ g3 c3 bs : Nat, Hid (FK w wx R g c ts (xpr ts S3).2 [(v1.heap.size, [.int .i64 14, .string (str (nmV ts (adv SS))), .int .u64 0, .int .i64 ((tyV' ts S2).1 : Int), .bool (tyV' ts S2).2, .int .i64 0, .int .i64 0, .int .i64 (PP : Int), .int .i64 (UU : Int), .int .i64 ((ln ts s : Nat) : Int), .slice (some ⟨g3, 0, none⟩) 1 c3]), (w.heap.size, ncz)] bs (.slice (some ⟨g3, 0, none⟩) 1 c3) [(xpr ts S3).1]))
   case first =>
    have GA := Hd G19.out.fk.fz.drew
    have hRv : Hid (R < v6.heap.size) := Hd G19.out.rd.lt
    have GB := Hd ((G19.out.fk.fz.alloc hXl (.cells #[.int .i64 0, .string ⟨#[]⟩, .int .u64 0, .int .i64 0, .bool false, .int .i64 0, .int .i64 0, .int .i64 0, .int .i64 0, .int .i64 0, .slice none 0 0] 28)).drew)
    have GBK := Hd (Blk.alloc v6 28 ncz).drew
    go_wp2
    go_region_law (first | (go_simp; go_at_call 176; first | ((with_reducible refine (HX.out _ _ GA.out.fk.fr.rd).mono ?_); rintro e y1 ⟨l1, x1, n1, k1, rfl, hT, hr, hs⟩; obtain ⟨hqc0, hqf0⟩ := (GA.out.callT hT hr hs).fk.fr.b0.all; have hqz0 := (GA.out.callT hT hr hs).fk.fr.b0.lt; have KZ := Hd ((GA.out.callT hT hr hs).alloc hXl (.cells ncz.toArray 28)); have KB := Hd (Blk.alloc y1 28 ncz); clear hT hr hs) | ((with_reducible refine (HX.out _ _ GB.out.fk.fr.rd).mono ?_); rintro e y1 ⟨l1, x1, n1, k1, rfl, hT, hr, hs⟩; obtain ⟨hqc0, hqf0⟩ := (GB.out.callT hT hr hs).fk.fr.b0.all; have hqz0 := (GB.out.callT hT hr hs).fk.fr.b0.lt; have KZ := Hd (GB.out.callT hT hr hs); have KB := Hd (St.blk hs GBK.out (Nat.ne_of_gt hRv.out)); clear hT hr hs)) | (refine fz_append (m := 1) KZ.out hXl (by rfl) _ _ _ (by rfl) Tryz.underlying26 infoNd2 (by rfl) (by first | rfl | (simp [Act.eval]; done) | (simp [Act.eval, Act.put]; done)) KB.out (by rfl) (by decide) (by decide) ?_; intro g3 c3 u6 hk htr; have KX : Hid (FK w u6 R g c ts _ _ _ (.slice (some ⟨g3, 0, none⟩) [tree0].length c3) [tree0]) := Hd hk; have KT := Hd (htr _ _ (List.Mem.head _)); clear hk htr; obtain ⟨hgl, hcp, hgz⟩ := KX.out.cellp (p := 0) (by simp); obtain ⟨z0, hzz0⟩ : ∃ z, u6.cell? ⟨g3, 0, none⟩ = some z := hcp 0 (by decide); obtain ⟨z1, hzz1⟩ : ∃ z, u6.cell? ⟨g3, 1, none⟩ = some z := hcp 1 (by decide); obtain ⟨z2, hzz2⟩ : ∃ z, u6.cell? ⟨g3, 2, none⟩ = some z := hcp 2 (by decide); obtain ⟨z3, hzz3⟩ : ∃ z, u6.cell? ⟨g3, 3, none⟩ = some z := hcp 3 (by decide); obtain ⟨z4, hzz4⟩ : ∃ z, u6.cell? ⟨g3, 4, none⟩ = some z := hcp 4 (by decide); obtain ⟨z5, hzz5⟩ : ∃ z, u6.cell? ⟨g3, 5, none⟩ = some z := hcp 5 (by decide); obtain ⟨z6, hzz6⟩ : ∃ z, u6.cell? ⟨g3, 6, none⟩ = some z := hcp 6 (by decide); obtain ⟨z7, hzz7⟩ : ∃ z, u6.cell? ⟨g3, 7, none⟩ = some z := hcp 7 (by decide); obtain ⟨z8, hzz8⟩ : ∃ z, u6.cell? ⟨g3, 8, none⟩ = some z := hcp 8 (by decide); obtain ⟨z9, hzz9⟩ : ∃ z, u6.cell? ⟨g3, 9, none⟩ = some z := hcp 9 (by decide); obtain ⟨z10, hzz10⟩ : ∃ z, u6.cell? ⟨g3, 10, none⟩ = some z := hcp 10 (by decide); clear hcp; obtain ⟨hd0, he0⟩ := KX.out.fr.b0.all; have hy0 := KX.out.fr.b0.lt; have hne := KX.out.hb _ _ (List.Mem.head _); obtain ⟨CC, ho1, ho2⟩ := KX.out.kd; have hge := (ho1.lt g3 rfl).1; have hnq : v1.heap.size ≠ g3 := (by omega); have hnq2 : ¬ g3 = v1.heap.size := (by omega); clear ho1 ho2 hge))
    all_goals
     have E1 : Hid (FK w _ R g c ts _ [(v1.heap.size, [.int .i64 14, .string (str (nmV ts (adv SS))), .int .u64 0, .int .i64 ((tyV' ts S2).1 : Int), .bool (tyV' ts S2).2, .int .i64 0, .int .i64 0, .int .i64 (PP : Int), .int .i64 (UU : Int), .int .i64 ((ln ts s : Nat) : Int), .slice (some ⟨g3, 0, none⟩) 1 c3]), (w.heap.size, ncz)] _ (.slice (some ⟨g3, 0, none⟩) 1 c3) [(xpr ts S3).1]) := Hd ((KX.out.set0 hXl 10 (.slice (some ⟨g3, 0, none⟩) 1 c3) [.int .i64 14, .string (str (nmV ts (adv SS))), .int .u64 0, .int .i64 ((tyV' ts S2).1 : Int), .bool (tyV' ts S2).2, .int .i64 0, .int .i64 0, .int .i64 (PP : Int), .int .i64 (UU : Int), .int .i64 ((ln ts s : Nat) : Int), .slice (some ⟨g3, 0, none⟩) 1 c3] rfl).fill0 hXl (by simp) (KT.out.keep (fun k hk _ => Below.heap_setCell _ _ _ _ (by show k ≠ v1.heap.size; have := hk.1; omega)) fun k hk _ => hk))
     have E2 : Hid (FK w _ R g c ts _ [(v1.heap.size, [.int .i64 14, .string (str (nmV ts (adv SS))), .int .u64 0, .int .i64 ((tyV' ts S2).1 : Int), .bool (tyV' ts S2).2, .int .i64 0, .int .i64 0, .int .i64 (PP : Int), .int .i64 (UU : Int), .int .i64 ((ln ts s : Nat) : Int), .slice (some ⟨g3, 0, none⟩) 1 c3]), (w.heap.size, ncz)] _ (.slice (some ⟨g3, 0, none⟩) 1 c3) [(xpr ts S3).1]) := Hd ((KX.out.fill0 hXl (by simp) KT.out).set0 hXl 10 (.slice (some ⟨g3, 0, none⟩) 1 c3) [.int .i64 14, .string (str (nmV ts (adv SS))), .int .u64 0, .int .i64 ((tyV' ts S2).1 : Int), .bool (tyV' ts S2).2, .int .i64 0, .int .i64 0, .int .i64 (PP : Int), .int .i64 (UU : Int), .int .i64 ((ln ts s : Nat) : Int), .slice (some ⟨g3, 0, none⟩) 1 c3] rfl)
     unfold stor11 at E1 E2
     clear KX KT
     go_wp2
     go_meet
     first | with_reducible exact ⟨_, _, _, E1⟩ | with_reducible exact ⟨_, _, _, E2⟩ | fail
   case rest =>
    clear hc0 hf0 hz0 hc1 hf1 hz1
    rename_i wd
    obtain ⟨g3, c3, bs, hcu⟩ := hcut
    obtain ⟨hc0, hf0, hz0, hc1, hf1, hz1⟩ := hcu.out.fr.l2
    go_wp2_with fail
    refine (HE3.out _ hcu.out.fr.rd).mono ?_
    rintro e v7 ⟨rfl, hr, hs⟩
    have G20 := Hd (hcu.out.call hr hs)
    clear hr hs hc0 hf0 hz0 hc1 hf1 hz1
    obtain ⟨hc0, hf0, hz0, hc1, hf1, hz1⟩ := G20.out.fr.l2
    go_upto_region 15 with fail
    go_cut [] from 54 to 66 (fun wx => ∃ g4 c4 bs : Nat, Hid (FK w wx R g c ts (one (S ts f .bk (xpr ts S4).2)).2 [(v1.heap.size, [.int .i64 14, .string (str (nmV ts (adv SS))), .int .u64 0, .int .i64 ((tyV' ts S2).1 : Int), .bool (tyV' ts S2).2, .int .i64 0, .int .i64 0, .int .i64 (PP : Int), .int .i64 (UU : Int), .int .i64 ((ln ts s : Nat) : Int), .slice (some ⟨g4, 0, none⟩) 3 c4]), (w.heap.size, ncz)] bs (.slice (some ⟨g4, 0, none⟩) 3 c4) [(xpr ts S3).1, (xpr ts S4).1, (one (S ts f .bk (xpr ts S4).2)).1]))
    case first =>
     clear HNM HTY HE2 HE3 GD HFO HE1 HM
     have GA := Hd G20.out.fz.drew
     have hRv : Hid (R < v7.heap.size) := Hd G20.out.fr.rd.lt
     have GB := Hd ((G20.out.fz.alloc hXl (.cells #[.int .i64 0, .string ⟨#[]⟩, .int .u64 0, .int .i64 0, .bool false, .int .i64 0, .int .i64 0, .int .i64 0, .int .i64 0, .int .i64 0, .slice none 0 0, .int .i64 0, .string ⟨#[]⟩, .int .u64 0, .int .i64 0, .bool false, .int .i64 0, .int .i64 0, .int .i64 0, .int .i64 0, .int .i64 0, .slice none 0 0] 28)).drew)
     have GBK := Hd (Blk.alloc v7 28 [.int .i64 0, .string ⟨#[]⟩, .int .u64 0, .int .i64 0, .bool false, .int .i64 0, .int .i64 0, .int .i64 0, .int .i64 0, .int .i64 0, .slice none 0 0, .int .i64 0, .string ⟨#[]⟩, .int .u64 0, .int .i64 0, .bool false, .int .i64 0, .int .i64 0, .int .i64 0, .int .i64 0, .int .i64 0, .slice none 0 0]).drew
     go_wp2
     have hwr2 : IntKind.i64.wrap 2 = 2 := by decide
     go_region_law (first | (go_simp; first | (go_at_call 176; first | ((with_reducible refine (HX.out _ _ GA.out.fk.fr.rd).mono ?_); rintro e y1 ⟨l1, x1, n1, k1, rfl, hT, hr, hs⟩; have KE := Hd (GA.out.callT hT hr hs); have hRw : Hid (R < y1.heap.size) := Hd KE.out.fk.fr.rd.lt; have KEA := Hd (KE.out.alloc hXl (.cells #[.int .i64 0, .string ⟨#[]⟩, .int .u64 0, .int .i64 0, .bool false, .int .i64 0, .int .i64 0, .int .i64 0, .int .i64 0, .int .i64 0, .slice none 0 0, .int .i64 0, .string ⟨#[]⟩, .int .u64 0, .int .i64 0, .bool false, .int .i64 0, .int .i64 0, .int .i64 0, .int .i64 0, .int .i64 0, .slice none 0 0] 28)); have KEB := Hd (Blk.alloc y1 28 [.int .i64 0, .string ⟨#[]⟩, .int .u64 0, .int .i64 0, .bool false, .int .i64 0, .int .i64 0, .int .i64 0, .int .i64 0, .int .i64 0, .slice none 0 0, .int .i64 0, .string ⟨#[]⟩, .int .u64 0, .int .i64 0, .bool false, .int .i64 0, .int .i64 0, .int .i64 0, .int .i64 0, .int .i64 0, .slice none 0 0]); obtain ⟨hqc1, hqf1⟩ := KE.out.fk.fr.b0.all; have hqz1 := KE.out.fk.fr.b0.lt; clear hT hr hs) | ((with_reducible refine (HX.out _ _ GB.out.fk.fr.rd).mono ?_); rintro e y1 ⟨l1, x1, n1, k1, rfl, hT, hr, hs⟩; have KE := Hd (GB.out.callT hT hr hs); have hRw : Hid (R < y1.heap.size) := Hd KE.out.fk.fr.rd.lt; have KBB := Hd (St.blk hs GBK.out (Nat.ne_of_gt hRv.out)); obtain ⟨hqc1, hqf1⟩ := KE.out.fk.fr.b0.all; have hqz1 := KE.out.fk.fr.b0.lt; clear hT hr hs)) | (go_at_call 98; first | ((with_reducible refine (HBK.out _ KE.out.fk.fr.rd).mono ?_); rintro e y2 ⟨l2, x2, n2, k2, rfl, hT, hr, hs⟩; have KF := Hd (KE.out.callT hT hr hs); have KZ := Hd (KF.out); have KB := Hd (St.blk hs KBB.out (Nat.ne_of_gt hRv.out)); obtain ⟨hqc2, hqf2⟩ := KF.out.fk.fr.b0.all; have hqz2 := KF.out.fk.fr.b0.lt; clear hT hr hs KF) | ((with_reducible refine (HBK.out _ KE.out.fk.fr.rd).mono ?_); rintro e y2 ⟨l2, x2, n2, k2, rfl, hT, hr, hs⟩; have KF := Hd (KE.out.callT hT hr hs); have KZ := Hd (KF.out.alloc hXl (.cells #[.int .i64 0, .string ⟨#[]⟩, .int .u64 0, .int .i64 0, .bool false, .int .i64 0, .int .i64 0, .int .i64 0, .int .i64 0, .int .i64 0, .slice none 0 0, .int .i64 0, .string ⟨#[]⟩, .int .u64 0, .int .i64 0, .bool false, .int .i64 0, .int .i64 0, .int .i64 0, .int .i64 0, .int .i64 0, .slice none 0 0] 28)); have KB := Hd (Blk.alloc y2 28 [.int .i64 0, .string ⟨#[]⟩, .int .u64 0, .int .i64 0, .bool false, .int .i64 0, .int .i64 0, .int .i64 0, .int .i64 0, .int .i64 0, .slice none 0 0, .int .i64 0, .string ⟨#[]⟩, .int .u64 0, .int .i64 0, .bool false, .int .i64 0, .int .i64 0, .int .i64 0, .int .i64 0, .int .i64 0, .slice none 0 0]); obtain ⟨hqc2, hqf2⟩ := KF.out.fk.fr.b0.all; have hqz2 := KF.out.fk.fr.b0.lt; clear hT hr hs KF) | ((with_reducible refine (HBK.out _ KEA.out.fk.fr.rd).mono ?_); rintro e y2 ⟨l2, x2, n2, k2, rfl, hT, hr, hs⟩; have KF := Hd (KEA.out.callT hT hr hs); have KZ := Hd (KF.out); have KB := Hd (St.blk hs KEB.out (Nat.ne_of_gt hRw.out)); obtain ⟨hqc2, hqf2⟩ := KF.out.fk.fr.b0.all; have hqz2 := KF.out.fk.fr.b0.lt; clear hT hr hs KF))) | (refine fz_append (m := 2) KZ.out hXl (by rfl) _ _ _ (by rfl) Tryz.underlying26 infoNd2 (by rfl) (by first | rfl | (simp [Act.eval]; done) | (simp [Act.eval, Act.put]; done)) KB.out (by rfl) (by decide) (by simp) ?_; intro g4 c4 u6 hk htr; have KX : Hid (FK w u6 R g c ts _ [(v1.heap.size, [.int .i64 14, .string (str (nmV ts (adv SS))), .int .u64 0, .int .i64 ((tyV' ts S2).1 : Int), .bool (tyV' ts S2).2, .int .i64 0, .int .i64 0, .int .i64 (PP : Int), .int .i64 (UU : Int), .int .i64 ((ln ts s : Nat) : Int), .slice (some ⟨g3, 0, none⟩) 1 c3]), (w.heap.size, ncz)] _ (.slice (some ⟨g4, 0, none⟩) [(xpr ts S3).1, tree0, tree0].length c4) [(xpr ts S3).1, tree0, tree0]) := Hd hk; have KT2 := Hd (htr _ _ (List.Mem.head _)); have KT1 := Hd (htr _ _ (List.Mem.tail _ (List.Mem.head _))); clear hk htr; obtain ⟨hgl, hcp1, hgz⟩ := KX.out.cellp (p := 1) (by simp); obtain ⟨_, hcp2, _⟩ := KX.out.cellp (p := 2) (by simp); obtain ⟨z11, hzz11⟩ : ∃ z, u6.cell? ⟨g4, 11, none⟩ = some z := hcp1 0 (by decide); obtain ⟨z12, hzz12⟩ : ∃ z, u6.cell? ⟨g4, 12, none⟩ = some z := hcp1 1 (by decide); obtain ⟨z13, hzz13⟩ : ∃ z, u6.cell? ⟨g4, 13, none⟩ = some z := hcp1 2 (by decide); obtain ⟨z14, hzz14⟩ : ∃ z, u6.cell? ⟨g4, 14, none⟩ = some z := hcp1 3 (by decide); obtain ⟨z15, hzz15⟩ : ∃ z, u6.cell? ⟨g4, 15, none⟩ = some z := hcp1 4 (by decide); obtain ⟨z16, hzz16⟩ : ∃ z, u6.cell? ⟨g4, 16, none⟩ = some z := hcp1 5 (by decide); obtain ⟨z17, hzz17⟩ : ∃ z, u6.cell? ⟨g4, 17, none⟩ = some z := hcp1 6 (by decide); obtain ⟨z18, hzz18⟩ : ∃ z, u6.cell? ⟨g4, 18, none⟩ = some z := hcp1 7 (by decide); obtain ⟨z19, hzz19⟩ : ∃ z, u6.cell? ⟨g4, 19, none⟩ = some z := hcp1 8 (by decide); obtain ⟨z20, hzz20⟩ : ∃ z, u6.cell? ⟨g4, 20, none⟩ = some z := hcp1 9 (by decide); obtain ⟨z21, hzz21⟩ : ∃ z, u6.cell? ⟨g4, 21, none⟩ = some z := hcp1 10 (by decide); obtain ⟨z22, hzz22⟩ : ∃ z, u6.cell? ⟨g4, 22, none⟩ = some z := hcp2 0 (by decide); obtain ⟨z23, hzz23⟩ : ∃ z, u6.cell? ⟨g4, 23, none⟩ = some z := hcp2 1 (by decide); obtain ⟨z24, hzz24⟩ : ∃ z, u6.cell? ⟨g4, 24, none⟩ = some z := hcp2 2 (by decide); obtain ⟨z25, hzz25⟩ : ∃ z, u6.cell? ⟨g4, 25, none⟩ = some z := hcp2 3 (by decide); obtain ⟨z26, hzz26⟩ : ∃ z, u6.cell? ⟨g4, 26, none⟩ = some z := hcp2 4 (by decide); obtain ⟨z27, hzz27⟩ : ∃ z, u6.cell? ⟨g4, 27, none⟩ = some z := hcp2 5 (by decide); obtain ⟨z28, hzz28⟩ : ∃ z, u6.cell? ⟨g4, 28, none⟩ = some z := hcp2 6 (by decide); obtain ⟨z29, hzz29⟩ : ∃ z, u6.cell? ⟨g4, 29, none⟩ = some z := hcp2 7 (by decide); obtain ⟨z30, hzz30⟩ : ∃ z, u6.cell? ⟨g4, 30, none⟩ = some z := hcp2 8 (by decide); obtain ⟨z31, hzz31⟩ : ∃ z, u6.cell? ⟨g4, 31, none⟩ = some z := hcp2 9 (by decide); obtain ⟨z32, hzz32⟩ : ∃ z, u6.cell? ⟨g4, 32, none⟩ = some z := hcp2 10 (by decide); clear hcp1 hcp2; obtain ⟨hd0, he0⟩ := KX.out.fr.b0.all; have hy0 := KX.out.fr.b0.lt; have hne := KX.out.hb _ _ (List.Mem.head _); obtain ⟨CC, ho1, ho2⟩ := KX.out.kd; have hge := (ho1.lt g4 rfl).1; have hnq : v1.heap.size ≠ g4 := (by omega); have hnq2 : ¬ g4 = v1.heap.size := (by omega); clear ho1 ho2 hge; have hnb : Hid (∀ k, bs ≤ k → k ≠ v1.heap.size) := Hd (fun k hk => by omega)))
     all_goals
      clear GA GB GBK hRv
      go_wp2
      go_meet
      first
       | (have E0 : Hid (FK w _ R g c ts _ [(v1.heap.size, [.int .i64 14, .string (str (nmV ts (adv SS))), .int .u64 0, .int .i64 ((tyV' ts S2).1 : Int), .bool (tyV' ts S2).2, .int .i64 0, .int .i64 0, .int .i64 (PP : Int), .int .i64 (UU : Int), .int .i64 ((ln ts s : Nat) : Int), .slice (some ⟨g4, 0, none⟩) 3 c4]), (w.heap.size, ncz)] _ (.slice (some ⟨g4, 0, none⟩) [(xpr ts S3).1, tree0, tree0].length c4) [(xpr ts S3).1, tree0, tree0]) := Hd (KX.out.set0 hXl 10 (.slice (some ⟨g4, 0, none⟩) 3 c4) [.int .i64 14, .string (str (nmV ts (adv SS))), .int .u64 0, .int .i64 ((tyV' ts S2).1 : Int), .bool (tyV' ts S2).2, .int .i64 0, .int .i64 0, .int .i64 (PP : Int), .int .i64 (UU : Int), .int .i64 ((ln ts s : Nat) : Int), .slice (some ⟨g4, 0, none⟩) 3 c4] rfl); have E1 : Hid (FK w _ R g c ts _ [(v1.heap.size, [.int .i64 14, .string (str (nmV ts (adv SS))), .int .u64 0, .int .i64 ((tyV' ts S2).1 : Int), .bool (tyV' ts S2).2, .int .i64 0, .int .i64 0, .int .i64 (PP : Int), .int .i64 (UU : Int), .int .i64 ((ln ts s : Nat) : Int), .slice (some ⟨g4, 0, none⟩) 3 c4]), (w.heap.size, ncz)] _ (.slice (some ⟨g4, 0, none⟩) [(xpr ts S3).1, (xpr ts S4).1, tree0].length c4) [(xpr ts S3).1, (xpr ts S4).1, tree0]) := Hd (E0.out.fill1 hXl (by simp) ((KT1.out).keep (fun k hk _ => Below.heap_setCell _ _ _ _ (hnb.out k hk.1)) fun k hk _ => hk)); have E2 : Hid (FK w _ R g c ts _ [(v1.heap.size, [.int .i64 14, .string (str (nmV ts (adv SS))), .int .u64 0, .int .i64 ((tyV' ts S2).1 : Int), .bool (tyV' ts S2).2, .int .i64 0, .int .i64 0, .int .i64 (PP : Int), .int .i64 (UU : Int), .int .i64 ((ln ts s : Nat) : Int), .slice (some ⟨g4, 0, none⟩) 3 c4]), (w.heap.size, ncz)] _ (.slice (some ⟨g4, 0, none⟩) [(xpr ts S3).1, (xpr ts S4).1, (one (S ts f .bk (xpr ts S4).2)).1].length c4) [(xpr ts S3).1, (xpr ts S4).1, (one (S ts f .bk (xpr ts S4).2)).1]) := Hd (E1.out.fill2 hXl (by simp) (tree_put1 ((KT2.out).keep (fun k hk _ => Below.heap_setCell _ _ _ _ (hnb.out k hk.1)) fun k hk _ => hk))); clear KX KT1 KT2 E0 E1; unfold storN1 storN2 at E2; with_reducible exact ⟨_, _, _, E2⟩)
       | (have E0 : Hid (FK w _ R g c ts _ [(v1.heap.size, [.int .i64 14, .string (str (nmV ts (adv SS))), .int .u64 0, .int .i64 ((tyV' ts S2).1 : Int), .bool (tyV' ts S2).2, .int .i64 0, .int .i64 0, .int .i64 (PP : Int), .int .i64 (UU : Int), .int .i64 ((ln ts s : Nat) : Int), .slice (some ⟨g4, 0, none⟩) 3 c4]), (w.heap.size, ncz)] _ (.slice (some ⟨g4, 0, none⟩) [(xpr ts S3).1, tree0, tree0].length c4) [(xpr ts S3).1, tree0, tree0]) := Hd (KX.out.set0 hXl 10 (.slice (some ⟨g4, 0, none⟩) 3 c4) [.int .i64 14, .string (str (nmV ts (adv SS))), .int .u64 0, .int .i64 ((tyV' ts S2).1 : Int), .bool (tyV' ts S2).2, .int .i64 0, .int .i64 0, .int .i64 (PP : Int), .int .i64 (UU : Int), .int .i64 ((ln ts s : Nat) : Int), .slice (some ⟨g4, 0, none⟩) 3 c4] rfl); have E1 : Hid (FK w _ R g c ts _ [(v1.heap.size, [.int .i64 14, .string (str (nmV ts (adv SS))), .int .u64 0, .int .i64 ((tyV' ts S2).1 : Int), .bool (tyV' ts S2).2, .int .i64 0, .int .i64 0, .int .i64 (PP : Int), .int .i64 (UU : Int), .int .i64 ((ln ts s : Nat) : Int), .slice (some ⟨g4, 0, none⟩) 3 c4]), (w.heap.size, ncz)] _ (.slice (some ⟨g4, 0, none⟩) [(xpr ts S3).1, tree0, (one (S ts f .bk (xpr ts S4).2)).1].length c4) [(xpr ts S3).1, tree0, (one (S ts f .bk (xpr ts S4).2)).1]) := Hd (E0.out.fill2 hXl (by simp) ((KT2.out).keep (fun k hk _ => Below.heap_setCell _ _ _ _ (hnb.out k hk.1)) fun k hk _ => hk)); have E2 : Hid (FK w _ R g c ts _ [(v1.heap.size, [.int .i64 14, .string (str (nmV ts (adv SS))), .int .u64 0, .int .i64 ((tyV' ts S2).1 : Int), .bool (tyV' ts S2).2, .int .i64 0, .int .i64 0, .int .i64 (PP : Int), .int .i64 (UU : Int), .int .i64 ((ln ts s : Nat) : Int), .slice (some ⟨g4, 0, none⟩) 3 c4]), (w.heap.size, ncz)] _ (.slice (some ⟨g4, 0, none⟩) [(xpr ts S3).1, (xpr ts S4).1, (one (S ts f .bk (xpr ts S4).2)).1].length c4) [(xpr ts S3).1, (xpr ts S4).1, (one (S ts f .bk (xpr ts S4).2)).1]) := Hd (E1.out.fill1 hXl (by simp) (tree_put2 ((KT1.out).keep (fun k hk _ => Below.heap_setCell _ _ _ _ (hnb.out k hk.1)) fun k hk _ => hk))); clear KX KT1 KT2 E0 E1; unfold storN1 storN2 at E2; with_reducible exact ⟨_, _, _, E2⟩)
       | (have E0 : Hid (FK w _ R g c ts _ [(v1.heap.size, [.int .i64 14, .string (str (nmV ts (adv SS))), .int .u64 0, .int .i64 ((tyV' ts S2).1 : Int), .bool (tyV' ts S2).2, .int .i64 0, .int .i64 0, .int .i64 (PP : Int), .int .i64 (UU : Int), .int .i64 ((ln ts s : Nat) : Int), .slice (some ⟨g3, 0, none⟩) 1 c3]), (w.heap.size, ncz)] _ (.slice (some ⟨g4, 0, none⟩) [(xpr ts S3).1, (xpr ts S4).1, tree0].length c4) [(xpr ts S3).1, (xpr ts S4).1, tree0]) := Hd (KX.out.fill1 hXl (by simp) KT1.out); have E1 : Hid (FK w _ R g c ts _ [(v1.heap.size, [.int .i64 14, .string (str (nmV ts (adv SS))), .int .u64 0, .int .i64 ((tyV' ts S2).1 : Int), .bool (tyV' ts S2).2, .int .i64 0, .int .i64 0, .int .i64 (PP : Int), .int .i64 (UU : Int), .int .i64 ((ln ts s : Nat) : Int), .slice (some ⟨g4, 0, none⟩) 3 c4]), (w.heap.size, ncz)] _ (.slice (some ⟨g4, 0, none⟩) [(xpr ts S3).1, (xpr ts S4).1, tree0].length c4) [(xpr ts S3).1, (xpr ts S4).1, tree0]) := Hd (E0.out.set0 hXl 10 (.slice (some ⟨g4, 0, none⟩) 3 c4) [.int .i64 14, .string (str (nmV ts (adv SS))), .int .u64 0, .int .i64 ((tyV' ts S2).1 : Int), .bool (tyV' ts S2).2, .int .i64 0, .int .i64 0, .int .i64 (PP : Int), .int .i64 (UU : Int), .int .i64 ((ln ts s : Nat) : Int), .slice (some ⟨g4, 0, none⟩) 3 c4] rfl); have E2 : Hid (FK w _ R g c ts _ [(v1.heap.size, [.int .i64 14, .string (str (nmV ts (adv SS))), .int .u64 0, .int .i64 ((tyV' ts S2).1 : Int), .bool (tyV' ts S2).2, .int .i64 0, .int .i64 0, .int .i64 (PP : Int), .int .i64 (UU : Int), .int .i64 ((ln ts s : Nat) : Int), .slice (some ⟨g4, 0, none⟩) 3 c4]), (w.heap.size, ncz)] _ (.slice (some ⟨g4, 0, none⟩) [(xpr ts S3).1, (xpr ts S4).1, (one (S ts f .bk (xpr ts S4).2)).1].length c4) [(xpr ts S3).1, (xpr ts S4).1, (one (S ts f .bk (xpr ts S4).2)).1]) := Hd (E1.out.fill2 hXl (by simp) (((tree_put1 KT2.out)).keep (fun k hk _ => Below.heap_setCell _ _ _ _ (hnb.out k hk.1)) fun k hk _ => hk)); clear KX KT1 KT2 E0 E1; unfold storN1 storN2 at E2; with_reducible exact ⟨_, _, _, E2⟩)
       | (have E0 : Hid (FK w _ R g c ts _ [(v1.heap.size, [.int .i64 14, .string (str (nmV ts (adv SS))), .int .u64 0, .int .i64 ((tyV' ts S2).1 : Int), .bool (tyV' ts S2).2, .int .i64 0, .int .i64 0, .int .i64 (PP : Int), .int .i64 (UU : Int), .int .i64 ((ln ts s : Nat) : Int), .slice (some ⟨g3, 0, none⟩) 1 c3]), (w.heap.size, ncz)] _ (.slice (some ⟨g4, 0, none⟩) [(xpr ts S3).1, (xpr ts S4).1, tree0].length c4) [(xpr ts S3).1, (xpr ts S4).1, tree0]) := Hd (KX.out.fill1 hXl (by simp) KT1.out); have E1 : Hid (FK w _ R g c ts _ [(v1.heap.size, [.int .i64 14, .string (str (nmV ts (adv SS))), .int .u64 0, .int .i64 ((tyV' ts S2).1 : Int), .bool (tyV' ts S2).2, .int .i64 0, .int .i64 0, .int .i64 (PP : Int), .int .i64 (UU : Int), .int .i64 ((ln ts s : Nat) : Int), .slice (some ⟨g3, 0, none⟩) 1 c3]), (w.heap.size, ncz)] _ (.slice (some ⟨g4, 0, none⟩) [(xpr ts S3).1, (xpr ts S4).1, (one (S ts f .bk (xpr ts S4).2)).1].length c4) [(xpr ts S3).1, (xpr ts S4).1, (one (S ts f .bk (xpr ts S4).2)).1]) := Hd (E0.out.fill2 hXl (by simp) (tree_put1 KT2.out)); have E2 : Hid (FK w _ R g c ts _ [(v1.heap.size, [.int .i64 14, .string (str (nmV ts (adv SS))), .int .u64 0, .int .i64 ((tyV' ts S2).1 : Int), .bool (tyV' ts S2).2, .int .i64 0, .int .i64 0, .int .i64 (PP : Int), .int .i64 (UU : Int), .int .i64 ((ln ts s : Nat) : Int), .slice (some ⟨g4, 0, none⟩) 3 c4]), (w.heap.size, ncz)] _ (.slice (some ⟨g4, 0, none⟩) [(xpr ts S3).1, (xpr ts S4).1, (one (S ts f .bk (xpr ts S4).2)).1].length c4) [(xpr ts S3).1, (xpr ts S4).1, (one (S ts f .bk (xpr ts S4).2)).1]) := Hd (E1.out.set0 hXl 10 (.slice (some ⟨g4, 0, none⟩) 3 c4) [.int .i64 14, .string (str (nmV ts (adv SS))), .int .u64 0, .int .i64 ((tyV' ts S2).1 : Int), .bool (tyV' ts S2).2, .int .i64 0, .int .i64 0, .int .i64 (PP : Int), .int .i64 (UU : Int), .int .i64 ((ln ts s : Nat) : Int), .slice (some ⟨g4, 0, none⟩) 3 c4] rfl); clear KX KT1 KT2 E0 E1; unfold storN1 storN2 at E2; with_reducible exact ⟨_, _, _, E2⟩)
       | (have E0 : Hid (FK w _ R g c ts _ [(v1.heap.size, [.int .i64 14, .string (str (nmV ts (adv SS))), .int .u64 0, .int .i64 ((tyV' ts S2).1 : Int), .bool (tyV' ts S2).2, .int .i64 0, .int .i64 0, .int .i64 (PP : Int), .int .i64 (UU : Int), .int .i64 ((ln ts s : Nat) : Int), .slice (some ⟨g3, 0, none⟩) 1 c3]), (w.heap.size, ncz)] _ (.slice (some ⟨g4, 0, none⟩) [(xpr ts S3).1, tree0, (one (S ts f .bk (xpr ts S4).2)).1].length c4) [(xpr ts S3).1, tree0, (one (S ts f .bk (xpr ts S4).2)).1]) := Hd (KX.out.fill2 hXl (by simp) KT2.out); have E1 : Hid (FK w _ R g c ts _ [(v1.heap.size, [.int .i64 14, .string (str (nmV ts (adv SS))), .int .u64 0, .int .i64 ((tyV' ts S2).1 : Int), .bool (tyV' ts S2).2, .int .i64 0, .int .i64 0, .int .i64 (PP : Int), .int .i64 (UU : Int), .int .i64 ((ln ts s : Nat) : Int), .slice (some ⟨g4, 0, none⟩) 3 c4]), (w.heap.size, ncz)] _ (.slice (some ⟨g4, 0, none⟩) [(xpr ts S3).1, tree0, (one (S ts f .bk (xpr ts S4).2)).1].length c4) [(xpr ts S3).1, tree0, (one (S ts f .bk (xpr ts S4).2)).1]) := Hd (E0.out.set0 hXl 10 (.slice (some ⟨g4, 0, none⟩) 3 c4) [.int .i64 14, .string (str (nmV ts (adv SS))), .int .u64 0, .int .i64 ((tyV' ts S2).1 : Int), .bool (tyV' ts S2).2, .int .i64 0, .int .i64 0, .int .i64 (PP : Int), .int .i64 (UU : Int), .int .i64 ((ln ts s : Nat) : Int), .slice (some ⟨g4, 0, none⟩) 3 c4] rfl); have E2 : Hid (FK w _ R g c ts _ [(v1.heap.size, [.int .i64 14, .string (str (nmV ts (adv SS))), .int .u64 0, .int .i64 ((tyV' ts S2).1 : Int), .bool (tyV' ts S2).2, .int .i64 0, .int .i64 0, .int .i64 (PP : Int), .int .i64 (UU : Int), .int .i64 ((ln ts s : Nat) : Int), .slice (some ⟨g4, 0, none⟩) 3 c4]), (w.heap.size, ncz)] _ (.slice (some ⟨g4, 0, none⟩) [(xpr ts S3).1, (xpr ts S4).1, (one (S ts f .bk (xpr ts S4).2)).1].length c4) [(xpr ts S3).1, (xpr ts S4).1, (one (S ts f .bk (xpr ts S4).2)).1]) := Hd (E1.out.fill1 hXl (by simp) (((tree_put2 KT1.out)).keep (fun k hk _ => Below.heap_setCell _ _ _ _ (hnb.out k hk.1)) fun k hk _ => hk)); clear KX KT1 KT2 E0 E1; unfold storN1 storN2 at E2; with_reducible exact ⟨_, _, _, E2⟩)
       | (have E0 : Hid (FK w _ R g c ts _ [(v1.heap.size, [.int .i64 14, .string (str (nmV ts (adv SS))), .int .u64 0, .int .i64 ((tyV' ts S2).1 : Int), .bool (tyV' ts S2).2, .int .i64 0, .int .i64 0, .int .i64 (PP : Int), .int .i64 (UU : Int), .int .i64 ((ln ts s : Nat) : Int), .slice (some ⟨g3, 0, none⟩) 1 c3]), (w.heap.size, ncz)] _ (.slice (some ⟨g4, 0, none⟩) [(xpr ts S3).1, tree0, (one (S ts f .bk (xpr ts S4).2)).1].length c4) [(xpr ts S3).1, tree0, (one (S ts f .bk (xpr ts S4).2)).1]) := Hd (KX.out.fill2 hXl (by simp) KT2.out); have E1 : Hid (FK w _ R g c ts _ [(v1.heap.size, [.int .i64 14, .string (str (nmV ts (adv SS))), .int .u64 0, .int .i64 ((tyV' ts S2).1 : Int), .bool (tyV' ts S2).2, .int .i64 0, .int .i64 0, .int .i64 (PP : Int), .int .i64 (UU : Int), .int .i64 ((ln ts s : Nat) : Int), .slice (some ⟨g3, 0, none⟩) 1 c3]), (w.heap.size, ncz)] _ (.slice (some ⟨g4, 0, none⟩) [(xpr ts S3).1, (xpr ts S4).1, (one (S ts f .bk (xpr ts S4).2)).1].length c4) [(xpr ts S3).1, (xpr ts S4).1, (one (S ts f .bk (xpr ts S4).2)).1]) := Hd (E0.out.fill1 hXl (by simp) (tree_put2 KT1.out)); have E2 : Hid (FK w _ R g c ts _ [(v1.heap.size, [.int .i64 14, .string (str (nmV ts (adv SS))), .int .u64 0, .int .i64 ((tyV' ts S2).1 : Int), .bool (tyV' ts S2).2, .int .i64 0, .int .i64 0, .int .i64 (PP : Int), .int .i64 (UU : Int), .int .i64 ((ln ts s : Nat) : Int), .slice (some ⟨g4, 0, none⟩) 3 c4]), (w.heap.size, ncz)] _ (.slice (some ⟨g4, 0, none⟩) [(xpr ts S3).1, (xpr ts S4).1, (one (S ts f .bk (xpr ts S4).2)).1].length c4) [(xpr ts S3).1, (xpr ts S4).1, (one (S ts f .bk (xpr ts S4).2)).1]) := Hd (E1.out.set0 hXl 10 (.slice (some ⟨g4, 0, none⟩) 3 c4) [.int .i64 14, .string (str (nmV ts (adv SS))), .int .u64 0, .int .i64 ((tyV' ts S2).1 : Int), .bool (tyV' ts S2).2, .int .i64 0, .int .i64 0, .int .i64 (PP : Int), .int .i64 (UU : Int), .int .i64 ((ln ts s : Nat) : Int), .slice (some ⟨g4, 0, none⟩) 3 c4] rfl); clear KX KT1 KT2 E0 E1; unfold storN1 storN2 at E2; with_reducible exact ⟨_, _, _, E2⟩)
       | fail
    case rest =>
     clear hc0 hf0 hz0 hc1 hf1 hz1
     rename_i we
     obtain ⟨g4, c4, bs2, hcv⟩ := hcut
     obtain ⟨hc0, hf0, hz0, hc1, hf1, hz1⟩ := hcv.out.fr.l2
     have G21 := Hd (hcv.out.tree { labK 14 (ln ts s) with name := nmV ts (adv SS), wd := ((tyV' ts S2).1 : Int), sg := (tyV' ts S2).2, pip := (PP : Int), unr := (UU : Int) })
     go_wp2
     have G22 := Hd (G21.out.stoR hXl (List.Mem.tail _ (List.Mem.head _)) rfl (.int .i64 14) (.string (str (nmV ts (adv SS)))) (.int .u64 0) (.int .i64 ((tyV' ts S2).1 : Int)) (.bool (tyV' ts S2).2) (.int .i64 0) (.int .i64 0) (.int .i64 (PP : Int)) (.int .i64 (UU : Int)) (.int .i64 ((ln ts s : Nat) : Int)) (.slice (some ⟨g4, 0, none⟩) 3 c4))
     refine bodyPost_ret (G22.out.b0.res1 Tryz.results157 Tryz.underlying28 rfl infoNd _ rfl) rfl ?_
     exact G22.out.outT (HM.out)
end Go.Proofs.YtkliclihpobmiaaGreatDoor
