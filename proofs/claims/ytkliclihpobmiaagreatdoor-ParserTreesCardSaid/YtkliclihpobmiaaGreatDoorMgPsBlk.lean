/- The rule branch: contract. -/
import Derived.Test.YtkliclihpobmiaaGreatDoorMgPsSc
import Derived.Deep.RegionWith
import Derived.BigQuiet
import Derived.Test.YtkliclihpobmiaaGreatDoorMgPsFk
import Derived.Test.YtkliclihpobmiaaGreatDoorMgPsBi
namespace Go.Proofs.YtkliclihpobmiaaGreatDoor
open Go Go.RowKit
set_option linter.unusedVariables false
set_option linter.unusedSimpArgs false

set_option maxHeartbeats 2000000 in
set_option maxRecDepth 100000 in
theorem branch_step {ts : List Tok} {R g c : Nat} (X : Ctx ts R g c) (f : Nat) (H : SC ts R g c f) (s : Sg) (hv : hasT ts s [105, 102] = true) (w : World) (hR : Rd w R g c ts s) (hf : 8 * rem ts s + 3 ≤ f + 1) : Calls Tryz.prog 156 #[.pointer (some ⟨R, 0, none⟩)] w (TP w R g c ts (one (S ts (f + 1) .br s))) := by
 have hXl := X.lt
 have F0 := Hd ((Fr.start hR).node hXl ncz)
 have HN := Hd fun W (h : Rd W R g c ts s) => node_any X 13 W h
 have HX := Hd fun q W (h : Rd W R g c ts q) => xpr_any X q W h
 have HNM := Hd fun q W (h : Rd W R g c ts q) => name_any X (s := q) W h
 have HE0 := Hd fun W (h : Rd W R g c ts s) => expect_any X (s := s) [105, 102] (by simp) W h
 rw [exc_has hv] at HE0
 have hin := hasT_in hv
 have hra := rem_adv hin
 have hrx := rem_on (xpr_on ts (adv s))
 have HBK := Hd fun W (h : Rd W R g c ts (xpr ts (adv s)).2) => H.bk _ W h (by omega)
 have hrb : rem ts (one (S ts f .bk (xpr ts (adv s)).2)).2 ≤ rem ts (xpr ts (adv s)).2 := rem_on (S_on ts f .bk _ trivial)
 have HSK := Hd fun W (h : Rd W R g c ts (one (S ts f .bk (xpr ts (adv s)).2)).2) => skip_any' X [101, 108, 115, 101] (by simp) W h
 unfold skp at HSK
 have HL : Hid (nc (labK 13 (ln ts s)) = [.int .i64 13, .string ⟨#[]⟩, .int .u64 0, .int .i64 0, .bool false, .int .i64 0, .int .i64 0, .int .i64 0, .int .i64 0, .int .i64 ((ln ts s : Nat) : Int), .slice none 0 0]) := Hd rfl
 rw [HL.out] at HN
 cases h1 : hasT ts (one (S ts f .bk (xpr ts (adv s)).2)).2 [101, 108, 115, 101] with
 | false =>
  have HM : Hid (one (S ts (f + 1) .br s) = (.node (labK 13 (ln ts s)) [(xpr ts (adv s)).1, (one (S ts f .bk (xpr ts (adv s)).2)).1], (one (S ts f .bk (xpr ts (adv s)).2)).2)) := Hd (S_br_no h1)
  rw [HM.out]
  rw [h1] at HSK
  clear HM hR HL h1 H hin hra hrx hrb hf hv HNM
  go_enter Tryz.func156, Tryz.ntmps156
  go_wp2_with fail
  refine (HN.out _ F0.out.rd).mono ?_
  rintro e v1 ⟨rfl, hb⟩
  have G1 := Hd (F0.out.quiet hXl hb)
  clear hb
  obtain ⟨hc0, hf0⟩ := G1.out.b0.all
  have hz0 := G1.out.b0.lt
  unfold ncz at hc0
  have hq10 := G1.out.b0.lt
  have G2 := Hd (G1.out.node hXl [.int .i64 13, .string ⟨#[]⟩, .int .u64 0, .int .i64 0, .bool false, .int .i64 0, .int .i64 0, .int .i64 0, .int .i64 0, .int .i64 ((ln ts s : Nat) : Int), .slice none 0 0])
  go_wp2_with fail
  refine (HE0.out _ G2.out.rd).mono ?_
  rintro e v2 ⟨rfl, hr, hs⟩
  clear hc0 hf0 hz0
  have G3 := Hd (G2.out.call hr hs)
  clear hr hs
  obtain ⟨hc0, hf0, hz0, hc1, hf1, hz1⟩ := G3.out.l2
  have G4 := Hd (G3.out.fb)
  go_wp2_with fail
  refine (HX.out _ _ G4.out.fr.rd).mono ?_
  rintro e v3 ⟨l1, x1, n1, k1, rfl, hT, hr, hs⟩
  clear hc0 hf0 hz0 hc1 hf1 hz1
  have G5 := Hd (G4.out.tree hT hr hs)
  clear hT hr hs
  obtain ⟨hc0, hf0, hz0, hc1, hf1, hz1⟩ := G5.out.fr.l2
  go_wp2_with fail
  refine (HBK.out _ G5.out.fr.rd).mono ?_
  rintro e v4 ⟨l2, x2, n2, k2, rfl, hT, hr, hs⟩
  clear hc0 hf0 hz0 hc1 hf1 hz1
  have G6 := Hd (G5.out.tree hT hr hs)
  clear hT hr hs
  obtain ⟨hc0, hf0, hz0, hc1, hf1, hz1⟩ := G6.out.fr.l2
  have G7 := Hd (G6.out.set0 hXl 10 (.slice (some ⟨v4.heap.size, 0, none⟩) 2 2) [.int .i64 13, .string ⟨#[]⟩, .int .u64 0, .int .i64 0, .bool false, .int .i64 0, .int .i64 0, .int .i64 0, .int .i64 0, .int .i64 ((ln ts s : Nat) : Int), .slice (some ⟨v4.heap.size, 0, none⟩) 2 2] rfl)
  have G8 := Hd (G7.out.two hXl (List.Mem.tail _ (List.Mem.head _)) (List.Mem.head _) [.int .i64 l1.kind, .string (str l1.name), .int .u64 l1.num, .int .i64 l1.wd, .bool l1.sg, .int .i64 l1.op, .int .i64 l1.fac, .int .i64 l1.pip, .int .i64 l1.unr, .int .i64 l1.line, .slice x1 n1 k1, .int .i64 l2.kind, .string (str l2.name), .int .u64 l2.num, .int .i64 l2.wd, .bool l2.sg, .int .i64 l2.op, .int .i64 l2.fac, .int .i64 l2.pip, .int .i64 l2.unr, .int .i64 l2.line, .slice x2 n2 k2] rfl v4.heap.size (by simp only [size_setCell]))
  go_wp2_with fail
  refine (HSK.out _ G8.out.fr.rd).mono ?_
  rintro e v5 ⟨rfl, hr, hs⟩
  have G9 := Hd (G8.out.call hr hs)
  clear hr hs hc0 hf0 hz0 hc1 hf1 hz1
  obtain ⟨hc0, hf0, hz0, hc1, hf1, hz1⟩ := G9.out.fr.l2
  have G10 := Hd (G9.out.tree (labK 13 (ln ts s)))
  go_wp2
  have G11 := Hd (G10.out.stoR hXl (List.Mem.tail _ (List.Mem.head _)) rfl (.int .i64 13) (.string ⟨#[]⟩) (.int .u64 0) (.int .i64 0) (.bool false) (.int .i64 0) (.int .i64 0) (.int .i64 0) (.int .i64 0) (.int .i64 ((ln ts s : Nat) : Int)) (.slice (some ⟨v4.heap.size, 0, none⟩) 2 2))
  refine bodyPost_ret (G11.out.b0.res1 Tryz.results156 Tryz.underlying28 rfl infoNd _ rfl) rfl ?_
  exact G11.out.outT (rfl)
 | true =>
  have hin2 := hasT_in h1
  have hra2 := rem_adv hin2
  rw [h1] at HSK
  have HNX := Hd fun W (h : Rd W R g c ts (adv (one (S ts f .bk (xpr ts (adv s)).2)).2)) => next_any X W h
  have hF := fldT (nxt ts (adv (one (S ts f .bk (xpr ts (adv s)).2)).2))
  have hq1 : ((str (nxt ts (adv (one (S ts f .bk (xpr ts (adv s)).2)).2)).text).toList == [105, 102]) = hasT ts (adv (one (S ts f .bk (xpr ts (adv s)).2)).2) [105, 102] := by have := hasT_bytes ts (adv (one (S ts f .bk (xpr ts (adv s)).2)).2) [105, 102]; rw [str_toList [105, 102]] at this; exact this
  cases h2 : hasT ts (adv (one (S ts f .bk (xpr ts (adv s)).2)).2) [105, 102] with
  | true =>
   have HM : Hid (one (S ts (f + 1) .br s) = (.node (labK 13 (ln ts s)) [(xpr ts (adv s)).1, (one (S ts f .bk (xpr ts (adv s)).2)).1, (one (S ts f .br (adv (one (S ts f .bk (xpr ts (adv s)).2)).2))).1], (one (S ts f .br (adv (one (S ts f .bk (xpr ts (adv s)).2)).2))).2)) := Hd (S_br_if h1 h2)
   rw [HM.out]
   rw [h2] at hq1
   have HRU := Hd fun W (h : Rd W R g c ts (adv (one (S ts f .bk (xpr ts (adv s)).2)).2)) => H.br _ W h2 h (by omega)
   clear HM hR HL h1 h2 H hin hra hrx hrb hf hv hin2 hra2 HNM
   go_enter Tryz.func156, Tryz.ntmps156
   go_wp2_with fail
   refine (HN.out _ F0.out.rd).mono ?_
   rintro e v1 ⟨rfl, hb⟩
   have G1 := Hd (F0.out.quiet hXl hb)
   clear hb
   obtain ⟨hc0, hf0⟩ := G1.out.b0.all
   have hz0 := G1.out.b0.lt
   unfold ncz at hc0
   have hq10 := G1.out.b0.lt
   have G2 := Hd (G1.out.node hXl [.int .i64 13, .string ⟨#[]⟩, .int .u64 0, .int .i64 0, .bool false, .int .i64 0, .int .i64 0, .int .i64 0, .int .i64 0, .int .i64 ((ln ts s : Nat) : Int), .slice none 0 0])
   go_wp2_with fail
   refine (HE0.out _ G2.out.rd).mono ?_
   rintro e v2 ⟨rfl, hr, hs⟩
   clear hc0 hf0 hz0
   have G3 := Hd (G2.out.call hr hs)
   clear hr hs
   obtain ⟨hc0, hf0, hz0, hc1, hf1, hz1⟩ := G3.out.l2
   have G4 := Hd (G3.out.fb)
   go_wp2_with fail
   refine (HX.out _ _ G4.out.fr.rd).mono ?_
   rintro e v3 ⟨l1, x1, n1, k1, rfl, hT, hr, hs⟩
   clear hc0 hf0 hz0 hc1 hf1 hz1
   have G5 := Hd (G4.out.tree hT hr hs)
   clear hT hr hs
   obtain ⟨hc0, hf0, hz0, hc1, hf1, hz1⟩ := G5.out.fr.l2
   go_wp2_with fail
   refine (HBK.out _ G5.out.fr.rd).mono ?_
   rintro e v4 ⟨l2, x2, n2, k2, rfl, hT, hr, hs⟩
   clear hc0 hf0 hz0 hc1 hf1 hz1
   have G6 := Hd (G5.out.tree hT hr hs)
   clear hT hr hs
   obtain ⟨hc0, hf0, hz0, hc1, hf1, hz1⟩ := G6.out.fr.l2
   have G7 := Hd (G6.out.set0 hXl 10 (.slice (some ⟨v4.heap.size, 0, none⟩) 2 2) [.int .i64 13, .string ⟨#[]⟩, .int .u64 0, .int .i64 0, .bool false, .int .i64 0, .int .i64 0, .int .i64 0, .int .i64 0, .int .i64 ((ln ts s : Nat) : Int), .slice (some ⟨v4.heap.size, 0, none⟩) 2 2] rfl)
   have G8 := Hd (G7.out.two hXl (List.Mem.tail _ (List.Mem.head _)) (List.Mem.head _) [.int .i64 l1.kind, .string (str l1.name), .int .u64 l1.num, .int .i64 l1.wd, .bool l1.sg, .int .i64 l1.op, .int .i64 l1.fac, .int .i64 l1.pip, .int .i64 l1.unr, .int .i64 l1.line, .slice x1 n1 k1, .int .i64 l2.kind, .string (str l2.name), .int .u64 l2.num, .int .i64 l2.wd, .bool l2.sg, .int .i64 l2.op, .int .i64 l2.fac, .int .i64 l2.pip, .int .i64 l2.unr, .int .i64 l2.line, .slice x2 n2 k2] rfl v4.heap.size (by simp only [size_setCell]))
   go_wp2_with fail
   refine (HSK.out _ G8.out.fr.rd).mono ?_
   rintro e v5 ⟨rfl, hr, hs⟩
   have G9 := Hd (G8.out.call hr hs)
   clear hr hs hc0 hf0 hz0 hc1 hf1 hz1
   obtain ⟨hc0, hf0, hz0, hc1, hf1, hz1⟩ := G9.out.fr.l2
   go_wp2_with fail
   refine (HNX.out _ G9.out.fr.rd).mono ?_
   rintro e v6 ⟨rfl, hb⟩
   have G10 := Hd (G9.out.quiet hXl hb)
   clear hb hc0 hf0 hz0 hc1 hf1 hz1
   obtain ⟨hc0, hf0, hz0, hc1, hf1, hz1⟩ := G10.out.fr.l2
   go_wp2
   have G11 := Hd (G10.out.drew)
   go_region_law (first | (refine fk_append KT1.out hXl (by rfl) _ _ _ (by rfl) Tryz.underlying26 infoNd2 (by rfl) (by simp [Act.eval]) ?_; intro g1 c1 u1 hk6; have KX1 := Hd hk6; clear hk6; obtain ⟨hd10, he10, hy10, hd11, he11, hy11⟩ := KX1.out.fr.l2) | (go_simp; go_at_call 156; refine (HRU.out _ G11.out.fr.rd).mono ?_; rintro e y1 ⟨l3, x3, n3, k3, rfl, hT, hr, hs⟩; have KT1 := Hd (G11.out.callT (by simp) hT hr hs); clear hT hr hs; obtain ⟨hu10, hv10, hw10, hu11, hv11, hw11⟩ := KT1.out.fr.l2))
   all_goals
    clear hu10 hv10 hw10 hu11 hv11 hw11
    clear hc0 hf0 hz0 hc1 hf1 hz1
    have G12 := Hd (KX1.out.set0 hXl 10 (.slice (some ⟨g1, 0, none⟩) 3 c1) [.int .i64 13, .string ⟨#[]⟩, .int .u64 0, .int .i64 0, .bool false, .int .i64 0, .int .i64 0, .int .i64 0, .int .i64 0, .int .i64 ((ln ts s : Nat) : Int), .slice (some ⟨g1, 0, none⟩) 3 c1] rfl)
    have G13 := Hd (G12.out.tree (labK 13 (ln ts s)))
    go_wp2
    have G14 := Hd (G13.out.stoR hXl (List.Mem.tail _ (List.Mem.head _)) rfl (.int .i64 13) (.string ⟨#[]⟩) (.int .u64 0) (.int .i64 0) (.bool false) (.int .i64 0) (.int .i64 0) (.int .i64 0) (.int .i64 0) (.int .i64 ((ln ts s : Nat) : Int)) (.slice (some ⟨g1, 0, none⟩) 3 c1))
    refine bodyPost_ret (G14.out.b0.res1 Tryz.results156 Tryz.underlying28 rfl infoNd _ rfl) rfl ?_
    exact G14.out.outT (rfl)
  | false =>
   have HM : Hid (one (S ts (f + 1) .br s) = (.node (labK 13 (ln ts s)) [(xpr ts (adv s)).1, (one (S ts f .bk (xpr ts (adv s)).2)).1, (one (S ts f .bk (adv (one (S ts f .bk (xpr ts (adv s)).2)).2))).1], (one (S ts f .bk (adv (one (S ts f .bk (xpr ts (adv s)).2)).2))).2)) := Hd (S_br_el h1 h2)
   rw [HM.out]
   rw [h2] at hq1
   have HRU := Hd fun W (h : Rd W R g c ts (adv (one (S ts f .bk (xpr ts (adv s)).2)).2)) => H.bk _ W h (by omega)
   clear HM hR HL h1 h2 H hin hra hrx hrb hf hv hin2 hra2 HNM
   go_enter Tryz.func156, Tryz.ntmps156
   go_wp2_with fail
   refine (HN.out _ F0.out.rd).mono ?_
   rintro e v1 ⟨rfl, hb⟩
   have G1 := Hd (F0.out.quiet hXl hb)
   clear hb
   obtain ⟨hc0, hf0⟩ := G1.out.b0.all
   have hz0 := G1.out.b0.lt
   unfold ncz at hc0
   have hq10 := G1.out.b0.lt
   have G2 := Hd (G1.out.node hXl [.int .i64 13, .string ⟨#[]⟩, .int .u64 0, .int .i64 0, .bool false, .int .i64 0, .int .i64 0, .int .i64 0, .int .i64 0, .int .i64 ((ln ts s : Nat) : Int), .slice none 0 0])
   go_wp2_with fail
   refine (HE0.out _ G2.out.rd).mono ?_
   rintro e v2 ⟨rfl, hr, hs⟩
   clear hc0 hf0 hz0
   have G3 := Hd (G2.out.call hr hs)
   clear hr hs
   obtain ⟨hc0, hf0, hz0, hc1, hf1, hz1⟩ := G3.out.l2
   have G4 := Hd (G3.out.fb)
   go_wp2_with fail
   refine (HX.out _ _ G4.out.fr.rd).mono ?_
   rintro e v3 ⟨l1, x1, n1, k1, rfl, hT, hr, hs⟩
   clear hc0 hf0 hz0 hc1 hf1 hz1
   have G5 := Hd (G4.out.tree hT hr hs)
   clear hT hr hs
   obtain ⟨hc0, hf0, hz0, hc1, hf1, hz1⟩ := G5.out.fr.l2
   go_wp2_with fail
   refine (HBK.out _ G5.out.fr.rd).mono ?_
   rintro e v4 ⟨l2, x2, n2, k2, rfl, hT, hr, hs⟩
   clear hc0 hf0 hz0 hc1 hf1 hz1
   have G6 := Hd (G5.out.tree hT hr hs)
   clear hT hr hs
   obtain ⟨hc0, hf0, hz0, hc1, hf1, hz1⟩ := G6.out.fr.l2
   have G7 := Hd (G6.out.set0 hXl 10 (.slice (some ⟨v4.heap.size, 0, none⟩) 2 2) [.int .i64 13, .string ⟨#[]⟩, .int .u64 0, .int .i64 0, .bool false, .int .i64 0, .int .i64 0, .int .i64 0, .int .i64 0, .int .i64 ((ln ts s : Nat) : Int), .slice (some ⟨v4.heap.size, 0, none⟩) 2 2] rfl)
   have G8 := Hd (G7.out.two hXl (List.Mem.tail _ (List.Mem.head _)) (List.Mem.head _) [.int .i64 l1.kind, .string (str l1.name), .int .u64 l1.num, .int .i64 l1.wd, .bool l1.sg, .int .i64 l1.op, .int .i64 l1.fac, .int .i64 l1.pip, .int .i64 l1.unr, .int .i64 l1.line, .slice x1 n1 k1, .int .i64 l2.kind, .string (str l2.name), .int .u64 l2.num, .int .i64 l2.wd, .bool l2.sg, .int .i64 l2.op, .int .i64 l2.fac, .int .i64 l2.pip, .int .i64 l2.unr, .int .i64 l2.line, .slice x2 n2 k2] rfl v4.heap.size (by simp only [size_setCell]))
   go_wp2_with fail
   refine (HSK.out _ G8.out.fr.rd).mono ?_
   rintro e v5 ⟨rfl, hr, hs⟩
   have G9 := Hd (G8.out.call hr hs)
   clear hr hs hc0 hf0 hz0 hc1 hf1 hz1
   obtain ⟨hc0, hf0, hz0, hc1, hf1, hz1⟩ := G9.out.fr.l2
   go_wp2_with fail
   refine (HNX.out _ G9.out.fr.rd).mono ?_
   rintro e v6 ⟨rfl, hb⟩
   have G10 := Hd (G9.out.quiet hXl hb)
   clear hb hc0 hf0 hz0 hc1 hf1 hz1
   obtain ⟨hc0, hf0, hz0, hc1, hf1, hz1⟩ := G10.out.fr.l2
   go_wp2
   have G11 := Hd (G10.out.drew)
   go_region_law (first | (refine fk_append KT1.out hXl (by rfl) _ _ _ (by rfl) Tryz.underlying26 infoNd2 (by rfl) (by simp [Act.eval]) ?_; intro g1 c1 u1 hk6; have KX1 := Hd hk6; clear hk6; obtain ⟨hd10, he10, hy10, hd11, he11, hy11⟩ := KX1.out.fr.l2) | (go_simp; go_at_call 98; refine (HRU.out _ G11.out.fr.rd).mono ?_; rintro e y1 ⟨l3, x3, n3, k3, rfl, hT, hr, hs⟩; have KT1 := Hd (G11.out.callT (by simp) hT hr hs); clear hT hr hs; obtain ⟨hu10, hv10, hw10, hu11, hv11, hw11⟩ := KT1.out.fr.l2))
   all_goals
    clear hu10 hv10 hw10 hu11 hv11 hw11
    clear hc0 hf0 hz0 hc1 hf1 hz1
    have G12 := Hd (KX1.out.set0 hXl 10 (.slice (some ⟨g1, 0, none⟩) 3 c1) [.int .i64 13, .string ⟨#[]⟩, .int .u64 0, .int .i64 0, .bool false, .int .i64 0, .int .i64 0, .int .i64 0, .int .i64 0, .int .i64 ((ln ts s : Nat) : Int), .slice (some ⟨g1, 0, none⟩) 3 c1] rfl)
    have G13 := Hd (G12.out.tree (labK 13 (ln ts s)))
    go_wp2
    have G14 := Hd (G13.out.stoR hXl (List.Mem.tail _ (List.Mem.head _)) rfl (.int .i64 13) (.string ⟨#[]⟩) (.int .u64 0) (.int .i64 0) (.bool false) (.int .i64 0) (.int .i64 0) (.int .i64 0) (.int .i64 0) (.int .i64 ((ln ts s : Nat) : Int)) (.slice (some ⟨g1, 0, none⟩) 3 c1))
    refine bodyPost_ret (G14.out.b0.res1 Tryz.results156 Tryz.underlying28 rfl infoNd _ rfl) rfl ?_
    exact G14.out.outT (rfl)
end Go.Proofs.YtkliclihpobmiaaGreatDoor
/- The rule statement: contract. -/
namespace Go.Proofs.YtkliclihpobmiaaGreatDoor
open Go Go.RowKit
set_option linter.unusedVariables false
set_option linter.unusedSimpArgs false

set_option maxHeartbeats 2000000 in
set_option maxRecDepth 100000 in
theorem statement_step {ts : List Tok} {R g c : Nat} (X : Ctx ts R g c) (f : Nat) (H : SC ts R g c f) (HLP : ∀ s w, (hasT ts s [35] || hasT ts s [102, 111, 114] || hasT ts s [119, 104, 105, 108, 101]) = true → Rd w R g c ts s → 8 * rem ts s + 3 ≤ f → Calls Tryz.prog 157 #[.pointer (some ⟨R, 0, none⟩)] w (TP w R g c ts (one (S ts f .lp s)))) (s : Sg) (w : World) (hR : Rd w R g c ts s) (hf : 8 * rem ts s + 4 ≤ f + 1) : Calls Tryz.prog 133 #[.pointer (some ⟨R, 0, none⟩)] w (TP w R g c ts (one (S ts (f + 1) .st s))) := by
 have hXl := X.lt
 have F0 := Hd ((Fr.start hR).node hXl ncz)
 have HNX := Hd fun W (h : Rd W R g c ts s) => next_any X W h
 have hF := fldT (nxt ts s)
 have q0 : ((str (nxt ts s).text).toList == [118, 97, 114]) = hasT ts s [118, 97, 114] := by have := hasT_bytes ts s [118, 97, 114]; rw [str_toList [118, 97, 114]] at this; exact this
 have q1 : ((str (nxt ts s).text).toList == [108, 101, 116]) = hasT ts s [108, 101, 116] := by have := hasT_bytes ts s [108, 101, 116]; rw [str_toList [108, 101, 116]] at this; exact this
 have q2 : ((str (nxt ts s).text).toList == [105, 102]) = hasT ts s [105, 102] := by have := hasT_bytes ts s [105, 102]; rw [str_toList [105, 102]] at this; exact this
 have q3 : ((str (nxt ts s).text).toList == [35]) = hasT ts s [35] := by have := hasT_bytes ts s [35]; rw [str_toList [35]] at this; exact this
 have q4 : ((str (nxt ts s).text).toList == [102, 111, 114]) = hasT ts s [102, 111, 114] := by have := hasT_bytes ts s [102, 111, 114]; rw [str_toList [102, 111, 114]] at this; exact this
 have q5 : ((str (nxt ts s).text).toList == [119, 104, 105, 108, 101]) = hasT ts s [119, 104, 105, 108, 101] := by have := hasT_bytes ts s [119, 104, 105, 108, 101]; rw [str_toList [119, 104, 105, 108, 101]] at this; exact this
 have q6 : ((str (nxt ts s).text).toList == [115, 101, 110, 100]) = hasT ts s [115, 101, 110, 100] := by have := hasT_bytes ts s [115, 101, 110, 100]; rw [str_toList [115, 101, 110, 100]] at this; exact this
 have q7 : ((str (nxt ts s).text).toList == [114, 101, 116, 117, 114, 110]) = hasT ts s [114, 101, 116, 117, 114, 110] := by have := hasT_bytes ts s [114, 101, 116, 117, 114, 110]; rw [str_toList [114, 101, 116, 117, 114, 110]] at this; exact this
 cases g0 : hasT ts s [118, 97, 114] with
 | true =>
  have HM : Hid (one (S ts (f + 1) .st s) = declV ts s) := Hd (by unfold one; rw [S]; simp [g0])
  rw [HM.out]
  rw [g0] at q0
  have HRU := Hd (fun W (h : Rd W R g c ts s) => declV_any X s g0 (hasT_excl g0 (by decide)) W h)
  clear HM hR H HLP hf q1 q2 q3 q4 q5 q6 q7 g0
  go_enter Tryz.func133, Tryz.ntmps133
  go_wp2_with fail
  refine (HNX.out _ F0.out.rd).mono ?_
  rintro e v1 ⟨rfl, hb⟩
  have G1 := Hd (F0.out.quiet hXl hb)
  clear hb
  obtain ⟨hc0, hf0⟩ := G1.out.b0.all
  have hz0 := G1.out.b0.lt
  unfold ncz at hc0
  go_wp2_with fail
  refine (HRU.out _ G1.out.rd).mono ?_
  rintro e v2 ⟨l1, x1, n1, k1, rfl, hT, hr, hs⟩
  clear hc0 hf0 hz0
  have G2 := Hd (G1.out.tree hT hr hs)
  clear hT hr hs
  obtain ⟨hc0, hf0⟩ := G2.out.b0.all
  have hz0 := G2.out.b0.lt
  unfold ncz at hc0
  go_wp2
  have G3 := Hd (G2.out.stoR hXl (List.Mem.head _) rfl (.int .i64 l1.kind) (.string (str l1.name)) (.int .u64 l1.num) (.int .i64 l1.wd) (.bool l1.sg) (.int .i64 l1.op) (.int .i64 l1.fac) (.int .i64 l1.pip) (.int .i64 l1.unr) (.int .i64 l1.line) (.slice x1 n1 k1))
  refine bodyPost_ret (G3.out.b0.res1 Tryz.results133 Tryz.underlying28 rfl infoNd _ rfl) rfl ?_
  exact G3.out.outT (rfl)
 | false =>
  rw [g0] at q0
  cases g1 : hasT ts s [108, 101, 116] with
  | true =>
   have HM : Hid (one (S ts (f + 1) .st s) = declL ts s) := Hd (by unfold one; rw [S]; simp [g0, g1])
   rw [HM.out]
   rw [g1] at q1
   have HRU := Hd (fun W (h : Rd W R g c ts s) => declL_any X s g1 W h)
   clear HM hR H HLP hf q2 q3 q4 q5 q6 q7 g0 g1
   go_enter Tryz.func133, Tryz.ntmps133
   go_wp2_with fail
   refine (HNX.out _ F0.out.rd).mono ?_
   rintro e v1 ⟨rfl, hb⟩
   have G1 := Hd (F0.out.quiet hXl hb)
   clear hb
   obtain ⟨hc0, hf0⟩ := G1.out.b0.all
   have hz0 := G1.out.b0.lt
   unfold ncz at hc0
   go_wp2_with fail
   refine (HRU.out _ G1.out.rd).mono ?_
   rintro e v2 ⟨l1, x1, n1, k1, rfl, hT, hr, hs⟩
   clear hc0 hf0 hz0
   have G2 := Hd (G1.out.tree hT hr hs)
   clear hT hr hs
   obtain ⟨hc0, hf0⟩ := G2.out.b0.all
   have hz0 := G2.out.b0.lt
   unfold ncz at hc0
   go_wp2
   have G3 := Hd (G2.out.stoR hXl (List.Mem.head _) rfl (.int .i64 l1.kind) (.string (str l1.name)) (.int .u64 l1.num) (.int .i64 l1.wd) (.bool l1.sg) (.int .i64 l1.op) (.int .i64 l1.fac) (.int .i64 l1.pip) (.int .i64 l1.unr) (.int .i64 l1.line) (.slice x1 n1 k1))
   refine bodyPost_ret (G3.out.b0.res1 Tryz.results133 Tryz.underlying28 rfl infoNd _ rfl) rfl ?_
   exact G3.out.outT (rfl)
  | false =>
   rw [g1] at q1
   cases g2 : hasT ts s [105, 102] with
   | true =>
    have HM : Hid (one (S ts (f + 1) .st s) = one (S ts f .br s)) := Hd (by unfold one; rw [S]; simp [g0, g1, g2])
    rw [HM.out]
    rw [g2] at q2
    have HRU := Hd (fun W (h : Rd W R g c ts s) => H.br s W g2 h (by omega))
    clear HM hR H HLP hf q3 q4 q5 q6 q7 g0 g1 g2
    go_enter Tryz.func133, Tryz.ntmps133
    go_wp2_with fail
    refine (HNX.out _ F0.out.rd).mono ?_
    rintro e v1 ⟨rfl, hb⟩
    have G1 := Hd (F0.out.quiet hXl hb)
    clear hb
    obtain ⟨hc0, hf0⟩ := G1.out.b0.all
    have hz0 := G1.out.b0.lt
    unfold ncz at hc0
    go_wp2_with fail
    refine (HRU.out _ G1.out.rd).mono ?_
    rintro e v2 ⟨l1, x1, n1, k1, rfl, hT, hr, hs⟩
    clear hc0 hf0 hz0
    have G2 := Hd (G1.out.tree hT hr hs)
    clear hT hr hs
    obtain ⟨hc0, hf0⟩ := G2.out.b0.all
    have hz0 := G2.out.b0.lt
    unfold ncz at hc0
    go_wp2
    have G3 := Hd (G2.out.stoR hXl (List.Mem.head _) rfl (.int .i64 l1.kind) (.string (str l1.name)) (.int .u64 l1.num) (.int .i64 l1.wd) (.bool l1.sg) (.int .i64 l1.op) (.int .i64 l1.fac) (.int .i64 l1.pip) (.int .i64 l1.unr) (.int .i64 l1.line) (.slice x1 n1 k1))
    refine bodyPost_ret (G3.out.b0.res1 Tryz.results133 Tryz.underlying28 rfl infoNd _ rfl) rfl ?_
    exact G3.out.outT (rfl)
   | false =>
    rw [g2] at q2
    cases g3 : hasT ts s [35] with
    | true =>
     have HM : Hid (one (S ts (f + 1) .st s) = one (S ts f .lp s)) := Hd (by unfold one; rw [S]; simp [g0, g1, g2, g3])
     rw [HM.out]
     rw [g3] at q3
     have HRU := Hd (fun W (h : Rd W R g c ts s) => HLP s W (by simp [g3]) h (by omega))
     clear HM hR H HLP hf q4 q5 q6 q7 g0 g1 g2 g3
     go_enter Tryz.func133, Tryz.ntmps133
     go_wp2_with fail
     refine (HNX.out _ F0.out.rd).mono ?_
     rintro e v1 ⟨rfl, hb⟩
     have G1 := Hd (F0.out.quiet hXl hb)
     clear hb
     obtain ⟨hc0, hf0⟩ := G1.out.b0.all
     have hz0 := G1.out.b0.lt
     unfold ncz at hc0
     go_wp2_with fail
     refine (HRU.out _ G1.out.rd).mono ?_
     rintro e v2 ⟨l1, x1, n1, k1, rfl, hT, hr, hs⟩
     clear hc0 hf0 hz0
     have G2 := Hd (G1.out.tree hT hr hs)
     clear hT hr hs
     obtain ⟨hc0, hf0⟩ := G2.out.b0.all
     have hz0 := G2.out.b0.lt
     unfold ncz at hc0
     go_wp2
     have G3 := Hd (G2.out.stoR hXl (List.Mem.head _) rfl (.int .i64 l1.kind) (.string (str l1.name)) (.int .u64 l1.num) (.int .i64 l1.wd) (.bool l1.sg) (.int .i64 l1.op) (.int .i64 l1.fac) (.int .i64 l1.pip) (.int .i64 l1.unr) (.int .i64 l1.line) (.slice x1 n1 k1))
     refine bodyPost_ret (G3.out.b0.res1 Tryz.results133 Tryz.underlying28 rfl infoNd _ rfl) rfl ?_
     exact G3.out.outT (rfl)
    | false =>
     rw [g3] at q3
     cases g4 : hasT ts s [102, 111, 114] with
     | true =>
      have HM : Hid (one (S ts (f + 1) .st s) = one (S ts f .lp s)) := Hd (by unfold one; rw [S]; simp [g0, g1, g2, g3, g4])
      rw [HM.out]
      rw [g4] at q4
      have HRU := Hd (fun W (h : Rd W R g c ts s) => HLP s W (by simp [g4]) h (by omega))
      clear HM hR H HLP hf q5 q6 q7 g0 g1 g2 g3 g4
      go_enter Tryz.func133, Tryz.ntmps133
      go_wp2_with fail
      refine (HNX.out _ F0.out.rd).mono ?_
      rintro e v1 ⟨rfl, hb⟩
      have G1 := Hd (F0.out.quiet hXl hb)
      clear hb
      obtain ⟨hc0, hf0⟩ := G1.out.b0.all
      have hz0 := G1.out.b0.lt
      unfold ncz at hc0
      go_wp2_with fail
      refine (HRU.out _ G1.out.rd).mono ?_
      rintro e v2 ⟨l1, x1, n1, k1, rfl, hT, hr, hs⟩
      clear hc0 hf0 hz0
      have G2 := Hd (G1.out.tree hT hr hs)
      clear hT hr hs
      obtain ⟨hc0, hf0⟩ := G2.out.b0.all
      have hz0 := G2.out.b0.lt
      unfold ncz at hc0
      go_wp2
      have G3 := Hd (G2.out.stoR hXl (List.Mem.head _) rfl (.int .i64 l1.kind) (.string (str l1.name)) (.int .u64 l1.num) (.int .i64 l1.wd) (.bool l1.sg) (.int .i64 l1.op) (.int .i64 l1.fac) (.int .i64 l1.pip) (.int .i64 l1.unr) (.int .i64 l1.line) (.slice x1 n1 k1))
      refine bodyPost_ret (G3.out.b0.res1 Tryz.results133 Tryz.underlying28 rfl infoNd _ rfl) rfl ?_
      exact G3.out.outT (rfl)
     | false =>
      rw [g4] at q4
      cases g5 : hasT ts s [119, 104, 105, 108, 101] with
      | true =>
       have HM : Hid (one (S ts (f + 1) .st s) = one (S ts f .lp s)) := Hd (by unfold one; rw [S]; simp [g0, g1, g2, g3, g4, g5])
       rw [HM.out]
       rw [g5] at q5
       have HRU := Hd (fun W (h : Rd W R g c ts s) => HLP s W (by simp [g5]) h (by omega))
       clear HM hR H HLP hf q6 q7 g0 g1 g2 g3 g4 g5
       go_enter Tryz.func133, Tryz.ntmps133
       go_wp2_with fail
       refine (HNX.out _ F0.out.rd).mono ?_
       rintro e v1 ⟨rfl, hb⟩
       have G1 := Hd (F0.out.quiet hXl hb)
       clear hb
       obtain ⟨hc0, hf0⟩ := G1.out.b0.all
       have hz0 := G1.out.b0.lt
       unfold ncz at hc0
       go_wp2_with fail
       refine (HRU.out _ G1.out.rd).mono ?_
       rintro e v2 ⟨l1, x1, n1, k1, rfl, hT, hr, hs⟩
       clear hc0 hf0 hz0
       have G2 := Hd (G1.out.tree hT hr hs)
       clear hT hr hs
       obtain ⟨hc0, hf0⟩ := G2.out.b0.all
       have hz0 := G2.out.b0.lt
       unfold ncz at hc0
       go_wp2
       have G3 := Hd (G2.out.stoR hXl (List.Mem.head _) rfl (.int .i64 l1.kind) (.string (str l1.name)) (.int .u64 l1.num) (.int .i64 l1.wd) (.bool l1.sg) (.int .i64 l1.op) (.int .i64 l1.fac) (.int .i64 l1.pip) (.int .i64 l1.unr) (.int .i64 l1.line) (.slice x1 n1 k1))
       refine bodyPost_ret (G3.out.b0.res1 Tryz.results133 Tryz.underlying28 rfl infoNd _ rfl) rfl ?_
       exact G3.out.outT (rfl)
      | false =>
       rw [g5] at q5
       cases g6 : hasT ts s [115, 101, 110, 100] with
       | true =>
        have HM : Hid (one (S ts (f + 1) .st s) = sendM ts s) := Hd (by unfold one; rw [S]; simp [g0, g1, g2, g3, g4, g5, g6])
        rw [HM.out]
        rw [g6] at q6
        have HRU := Hd (fun W (h : Rd W R g c ts s) => send_any X s g6 W h)
        clear HM hR H HLP hf q7 g0 g1 g2 g3 g4 g5 g6
        go_enter Tryz.func133, Tryz.ntmps133
        go_wp2_with fail
        refine (HNX.out _ F0.out.rd).mono ?_
        rintro e v1 ⟨rfl, hb⟩
        have G1 := Hd (F0.out.quiet hXl hb)
        clear hb
        obtain ⟨hc0, hf0⟩ := G1.out.b0.all
        have hz0 := G1.out.b0.lt
        unfold ncz at hc0
        go_wp2_with fail
        refine (HRU.out _ G1.out.rd).mono ?_
        rintro e v2 ⟨l1, x1, n1, k1, rfl, hT, hr, hs⟩
        clear hc0 hf0 hz0
        have G2 := Hd (G1.out.tree hT hr hs)
        clear hT hr hs
        obtain ⟨hc0, hf0⟩ := G2.out.b0.all
        have hz0 := G2.out.b0.lt
        unfold ncz at hc0
        go_wp2
        have G3 := Hd (G2.out.stoR hXl (List.Mem.head _) rfl (.int .i64 l1.kind) (.string (str l1.name)) (.int .u64 l1.num) (.int .i64 l1.wd) (.bool l1.sg) (.int .i64 l1.op) (.int .i64 l1.fac) (.int .i64 l1.pip) (.int .i64 l1.unr) (.int .i64 l1.line) (.slice x1 n1 k1))
        refine bodyPost_ret (G3.out.b0.res1 Tryz.results133 Tryz.underlying28 rfl infoNd _ rfl) rfl ?_
        exact G3.out.outT (rfl)
       | false =>
        rw [g6] at q6
        cases g7 : hasT ts s [114, 101, 116, 117, 114, 110] with
        | true =>
         have HM : Hid (one (S ts (f + 1) .st s) = resM ts s) := Hd (by unfold one; rw [S]; simp [g0, g1, g2, g3, g4, g5, g6, g7])
         rw [HM.out]
         rw [g7] at q7
         have HRU := Hd (fun W (h : Rd W R g c ts s) => result_any X s g7 W h)
         clear HM hR H HLP hf  g0 g1 g2 g3 g4 g5 g6 g7
         go_enter Tryz.func133, Tryz.ntmps133
         go_wp2_with fail
         refine (HNX.out _ F0.out.rd).mono ?_
         rintro e v1 ⟨rfl, hb⟩
         have G1 := Hd (F0.out.quiet hXl hb)
         clear hb
         obtain ⟨hc0, hf0⟩ := G1.out.b0.all
         have hz0 := G1.out.b0.lt
         unfold ncz at hc0
         go_wp2_with fail
         refine (HRU.out _ G1.out.rd).mono ?_
         rintro e v2 ⟨l1, x1, n1, k1, rfl, hT, hr, hs⟩
         clear hc0 hf0 hz0
         have G2 := Hd (G1.out.tree hT hr hs)
         clear hT hr hs
         obtain ⟨hc0, hf0⟩ := G2.out.b0.all
         have hz0 := G2.out.b0.lt
         unfold ncz at hc0
         go_wp2
         have G3 := Hd (G2.out.stoR hXl (List.Mem.head _) rfl (.int .i64 l1.kind) (.string (str l1.name)) (.int .u64 l1.num) (.int .i64 l1.wd) (.bool l1.sg) (.int .i64 l1.op) (.int .i64 l1.fac) (.int .i64 l1.pip) (.int .i64 l1.unr) (.int .i64 l1.line) (.slice x1 n1 k1))
         refine bodyPost_ret (G3.out.b0.res1 Tryz.results133 Tryz.underlying28 rfl infoNd _ rfl) rfl ?_
         exact G3.out.outT (rfl)
        | false =>
         rw [g7] at q7
         have HM : Hid (one (S ts (f + 1) .st s) = change ts s) := Hd (by unfold one; rw [S]; simp [g0, g1, g2, g3, g4, g5, g6, g7])
         rw [HM.out]
         have HRU := Hd fun W (h : Rd W R g c ts s) => change_any X s W h
         clear HM hR H HLP hf g0 g1 g2 g3 g4 g5 g6 g7
         go_enter Tryz.func133, Tryz.ntmps133
         go_wp2_with fail
         refine (HNX.out _ F0.out.rd).mono ?_
         rintro e v1 ⟨rfl, hb⟩
         have G1 := Hd (F0.out.quiet hXl hb)
         clear hb
         obtain ⟨hc0, hf0⟩ := G1.out.b0.all
         have hz0 := G1.out.b0.lt
         unfold ncz at hc0
         go_wp2_with fail
         refine (HRU.out _ G1.out.rd).mono ?_
         rintro e v2 ⟨l1, x1, n1, k1, rfl, hT, hr, hs⟩
         clear hc0 hf0 hz0
         have G2 := Hd (G1.out.tree hT hr hs)
         clear hT hr hs
         obtain ⟨hc0, hf0⟩ := G2.out.b0.all
         have hz0 := G2.out.b0.lt
         unfold ncz at hc0
         go_wp2
         have G3 := Hd (G2.out.stoR hXl (List.Mem.head _) rfl (.int .i64 l1.kind) (.string (str l1.name)) (.int .u64 l1.num) (.int .i64 l1.wd) (.bool l1.sg) (.int .i64 l1.op) (.int .i64 l1.fac) (.int .i64 l1.pip) (.int .i64 l1.unr) (.int .i64 l1.line) (.slice x1 n1 k1))
         refine bodyPost_ret (G3.out.b0.res1 Tryz.results133 Tryz.underlying28 rfl infoNd _ rfl) rfl ?_
         exact G3.out.outT (rfl)
end Go.Proofs.YtkliclihpobmiaaGreatDoor
/- The rule block: contract. -/
namespace Go.Proofs.YtkliclihpobmiaaGreatDoor
open Go Go.RowKit
set_option linter.unusedVariables false
set_option linter.unusedSimpArgs false

def BkSt (ts : List Tok) (R g c : Nat) (w : World) (L0 L1 f base : Nat) (Z : List Tree × Sg) (L9 : Nat) (wr : World) (st : Sg) : Prop :=
  ∃ (x : Option Addr) (k F : Nat) (acc : List Tree), FK w wr R g c ts st [(L1, [.int .i64 8, .string ⟨#[]⟩, .int .u64 0, .int .i64 0, .bool false, .int .i64 0, .int .i64 0, .int .i64 0, .int .i64 0, .int .i64 (L9 : Int), .slice x acc.length k]), (L0, ncz)] base (.slice x acc.length k) acc ∧ Z = S ts (F + 1) (.bs acc) st ∧ 8 * rem ts st + 5 ≤ F + 1 ∧ F ≤ f ∧ acc.length + rem ts st ≤ ts.length
set_option maxHeartbeats 2000000 in
set_option maxRecDepth 100000 in
theorem block_step {ts : List Tok} {R g c : Nat} (X : Ctx ts R g c) (f : Nat) (H : ∀ f1, f1 ≤ f → SC ts R g c f1) (s : Sg) (w : World) (hR : Rd w R g c ts s) (hf : 8 * rem ts s + 6 ≤ f + 1) : Calls Tryz.prog 98 #[.pointer (some ⟨R, 0, none⟩)] w (TP w R g c ts (one (S ts (f + 1) .bk s))) := by
  have hXl := X.lt
  have F0 := Hd ((Fr.start hR).node hXl ncz)
  have HN := Hd fun W (h : Rd W R g c ts s) => node_any X 8 W h
  have HEO := Hd fun q W (h : Rd W R g c ts q) => expect_any X (s := q) [123] (by simp) W h
  have HEC := Hd fun q W (h : Rd W R g c ts q) => expect_any X (s := q) [125] (by simp) W h
  have HNX := Hd fun q W (h : Rd W R g c ts q) => next_any X (s := q) W h
  have HFT := Hd fun q W => fldT (nxt ts q) W
  have hrx := rem_on (exc_on (ts := ts) (s := s) (c := 123) (t := []))
  have hlen := X.len
  have HL : Hid (nc (labK 8 (ln ts s)) = [.int .i64 8, .string ⟨#[]⟩, .int .u64 0, .int .i64 0, .bool false, .int .i64 0, .int .i64 0, .int .i64 0, .int .i64 0, .int .i64 ((ln ts s : Nat) : Int), .slice none 0 0]) := Hd rfl
  rw [HL.out] at HN
  obtain ⟨f1, rfl⟩ : ∃ f1, f = f1 + 1 := ⟨f - 1, by omega⟩
  obtain ⟨Z, hZ⟩ : ∃ Z, Z = S ts (f1 + 1) (.bs []) (exc ts s [123]) := ⟨_, rfl⟩
  have HM : Hid (one (S ts (f1 + 1 + 1) .bk s) = (.node (labK 8 (ln ts s)) Z.1, exc ts Z.2 [125])) := Hd (by rw [hZ]; rfl)
  rw [HM.out]
  have HZ := Hd hZ
  have HIH := Hd H
  have hrl : rem ts (exc ts s [123]) ≤ ts.length := rem_le
  have hfu : 8 * rem ts (exc ts s [123]) + 5 ≤ f1 + 1 := by omega
  clear HM hR HL hZ hf H hrx
  generalize ln ts s = L9 at *
  go_enter Tryz.func98, Tryz.ntmps98
  go_wp2_with fail
  refine (HN.out _ F0.out.rd).mono ?_
  rintro e v1 ⟨rfl, hb⟩
  have G1 := Hd (F0.out.quiet hXl hb)
  clear hb
  obtain ⟨hc0, hf0⟩ := G1.out.b0.all
  have hz0 := G1.out.b0.lt
  unfold ncz at hc0
  have hq10 := G1.out.b0.lt
  have G2 := Hd (G1.out.node hXl [.int .i64 8, .string ⟨#[]⟩, .int .u64 0, .int .i64 0, .bool false, .int .i64 0, .int .i64 0, .int .i64 0, .int .i64 0, .int .i64 (L9 : Int), .slice none 0 0])
  go_wp2_with fail
  refine (HEO.out _ _ G2.out.rd).mono ?_
  rintro e v2 ⟨rfl, hr, hs⟩
  clear hc0 hf0 hz0
  have G3 := Hd (G2.out.call hr hs)
  clear hr hs
  obtain ⟨hc0, hf0, hz0, hc1, hf1, hz1⟩ := G3.out.l2
  have G4 := Hd (G3.out.fk)
  have h0 : Hid (BkSt ts R g c w w.heap.size v1.heap.size (f1 + 1) v2.heap.size Z L9 v2 (exc ts s [123])) := Hd ⟨none, 0, f1, [], G4.out, HZ.out, hfu, by omega, by simp; exact hrl⟩
  have hL01 : w.heap.size < v1.heap.size := hq10
  clear hfu HZ hrl HN
  go_wp2
  go_loopw [8] (fun _ wr => ∃ st, Hid (BkSt ts R g c w w.heap.size v1.heap.size (f1 + 1) v2.heap.size Z L9 wr st)) (fun _ wr => ts.length - atW wr R)
  case atStart => exact ⟨_, h0⟩
  case round =>
    obtain ⟨st, hT⟩ := hrel
    obtain ⟨xk, kk, F, acc, hFr, hZ, hfu2, hFf, hal⟩ := hT.out
    have J0 := Hd hFr
    have HZ2 := Hd hZ
    obtain ⟨c0, c1, c2, f1a, f2a⟩ := J0.out.fr.rd.cells
    have hzR := J0.out.fr.rd.lt
    have hatl := atOf_le (ts := ts) J0.out.fr.rd.hi
    have hm0 := atW_rd J0.out.fr.rd
    clear hFr hZ hT h0 c2 f1a f2a
    by_cases hat : atOf ts st < ts.length
    · have hst : st.bad = false ∧ st.i < ts.length := by
        unfold atOf at hat
        cases hb : st.bad with
        | true => rw [hb] at hat; simp at hat
        | false => rw [hb] at hat; exact ⟨rfl, by simpa using hat⟩
      have qa : (atOf ts st : Int) < (ts.length : Int) := by omega
      have hq1 : ((str (nxt ts st).text).toList == [125]) = hasT ts st [125] := by have := hasT_bytes ts st [125]; rw [str_toList [125]] at this; exact this
      have hF := HFT.out st
      cases hc : hasT ts st [125] with
      | false =>
        rw [hc] at hq1
        have hq2 : ((str (nxt ts st).text).toList != [125]) = true := by simp only [bne, hq1]; rfl
        obtain ⟨F2, rfl⟩ : ∃ F2, F = F2 + 2 := ⟨F - 2, by have := rem_adv hst; omega⟩
        have HZ3 : Hid (Z = S ts (F2 + 2) (.bs (acc ++ [(one (S ts (F2 + 2) .st st)).1])) (one (S ts (F2 + 2) .st st)).2) := Hd (HZ2.out.trans (S_bs_more ⟨hst.1, hst.2, hc⟩))
        have hpr : rem ts (one (S ts (F2 + 2) .st st)).2 + 1 ≤ rem ts st := st_prog hst
        have HON : Hid (On ts st (one (S ts (F2 + 2) .st st)).2) := Hd (S_on ts (F2 + 2) .st st trivial)
        have HST := Hd fun W (h : Rd W R g c ts st) => (HIH.out (F2 + 2) hFf).st st W hst h (by omega)
        have HHIN := Hd hst
        have hfew : acc.length ≤ 99999 := by omega
        have hmm : Hid (atW wr R = atOf ts st) := Hd hm0
        have HAT := Hd hat
        clear HZ2 hst hc hm0 hat
        have hne : 0 < ts.length := by have := HAT.out; omega
        go_wp2
        have G31 := Hd (J0.out.drew)
        go_region_with (go_at_call 56; refine (HNX.out st _ G31.out.fr.rd).mono ?_; rintro e v5 ⟨rfl, hb⟩; have G40 := Hd (G31.out.quiet hXl hb); clear hb)
        all_goals
          clear c0 c1 hzR qa
          obtain ⟨hc0, hf0, hz0, hc1, hf1, hz1⟩ := G40.out.fr.l2
          go_wp2
          have G41 := Hd (G40.out.drew)
          go_region_law (first | (refine fk_append KT1.out hXl (by rfl) _ _ _ (by rfl) Tryz.underlying26 infoNd2 (by rfl) (by simp [Act.eval]) ?_; intro g1 c1 u1 hk6; have KX1 := Hd hk6; clear hk6; obtain ⟨hd10, he10, hy10, hd11, he11, hy11⟩ := KX1.out.fr.l2) | (go_simp; go_at_call 133; refine (HST.out _ G41.out.fr.rd).mono ?_; rintro e y1 ⟨l3, x3, n3, k3, rfl, hT, hr, hs⟩; have KT1 := Hd (G41.out.callT hfew hT hr hs); clear hT hr hs; obtain ⟨hu10, hv10, hw10, hu11, hv11, hw11⟩ := KT1.out.fr.l2))
          all_goals
            clear hu10 hv10 hw10 hu11 hv11 hw11
            clear hc0 hf0 hz0 hc1 hf1 hz1
            have G42 := Hd (KX1.out.s10 hXl (.slice (some ⟨g1, 0, none⟩) (acc.length + 1) c1))
            have JE := Hd G42.out
            have hm1 := atW_rd JE.out.fr.rd
            have hma := atOf_adv2 HHIN.out HON.out hpr JE.out.fr.rd.hi
            have hal2 : (acc ++ [(one (S ts (F2 + 2) .st st)).1]).length = acc.length + 1 := by simp
            have HN2 : Hid (BkSt ts R g c w w.heap.size v1.heap.size (f1 + 1) v2.heap.size Z L9 _ (one (S ts (F2 + 2) .st st)).2) := Hd ⟨some ⟨g1, 0, none⟩, c1, F2 + 1, _, (by rw [hal2]; exact JE.out), HZ3.out, by omega, by omega, by rw [hal2]; omega⟩
            have HM1 := Hd hm1
            have HM : Hid (ts.length - atOf ts (one (S ts (F2 + 2) .st st)).2 < ts.length - atOf ts st) := Hd (by omega)
            clear hm1 hma hal2
            go_wp2
            go_roundw
            case rel => exact ⟨_, HN2⟩
            case measure => (rw [hmm.out]; refine Nat.lt_of_le_of_lt (Nat.le_of_eq ?_) HM.out; exact congrArg (ts.length - ·) HM1.out)
      | true =>
        rw [hc] at hq1
        have hq2 : ((str (nxt ts st).text).toList != [125]) = false := by simp only [bne, hq1]; rfl
        have HZ3 : Hid (Z = (acc, st)) := Hd (HZ2.out.trans (S_bs_end (by rw [hc]; simp)))
        have hmm : Hid (atW wr R = atOf ts st) := Hd hm0
        have HAT := Hd hat
        clear HZ2 hst hc hm0 hat
        have hne : 0 < ts.length := by have := HAT.out; omega
        go_wp2
        have G31 := Hd (J0.out.drew)
        go_region_with (go_at_call 56; refine (HNX.out st _ G31.out.fr.rd).mono ?_; rintro e v5 ⟨rfl, hb⟩; have G40 := Hd (G31.out.quiet hXl hb); clear hb)
        all_goals
          clear c0 c1 hzR qa
          obtain ⟨hc0, hf0, hz0, hc1, hf1, hz1⟩ := G40.out.fr.l2
          have hzz := HZ3.out
          subst hzz
          go_wp2_with fail
          refine (HEC.out _ _ G40.out.fr.rd).mono ?_
          rintro e v6 ⟨rfl, hr, hs⟩
          have G41 := Hd (G40.out.call hr hs)
          clear hr hs hc0 hf0 hz0 hc1 hf1 hz1
          obtain ⟨hc0, hf0, hz0, hc1, hf1, hz1⟩ := G41.out.fr.l2
          have G42 := Hd (G41.out.tree (labK 8 L9))
          go_wp2
          have G43 := Hd (G42.out.stoR hXl (List.Mem.tail _ (List.Mem.head _)) rfl (.int .i64 8) (.string ⟨#[]⟩) (.int .u64 0) (.int .i64 0) (.bool false) (.int .i64 0) (.int .i64 0) (.int .i64 0) (.int .i64 0) (.int .i64 (L9 : Int)) (.slice xk acc.length kk))
          refine bodyPost_ret (G43.out.b0.res1 Tryz.results98 Tryz.underlying28 rfl infoNd _ rfl) rfl ?_
          exact G43.out.outT (rfl)
    · have HZ3 : Hid (Z = (acc, st)) := Hd (HZ2.out.trans (S_bs_end (by
          unfold atOf at hat
          intro hh
          rw [hh.1] at hat
          exact hat (by simpa using hh.2.1))))
      have qa : decide ((atOf ts st : Int) < (ts.length : Int)) = false := by simp; omega
      have qb : decide (atOf ts st < ts.length) = false := by simp; omega
      clear HZ2 hat hm0
      go_wp2
      go_quiet (fail)
      have G51 := Hd (J0.out.drewN nq)
      have hzz := HZ3.out
      subst hzz
      go_wp2_with fail
      refine (HEC.out _ _ G51.out.fr.rd).mono ?_
      rintro e v5 ⟨rfl, hr, hs⟩
      have G52 := Hd (G51.out.call hr hs)
      clear hr hs
      obtain ⟨hc0, hf0, hz0, hc1, hf1, hz1⟩ := G52.out.fr.l2
      have G53 := Hd (G52.out.tree (labK 8 L9))
      go_wp2
      have G54 := Hd (G53.out.stoR hXl (List.Mem.tail _ (List.Mem.head _)) rfl (.int .i64 8) (.string ⟨#[]⟩) (.int .u64 0) (.int .i64 0) (.bool false) (.int .i64 0) (.int .i64 0) (.int .i64 0) (.int .i64 0) (.int .i64 (L9 : Int)) (.slice xk acc.length kk))
      refine bodyPost_ret (G54.out.b0.res1 Tryz.results98 Tryz.underlying28 rfl infoNd _ rfl) rfl ?_
      exact G54.out.outT (rfl)
end Go.Proofs.YtkliclihpobmiaaGreatDoor
/- The rules scalar, division, param: contracts. -/
namespace Go.Proofs.YtkliclihpobmiaaGreatDoor
open Go Go.RowKit
set_option linter.unusedVariables false
set_option linter.unusedSimpArgs false

set_option maxHeartbeats 2000000 in
set_option maxRecDepth 100000 in
theorem scal_any {ts : List Tok} {R g c : Nat} (X : Ctx ts R g c) (s : Sg) (w : World) (hR : Rd w R g c ts s) : Calls Tryz.prog 96 #[.pointer (some ⟨R, 0, none⟩)] w (TP w R g c ts (scal ts s)) := by
 have hXl := X.lt
 have F0 := Hd ((Fr.start hR).node hXl ncz)
 have HN := Hd fun W (h : Rd W R g c ts s) => node_any X 4 W h
 have HNM := Hd fun q W (h : Rd W R g c ts q) => name_any X (s := q) W h
 have HTY := Hd fun q W (h : Rd W R g c ts q) => typN_any X (s := q) W h
 have HEO := Hd fun q W (h : Rd W R g c ts q) => expect_any X (s := q) [58] (by simp) W h
 have HL : Hid (nc (labK 4 (ln ts s)) = [.int .i64 4, .string ⟨#[]⟩, .int .u64 0, .int .i64 0, .bool false, .int .i64 0, .int .i64 0, .int .i64 0, .int .i64 0, .int .i64 ((ln ts s : Nat) : Int), .slice none 0 0]) := Hd rfl
 rw [HL.out] at HN
 have HM : Hid (scal ts s = (.node { labK 4 (ln ts s) with name := nmV ts s, wd := (tyV' ts (exc ts (nmS ts s) [58])).1, sg := (tyV' ts (exc ts (nmS ts s) [58])).2 } [], tyS ts (exc ts (nmS ts s) [58]))) := Hd rfl
 rw [HM.out]
 clear HM hR HL
 go_enter Tryz.func96, Tryz.ntmps96
 go_wp2_with fail
 refine (HN.out _ F0.out.rd).mono ?_
 rintro e v1 ⟨rfl, hb⟩
 have G1 := Hd (F0.out.quiet hXl hb)
 clear hb
 obtain ⟨hc0, hf0⟩ := G1.out.b0.all
 have hz0 := G1.out.b0.lt
 unfold ncz at hc0
 have hq10 := G1.out.b0.lt
 have G2 := Hd (G1.out.node hXl [.int .i64 4, .string ⟨#[]⟩, .int .u64 0, .int .i64 0, .bool false, .int .i64 0, .int .i64 0, .int .i64 0, .int .i64 0, .int .i64 ((ln ts s : Nat) : Int), .slice none 0 0])
 go_wp2_with fail
 refine (HNM.out _ _ G2.out.rd).mono ?_
 rintro e v2 ⟨rfl, hr, hs⟩
 clear hc0 hf0 hz0
 have G3 := Hd (G2.out.call hr hs)
 clear hr hs
 obtain ⟨hc0, hf0, hz0, hc1, hf1, hz1⟩ := G3.out.l2
 have G4 := Hd (G3.out.s1 hXl (.string (str (nmV ts s))))
 go_wp2_with fail
 refine (HEO.out _ _ G4.out.rd).mono ?_
 rintro e v3 ⟨rfl, hr, hs⟩
 have G5 := Hd (G4.out.call hr hs)
 clear hr hs hc0 hf0 hz0 hc1 hf1 hz1
 obtain ⟨hc0, hf0, hz0, hc1, hf1, hz1⟩ := G5.out.l2
 go_wp2_with fail
 refine (HTY.out _ _ G5.out.rd).mono ?_
 rintro e v4 ⟨rfl, hr, hs⟩
 have G6 := Hd (G5.out.call hr hs)
 clear hr hs hc0 hf0 hz0 hc1 hf1 hz1
 obtain ⟨hc0, hf0, hz0, hc1, hf1, hz1⟩ := G6.out.l2
 have G7 := Hd (G6.out.s3 hXl (.int .i64 ((tyV' ts (exc ts (nmS ts s) [58])).1 : Int)))
 have G8 := Hd (G7.out.s4 hXl (.bool (tyV' ts (exc ts (nmS ts s) [58])).2))
 have G9 := Hd (G8.out.leaf { labK 4 (ln ts s) with name := nmV ts s, wd := (tyV' ts (exc ts (nmS ts s) [58])).1, sg := (tyV' ts (exc ts (nmS ts s) [58])).2 })
 go_wp2
 have G10 := Hd (G9.out.stoR hXl (List.Mem.tail _ (List.Mem.head _)) rfl (.int .i64 4) (.string (str (nmV ts s))) (.int .u64 0) (.int .i64 ((tyV' ts (exc ts (nmS ts s) [58])).1 : Int)) (.bool (tyV' ts (exc ts (nmS ts s) [58])).2) (.int .i64 0) (.int .i64 0) (.int .i64 0) (.int .i64 0) (.int .i64 ((ln ts s : Nat) : Int)) (.slice none 0 0))
 refine bodyPost_ret (G10.out.b0.res1 Tryz.results96 Tryz.underlying28 rfl infoNd _ rfl) rfl ?_
 exact G10.out.outT (rfl)

theorem nuV_le (ts : List Tok) (s : Sg) (k : Nat) : nuV ts s k ≤ 1048576 := by
 unfold nuV
 split
 ·rename_i h
  unfold okN at h
  simp at h
  exact h.2.2
 ·omega

set_option maxHeartbeats 2000000 in
set_option maxRecDepth 100000 in
theorem divis_any {ts : List Tok} {R g c : Nat} (X : Ctx ts R g c) (s : Sg) (w : World) (hR : Rd w R g c ts s) : Calls Tryz.prog 135 #[.pointer (some ⟨R, 0, none⟩)] w fun e w' => e = .returned (.tuple #[.int .i64 (divO ts s : Int), .int .i64 (divF ts s : Int)]) ∧ Rd w' R g c ts (divS ts s) ∧ St w w' R := by
 have HSA := Hd fun W (h : Rd W R g c ts s) => skip_any' X [99, 121, 99, 108, 105, 99] (by simp) W h
 have HSB := Hd fun W (h : Rd W R g c ts s) => skip_any' X [98, 108, 111, 99, 107, 115] (by simp) W h
 have HSC := Hd fun W (h : Rd W R g c ts s) => skip_any' X [99, 111, 109, 112, 108, 101, 116, 101] (by simp) W h
 have HNU : Hid (∀ W, Rd W R g c ts (adv s) → Calls Tryz.prog 134 #[.pointer (some ⟨R, 0, none⟩), .int .u64 0] W fun e w' => e = .returned (.int .u64 (nuV ts (adv s) 0 : Int)) ∧ Rd w' R g c ts (nuS ts (adv s) 0) ∧ St W w' R) := Hd fun W h => numb_any X 0 (by omega) W h
 have hle := nuV_le ts (adv s) 0
 have HR := Hd hR
 unfold divO divF divS
 unfold skp at HSA HSB HSC
 clear hR
 cases g0 : hasT ts s [99, 121, 99, 108, 105, 99] with
 | true =>
  rw [g0] at HSA
  simp only [g0, if_true, Bool.false_eq_true, if_false]
  clear g0
  generalize nuV ts (adv s) 0 = NV at *
  go_enter Tryz.func135, Tryz.ntmps135
  go_wp2_with fail
  refine (HSA.out _ HR.out).mono ?_
  rintro e w1 ⟨rfl, hr, hs⟩
  have K1 := Hd (And.intro hr hs)
  clear hr hs
  go_wp2_with fail
  refine (HNU.out _ K1.out.1).mono ?_
  rintro e w2 ⟨rfl, hr, hs⟩
  have K2 := Hd (And.intro hr (St.trans K1.out.2 hs))
  clear hr hs
  go_wp2
  go_ret2
  exact ⟨rfl, K2.out.1, K2.out.2⟩
 | false =>
  rw [g0] at HSA
  cases g1 : hasT ts s [98, 108, 111, 99, 107, 115] with
  | true =>
   rw [g1] at HSB
   simp only [g0, g1, if_true, Bool.false_eq_true, if_false]
   clear g0 g1
   generalize nuV ts (adv s) 0 = NV at *
   go_enter Tryz.func135, Tryz.ntmps135
   go_wp2_with fail
   refine (HSA.out _ HR.out).mono ?_
   rintro e w1 ⟨rfl, hr, hs⟩
   have K1 := Hd (And.intro hr hs)
   clear hr hs
   go_wp2_with fail
   refine (HSB.out _ K1.out.1).mono ?_
   rintro e w2 ⟨rfl, hr, hs⟩
   have K2 := Hd (And.intro hr (St.trans K1.out.2 hs))
   clear hr hs
   go_wp2_with fail
   refine (HNU.out _ K2.out.1).mono ?_
   rintro e w3 ⟨rfl, hr, hs⟩
   have K3 := Hd (And.intro hr (St.trans K2.out.2 hs))
   clear hr hs
   go_wp2
   go_ret2
   exact ⟨rfl, K3.out.1, K3.out.2⟩
  | false =>
   rw [g1] at HSB
   cases g2 : hasT ts s [99, 111, 109, 112, 108, 101, 116, 101] with
   | true =>
    rw [g2] at HSC
    simp only [g0, g1, g2, if_true, Bool.false_eq_true, if_false]
    clear g0 g1 g2
    generalize nuV ts (adv s) 0 = NV at *
    go_enter Tryz.func135, Tryz.ntmps135
    go_wp2_with fail
    refine (HSA.out _ HR.out).mono ?_
    rintro e w1 ⟨rfl, hr, hs⟩
    have K1 := Hd (And.intro hr hs)
    clear hr hs
    go_wp2_with fail
    refine (HSB.out _ K1.out.1).mono ?_
    rintro e w2 ⟨rfl, hr, hs⟩
    have K2 := Hd (And.intro hr (St.trans K1.out.2 hs))
    clear hr hs
    go_wp2_with fail
    refine (HSC.out _ K2.out.1).mono ?_
    rintro e w3 ⟨rfl, hr, hs⟩
    have K3 := Hd (And.intro hr (St.trans K2.out.2 hs))
    clear hr hs
    go_wp2
    go_ret2
    exact ⟨rfl, K3.out.1, K3.out.2⟩
   | false =>
    rw [g2] at HSC
    simp only [g0, g1, g2, Bool.false_eq_true, if_false]
    clear g0 g1 g2
    go_enter Tryz.func135, Tryz.ntmps135
    go_wp2_with fail
    refine (HSA.out _ HR.out).mono ?_
    rintro e w1 ⟨rfl, hr, hs⟩
    have K1 := Hd (And.intro hr hs)
    clear hr hs
    go_wp2_with fail
    refine (HSB.out _ K1.out.1).mono ?_
    rintro e w2 ⟨rfl, hr, hs⟩
    have K2 := Hd (And.intro hr (St.trans K1.out.2 hs))
    clear hr hs
    go_wp2_with fail
    refine (HSC.out _ K2.out.1).mono ?_
    rintro e w3 ⟨rfl, hr, hs⟩
    have K3 := Hd (And.intro hr (St.trans K2.out.2 hs))
    clear hr hs
    go_wp2
    go_ret2
    exact ⟨rfl, K3.out.1, K3.out.2⟩

set_option maxHeartbeats 2000000 in
set_option maxRecDepth 100000 in
theorem prm_any {ts : List Tok} {R g c : Nat} (X : Ctx ts R g c) (s : Sg) (w : World) (hR : Rd w R g c ts s) : Calls Tryz.prog 99 #[.pointer (some ⟨R, 0, none⟩)] w (TP w R g c ts (prm ts s)) := by
 have hXl := X.lt
 have F0 := Hd ((Fr.start hR).node hXl ncz)
 have HN := Hd fun W (h : Rd W R g c ts s) => node_any X 4 W h
 have HNM := Hd fun q W (h : Rd W R g c ts q) => name_any X (s := q) W h
 have HTY := Hd fun q W (h : Rd W R g c ts q) => typN_any X (s := q) W h
 have HEO := Hd fun q W (h : Rd W R g c ts q) => expect_any X (s := q) [58] (by simp) W h
 have HEB := Hd fun q W (h : Rd W R g c ts q) => expect_any X (s := q) [93] (by simp) W h
 have HSA := Hd fun W (h : Rd W R g c ts (exc ts (nmS ts s) [58])) => skip_any' X [105, 110] (by simp) W h
 have HSB := Hd fun W (h : Rd W R g c ts (exc ts (nmS ts s) [58])) => skip_any' X [111, 117, 116] (by simp) W h
 unfold skp at HSA HSB
 have HL : Hid (nc (labK 4 (ln ts s)) = [.int .i64 4, .string ⟨#[]⟩, .int .u64 0, .int .i64 0, .bool false, .int .i64 0, .int .i64 0, .int .i64 0, .int .i64 0, .int .i64 ((ln ts s : Nat) : Int), .slice none 0 0]) := Hd rfl
 rw [HL.out] at HN
 cases g0 : hasT ts (exc ts (nmS ts s) [58]) [105, 110] with
 | true =>
  have hk : prmK ts (exc ts (nmS ts s) [58]) = 6 := by unfold prmK; simp [g0]
  have hs : prmS ts (exc ts (nmS ts s) [58]) = adv (exc ts (nmS ts s) [58]) := by unfold prmS; simp [g0]
  have HM : Hid (prm ts s = (.node { labK 6 (ln ts s) with name := nmV ts s, wd := (tyV' ts (adv (exc ts (nmS ts s) [58]))).1, sg := (tyV' ts (adv (exc ts (nmS ts s) [58]))).2 } [], tyS ts (adv (exc ts (nmS ts s) [58])))) := Hd (by unfold prm; dsimp only; rw [hk, hs, if_neg (by simp)]; rfl)
  rw [HM.out]
  rw [g0] at HSA
  clear HM hR HL hk hs g0
  go_enter Tryz.func99, Tryz.ntmps99
  go_wp2_with fail
  refine (HN.out _ F0.out.rd).mono ?_
  rintro e v1 ⟨rfl, hb⟩
  have G1 := Hd (F0.out.quiet hXl hb)
  clear hb
  obtain ⟨hc0, hf0⟩ := G1.out.b0.all
  have hz0 := G1.out.b0.lt
  unfold ncz at hc0
  have hq10 := G1.out.b0.lt
  have G2 := Hd (G1.out.node hXl [.int .i64 4, .string ⟨#[]⟩, .int .u64 0, .int .i64 0, .bool false, .int .i64 0, .int .i64 0, .int .i64 0, .int .i64 0, .int .i64 ((ln ts s : Nat) : Int), .slice none 0 0])
  go_wp2_with fail
  refine (HNM.out _ _ G2.out.rd).mono ?_
  rintro e v2 ⟨rfl, hr, hs⟩
  clear hc0 hf0 hz0
  have G3 := Hd (G2.out.call hr hs)
  clear hr hs
  obtain ⟨hc0, hf0, hz0, hc1, hf1, hz1⟩ := G3.out.l2
  have G4 := Hd (G3.out.s1 hXl (.string (str (nmV ts s))))
  go_wp2_with fail
  refine (HEO.out _ _ G4.out.rd).mono ?_
  rintro e v3 ⟨rfl, hr, hs⟩
  have G5 := Hd (G4.out.call hr hs)
  clear hr hs hc0 hf0 hz0 hc1 hf1 hz1
  obtain ⟨hc0, hf0, hz0, hc1, hf1, hz1⟩ := G5.out.l2
  go_wp2_with fail
  refine (HSA.out _ G5.out.rd).mono ?_
  rintro e v4 ⟨rfl, hr, hs⟩
  have G6 := Hd (G5.out.call hr hs)
  clear hr hs hc0 hf0 hz0 hc1 hf1 hz1
  obtain ⟨hc0, hf0, hz0, hc1, hf1, hz1⟩ := G6.out.l2
  have G7 := Hd (G6.out.s0 hXl (.int .i64 6))
  go_wp2_with fail
  refine (HTY.out _ _ G7.out.rd).mono ?_
  rintro e v5 ⟨rfl, hr, hs⟩
  have G8 := Hd (G7.out.call hr hs)
  clear hr hs hc0 hf0 hz0 hc1 hf1 hz1
  obtain ⟨hc0, hf0, hz0, hc1, hf1, hz1⟩ := G8.out.l2
  have G9 := Hd (G8.out.s3 hXl (.int .i64 ((tyV' ts (adv (exc ts (nmS ts s) [58]))).1 : Int)))
  have G10 := Hd (G9.out.s4 hXl (.bool (tyV' ts (adv (exc ts (nmS ts s) [58]))).2))
  have G11 := Hd (G10.out.leaf { labK 6 (ln ts s) with name := nmV ts s, wd := (tyV' ts (adv (exc ts (nmS ts s) [58]))).1, sg := (tyV' ts (adv (exc ts (nmS ts s) [58]))).2 })
  go_wp2
  have G12 := Hd (G11.out.stoR hXl (List.Mem.tail _ (List.Mem.head _)) rfl (.int .i64 6) (.string (str (nmV ts s))) (.int .u64 0) (.int .i64 ((tyV' ts (adv (exc ts (nmS ts s) [58]))).1 : Int)) (.bool (tyV' ts (adv (exc ts (nmS ts s) [58]))).2) (.int .i64 0) (.int .i64 0) (.int .i64 0) (.int .i64 0) (.int .i64 ((ln ts s : Nat) : Int)) (.slice none 0 0))
  refine bodyPost_ret (G12.out.b0.res1 Tryz.results99 Tryz.underlying28 rfl infoNd _ rfl) rfl ?_
  exact G12.out.outT (rfl)
 | false =>
  rw [g0] at HSA
  cases g1 : hasT ts (exc ts (nmS ts s) [58]) [111, 117, 116] with
  | true =>
   have hk : prmK ts (exc ts (nmS ts s) [58]) = 7 := by unfold prmK; simp [g0, g1]
   have hs : prmS ts (exc ts (nmS ts s) [58]) = adv (exc ts (nmS ts s) [58]) := by unfold prmS; simp [g0, g1]
   have HM : Hid (prm ts s = (.node { labK 7 (ln ts s) with name := nmV ts s, wd := (tyV' ts (adv (exc ts (nmS ts s) [58]))).1, sg := (tyV' ts (adv (exc ts (nmS ts s) [58]))).2 } [], tyS ts (adv (exc ts (nmS ts s) [58])))) := Hd (by unfold prm; dsimp only; rw [hk, hs, if_neg (by simp)]; rfl)
   rw [HM.out]
   rw [g1] at HSB
   clear HM hR HL hk hs g0 g1
   go_enter Tryz.func99, Tryz.ntmps99
   go_wp2_with fail
   refine (HN.out _ F0.out.rd).mono ?_
   rintro e v1 ⟨rfl, hb⟩
   have G1 := Hd (F0.out.quiet hXl hb)
   clear hb
   obtain ⟨hc0, hf0⟩ := G1.out.b0.all
   have hz0 := G1.out.b0.lt
   unfold ncz at hc0
   have hq10 := G1.out.b0.lt
   have G2 := Hd (G1.out.node hXl [.int .i64 4, .string ⟨#[]⟩, .int .u64 0, .int .i64 0, .bool false, .int .i64 0, .int .i64 0, .int .i64 0, .int .i64 0, .int .i64 ((ln ts s : Nat) : Int), .slice none 0 0])
   go_wp2_with fail
   refine (HNM.out _ _ G2.out.rd).mono ?_
   rintro e v2 ⟨rfl, hr, hs⟩
   clear hc0 hf0 hz0
   have G3 := Hd (G2.out.call hr hs)
   clear hr hs
   obtain ⟨hc0, hf0, hz0, hc1, hf1, hz1⟩ := G3.out.l2
   have G4 := Hd (G3.out.s1 hXl (.string (str (nmV ts s))))
   go_wp2_with fail
   refine (HEO.out _ _ G4.out.rd).mono ?_
   rintro e v3 ⟨rfl, hr, hs⟩
   have G5 := Hd (G4.out.call hr hs)
   clear hr hs hc0 hf0 hz0 hc1 hf1 hz1
   obtain ⟨hc0, hf0, hz0, hc1, hf1, hz1⟩ := G5.out.l2
   go_wp2_with fail
   refine (HSA.out _ G5.out.rd).mono ?_
   rintro e v4 ⟨rfl, hr, hs⟩
   have G6 := Hd (G5.out.call hr hs)
   clear hr hs hc0 hf0 hz0 hc1 hf1 hz1
   obtain ⟨hc0, hf0, hz0, hc1, hf1, hz1⟩ := G6.out.l2
   go_wp2_with fail
   refine (HSB.out _ G6.out.rd).mono ?_
   rintro e v5 ⟨rfl, hr, hs⟩
   have G7 := Hd (G6.out.call hr hs)
   clear hr hs hc0 hf0 hz0 hc1 hf1 hz1
   obtain ⟨hc0, hf0, hz0, hc1, hf1, hz1⟩ := G7.out.l2
   have G8 := Hd (G7.out.s0 hXl (.int .i64 7))
   go_wp2_with fail
   refine (HTY.out _ _ G8.out.rd).mono ?_
   rintro e v6 ⟨rfl, hr, hs⟩
   have G9 := Hd (G8.out.call hr hs)
   clear hr hs hc0 hf0 hz0 hc1 hf1 hz1
   obtain ⟨hc0, hf0, hz0, hc1, hf1, hz1⟩ := G9.out.l2
   have G10 := Hd (G9.out.s3 hXl (.int .i64 ((tyV' ts (adv (exc ts (nmS ts s) [58]))).1 : Int)))
   have G11 := Hd (G10.out.s4 hXl (.bool (tyV' ts (adv (exc ts (nmS ts s) [58]))).2))
   have G12 := Hd (G11.out.leaf { labK 7 (ln ts s) with name := nmV ts s, wd := (tyV' ts (adv (exc ts (nmS ts s) [58]))).1, sg := (tyV' ts (adv (exc ts (nmS ts s) [58]))).2 })
   go_wp2
   have G13 := Hd (G12.out.stoR hXl (List.Mem.tail _ (List.Mem.head _)) rfl (.int .i64 7) (.string (str (nmV ts s))) (.int .u64 0) (.int .i64 ((tyV' ts (adv (exc ts (nmS ts s) [58]))).1 : Int)) (.bool (tyV' ts (adv (exc ts (nmS ts s) [58]))).2) (.int .i64 0) (.int .i64 0) (.int .i64 0) (.int .i64 0) (.int .i64 ((ln ts s : Nat) : Int)) (.slice none 0 0))
   refine bodyPost_ret (G13.out.b0.res1 Tryz.results99 Tryz.underlying28 rfl infoNd _ rfl) rfl ?_
   exact G13.out.outT (rfl)
  | false =>
   rw [g1] at HSB
   have hk : prmK ts (exc ts (nmS ts s) [58]) = 4 := by unfold prmK; simp [g0, g1]
   have hs : prmS ts (exc ts (nmS ts s) [58]) = exc ts (nmS ts s) [58] := by unfold prmS; simp [g0, g1]
   have HSD := Hd fun W (h : Rd W R g c ts (tyS ts (exc ts (nmS ts s) [58]))) => skip_any' X [91] (by simp) W h
   have HDV := Hd fun q W (h : Rd W R g c ts q) => divis_any X q W h
   have HNU : Hid (∀ W, Rd W R g c ts (adv (tyS ts (exc ts (nmS ts s) [58]))) → Calls Tryz.prog 134 #[.pointer (some ⟨R, 0, none⟩), .int .u64 0] W fun e w' => e = .returned (.int .u64 (nuV ts (adv (tyS ts (exc ts (nmS ts s) [58]))) 0 : Int)) ∧ Rd w' R g c ts (nuS ts (adv (tyS ts (exc ts (nmS ts s) [58]))) 0) ∧ St W w' R) := Hd fun W h => numb_any X 0 (by omega) W h
   unfold skp at HSD
   cases g2 : hasT ts (tyS ts (exc ts (nmS ts s) [58])) [91] with
   | true =>
    have HM : Hid (prm ts s = (.node { labK 5 (ln ts s) with name := nmV ts s, wd := (tyV' ts (exc ts (nmS ts s) [58])).1, sg := (tyV' ts (exc ts (nmS ts s) [58])).2, num := nuV ts (adv (tyS ts (exc ts (nmS ts s) [58]))) 0, op := divO ts (exc ts (nuS ts (adv (tyS ts (exc ts (nmS ts s) [58]))) 0) [93]), fac := divF ts (exc ts (nuS ts (adv (tyS ts (exc ts (nmS ts s) [58]))) 0) [93]) } [], divS ts (exc ts (nuS ts (adv (tyS ts (exc ts (nmS ts s) [58]))) 0) [93]))) := Hd (by unfold prm; dsimp only; rw [hk, hs, if_pos ⟨rfl, g2⟩])
    rw [HM.out]
    rw [g2] at HSD
    clear HM hR HL hk hs g0 g1 g2
    go_enter Tryz.func99, Tryz.ntmps99
    go_wp2_with fail
    refine (HN.out _ F0.out.rd).mono ?_
    rintro e v1 ⟨rfl, hb⟩
    have G1 := Hd (F0.out.quiet hXl hb)
    clear hb
    obtain ⟨hc0, hf0⟩ := G1.out.b0.all
    have hz0 := G1.out.b0.lt
    unfold ncz at hc0
    have hq10 := G1.out.b0.lt
    have G2 := Hd (G1.out.node hXl [.int .i64 4, .string ⟨#[]⟩, .int .u64 0, .int .i64 0, .bool false, .int .i64 0, .int .i64 0, .int .i64 0, .int .i64 0, .int .i64 ((ln ts s : Nat) : Int), .slice none 0 0])
    go_wp2_with fail
    refine (HNM.out _ _ G2.out.rd).mono ?_
    rintro e v2 ⟨rfl, hr, hs⟩
    clear hc0 hf0 hz0
    have G3 := Hd (G2.out.call hr hs)
    clear hr hs
    obtain ⟨hc0, hf0, hz0, hc1, hf1, hz1⟩ := G3.out.l2
    have G4 := Hd (G3.out.s1 hXl (.string (str (nmV ts s))))
    go_wp2_with fail
    refine (HEO.out _ _ G4.out.rd).mono ?_
    rintro e v3 ⟨rfl, hr, hs⟩
    have G5 := Hd (G4.out.call hr hs)
    clear hr hs hc0 hf0 hz0 hc1 hf1 hz1
    obtain ⟨hc0, hf0, hz0, hc1, hf1, hz1⟩ := G5.out.l2
    go_wp2_with fail
    refine (HSA.out _ G5.out.rd).mono ?_
    rintro e v4 ⟨rfl, hr, hs⟩
    have G6 := Hd (G5.out.call hr hs)
    clear hr hs hc0 hf0 hz0 hc1 hf1 hz1
    obtain ⟨hc0, hf0, hz0, hc1, hf1, hz1⟩ := G6.out.l2
    go_wp2_with fail
    refine (HSB.out _ G6.out.rd).mono ?_
    rintro e v5 ⟨rfl, hr, hs⟩
    have G7 := Hd (G6.out.call hr hs)
    clear hr hs hc0 hf0 hz0 hc1 hf1 hz1
    obtain ⟨hc0, hf0, hz0, hc1, hf1, hz1⟩ := G7.out.l2
    go_wp2_with fail
    refine (HTY.out _ _ G7.out.rd).mono ?_
    rintro e v6 ⟨rfl, hr, hs⟩
    have G8 := Hd (G7.out.call hr hs)
    clear hr hs hc0 hf0 hz0 hc1 hf1 hz1
    obtain ⟨hc0, hf0, hz0, hc1, hf1, hz1⟩ := G8.out.l2
    have G9 := Hd (G8.out.s3 hXl (.int .i64 ((tyV' ts (exc ts (nmS ts s) [58])).1 : Int)))
    have G10 := Hd (G9.out.s4 hXl (.bool (tyV' ts (exc ts (nmS ts s) [58])).2))
    go_wp2_with fail
    refine (HSD.out _ G10.out.rd).mono ?_
    rintro e v7 ⟨rfl, hr, hs⟩
    have G11 := Hd (G10.out.call hr hs)
    clear hr hs hc0 hf0 hz0 hc1 hf1 hz1
    obtain ⟨hc0, hf0, hz0, hc1, hf1, hz1⟩ := G11.out.l2
    have G12 := Hd (G11.out.s0 hXl (.int .i64 5))
    go_wp2_with fail
    refine (HNU.out _ G12.out.rd).mono ?_
    rintro e v8 ⟨rfl, hr, hs⟩
    have G13 := Hd (G12.out.call hr hs)
    clear hr hs hc0 hf0 hz0 hc1 hf1 hz1
    obtain ⟨hc0, hf0, hz0, hc1, hf1, hz1⟩ := G13.out.l2
    have G14 := Hd (G13.out.s2 hXl (.int .u64 (nuV ts (adv (tyS ts (exc ts (nmS ts s) [58]))) 0 : Int)))
    go_wp2_with fail
    refine (HEB.out _ _ G14.out.rd).mono ?_
    rintro e v9 ⟨rfl, hr, hs⟩
    have G15 := Hd (G14.out.call hr hs)
    clear hr hs hc0 hf0 hz0 hc1 hf1 hz1
    obtain ⟨hc0, hf0, hz0, hc1, hf1, hz1⟩ := G15.out.l2
    go_wp2_with fail
    refine (HDV.out _ _ G15.out.rd).mono ?_
    rintro e v10 ⟨rfl, hr, hs⟩
    have G16 := Hd (G15.out.call hr hs)
    clear hr hs hc0 hf0 hz0 hc1 hf1 hz1
    obtain ⟨hc0, hf0, hz0, hc1, hf1, hz1⟩ := G16.out.l2
    have G17 := Hd (G16.out.s5 hXl (.int .i64 (divO ts (exc ts (nuS ts (adv (tyS ts (exc ts (nmS ts s) [58]))) 0) [93]) : Int)))
    have G18 := Hd (G17.out.s6 hXl (.int .i64 (divF ts (exc ts (nuS ts (adv (tyS ts (exc ts (nmS ts s) [58]))) 0) [93]) : Int)))
    have G19 := Hd (G18.out.leaf { labK 5 (ln ts s) with name := nmV ts s, wd := (tyV' ts (exc ts (nmS ts s) [58])).1, sg := (tyV' ts (exc ts (nmS ts s) [58])).2, num := nuV ts (adv (tyS ts (exc ts (nmS ts s) [58]))) 0, op := divO ts (exc ts (nuS ts (adv (tyS ts (exc ts (nmS ts s) [58]))) 0) [93]), fac := divF ts (exc ts (nuS ts (adv (tyS ts (exc ts (nmS ts s) [58]))) 0) [93]) })
    go_wp2
    have G20 := Hd (G19.out.stoR hXl (List.Mem.tail _ (List.Mem.head _)) rfl (.int .i64 5) (.string (str (nmV ts s))) (.int .u64 (nuV ts (adv (tyS ts (exc ts (nmS ts s) [58]))) 0 : Int)) (.int .i64 ((tyV' ts (exc ts (nmS ts s) [58])).1 : Int)) (.bool (tyV' ts (exc ts (nmS ts s) [58])).2) (.int .i64 (divO ts (exc ts (nuS ts (adv (tyS ts (exc ts (nmS ts s) [58]))) 0) [93]) : Int)) (.int .i64 (divF ts (exc ts (nuS ts (adv (tyS ts (exc ts (nmS ts s) [58]))) 0) [93]) : Int)) (.int .i64 0) (.int .i64 0) (.int .i64 ((ln ts s : Nat) : Int)) (.slice none 0 0))
    refine bodyPost_ret (G20.out.b0.res1 Tryz.results99 Tryz.underlying28 rfl infoNd _ rfl) rfl ?_
    exact G20.out.outT (rfl)
   | false =>
    have HM : Hid (prm ts s = (.node { labK 4 (ln ts s) with name := nmV ts s, wd := (tyV' ts (exc ts (nmS ts s) [58])).1, sg := (tyV' ts (exc ts (nmS ts s) [58])).2 } [], tyS ts (exc ts (nmS ts s) [58]))) := Hd (by unfold prm; dsimp only; rw [hk, hs, if_neg (by simp [g2])]; rfl)
    rw [HM.out]
    rw [g2] at HSD
    clear HM hR HL hk hs g0 g1 g2
    go_enter Tryz.func99, Tryz.ntmps99
    go_wp2_with fail
    refine (HN.out _ F0.out.rd).mono ?_
    rintro e v1 ⟨rfl, hb⟩
    have G1 := Hd (F0.out.quiet hXl hb)
    clear hb
    obtain ⟨hc0, hf0⟩ := G1.out.b0.all
    have hz0 := G1.out.b0.lt
    unfold ncz at hc0
    have hq10 := G1.out.b0.lt
    have G2 := Hd (G1.out.node hXl [.int .i64 4, .string ⟨#[]⟩, .int .u64 0, .int .i64 0, .bool false, .int .i64 0, .int .i64 0, .int .i64 0, .int .i64 0, .int .i64 ((ln ts s : Nat) : Int), .slice none 0 0])
    go_wp2_with fail
    refine (HNM.out _ _ G2.out.rd).mono ?_
    rintro e v2 ⟨rfl, hr, hs⟩
    clear hc0 hf0 hz0
    have G3 := Hd (G2.out.call hr hs)
    clear hr hs
    obtain ⟨hc0, hf0, hz0, hc1, hf1, hz1⟩ := G3.out.l2
    have G4 := Hd (G3.out.s1 hXl (.string (str (nmV ts s))))
    go_wp2_with fail
    refine (HEO.out _ _ G4.out.rd).mono ?_
    rintro e v3 ⟨rfl, hr, hs⟩
    have G5 := Hd (G4.out.call hr hs)
    clear hr hs hc0 hf0 hz0 hc1 hf1 hz1
    obtain ⟨hc0, hf0, hz0, hc1, hf1, hz1⟩ := G5.out.l2
    go_wp2_with fail
    refine (HSA.out _ G5.out.rd).mono ?_
    rintro e v4 ⟨rfl, hr, hs⟩
    have G6 := Hd (G5.out.call hr hs)
    clear hr hs hc0 hf0 hz0 hc1 hf1 hz1
    obtain ⟨hc0, hf0, hz0, hc1, hf1, hz1⟩ := G6.out.l2
    go_wp2_with fail
    refine (HSB.out _ G6.out.rd).mono ?_
    rintro e v5 ⟨rfl, hr, hs⟩
    have G7 := Hd (G6.out.call hr hs)
    clear hr hs hc0 hf0 hz0 hc1 hf1 hz1
    obtain ⟨hc0, hf0, hz0, hc1, hf1, hz1⟩ := G7.out.l2
    go_wp2_with fail
    refine (HTY.out _ _ G7.out.rd).mono ?_
    rintro e v6 ⟨rfl, hr, hs⟩
    have G8 := Hd (G7.out.call hr hs)
    clear hr hs hc0 hf0 hz0 hc1 hf1 hz1
    obtain ⟨hc0, hf0, hz0, hc1, hf1, hz1⟩ := G8.out.l2
    have G9 := Hd (G8.out.s3 hXl (.int .i64 ((tyV' ts (exc ts (nmS ts s) [58])).1 : Int)))
    have G10 := Hd (G9.out.s4 hXl (.bool (tyV' ts (exc ts (nmS ts s) [58])).2))
    go_wp2_with fail
    refine (HSD.out _ G10.out.rd).mono ?_
    rintro e v7 ⟨rfl, hr, hs⟩
    have G11 := Hd (G10.out.call hr hs)
    clear hr hs hc0 hf0 hz0 hc1 hf1 hz1
    obtain ⟨hc0, hf0, hz0, hc1, hf1, hz1⟩ := G11.out.l2
    have G12 := Hd (G11.out.leaf { labK 4 (ln ts s) with name := nmV ts s, wd := (tyV' ts (exc ts (nmS ts s) [58])).1, sg := (tyV' ts (exc ts (nmS ts s) [58])).2 })
    go_wp2
    have G13 := Hd (G12.out.stoR hXl (List.Mem.tail _ (List.Mem.head _)) rfl (.int .i64 4) (.string (str (nmV ts s))) (.int .u64 0) (.int .i64 ((tyV' ts (exc ts (nmS ts s) [58])).1 : Int)) (.bool (tyV' ts (exc ts (nmS ts s) [58])).2) (.int .i64 0) (.int .i64 0) (.int .i64 0) (.int .i64 0) (.int .i64 ((ln ts s : Nat) : Int)) (.slice none 0 0))
    refine bodyPost_ret (G13.out.b0.res1 Tryz.results99 Tryz.underlying28 rfl infoNd _ rfl) rfl ?_
    exact G13.out.outT (rfl)
end Go.Proofs.YtkliclihpobmiaaGreatDoor
/- The rule for lists in round brackets: contract, over the rule scalar. -/
namespace Go.Proofs.YtkliclihpobmiaaGreatDoor
open Go Go.RowKit
set_option linter.unusedVariables false

set_option maxHeartbeats 2000000 in
set_option maxRecDepth 100000 in
theorem list_scalar {ts : List Tok} {R g c : Nat} (X : Ctx ts R g c) (item : Sg → Tree × Sg) (hOn : ∀ s, On ts s (item s).2) (s : Sg) (F : Nat) (hF : rem ts (exc ts s [40]) + 1 ≤ F)
  (HI : ∀ q w, On ts (exc ts s [40]) q → Rd w R g c ts q → Calls Tryz.prog 96 #[.pointer (some ⟨R, 0, none⟩)] w (TP w R g c ts (item q))) (w : World) (hR : Rd w R g c ts s) :
  Calls Tryz.prog 95 #[.pointer (some ⟨R, 0, none⟩), .func (Fn.func 96) #[.pointer (some ⟨R, 0, none⟩)] #[]] w (LP w R g c ts (listM ts item F s)) := by
 have hXl := X.lt
 have hRl := hR.lt
 have HEX := Hd fun q W (h : Rd W R g c ts q) => expect_any X (s := q) [40] (by simp) W h
 have HEY := Hd fun q W (h : Rd W R g c ts q) => expect_any X (s := q) [41] (by simp) W h
 have HSK := Hd fun q W (h : Rd W R g c ts q) => skip_any' X (s := q) [41] (by simp) W h
 have HSC := Hd fun q W (h : Rd W R g c ts q) => skip_any' X (s := q) [44] (by simp) W h
 have HIT := Hd HI
 have HR := Hd hR
 unfold skp at HSK HSC
 clear hR HI
 cases hh : hasT ts (exc ts s [40]) [41] with
 | true =>
  rw [listM_shut hh]
  have HSK2 := Hd (HSK.out (exc ts s [40]))
  rw [hh] at HSK2
  clear hh HSK HSC HEY HIT
  go_enter Tryz.func95, Tryz.ntmps95
  go_wp2_with fail
  refine (HEX.out s _ HR.out).mono ?_
  rintro e w1 ⟨rfl, hr, hs⟩
  have H1 := Hd (And.intro hr hs)
  clear hr hs
  go_wp2_with fail
  refine (HSK2.out _ H1.out.1).mono ?_
  rintro e w2 ⟨rfl, hr, hs⟩
  have H2 := Hd (And.intro hr (St.trans H1.out.2 hs))
  clear hr hs H1 HSK2
  go_wp2
  go_ret
  exact ⟨_, rfl, kids_nil _ _, H2.out.1, H2.out.2⟩
 | false =>
  rw [listM_open hh]
  have HSK2 := Hd (HSK.out (exc ts s [40]))
  rw [hh] at HSK2
  have hon1 : On ts s (exc ts s [40]) := exc_on
  obtain ⟨X0, hX0⟩ : ∃ X0, X0 = more ts item F [(item (exc ts s [40])).1] (item (exc ts s [40])).2 := ⟨_, rfl⟩
  rw [← hX0]
  have HX0 := Hd hX0
  have HF := Hd hF
  have hlen := X.len
  clear hh HSK hX0 hF
  go_enter Tryz.func95, Tryz.ntmps95
  go_wp2_with fail
  refine (HEX.out s _ HR.out).mono ?_
  rintro e w1 ⟨rfl, hr, hs⟩
  have H1 := Hd (And.intro hr hs)
  clear hr hs
  go_wp2_with fail
  refine (HSK2.out _ H1.out.1).mono ?_
  rintro e w2 ⟨rfl, hr, hs⟩
  have H2 := Hd (And.intro hr (St.trans H1.out.2 hs))
  clear hr hs H1 HSK2
  go_wp2_with fail
  refine (HIT.out (exc ts s [40]) _ (On.refl _ _) H2.out.1).mono ?_
  rintro e w3 ⟨l1, x1, n1, k1, rfl, hT, hr, hs⟩
  have hw3 : w.heap.size ≤ w3.heap.size := Nat.le_trans (St.size H2.out.2) (St.size hs)
  have hrem : rem ts (item (exc ts s [40])).2 ≤ ts.length := by unfold rem; split <;> omega
  have hrem2 := rem_on (hOn (exc ts s [40]))
  have h0 : Hid (LsSt ts R g c item (ts.length + 1) X0 w (w3.alloc (.cells #[.int .i64 l1.kind, .string (str l1.name), .int .u64 l1.num, .int .i64 l1.wd, .bool l1.sg, .int .i64 l1.op, .int .i64 l1.fac, .int .i64 l1.pip, .int .i64 l1.unr, .int .i64 l1.line, .slice x1 n1 k1] 28)) (.slice (some ⟨w3.heap.size, 0, none⟩) 1 1) [(item (exc ts s [40])).1] (item (exc ts s [40])).2) := by
   refine ⟨kids_one (hT.mono fun k hk _ => Nat.le_trans (St.size H2.out.2) hk) hw3, hr.alloc hXl _, (St.trans H2.out.2 hs).alloc _, ⟨F - 1, by have := HF.out; omega, ?_⟩, by simp; omega⟩
   rw [HX0.out]
   congr 1
   have := HF.out
   omega
  have HONI : Hid (On ts (exc ts s [40]) (item (exc ts s [40])).2) := Hd (hOn _)
  clear hr hs hT H2 HX0 HEX hrem2
  go_wp2
  go_loopw [5] (fun v wr => ∃ acc q, slen v = acc.length ∧ Hid (LsSt ts R g c item (ts.length + 1) X0 w wr v acc q ∧ On ts (exc ts s [40]) q)) (fun v _ => ts.length + 1 - slen v)
  case atStart => exact ⟨_, _, rfl, ⟨h0.out, HONI.out⟩⟩
  case round =>
   clear h0 HONI
   obtain ⟨acc, q, hlen5, hL⟩ := hrel
   obtain ⟨m, hm, hX⟩ := hL.out.1.eq
   have hfew := hL.out.1.few
   obtain ⟨xa, ca, hsh⟩ := hL.out.1.kd.shape
   subst hsh
   cases hh : hasT ts q [44] with
   | true =>
    have hin := hasT_in hh
    have hra := rem_adv hin
    have hri := rem_on (hOn (adv q))
    have HX : Hid (X0 = more ts item m (acc ++ [(item (adv q)).1]) (item (adv q)).2) := Hd (by rw [hX, more, if_pos hh])
    have HONQ : Hid (On ts (exc ts s [40]) (adv q)) := Hd (hL.out.2.trans (adv_on hin))
    have HSK3 := Hd (HSC.out q)
    rw [hh] at HSK3
    clear hX hh hin
    go_wp2_with fail
    refine (HSK3.out _ hL.out.1.rd).mono ?_
    rintro e w4 ⟨rfl, hr, hs⟩
    have H4 := Hd (And.intro hr hs)
    clear hr hs HSK3
    go_wp2_with fail
    refine (HIT.out (adv q) _ HONQ.out H4.out.1).mono ?_
    rintro e w5 ⟨l2, x2, n2, k2, rfl, hT, hr, hs⟩
    have HT5 := Hd hT
    have hs45 : St wr w5 R := St.trans H4.out.2 hs
    obtain ⟨C, o1, o2⟩ := St.kids H4.out.2 hL.out.1.kd hRl
    have o5 : w5.ownsRow w.heap.size 28 11 (.slice xa acc.length ca) acc.length (flat C acc.length) := o1.kept hs (by
     right
     intro e
     have := (o1.lt R e).1
     omega)
    have hown := o5.alloc (.cells #[.int .i64 l2.kind, .string (str l2.name), .int .u64 l2.num, .int .i64 l2.wd, .bool l2.sg, .int .i64 l2.op, .int .i64 l2.fac, .int .i64 l2.pip, .int .i64 l2.unr, .int .i64 l2.line, .slice x2 n2 k2] 28)
    have hszw := St.size hL.out.1.st
    have hsz4 := St.size H4.out.2
    have hsz5 := St.size hs
    obtain ⟨i0, hi0, hz0, hz1, hz2⟩ := info_parts infoNd2
    have hnew : Hid (∀ (w6 : World) (g3 c3 : Nat), w6.ownsRow w.heap.size 28 11 (.slice (some ⟨g3, 0, none⟩) (acc.length + 1) c3) (acc.length + 1) (flat C acc.length ++ [.int .i64 l2.kind, .string (str l2.name), .int .u64 l2.num, .int .i64 l2.wd, .bool l2.sg, .int .i64 l2.op, .int .i64 l2.fac, .int .i64 l2.pip, .int .i64 l2.unr, .int .i64 l2.line, .slice x2 n2 k2]) →
      (w5.alloc (.cells #[.int .i64 l2.kind, .string (str l2.name), .int .u64 l2.num, .int .i64 l2.wd, .bool l2.sg, .int .i64 l2.op, .int .i64 l2.fac, .int .i64 l2.pip, .int .i64 l2.unr, .int .i64 l2.line, .slice x2 n2 k2] 28)).grownBy w6 (Value.slice xa acc.length ca).ownBlock → ((Value.slice xa acc.length ca).ownBlock = some g3 ∨ g3 = w5.heap.size + 1) →
      LsSt ts R g c item (ts.length + 1) X0 w w6 (.slice (some ⟨g3, 0, none⟩) (acc.length + 1) c3) (acc ++ [(item (adv q)).1]) (item (adv q)).2) := Hd fun w6 g3 c3 ho hg hl => by
     have hgo : ∀ k, (Value.slice xa acc.length ca).ownBlock = some k → w.heap.size ≤ k ∧ k < w4.heap.size := fun k hk => o1.lt k hk
     have hza : (w5.alloc (.cells #[.int .i64 l2.kind, .string (str l2.name), .int .u64 l2.num, .int .i64 l2.wd, .bool l2.sg, .int .i64 l2.op, .int .i64 l2.fac, .int .i64 l2.pip, .int .i64 l2.unr, .int .i64 l2.line, .slice x2 n2 k2] 28)).heap.size = w5.heap.size + 1 := by simp
     refine ⟨?_, ?_, ?_, ?_, ?_⟩
     ·refine kids_push (w0 := w4) (C := C) (w := w5.alloc (.cells #[.int .i64 l2.kind, .string (str l2.name), .int .u64 l2.num, .int .i64 l2.wd, .bool l2.sg, .int .i64 l2.op, .int .i64 l2.fac, .int .i64 l2.pip, .int .i64 l2.unr, .int .i64 l2.line, .slice x2 n2 k2] 28)) o1 o2 (fun k hk hlt => ?_) (by omega) (by omega) (HT5.out.keep (fun k _ hk => Below.heap_alloc w5 _ k hk) fun k hk _ => hk) hg ?_ ho
      ·exact (Below.heap_alloc w5 _ k (by omega)).trans (World.grownBy.block hs k hlt (fun e => by injection e with e; omega))
      ·rcases hl with hl | hl
       ·exact .inl hl
       ·exact .inr (by omega)
     ·exact (hr.alloc hXl _).own hXl hg fun k hk => by have := (hgo k hk).1; omega
     ·exact St.own ((St.trans hL.out.1.st hs45).alloc _) hg fun k hk => (hgo k hk).1
     ·refine ⟨m - 1, by omega, ?_⟩
      rw [HX.out]
      congr 1
      omega
     ·rw [List.length_append]; simp; omega
    have hal : acc.length ≤ 65537 := by omega
    have HONN : Hid (On ts (exc ts s [40]) (item (adv q)).2) := Hd (HONQ.out.trans (hOn _))
    have hmeas : acc.length < ts.length + 1 := by omega
    clear hr hs hT o1 o2 o5 HIT hs45 H4 HX hm hri hra HSC
    go_wp2_with (at_builtin; refine wpList_append_lies (w := w5.alloc (.cells #[.int .i64 l2.kind, .string (str l2.name), .int .u64 l2.num, .int .i64 l2.wd, .bool l2.sg, .int .i64 l2.op, .int .i64 l2.fac, .int .i64 l2.pip, .int .i64 l2.unr, .int .i64 l2.line, .slice x2 n2 k2] 28)) (by rfl) _ _ _ (by rfl) w.heap.size 28 i0 (.agg #[.int .i64 0, .string ⟨#[]⟩, .int .u64 0, .int .i64 0, .bool false, .int .i64 0, .int .i64 0, .int .i64 0, .int .i64 0, .int .i64 0, .slice none 0 0]) 11 112 Tryz.underlying26 hi0 hz0 hz1 hz2 (by rfl) (by decide) (.slice xa acc.length ca) acc.length (flat C acc.length) (by rfl) hown ⟨w5.heap.size, 0, none⟩ 1 1 [.int .i64 l2.kind, .string (str l2.name), .int .u64 l2.num, .int .i64 l2.wd, .bool l2.sg, .int .i64 l2.op, .int .i64 l2.fac, .int .i64 l2.pip, .int .i64 l2.unr, .int .i64 l2.line, .slice x2 n2 k2] (by simp [Act.eval]) (by rfl) (World.news_of_block (cs := #[.int .i64 l2.kind, .string (str l2.name), .int .u64 l2.num, .int .i64 l2.wd, .bool l2.sg, .int .i64 l2.op, .int .i64 l2.fac, .int .i64 l2.pip, .int .i64 l2.unr, .int .i64 l2.line, .slice x2 n2 k2]) (t := 28) (fr := (0, 0)) (heap_alloc_new w5 _)) (by intro z hz; simp at hz; rcases hz with rfl | rfl | rfl | rfl | rfl | rfl | rfl | rfl | rfl | rfl | rfl <;> rfl) (by decide) (by unfold maxLen; omega) (by omega) (by simp; omega) (w5.heap.size + 1) (by simp) ?_; intro g3 c3 w6 ho3 hg3 hat3 hlt3)
    have HX6 := Hd (hnew.out w6 g3 c3 ho3 hg3 hat3)
    clear ho3 hg3 hat3 hlt3 hnew hown
    go_wp2
    go_roundw
    case rel => exact ⟨_, _, by simp [slen], ⟨HX6.out, HONN.out⟩⟩
    case measure => simp [slen]; omega
   | false =>
    have HX : Hid (X0 = (acc, q)) := Hd (by rw [hX, more, if_neg (by simp [hh])])
    have HSK3 := Hd (HSC.out q)
    rw [hh] at HSK3
    clear hX hh
    go_wp2_with fail
    refine (HSK3.out _ hL.out.1.rd).mono ?_
    rintro e w4 ⟨rfl, hr, hs⟩
    have hkd := St.kids hs hL.out.1.kd hRl
    have H4 := Hd (And.intro hkd (And.intro hr (St.trans hL.out.1.st hs)))
    clear hr hs HSK3 hkd
    go_wp2_with fail
    refine (HEY.out q _ H4.out.2.1).mono ?_
    rintro e w5 ⟨rfl, hr, hs⟩
    have hkd := St.kids hs H4.out.1 hRl
    have H5 := Hd (And.intro hkd (And.intro hr (St.trans H4.out.2.2 hs)))
    clear hr hs hkd
    go_wp2
    go_ret
    rw [HX.out]
    exact ⟨_, rfl, H5.out.1, H5.out.2.1, H5.out.2.2⟩
end Go.Proofs.YtkliclihpobmiaaGreatDoor
/- The rule for lists in round brackets: contract, over the rule param. -/
namespace Go.Proofs.YtkliclihpobmiaaGreatDoor
open Go Go.RowKit
set_option linter.unusedVariables false

set_option maxHeartbeats 2000000 in
set_option maxRecDepth 100000 in
theorem list_param {ts : List Tok} {R g c : Nat} (X : Ctx ts R g c) (item : Sg → Tree × Sg) (hOn : ∀ s, On ts s (item s).2) (s : Sg) (F : Nat) (hF : rem ts (exc ts s [40]) + 1 ≤ F)
  (HI : ∀ q w, On ts (exc ts s [40]) q → Rd w R g c ts q → Calls Tryz.prog 99 #[.pointer (some ⟨R, 0, none⟩)] w (TP w R g c ts (item q))) (w : World) (hR : Rd w R g c ts s) :
  Calls Tryz.prog 95 #[.pointer (some ⟨R, 0, none⟩), .func (Fn.func 99) #[.pointer (some ⟨R, 0, none⟩)] #[]] w (LP w R g c ts (listM ts item F s)) := by
 have hXl := X.lt
 have hRl := hR.lt
 have HEX := Hd fun q W (h : Rd W R g c ts q) => expect_any X (s := q) [40] (by simp) W h
 have HEY := Hd fun q W (h : Rd W R g c ts q) => expect_any X (s := q) [41] (by simp) W h
 have HSK := Hd fun q W (h : Rd W R g c ts q) => skip_any' X (s := q) [41] (by simp) W h
 have HSC := Hd fun q W (h : Rd W R g c ts q) => skip_any' X (s := q) [44] (by simp) W h
 have HIT := Hd HI
 have HR := Hd hR
 unfold skp at HSK HSC
 clear hR HI
 cases hh : hasT ts (exc ts s [40]) [41] with
 | true =>
  rw [listM_shut hh]
  have HSK2 := Hd (HSK.out (exc ts s [40]))
  rw [hh] at HSK2
  clear hh HSK HSC HEY HIT
  go_enter Tryz.func95, Tryz.ntmps95
  go_wp2_with fail
  refine (HEX.out s _ HR.out).mono ?_
  rintro e w1 ⟨rfl, hr, hs⟩
  have H1 := Hd (And.intro hr hs)
  clear hr hs
  go_wp2_with fail
  refine (HSK2.out _ H1.out.1).mono ?_
  rintro e w2 ⟨rfl, hr, hs⟩
  have H2 := Hd (And.intro hr (St.trans H1.out.2 hs))
  clear hr hs H1 HSK2
  go_wp2
  go_ret
  exact ⟨_, rfl, kids_nil _ _, H2.out.1, H2.out.2⟩
 | false =>
  rw [listM_open hh]
  have HSK2 := Hd (HSK.out (exc ts s [40]))
  rw [hh] at HSK2
  have hon1 : On ts s (exc ts s [40]) := exc_on
  obtain ⟨X0, hX0⟩ : ∃ X0, X0 = more ts item F [(item (exc ts s [40])).1] (item (exc ts s [40])).2 := ⟨_, rfl⟩
  rw [← hX0]
  have HX0 := Hd hX0
  have HF := Hd hF
  have hlen := X.len
  clear hh HSK hX0 hF
  go_enter Tryz.func95, Tryz.ntmps95
  go_wp2_with fail
  refine (HEX.out s _ HR.out).mono ?_
  rintro e w1 ⟨rfl, hr, hs⟩
  have H1 := Hd (And.intro hr hs)
  clear hr hs
  go_wp2_with fail
  refine (HSK2.out _ H1.out.1).mono ?_
  rintro e w2 ⟨rfl, hr, hs⟩
  have H2 := Hd (And.intro hr (St.trans H1.out.2 hs))
  clear hr hs H1 HSK2
  go_wp2_with fail
  refine (HIT.out (exc ts s [40]) _ (On.refl _ _) H2.out.1).mono ?_
  rintro e w3 ⟨l1, x1, n1, k1, rfl, hT, hr, hs⟩
  have hw3 : w.heap.size ≤ w3.heap.size := Nat.le_trans (St.size H2.out.2) (St.size hs)
  have hrem : rem ts (item (exc ts s [40])).2 ≤ ts.length := by unfold rem; split <;> omega
  have hrem2 := rem_on (hOn (exc ts s [40]))
  have h0 : Hid (LsSt ts R g c item (ts.length + 1) X0 w (w3.alloc (.cells #[.int .i64 l1.kind, .string (str l1.name), .int .u64 l1.num, .int .i64 l1.wd, .bool l1.sg, .int .i64 l1.op, .int .i64 l1.fac, .int .i64 l1.pip, .int .i64 l1.unr, .int .i64 l1.line, .slice x1 n1 k1] 28)) (.slice (some ⟨w3.heap.size, 0, none⟩) 1 1) [(item (exc ts s [40])).1] (item (exc ts s [40])).2) := by
   refine ⟨kids_one (hT.mono fun k hk _ => Nat.le_trans (St.size H2.out.2) hk) hw3, hr.alloc hXl _, (St.trans H2.out.2 hs).alloc _, ⟨F - 1, by have := HF.out; omega, ?_⟩, by simp; omega⟩
   rw [HX0.out]
   congr 1
   have := HF.out
   omega
  have HONI : Hid (On ts (exc ts s [40]) (item (exc ts s [40])).2) := Hd (hOn _)
  clear hr hs hT H2 HX0 HEX hrem2
  go_wp2
  go_loopw [5] (fun v wr => ∃ acc q, slen v = acc.length ∧ Hid (LsSt ts R g c item (ts.length + 1) X0 w wr v acc q ∧ On ts (exc ts s [40]) q)) (fun v _ => ts.length + 1 - slen v)
  case atStart => exact ⟨_, _, rfl, ⟨h0.out, HONI.out⟩⟩
  case round =>
   clear h0 HONI
   obtain ⟨acc, q, hlen5, hL⟩ := hrel
   obtain ⟨m, hm, hX⟩ := hL.out.1.eq
   have hfew := hL.out.1.few
   obtain ⟨xa, ca, hsh⟩ := hL.out.1.kd.shape
   subst hsh
   cases hh : hasT ts q [44] with
   | true =>
    have hin := hasT_in hh
    have hra := rem_adv hin
    have hri := rem_on (hOn (adv q))
    have HX : Hid (X0 = more ts item m (acc ++ [(item (adv q)).1]) (item (adv q)).2) := Hd (by rw [hX, more, if_pos hh])
    have HONQ : Hid (On ts (exc ts s [40]) (adv q)) := Hd (hL.out.2.trans (adv_on hin))
    have HSK3 := Hd (HSC.out q)
    rw [hh] at HSK3
    clear hX hh hin
    go_wp2_with fail
    refine (HSK3.out _ hL.out.1.rd).mono ?_
    rintro e w4 ⟨rfl, hr, hs⟩
    have H4 := Hd (And.intro hr hs)
    clear hr hs HSK3
    go_wp2_with fail
    refine (HIT.out (adv q) _ HONQ.out H4.out.1).mono ?_
    rintro e w5 ⟨l2, x2, n2, k2, rfl, hT, hr, hs⟩
    have HT5 := Hd hT
    have hs45 : St wr w5 R := St.trans H4.out.2 hs
    obtain ⟨C, o1, o2⟩ := St.kids H4.out.2 hL.out.1.kd hRl
    have o5 : w5.ownsRow w.heap.size 28 11 (.slice xa acc.length ca) acc.length (flat C acc.length) := o1.kept hs (by
     right
     intro e
     have := (o1.lt R e).1
     omega)
    have hown := o5.alloc (.cells #[.int .i64 l2.kind, .string (str l2.name), .int .u64 l2.num, .int .i64 l2.wd, .bool l2.sg, .int .i64 l2.op, .int .i64 l2.fac, .int .i64 l2.pip, .int .i64 l2.unr, .int .i64 l2.line, .slice x2 n2 k2] 28)
    have hszw := St.size hL.out.1.st
    have hsz4 := St.size H4.out.2
    have hsz5 := St.size hs
    obtain ⟨i0, hi0, hz0, hz1, hz2⟩ := info_parts infoNd2
    have hnew : Hid (∀ (w6 : World) (g3 c3 : Nat), w6.ownsRow w.heap.size 28 11 (.slice (some ⟨g3, 0, none⟩) (acc.length + 1) c3) (acc.length + 1) (flat C acc.length ++ [.int .i64 l2.kind, .string (str l2.name), .int .u64 l2.num, .int .i64 l2.wd, .bool l2.sg, .int .i64 l2.op, .int .i64 l2.fac, .int .i64 l2.pip, .int .i64 l2.unr, .int .i64 l2.line, .slice x2 n2 k2]) →
      (w5.alloc (.cells #[.int .i64 l2.kind, .string (str l2.name), .int .u64 l2.num, .int .i64 l2.wd, .bool l2.sg, .int .i64 l2.op, .int .i64 l2.fac, .int .i64 l2.pip, .int .i64 l2.unr, .int .i64 l2.line, .slice x2 n2 k2] 28)).grownBy w6 (Value.slice xa acc.length ca).ownBlock → ((Value.slice xa acc.length ca).ownBlock = some g3 ∨ g3 = w5.heap.size + 1) →
      LsSt ts R g c item (ts.length + 1) X0 w w6 (.slice (some ⟨g3, 0, none⟩) (acc.length + 1) c3) (acc ++ [(item (adv q)).1]) (item (adv q)).2) := Hd fun w6 g3 c3 ho hg hl => by
     have hgo : ∀ k, (Value.slice xa acc.length ca).ownBlock = some k → w.heap.size ≤ k ∧ k < w4.heap.size := fun k hk => o1.lt k hk
     have hza : (w5.alloc (.cells #[.int .i64 l2.kind, .string (str l2.name), .int .u64 l2.num, .int .i64 l2.wd, .bool l2.sg, .int .i64 l2.op, .int .i64 l2.fac, .int .i64 l2.pip, .int .i64 l2.unr, .int .i64 l2.line, .slice x2 n2 k2] 28)).heap.size = w5.heap.size + 1 := by simp
     refine ⟨?_, ?_, ?_, ?_, ?_⟩
     ·refine kids_push (w0 := w4) (C := C) (w := w5.alloc (.cells #[.int .i64 l2.kind, .string (str l2.name), .int .u64 l2.num, .int .i64 l2.wd, .bool l2.sg, .int .i64 l2.op, .int .i64 l2.fac, .int .i64 l2.pip, .int .i64 l2.unr, .int .i64 l2.line, .slice x2 n2 k2] 28)) o1 o2 (fun k hk hlt => ?_) (by omega) (by omega) (HT5.out.keep (fun k _ hk => Below.heap_alloc w5 _ k hk) fun k hk _ => hk) hg ?_ ho
      ·exact (Below.heap_alloc w5 _ k (by omega)).trans (World.grownBy.block hs k hlt (fun e => by injection e with e; omega))
      ·rcases hl with hl | hl
       ·exact .inl hl
       ·exact .inr (by omega)
     ·exact (hr.alloc hXl _).own hXl hg fun k hk => by have := (hgo k hk).1; omega
     ·exact St.own ((St.trans hL.out.1.st hs45).alloc _) hg fun k hk => (hgo k hk).1
     ·refine ⟨m - 1, by omega, ?_⟩
      rw [HX.out]
      congr 1
      omega
     ·rw [List.length_append]; simp; omega
    have hal : acc.length ≤ 65537 := by omega
    have HONN : Hid (On ts (exc ts s [40]) (item (adv q)).2) := Hd (HONQ.out.trans (hOn _))
    have hmeas : acc.length < ts.length + 1 := by omega
    clear hr hs hT o1 o2 o5 HIT hs45 H4 HX hm hri hra HSC
    go_wp2_with (at_builtin; refine wpList_append_lies (w := w5.alloc (.cells #[.int .i64 l2.kind, .string (str l2.name), .int .u64 l2.num, .int .i64 l2.wd, .bool l2.sg, .int .i64 l2.op, .int .i64 l2.fac, .int .i64 l2.pip, .int .i64 l2.unr, .int .i64 l2.line, .slice x2 n2 k2] 28)) (by rfl) _ _ _ (by rfl) w.heap.size 28 i0 (.agg #[.int .i64 0, .string ⟨#[]⟩, .int .u64 0, .int .i64 0, .bool false, .int .i64 0, .int .i64 0, .int .i64 0, .int .i64 0, .int .i64 0, .slice none 0 0]) 11 112 Tryz.underlying26 hi0 hz0 hz1 hz2 (by rfl) (by decide) (.slice xa acc.length ca) acc.length (flat C acc.length) (by rfl) hown ⟨w5.heap.size, 0, none⟩ 1 1 [.int .i64 l2.kind, .string (str l2.name), .int .u64 l2.num, .int .i64 l2.wd, .bool l2.sg, .int .i64 l2.op, .int .i64 l2.fac, .int .i64 l2.pip, .int .i64 l2.unr, .int .i64 l2.line, .slice x2 n2 k2] (by simp [Act.eval]) (by rfl) (World.news_of_block (cs := #[.int .i64 l2.kind, .string (str l2.name), .int .u64 l2.num, .int .i64 l2.wd, .bool l2.sg, .int .i64 l2.op, .int .i64 l2.fac, .int .i64 l2.pip, .int .i64 l2.unr, .int .i64 l2.line, .slice x2 n2 k2]) (t := 28) (fr := (0, 0)) (heap_alloc_new w5 _)) (by intro z hz; simp at hz; rcases hz with rfl | rfl | rfl | rfl | rfl | rfl | rfl | rfl | rfl | rfl | rfl <;> rfl) (by decide) (by unfold maxLen; omega) (by omega) (by simp; omega) (w5.heap.size + 1) (by simp) ?_; intro g3 c3 w6 ho3 hg3 hat3 hlt3)
    have HX6 := Hd (hnew.out w6 g3 c3 ho3 hg3 hat3)
    clear ho3 hg3 hat3 hlt3 hnew hown
    go_wp2
    go_roundw
    case rel => exact ⟨_, _, by simp [slen], ⟨HX6.out, HONN.out⟩⟩
    case measure => simp [slen]; omega
   | false =>
    have HX : Hid (X0 = (acc, q)) := Hd (by rw [hX, more, if_neg (by simp [hh])])
    have HSK3 := Hd (HSC.out q)
    rw [hh] at HSK3
    clear hX hh
    go_wp2_with fail
    refine (HSK3.out _ hL.out.1.rd).mono ?_
    rintro e w4 ⟨rfl, hr, hs⟩
    have hkd := St.kids hs hL.out.1.kd hRl
    have H4 := Hd (And.intro hkd (And.intro hr (St.trans hL.out.1.st hs)))
    clear hr hs HSK3 hkd
    go_wp2_with fail
    refine (HEY.out q _ H4.out.2.1).mono ?_
    rintro e w5 ⟨rfl, hr, hs⟩
    have hkd := St.kids hs H4.out.1 hRl
    have H5 := Hd (And.intro hkd (And.intro hr (St.trans H4.out.2.2 hs)))
    clear hr hs hkd
    go_wp2
    go_ret
    rw [HX.out]
    exact ⟨_, rfl, H5.out.1, H5.out.2.1, H5.out.2.2⟩
end Go.Proofs.YtkliclihpobmiaaGreatDoor
/- All rules of statements, given the rule loop: the contract of block; how long lists can be. -/
namespace Go.Proofs.YtkliclihpobmiaaGreatDoor
open Go Go.RowKit
set_option linter.unusedVariables false

def LoopOK (ts : List Tok) (R g c : Nat) : Prop := ∀ f, SC ts R g c f → ∀ s w, (hasT ts s [35] || hasT ts s [102, 111, 114] || hasT ts s [119, 104, 105, 108, 101]) = true → Rd w R g c ts s → 8 * rem ts s + 3 ≤ f + 1 →
 Calls Tryz.prog 157 #[.pointer (some ⟨R, 0, none⟩)] w (TP w R g c ts (one (S ts (f + 1) .lp s)))
theorem sc_all {ts : List Tok} {R g c : Nat} (X : Ctx ts R g c) (HL : LoopOK ts R g c) : ∀ f f1, f1 ≤ f → SC ts R g c f1 := by
 intro f
 induction f with
 | zero =>
  intro f1 h1
  obtain rfl : f1 = 0 := by omega
  exact ⟨fun s w _ h => by omega, fun s w _ _ h => by omega, fun s w _ _ h => by omega⟩
 | succ f ih =>
  intro f1 h1
  by_cases hle : f1 ≤ f
  ·exact ih f1 hle
  ·obtain rfl : f1 = f + 1 := by omega
   have H := ih f (Nat.le_refl _)
   refine ⟨fun s w hR h => block_step X f ih s w hR h, fun s w hs hR h => statement_step X f H ?_ s w hR h, fun s w hv hR h => branch_step X f H s hv w hR h⟩
   intro q W hq hW hf
   obtain ⟨f0, rfl⟩ : ∃ f0, f = f0 + 1 := ⟨f - 1, by omega⟩
   exact HL f0 (ih f0 (by omega)) q W hq hW hf
theorem blk_any {ts : List Tok} {R g c : Nat} (X : Ctx ts R g c) (HL : LoopOK ts R g c) (s : Sg) (w : World) (hR : Rd w R g c ts s) : Calls Tryz.prog 98 #[.pointer (some ⟨R, 0, none⟩)] w (TP w R g c ts (blk ts s)) := by
 have h := (sc_all X HL (big ts) (big ts) (Nat.le_refl _)).bk s w hR (by have := rem_le (ts := ts) (s := s); unfold big; omega)
 unfold blk
 exact h
theorem more_len {ts : List Tok} {item : Sg → Tree × Sg} (hOn : ∀ s, On ts s (item s).2) : ∀ f acc s, (more ts item f acc s).1.length ≤ acc.length + rem ts s := by
 intro f
 induction f with
 | zero => intro acc s; rw [more]; exact Nat.le_add_right _ _
 | succ f ih =>
  intro acc s
  rw [more]
  split
  ·have h1 := ih (acc ++ [(item (adv s)).1]) (item (adv s)).2
   have h2 := rem_on (hOn (adv s))
   have h3 := rem_adv (hasT_in ‹_›)
   rw [List.length_append] at h1
   simp at h1
   omega
  ·exact Nat.le_add_right _ _
theorem listM_len {ts : List Tok} {item : Sg → Tree × Sg} (hOn : ∀ s, On ts s (item s).2) (f : Nat) (s : Sg) : (listM ts item f s).1.length ≤ 1 + ts.length := by
 unfold listM
 split
 ·simp
 ·have h1 := more_len hOn f [(item (exc ts s [40])).1] (item (exc ts s [40])).2
  have h2 := rem_le (ts := ts) (s := (item (exc ts s [40])).2)
  simp at h1 ⊢
  omega
end Go.Proofs.YtkliclihpobmiaaGreatDoor
