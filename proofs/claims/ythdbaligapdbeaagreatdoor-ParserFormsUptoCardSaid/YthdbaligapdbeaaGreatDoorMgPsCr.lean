/- All rules of statements, given the rule loop: the contract of block; how long lists can be. -/
import Derived.Test.YthdbaligapdbeaaGreatDoorMgPsBk
import Derived.Test.YthdbaligapdbeaaGreatDoorMgPsLsParm
import Derived.BigQuiet
import Derived.Test.YthdbaligapdbeaaGreatDoorMgPsPut
import Derived.WalkSpells
namespace Go.Proofs.YthdbaligapdbeaaGreatDoor
open Go Go.RowKit
set_option linter.unusedVariables false

def LoopOK (ts : List Tok) (R g c : Nat) : Prop := ∀ f, SC ts R g c f → ∀ s w, (hasT ts s [35] || hasT ts s [102, 111, 114] || hasT ts s [119, 104, 105, 108, 101]) = true → Rd w R g c ts s → 8 * rem ts s + 3 ≤ f + 1 →
 Calls Tryz.prog 186 #[.pointer (some ⟨R, 0, none⟩)] w (TP w R g c ts (one (S ts (f + 1) .lp s)))
theorem sc_all {ts : List Tok} {R g c : Nat} (X : Ctx ts R g c) (HL : LoopOK ts R g c) : ∀ f f1, f1 ≤ f → SC ts R g c f1 := by
 intro f
 induction f with
 | zero =>
  intro f1 h1
  obtain rfl : f1 = 0 := by omega
  exact ⟨fun s w _ h => by omega, fun s w _ _ h => by omega, fun s w _ _ h => by omega⟩
 | succ f ih =>
  intro f1 h1
  by_cases hle : f1 ≤ f
  ·exact ih f1 hle
  ·obtain rfl : f1 = f + 1 := by omega
   have H := ih f (Nat.le_refl _)
   refine ⟨fun s w hR h => block_step X f ih s w hR h, fun s w hs hR h => statement_step X f H ?_ s w hR h, fun s w hv hR h => branch_step X f H s hv w hR h⟩
   intro q W hq hW hf
   obtain ⟨f0, rfl⟩ : ∃ f0, f = f0 + 1 := ⟨f - 1, by omega⟩
   exact HL f0 (ih f0 (by omega)) q W hq hW hf
theorem blk_any {ts : List Tok} {R g c : Nat} (X : Ctx ts R g c) (HL : LoopOK ts R g c) (s : Sg) (w : World) (hR : Rd w R g c ts s) : Calls Tryz.prog 118 #[.pointer (some ⟨R, 0, none⟩)] w (TP w R g c ts (blk ts s)) := by
 have h := (sc_all X HL (big ts) (big ts) (Nat.le_refl _)).bk s w hR (by have := rem_le (ts := ts) (s := s); unfold big; omega)
 unfold blk
 exact h
theorem more_len {ts : List Tok} {item : Sg → Tree × Sg} (hOn : ∀ s, On ts s (item s).2) : ∀ f acc s, (more ts item f acc s).1.length ≤ acc.length + rem ts s := by
 intro f
 induction f with
 | zero => intro acc s; rw [more]; exact Nat.le_add_right _ _
 | succ f ih =>
  intro acc s
  rw [more]
  split
  ·have h1 := ih (acc ++ [(item (adv s)).1]) (item (adv s)).2
   have h2 := rem_on (hOn (adv s))
   have h3 := rem_adv (hasT_in ‹_›)
   rw [List.length_append] at h1
   simp at h1
   omega
  ·exact Nat.le_add_right _ _
theorem listM_len {ts : List Tok} {item : Sg → Tree × Sg} (hOn : ∀ s, On ts s (item s).2) (f : Nat) (s : Sg) : (listM ts item f s).1.length ≤ 1 + ts.length := by
 unfold listM
 split
 ·simp
 ·have h1 := more_len hOn f [(item (exc ts s [40])).1] (item (exc ts s [40])).2
  have h2 := rem_le (ts := ts) (s := (item (exc ts s [40])).2)
  simp at h1 ⊢
  omega
end Go.Proofs.YthdbaligapdbeaaGreatDoor
/- The rules function and kernel: contracts. -/
namespace Go.Proofs.YthdbaligapdbeaaGreatDoor
open Go Go.RowKit
set_option linter.unusedVariables false
set_option linter.unusedSimpArgs false

set_option maxHeartbeats 2000000 in
set_option maxRecDepth 100000 in
theorem func_any {ts : List Tok} {R g c : Nat} (X : Ctx ts R g c) (HLP : LoopOK ts R g c) (s : Sg) (hv : hasT ts s [102, 110] = true) (w : World) (hR : Rd w R g c ts s) : Calls Tryz.prog 79 #[.pointer (some ⟨R, 0, none⟩)] w (TP w R g c ts (func ts s)) := by
 have hXl := X.lt
 have F0 := Hd ((Fr.start hR).node hXl ncz)
 have HN := Hd fun W (h : Rd W R g c ts s) => node_any X 2 W h
 have HNM := Hd fun q W (h : Rd W R g c ts q) => name_any X (s := q) W h
 have HTY := Hd fun q W (h : Rd W R g c ts q) => typN_any X (s := q) W h
 have HBK := Hd fun q W (h : Rd W R g c ts q) => blk_any X HLP q W h
 have HLS := Hd fun W (h : Rd W R g c ts (nmS ts (adv s))) => list_scalar X (scal ts) (scal_on ts) (nmS ts (adv s)) (big ts) (by have := rem_le (ts := ts) (s := exc ts (nmS ts (adv s)) [40]); unfold big; omega) (fun q W hq hW => scal_any X q W hW) W h
 have hlen := X.len
 have hll := listM_len (scal_on ts) (big ts) (nmS ts (adv s))
 have hlf : (listM ts (scal ts) (big ts) (nmS ts (adv s))).1.length ≤ 99999 := by omega
 have hlg : (listM ts (scal ts) (big ts) (nmS ts (adv s))).1.length ≤ 100000 := by omega
 have HL : Hid (nc (labK 2 (ln ts s)) = [.int .i64 2, .string ⟨#[]⟩, .int .u64 0, .int .i64 0, .bool false, .int .i64 0, .int .i64 0, .int .i64 0, .int .i64 0, .int .i64 ((ln ts s : Nat) : Int), .slice none 0 0]) := Hd rfl
 rw [HL.out] at HN
 have HE0 := Hd fun W (h : Rd W R g c ts s) => expect_any X (s := s) [102, 110] (by simp) W h
 rw [exc_has hv] at HE0
 have HAR := Hd fun q W (h : Rd W R g c ts q) => expect_any X (s := q) [45, 62] (by simp) W h
 have HM : Hid (func ts s = (.node { labK 2 (ln ts s) with name := nmV ts (adv s), wd := (tyV' ts (exc ts (listM ts (scal ts) (big ts) (nmS ts (adv s))).2 [45, 62])).1, sg := (tyV' ts (exc ts (listM ts (scal ts) (big ts) (nmS ts (adv s))).2 [45, 62])).2 } ((listM ts (scal ts) (big ts) (nmS ts (adv s))).1 ++ [(blk ts (tyS ts (exc ts (listM ts (scal ts) (big ts) (nmS ts (adv s))).2 [45, 62]))).1]), (blk ts (tyS ts (exc ts (listM ts (scal ts) (big ts) (nmS ts (adv s))).2 [45, 62]))).2)) := Hd rfl
 rw [HM.out]
 clear HM hR HL hv hll hlen
 generalize listM ts (scal ts) (big ts) (nmS ts (adv s)) = PL at *
 go_enter Tryz.func79, Tryz.ntmps79
 go_wp2_with fail
 refine (HN.out _ F0.out.rd).mono ?_
 rintro e v1 ⟨rfl, hb⟩
 have G1 := Hd (F0.out.quiet hXl hb)
 clear hb
 obtain ⟨hc0, hf0⟩ := G1.out.b0.all
 have hz0 := G1.out.b0.lt
 unfold ncz at hc0
 have hq10 := G1.out.b0.lt
 have G2 := Hd (G1.out.node hXl [.int .i64 2, .string ⟨#[]⟩, .int .u64 0, .int .i64 0, .bool false, .int .i64 0, .int .i64 0, .int .i64 0, .int .i64 0, .int .i64 ((ln ts s : Nat) : Int), .slice none 0 0])
 go_wp2_with fail
 refine (HE0.out _ G2.out.rd).mono ?_
 rintro e v2 ⟨rfl, hr, hs⟩
 clear hc0 hf0 hz0
 have G3 := Hd (G2.out.call hr hs)
 clear hr hs
 obtain ⟨hc0, hf0, hz0, hc1, hf1, hz1⟩ := G3.out.l2
 go_wp2_with fail
 refine (HNM.out _ _ G3.out.rd).mono ?_
 rintro e v3 ⟨rfl, hr, hs⟩
 have G4 := Hd (G3.out.call hr hs)
 clear hr hs hc0 hf0 hz0 hc1 hf1 hz1
 obtain ⟨hc0, hf0, hz0, hc1, hf1, hz1⟩ := G4.out.l2
 have G5 := Hd (G4.out.s1 hXl (.string (str (nmV ts (adv s)))))
 go_wp2_with fail
 refine (HLS.out _ G5.out.rd).mono ?_
 rintro e v4 ⟨vv, rfl, hk, hr, hs⟩
 obtain ⟨x1, k1, rfl⟩ := hk.shape
 have G6 := Hd (G5.out.fkL hk hr hs hlg)
 clear hk hr hs hc0 hf0 hz0 hc1 hf1 hz1
 obtain ⟨hc0, hf0, hz0, hc1, hf1, hz1⟩ := G6.out.fr.l2
 have G7 := Hd (G6.out.s10 hXl (.slice x1 PL.1.length k1))
 go_wp2_with fail
 refine (HAR.out _ _ G7.out.fr.rd).mono ?_
 rintro e v5 ⟨rfl, hr, hs⟩
 have G8 := Hd (G7.out.call hr hs)
 clear hr hs hc0 hf0 hz0 hc1 hf1 hz1
 obtain ⟨hc0, hf0, hz0, hc1, hf1, hz1⟩ := G8.out.fr.l2
 go_wp2_with fail
 refine (HTY.out _ _ G8.out.fr.rd).mono ?_
 rintro e v6 ⟨rfl, hr, hs⟩
 have G9 := Hd (G8.out.call hr hs)
 clear hr hs hc0 hf0 hz0 hc1 hf1 hz1
 obtain ⟨hc0, hf0, hz0, hc1, hf1, hz1⟩ := G9.out.fr.l2
 have G10 := Hd (G9.out.s3 hXl (.int .i64 ((tyV' ts (exc ts (PL).2 [45, 62])).1 : Int)))
 have G11 := Hd (G10.out.s4 hXl (.bool (tyV' ts (exc ts (PL).2 [45, 62])).2))
 go_wp2
 have G12 := Hd (G11.out.drew)
 go_region_law (first | (refine fk_append KT1.out hXl (by rfl) _ _ _ (by rfl) Tryz.underlying25 infoNd2 (by rfl) (by simp [Act.eval]) ?_; intro g1 c1 u1 hk6; have KX1 := Hd hk6; clear hk6; obtain ⟨hd10, he10, hy10, hd11, he11, hy11⟩ := KX1.out.fr.l2) | (go_simp; go_at_call 118; refine (HBK.out _ _ G12.out.fr.rd).mono ?_; rintro e y1 ⟨l2, x2, n2, k2, rfl, hT, hr, hs⟩; have KT1 := Hd (G12.out.callT hlf hT hr hs); clear hT hr hs; obtain ⟨hu10, hv10, hw10, hu11, hv11, hw11⟩ := KT1.out.fr.l2))
 all_goals
  clear hu10 hv10 hw10 hu11 hv11 hw11
  clear hc0 hf0 hz0 hc1 hf1 hz1
  have G13 := Hd (KX1.out.s10 hXl (.slice (some ⟨g1, 0, none⟩) (PL.1.length + 1) c1))
  have G14 := Hd (G13.out.tree { labK 2 (ln ts s) with name := nmV ts (adv s), wd := (tyV' ts (exc ts (PL).2 [45, 62])).1, sg := (tyV' ts (exc ts (PL).2 [45, 62])).2 })
  go_wp2
  have G15 := Hd (G14.out.stoR hXl (List.Mem.tail _ (List.Mem.head _)) rfl (.int .i64 2) (.string (str (nmV ts (adv s)))) (.int .u64 0) (.int .i64 ((tyV' ts (exc ts (PL).2 [45, 62])).1 : Int)) (.bool (tyV' ts (exc ts (PL).2 [45, 62])).2) (.int .i64 0) (.int .i64 0) (.int .i64 0) (.int .i64 0) (.int .i64 ((ln ts s : Nat) : Int)) (.slice (some ⟨g1, 0, none⟩) (PL.1.length + 1) c1))
  refine bodyPost_ret (G15.out.b0.res1 Tryz.results79 Tryz.underlying27 rfl infoNd _ rfl) rfl ?_
  exact G15.out.outT (rfl)

set_option maxHeartbeats 2000000 in
set_option maxRecDepth 100000 in
theorem kern_any {ts : List Tok} {R g c : Nat} (X : Ctx ts R g c) (HLP : LoopOK ts R g c) (s : Sg) (w : World) (hR : Rd w R g c ts s) : Calls Tryz.prog 80 #[.pointer (some ⟨R, 0, none⟩)] w (TP w R g c ts (kern ts s)) := by
 have hXl := X.lt
 have F0 := Hd ((Fr.start hR).node hXl ncz)
 have HN := Hd fun W (h : Rd W R g c ts s) => node_any X 3 W h
 have HNM := Hd fun q W (h : Rd W R g c ts q) => name_any X (s := q) W h
 have HTY := Hd fun q W (h : Rd W R g c ts q) => typN_any X (s := q) W h
 have HBK := Hd fun q W (h : Rd W R g c ts q) => blk_any X HLP q W h
 have HLS := Hd fun W (h : Rd W R g c ts (nmS ts (exc ts s [107, 101, 114, 110, 101, 108]))) => list_param X (prm ts) (prm_on ts) (nmS ts (exc ts s [107, 101, 114, 110, 101, 108])) (big ts) (by have := rem_le (ts := ts) (s := exc ts (nmS ts (exc ts s [107, 101, 114, 110, 101, 108])) [40]); unfold big; omega) (fun q W hq hW => prm_any X q W hW) W h
 have hlen := X.len
 have hll := listM_len (prm_on ts) (big ts) (nmS ts (exc ts s [107, 101, 114, 110, 101, 108]))
 have hlf : (listM ts (prm ts) (big ts) (nmS ts (exc ts s [107, 101, 114, 110, 101, 108]))).1.length ≤ 99999 := by omega
 have hlg : (listM ts (prm ts) (big ts) (nmS ts (exc ts s [107, 101, 114, 110, 101, 108]))).1.length ≤ 100000 := by omega
 have HL : Hid (nc (labK 3 (ln ts s)) = [.int .i64 3, .string ⟨#[]⟩, .int .u64 0, .int .i64 0, .bool false, .int .i64 0, .int .i64 0, .int .i64 0, .int .i64 0, .int .i64 ((ln ts s : Nat) : Int), .slice none 0 0]) := Hd rfl
 rw [HL.out] at HN
 have HE0 := Hd fun q W (h : Rd W R g c ts q) => expect_any X (s := q) [107, 101, 114, 110, 101, 108] (by simp) W h
 have HSK := Hd fun W (h : Rd W R g c ts (listM ts (prm ts) (big ts) (nmS ts (exc ts s [107, 101, 114, 110, 101, 108]))).2) => skip_any' X [45, 62] (by simp) W h
 unfold skp at HSK
 cases h1 : hasT ts (listM ts (prm ts) (big ts) (nmS ts (exc ts s [107, 101, 114, 110, 101, 108]))).2 [45, 62] with
 | true =>
  have HM : Hid (kern ts s = (.node { labK 3 (ln ts s) with name := nmV ts (exc ts s [107, 101, 114, 110, 101, 108]), wd := (tyV' ts (adv (listM ts (prm ts) (big ts) (nmS ts (exc ts s [107, 101, 114, 110, 101, 108]))).2)).1, sg := (tyV' ts (adv (listM ts (prm ts) (big ts) (nmS ts (exc ts s [107, 101, 114, 110, 101, 108]))).2)).2 } ((listM ts (prm ts) (big ts) (nmS ts (exc ts s [107, 101, 114, 110, 101, 108]))).1 ++ [(blk ts (tyS ts (adv (listM ts (prm ts) (big ts) (nmS ts (exc ts s [107, 101, 114, 110, 101, 108]))).2))).1]), (blk ts (tyS ts (adv (listM ts (prm ts) (big ts) (nmS ts (exc ts s [107, 101, 114, 110, 101, 108]))).2))).2)) := Hd (by unfold kern; dsimp only; rw [if_pos h1])
  rw [HM.out]
  rw [h1] at HSK
  clear HM hR HL h1 hll hlen
  generalize listM ts (prm ts) (big ts) (nmS ts (exc ts s [107, 101, 114, 110, 101, 108])) = PL at *
  go_enter Tryz.func80, Tryz.ntmps80
  go_wp2_with fail
  refine (HN.out _ F0.out.rd).mono ?_
  rintro e v1 ⟨rfl, hb⟩
  have G1 := Hd (F0.out.quiet hXl hb)
  clear hb
  obtain ⟨hc0, hf0⟩ := G1.out.b0.all
  have hz0 := G1.out.b0.lt
  unfold ncz at hc0
  have hq10 := G1.out.b0.lt
  have G2 := Hd (G1.out.node hXl [.int .i64 3, .string ⟨#[]⟩, .int .u64 0, .int .i64 0, .bool false, .int .i64 0, .int .i64 0, .int .i64 0, .int .i64 0, .int .i64 ((ln ts s : Nat) : Int), .slice none 0 0])
  go_wp2_with fail
  refine (HE0.out _ _ G2.out.rd).mono ?_
  rintro e v2 ⟨rfl, hr, hs⟩
  clear hc0 hf0 hz0
  have G3 := Hd (G2.out.call hr hs)
  clear hr hs
  obtain ⟨hc0, hf0, hz0, hc1, hf1, hz1⟩ := G3.out.l2
  go_wp2_with fail
  refine (HNM.out _ _ G3.out.rd).mono ?_
  rintro e v3 ⟨rfl, hr, hs⟩
  have G4 := Hd (G3.out.call hr hs)
  clear hr hs hc0 hf0 hz0 hc1 hf1 hz1
  obtain ⟨hc0, hf0, hz0, hc1, hf1, hz1⟩ := G4.out.l2
  have G5 := Hd (G4.out.s1 hXl (.string (str (nmV ts (exc ts s [107, 101, 114, 110, 101, 108])))))
  go_wp2_with fail
  refine (HLS.out _ G5.out.rd).mono ?_
  rintro e v4 ⟨vv, rfl, hk, hr, hs⟩
  obtain ⟨x1, k1, rfl⟩ := hk.shape
  have G6 := Hd (G5.out.fkL hk hr hs hlg)
  clear hk hr hs hc0 hf0 hz0 hc1 hf1 hz1
  obtain ⟨hc0, hf0, hz0, hc1, hf1, hz1⟩ := G6.out.fr.l2
  have G7 := Hd (G6.out.s10 hXl (.slice x1 PL.1.length k1))
  go_wp2_with fail
  refine (HSK.out _ G7.out.fr.rd).mono ?_
  rintro e v5 ⟨rfl, hr, hs⟩
  have G8 := Hd (G7.out.call hr hs)
  clear hr hs hc0 hf0 hz0 hc1 hf1 hz1
  obtain ⟨hc0, hf0, hz0, hc1, hf1, hz1⟩ := G8.out.fr.l2
  go_wp2_with fail
  refine (HTY.out _ _ G8.out.fr.rd).mono ?_
  rintro e v6 ⟨rfl, hr, hs⟩
  have G9 := Hd (G8.out.call hr hs)
  clear hr hs hc0 hf0 hz0 hc1 hf1 hz1
  obtain ⟨hc0, hf0, hz0, hc1, hf1, hz1⟩ := G9.out.fr.l2
  have G10 := Hd (G9.out.s3 hXl (.int .i64 ((tyV' ts (adv (PL).2)).1 : Int)))
  have G11 := Hd (G10.out.s4 hXl (.bool (tyV' ts (adv (PL).2)).2))
  go_wp2
  have G12 := Hd (G11.out.drew)
  go_region_law (first | (refine fk_append KT1.out hXl (by rfl) _ _ _ (by rfl) Tryz.underlying25 infoNd2 (by rfl) (by simp [Act.eval]) ?_; intro g1 c1 u1 hk6; have KX1 := Hd hk6; clear hk6; obtain ⟨hd10, he10, hy10, hd11, he11, hy11⟩ := KX1.out.fr.l2) | (go_simp; go_at_call 118; refine (HBK.out _ _ G12.out.fr.rd).mono ?_; rintro e y1 ⟨l2, x2, n2, k2, rfl, hT, hr, hs⟩; have KT1 := Hd (G12.out.callT hlf hT hr hs); clear hT hr hs; obtain ⟨hu10, hv10, hw10, hu11, hv11, hw11⟩ := KT1.out.fr.l2))
  all_goals
   clear hu10 hv10 hw10 hu11 hv11 hw11
   clear hc0 hf0 hz0 hc1 hf1 hz1
   have G13 := Hd (KX1.out.s10 hXl (.slice (some ⟨g1, 0, none⟩) (PL.1.length + 1) c1))
   have G14 := Hd (G13.out.tree { labK 3 (ln ts s) with name := nmV ts (exc ts s [107, 101, 114, 110, 101, 108]), wd := (tyV' ts (adv (PL).2)).1, sg := (tyV' ts (adv (PL).2)).2 })
   go_wp2
   have G15 := Hd (G14.out.stoR hXl (List.Mem.tail _ (List.Mem.head _)) rfl (.int .i64 3) (.string (str (nmV ts (exc ts s [107, 101, 114, 110, 101, 108])))) (.int .u64 0) (.int .i64 ((tyV' ts (adv (PL).2)).1 : Int)) (.bool (tyV' ts (adv (PL).2)).2) (.int .i64 0) (.int .i64 0) (.int .i64 0) (.int .i64 0) (.int .i64 ((ln ts s : Nat) : Int)) (.slice (some ⟨g1, 0, none⟩) (PL.1.length + 1) c1))
   refine bodyPost_ret (G15.out.b0.res1 Tryz.results80 Tryz.underlying27 rfl infoNd _ rfl) rfl ?_
   exact G15.out.outT (rfl)
 | false =>
  have HM : Hid (kern ts s = (.node { labK 3 (ln ts s) with name := nmV ts (exc ts s [107, 101, 114, 110, 101, 108]) } ((listM ts (prm ts) (big ts) (nmS ts (exc ts s [107, 101, 114, 110, 101, 108]))).1 ++ [(blk ts ((listM ts (prm ts) (big ts) (nmS ts (exc ts s [107, 101, 114, 110, 101, 108]))).2)).1]), (blk ts ((listM ts (prm ts) (big ts) (nmS ts (exc ts s [107, 101, 114, 110, 101, 108]))).2)).2)) := Hd (by unfold kern; dsimp only; rw [if_neg (by simp [h1])])
  rw [HM.out]
  rw [h1] at HSK
  clear HM hR HL h1 hll hlen
  generalize listM ts (prm ts) (big ts) (nmS ts (exc ts s [107, 101, 114, 110, 101, 108])) = PL at *
  go_enter Tryz.func80, Tryz.ntmps80
  go_wp2_with fail
  refine (HN.out _ F0.out.rd).mono ?_
  rintro e v1 ⟨rfl, hb⟩
  have G1 := Hd (F0.out.quiet hXl hb)
  clear hb
  obtain ⟨hc0, hf0⟩ := G1.out.b0.all
  have hz0 := G1.out.b0.lt
  unfold ncz at hc0
  have hq10 := G1.out.b0.lt
  have G2 := Hd (G1.out.node hXl [.int .i64 3, .string ⟨#[]⟩, .int .u64 0, .int .i64 0, .bool false, .int .i64 0, .int .i64 0, .int .i64 0, .int .i64 0, .int .i64 ((ln ts s : Nat) : Int), .slice none 0 0])
  go_wp2_with fail
  refine (HE0.out _ _ G2.out.rd).mono ?_
  rintro e v2 ⟨rfl, hr, hs⟩
  clear hc0 hf0 hz0
  have G3 := Hd (G2.out.call hr hs)
  clear hr hs
  obtain ⟨hc0, hf0, hz0, hc1, hf1, hz1⟩ := G3.out.l2
  go_wp2_with fail
  refine (HNM.out _ _ G3.out.rd).mono ?_
  rintro e v3 ⟨rfl, hr, hs⟩
  have G4 := Hd (G3.out.call hr hs)
  clear hr hs hc0 hf0 hz0 hc1 hf1 hz1
  obtain ⟨hc0, hf0, hz0, hc1, hf1, hz1⟩ := G4.out.l2
  have G5 := Hd (G4.out.s1 hXl (.string (str (nmV ts (exc ts s [107, 101, 114, 110, 101, 108])))))
  go_wp2_with fail
  refine (HLS.out _ G5.out.rd).mono ?_
  rintro e v4 ⟨vv, rfl, hk, hr, hs⟩
  obtain ⟨x1, k1, rfl⟩ := hk.shape
  have G6 := Hd (G5.out.fkL hk hr hs hlg)
  clear hk hr hs hc0 hf0 hz0 hc1 hf1 hz1
  obtain ⟨hc0, hf0, hz0, hc1, hf1, hz1⟩ := G6.out.fr.l2
  have G7 := Hd (G6.out.s10 hXl (.slice x1 PL.1.length k1))
  go_wp2_with fail
  refine (HSK.out _ G7.out.fr.rd).mono ?_
  rintro e v5 ⟨rfl, hr, hs⟩
  have G8 := Hd (G7.out.call hr hs)
  clear hr hs hc0 hf0 hz0 hc1 hf1 hz1
  obtain ⟨hc0, hf0, hz0, hc1, hf1, hz1⟩ := G8.out.fr.l2
  go_wp2
  have G9 := Hd (G8.out.drew)
  go_region_law (first | (refine fk_append KT1.out hXl (by rfl) _ _ _ (by rfl) Tryz.underlying25 infoNd2 (by rfl) (by simp [Act.eval]) ?_; intro g1 c1 u1 hk6; have KX1 := Hd hk6; clear hk6; obtain ⟨hd10, he10, hy10, hd11, he11, hy11⟩ := KX1.out.fr.l2) | (go_simp; go_at_call 118; refine (HBK.out _ _ G9.out.fr.rd).mono ?_; rintro e y1 ⟨l2, x2, n2, k2, rfl, hT, hr, hs⟩; have KT1 := Hd (G9.out.callT hlf hT hr hs); clear hT hr hs; obtain ⟨hu10, hv10, hw10, hu11, hv11, hw11⟩ := KT1.out.fr.l2))
  all_goals
   clear hu10 hv10 hw10 hu11 hv11 hw11
   clear hc0 hf0 hz0 hc1 hf1 hz1
   have G10 := Hd (KX1.out.s10 hXl (.slice (some ⟨g1, 0, none⟩) (PL.1.length + 1) c1))
   have G11 := Hd (G10.out.tree { labK 3 (ln ts s) with name := nmV ts (exc ts s [107, 101, 114, 110, 101, 108]) })
   go_wp2
   have G12 := Hd (G11.out.stoR hXl (List.Mem.tail _ (List.Mem.head _)) rfl (.int .i64 3) (.string (str (nmV ts (exc ts s [107, 101, 114, 110, 101, 108])))) (.int .u64 0) (.int .i64 0) (.bool false) (.int .i64 0) (.int .i64 0) (.int .i64 0) (.int .i64 0) (.int .i64 ((ln ts s : Nat) : Int)) (.slice (some ⟨g1, 0, none⟩) (PL.1.length + 1) c1))
   refine bodyPost_ret (G12.out.b0.res1 Tryz.results80 Tryz.underlying27 rfl infoNd _ rfl) rfl ?_
   exact G12.out.outT (rfl)
end Go.Proofs.YthdbaligapdbeaaGreatDoor
/- The rule program: contract. -/
namespace Go.Proofs.YthdbaligapdbeaaGreatDoor
open Go Go.RowKit
set_option linter.unusedVariables false
set_option linter.unusedSimpArgs false

theorem units_end {ts : List Tok} {f : Nat} {acc : List Tree} {s : Sg} (h : ¬ (s.bad = false ∧ s.i < ts.length)) : units ts (f + 1) acc s = (acc, s) := by rw [units, if_neg h]
theorem units_fn {ts : List Tok} {f : Nat} {acc : List Tree} {s : Sg} (h : s.bad = false ∧ s.i < ts.length) (h2 : hasT ts s [102, 110] = true) : units ts (f + 1) acc s = units ts f (acc ++ [(func ts s).1]) (func ts s).2 := by rw [units, if_pos h, if_pos h2]
theorem units_kn {ts : List Tok} {f : Nat} {acc : List Tree} {s : Sg} (h : s.bad = false ∧ s.i < ts.length) (h2 : hasT ts s [102, 110] = false) : units ts (f + 1) acc s = units ts f (acc ++ [(kern ts s).1]) (kern ts s).2 := by rw [units, if_pos h, if_neg (by simp [h2])]
theorem func_prog {ts : List Tok} {s : Sg} (hs : s.bad = false ∧ s.i < ts.length) : rem ts (func ts s).2 + 1 ≤ rem ts s := by
  have ha := rem_adv hs
  have h1 : On ts (adv s) (func ts s).2 := by
    unfold func
    dsimp only
    exact (nmS_on _ _).trans ((listM_on (scal_on ts) _ _).trans (exc_on.trans ((tyS_on _ _).trans (blk_on _ _))))
  have := rem_on h1
  omega
theorem kern_prog {ts : List Tok} {s : Sg} (hs : s.bad = false ∧ s.i < ts.length) : rem ts (kern ts s).2 + 1 ≤ rem ts s := by
  have ha := rem_adv hs
  have hst : rem ts (stop s) + 1 ≤ rem ts s := by unfold rem stop; rw [hs.1]; simp; omega
  have he : rem ts (exc ts s [107, 101, 114, 110, 101, 108]) + 1 ≤ rem ts s := by
    unfold exc
    split
    · omega
    · exact hst
  have h1 : On ts (exc ts s [107, 101, 114, 110, 101, 108]) (kern ts s).2 := by
    have h2 : On ts (exc ts s [107, 101, 114, 110, 101, 108]) (listM ts (prm ts) (big ts) (nmS ts (exc ts s [107, 101, 114, 110, 101, 108]))).2 := (nmS_on _ _).trans (listM_on (prm_on ts) _ _)
    unfold kern
    dsimp only
    split
    · exact h2.trans ((adv_on (hasT_in ‹_›)).trans ((tyS_on _ _).trans (blk_on _ _)))
    · exact h2.trans (blk_on _ _)
  have := rem_on h1
  omega
def PgSt (ts : List Tok) (R g c : Nat) (w : World) (L0 L1 : Nat) (Z : List Tree × Sg) (L9 : Nat) (wr : World) (st : Sg) : Prop :=
  ∃ (x : Option Addr) (k F base : Nat) (acc : List Tree), FK w wr R g c ts st [(L1, [.int .i64 1, .string ⟨#[]⟩, .int .u64 0, .int .i64 0, .bool false, .int .i64 0, .int .i64 0, .int .i64 0, .int .i64 0, .int .i64 (L9 : Int), .slice x acc.length k]), (L0, ncz)] base (.slice x acc.length k) acc ∧ Z = units ts (F + 1) acc st ∧ rem ts st ≤ F ∧ acc.length + rem ts st ≤ ts.length
set_option maxHeartbeats 2000000 in
set_option maxRecDepth 100000 in
theorem program_any {ts : List Tok} {R g c : Nat} (X : Ctx ts R g c) (HLP : LoopOK ts R g c) (w : World) (hR : Rd w R g c ts ⟨0, false⟩) : Calls Tryz.prog 48 #[.pointer (some ⟨R, 0, none⟩)] w (TP w R g c ts (progT ts)) := by
  have hXl := X.lt
  have F0 := Hd ((Fr.start hR).node hXl ncz)
  obtain ⟨s, hs0⟩ : ∃ s : Sg, s = ⟨0, false⟩ := ⟨_, rfl⟩
  rw [← hs0] at F0 hR
  have HN := Hd fun W (h : Rd W R g c ts s) => node_any X 1 W h
  have HNX := Hd fun q W (h : Rd W R g c ts q) => next_any X (s := q) W h
  have HFT := Hd fun q W => fldT (nxt ts q) W
  have hlen := X.len
  have HL : Hid (nc (labK 1 (ln ts s)) = [.int .i64 1, .string ⟨#[]⟩, .int .u64 0, .int .i64 0, .bool false, .int .i64 0, .int .i64 0, .int .i64 0, .int .i64 0, .int .i64 ((ln ts s : Nat) : Int), .slice none 0 0]) := Hd rfl
  rw [HL.out] at HN
  have hne : 0 < ts.length := List.length_pos_iff.2 X.ne
  have hln1 : 1 ≤ ln ts s := by
    rw [hs0]
    show 1 ≤ (tat ts 0).line
    rw [tat_get hne]
    exact (X.line _ (List.getElem_mem hne)).1
  obtain ⟨Z, hZ⟩ : ∃ Z, Z = units ts (ts.length + 1) [] s := ⟨_, rfl⟩
  have HM : Hid (progT ts = (.node (labK 1 (ln ts s)) Z.1, Z.2)) := Hd (by rw [hZ, hs0]; unfold progT; dsimp only; rw [Nat.max_eq_left (by rw [← hs0]; exact hln1)])
  rw [HM.out]
  have HZ := Hd hZ
  have hrl : rem ts s ≤ ts.length := rem_le
  clear HM hR HL hZ hs0
  generalize ln ts s = L9 at *
  have hmax : max (L9 : Int) 1 = (L9 : Int) := by omega
  go_enter Tryz.func48, Tryz.ntmps48
  go_wp2_with fail
  refine (HN.out _ F0.out.rd).mono ?_
  rintro e v1 ⟨rfl, hb⟩
  have G1 := Hd (F0.out.quiet hXl hb)
  clear hb
  obtain ⟨hc0, hf0⟩ := G1.out.b0.all
  have hz0 := G1.out.b0.lt
  unfold ncz at hc0
  have hq10 := G1.out.b0.lt
  have G2 := Hd (G1.out.node hXl [.int .i64 1, .string ⟨#[]⟩, .int .u64 0, .int .i64 0, .bool false, .int .i64 0, .int .i64 0, .int .i64 0, .int .i64 0, .int .i64 (L9 : Int), .slice none 0 0])
  have hzw : w.heap.size < v1.heap.size := hq10
  go_wp2
  clear hmax
  have G3 := Hd (G2.out.fk)
  have h0 : Hid (PgSt ts R g c w w.heap.size v1.heap.size Z L9 _ s) := Hd ⟨none, 0, ts.length, _, [], G3.out, HZ.out, hrl, by simp; exact hrl⟩
  clear HZ hrl HN hc0 hf0 hz0
  go_loopw [10] (fun _ wr => ∃ st, Hid (PgSt ts R g c w w.heap.size v1.heap.size Z L9 wr st)) (fun _ wr => ts.length - atW wr R)
  case atStart => exact ⟨_, h0⟩
  case round =>
    obtain ⟨st, hT⟩ := hrel
    obtain ⟨xk, kk, F, base, acc, hFr, hZ, hfu2, hal⟩ := hT.out
    have J0 := Hd hFr
    have HZ2 := Hd hZ
    obtain ⟨c0, c1, c2, f1a, f2a⟩ := J0.out.fr.rd.cells
    have hzR := J0.out.fr.rd.lt
    have hatl := atOf_le (ts := ts) J0.out.fr.rd.hi
    have hm0 := atW_rd J0.out.fr.rd
    clear hFr hZ hT h0 c2 f1a f2a
    by_cases hat : atOf ts st < ts.length
    · have hst : st.bad = false ∧ st.i < ts.length := by
        unfold atOf at hat
        cases hb : st.bad with
        | true => rw [hb] at hat; simp at hat
        | false => rw [hb] at hat; exact ⟨rfl, by simpa using hat⟩
      have qa : decide ((atOf ts st : Int) < (ts.length : Int)) = true := by simp; omega
      have qb : decide (atOf ts st < ts.length) = true := by simp; omega
      have hq1 : ((str (nxt ts st).text).toList == [102, 110]) = hasT ts st [102, 110] := by have := hasT_bytes ts st [102, 110]; rw [str_toList [102, 110]] at this; exact this
      have hF := HFT.out st
      obtain ⟨F2, rfl⟩ : ∃ F2, F = F2 + 1 := ⟨F - 1, by have := rem_adv hst; omega⟩
      have HHIN := Hd hst
      have hfew : acc.length ≤ 99999 := by omega
      have HAT := Hd hat
      cases hc : hasT ts st [102, 110] with
      | true =>
        rw [hc] at hq1
        have HZ3 : Hid (Z = units ts (F2 + 1) (acc ++ [(func ts st).1]) (func ts st).2) := Hd (HZ2.out.trans (units_fn hst hc))
        have hpr : rem ts (func ts st).2 + 1 ≤ rem ts st := func_prog hst
        have HON : Hid (On ts st (func ts st).2) := Hd (func_on hst)
        have HST := Hd fun W (h : Rd W R g c ts st) => func_any X HLP st hc W h
        have hmm : Hid (atW wr R = atOf ts st) := Hd hm0
        clear HZ2 hst hc hm0 hat
        go_wp2
        go_quiet (fail)
        have G31 := Hd (J0.out.drewN nq)
        go_wp2_with fail
        refine (HNX.out _ _ G31.out.fr.rd).mono ?_
        rintro e v5 ⟨rfl, hb⟩
        have G32 := Hd (G31.out.quiet hXl hb)
        clear hb
        obtain ⟨hc0, hf0, hz0, hc1, hf1, hz1⟩ := G32.out.fr.l2
        clear qa qb c0 c1 hzR
        go_wp2
        have G33 := Hd (G32.out.drew)
        go_region_law (first | (refine fk_append KT1.out hXl (by rfl) _ _ _ (by rfl) Tryz.underlying25 infoNd2 (by rfl) (by simp [Act.eval]) ?_; intro g1 c1 u1 hk6; have KX1 := Hd hk6; clear hk6; obtain ⟨hd10, he10, hy10, hd11, he11, hy11⟩ := KX1.out.fr.l2) | (go_simp; go_at_call 79; refine (HST.out _ G33.out.fr.rd).mono ?_; rintro e y1 ⟨l3, x3, n3, k3, rfl, hT, hr, hs⟩; have KT1 := Hd (G33.out.callT hfew hT hr hs); clear hT hr hs; obtain ⟨hu10, hv10, hw10, hu11, hv11, hw11⟩ := KT1.out.fr.l2))
        all_goals
          clear hu10 hv10 hw10 hu11 hv11 hw11
          clear hc0 hf0 hz0 hc1 hf1 hz1
          have G34 := Hd (KX1.out.s10 hXl (.slice (some ⟨g1, 0, none⟩) (acc.length + 1) c1))
          have JE := Hd G34.out
          have hm1 := atW_rd JE.out.fr.rd
          have hma := atOf_adv2 HHIN.out HON.out hpr JE.out.fr.rd.hi
          have hal2 : (acc ++ [(func ts st).1]).length = acc.length + 1 := by simp
          have HN2 : Hid (PgSt ts R g c w w.heap.size v1.heap.size Z L9 _ (func ts st).2) := Hd ⟨some ⟨g1, 0, none⟩, c1, F2, base, _, (by rw [hal2]; exact JE.out), HZ3.out, by omega, by rw [hal2]; omega⟩
          have HM1 := Hd hm1
          have HM : Hid (ts.length - atOf ts (func ts st).2 < ts.length - atOf ts st) := Hd (by omega)
          clear hm1 hma hal2
          go_wp2
          go_roundw
          case rel => exact ⟨_, HN2⟩
          case measure => (rw [hmm.out]; refine Nat.lt_of_le_of_lt (Nat.le_of_eq ?_) HM.out; exact congrArg (ts.length - ·) HM1.out)
      | false =>
        rw [hc] at hq1
        have HZ3 : Hid (Z = units ts (F2 + 1) (acc ++ [(kern ts st).1]) (kern ts st).2) := Hd (HZ2.out.trans (units_kn hst hc))
        have hpr : rem ts (kern ts st).2 + 1 ≤ rem ts st := kern_prog hst
        have HON : Hid (On ts st (kern ts st).2) := Hd (kern_on ts st)
        have HST := Hd fun W (h : Rd W R g c ts st) => kern_any X HLP st W h
        have hmm : Hid (atW wr R = atOf ts st) := Hd hm0
        clear HZ2 hst hc hm0 hat
        go_wp2
        go_quiet (fail)
        have G31 := Hd (J0.out.drewN nq)
        go_wp2_with fail
        refine (HNX.out _ _ G31.out.fr.rd).mono ?_
        rintro e v5 ⟨rfl, hb⟩
        have G32 := Hd (G31.out.quiet hXl hb)
        clear hb
        obtain ⟨hc0, hf0, hz0, hc1, hf1, hz1⟩ := G32.out.fr.l2
        clear qa qb c0 c1 hzR
        go_wp2
        have G33 := Hd (G32.out.drew)
        go_region_law (first | (refine fk_append KT1.out hXl (by rfl) _ _ _ (by rfl) Tryz.underlying25 infoNd2 (by rfl) (by simp [Act.eval]) ?_; intro g1 c1 u1 hk6; have KX1 := Hd hk6; clear hk6; obtain ⟨hd10, he10, hy10, hd11, he11, hy11⟩ := KX1.out.fr.l2) | (go_simp; go_at_call 80; refine (HST.out _ G33.out.fr.rd).mono ?_; rintro e y1 ⟨l3, x3, n3, k3, rfl, hT, hr, hs⟩; have KT1 := Hd (G33.out.callT hfew hT hr hs); clear hT hr hs; obtain ⟨hu10, hv10, hw10, hu11, hv11, hw11⟩ := KT1.out.fr.l2))
        all_goals
          clear hu10 hv10 hw10 hu11 hv11 hw11
          clear hc0 hf0 hz0 hc1 hf1 hz1
          have G34 := Hd (KX1.out.s10 hXl (.slice (some ⟨g1, 0, none⟩) (acc.length + 1) c1))
          have JE := Hd G34.out
          have hm1 := atW_rd JE.out.fr.rd
          have hma := atOf_adv2 HHIN.out HON.out hpr JE.out.fr.rd.hi
          have hal2 : (acc ++ [(kern ts st).1]).length = acc.length + 1 := by simp
          have HN2 : Hid (PgSt ts R g c w w.heap.size v1.heap.size Z L9 _ (kern ts st).2) := Hd ⟨some ⟨g1, 0, none⟩, c1, F2, base, _, (by rw [hal2]; exact JE.out), HZ3.out, by omega, by rw [hal2]; omega⟩
          have HM1 := Hd hm1
          have HM : Hid (ts.length - atOf ts (kern ts st).2 < ts.length - atOf ts st) := Hd (by omega)
          clear hm1 hma hal2
          go_wp2
          go_roundw
          case rel => exact ⟨_, HN2⟩
          case measure => (rw [hmm.out]; refine Nat.lt_of_le_of_lt (Nat.le_of_eq ?_) HM.out; exact congrArg (ts.length - ·) HM1.out)
    · have HZ3 : Hid (Z = (acc, st)) := Hd (HZ2.out.trans (units_end (by
          unfold atOf at hat
          intro hh
          rw [hh.1] at hat
          exact hat (by simpa using hh.2))))
      have qa : decide ((atOf ts st : Int) < (ts.length : Int)) = false := by simp; omega
      have qb : decide (atOf ts st < ts.length) = false := by simp; omega
      clear HZ2 hat hm0
      go_wp2
      go_quiet (fail)
      have G51 := Hd (J0.out.drewN nq)
      have hzz := HZ3.out
      subst hzz
      obtain ⟨hc0, hf0, hz0, hc1, hf1, hz1⟩ := G51.out.fr.l2
      have G52 := Hd (G51.out.tree (labK 1 L9))
      go_wp2
      have G53 := Hd (G52.out.stoR hXl (List.Mem.tail _ (List.Mem.head _)) rfl (.int .i64 1) (.string ⟨#[]⟩) (.int .u64 0) (.int .i64 0) (.bool false) (.int .i64 0) (.int .i64 0) (.int .i64 0) (.int .i64 0) (.int .i64 (L9 : Int)) (.slice xk acc.length kk))
      refine bodyPost_ret (G53.out.b0.res1 Tryz.results48 Tryz.underlying27 rfl infoNd _ rfl) rfl ?_
      exact G53.out.outT (rfl)
end Go.Proofs.YthdbaligapdbeaaGreatDoor
/- crowded: contract. -/
namespace Go.Proofs.YthdbaligapdbeaaGreatDoor
open Go Go.RowKit
set_option linter.unusedVariables false

theorem crowd_nil (o : Nat) : crowd o [] = 0 := by rw [crowd]
theorem crowd_cons (o : Nat) (t : Tok) (r : List Tok) : crowd o (t :: r) = if 200 < opens o t then t.line else crowd (opens o t) r := by rw [crowd]
theorem drop_tat' {ts : List Tok} {i : Nat} (h : i < ts.length) : ts.drop i = tat ts i :: ts.drop (i + 1) := by rw [tat_get h]; exact List.drop_eq_getElem_cons h
theorem text_bytes (t u : List UInt8) : ((str t).toList == u) = decide (t = u) := by
 rw [← str_toList u, str_eq, str_toList, decide_eq_decide]
 exact ⟨str_inj, fun h => by rw [h]⟩
structure CrSt (ts : List Tok) (Z : Nat) (w wr : World) (o k : Nat) : Prop where
 eq : Z = crowd o (ts.drop k)
 bel : Below w.heap.size w wr
 le : o ≤ 200

set_option maxHeartbeats 2000000 in
set_option maxRecDepth 100000 in
theorem crowded_any (ts : List Tok) (g c : Nat) (hlen : ts.length ≤ 65536) (hl : ∀ t ∈ ts, t.line ≤ 1000000) (w : World) (hT : TkIn w g ts) :
  Calls Tryz.prog 47 #[.slice (some ⟨g, 0, none⟩) ts.length c] w fun e w' => e = .returned (.int .i64 (crowd 0 ts : Int)) ∧ Below w.heap.size w w' := by
 obtain ⟨Z, hZ⟩ : ∃ Z, Z = crowd 0 ts := ⟨_, rfl⟩
 rw [← hZ]
 have h0 : Hid (CrSt ts Z w w 0 0) := ⟨hZ, Below.refl _ _, by omega⟩
 have HT := Hd hT
 have HL := Hd hl
 clear hZ hT hl
 generalize hN : ts.length = N at *
 have HN := Hd hN
 clear hN
 go_enter Tryz.func47, Tryz.ntmps47
 go_wp2
 go_loopw [3, 8] (fun o i wr => ∃ p k : Nat, k ≤ N ∧ o = .int .i64 (p : Int) ∧ i = .int .i64 (k : Int) ∧ Hid (CrSt ts Z w wr p k)) (fun _ i _ => N - (intOf i).toNat)
 case atStart => exact ⟨0, 0, by omega, rfl, rfl, h0⟩
 case round =>
  clear h0
  obtain ⟨p, k, hk, rfl, rfl, hX⟩ := hrel
  by_cases hkn : k < N
  ·have hkl : k < ts.length := by rw [HN.out]; exact hkn
   obtain ⟨d0, d1, d2, d3, d4⟩ := (HT.out.below hX.out.bel HT.out.1).2 k hkl
   have HB := Hd (hX.out.bel.alloc hX.out.bel.size (.cells #[.int .i64 ((tat ts k).kind : Int), .string (str (tat ts k).text), .int .u64 ((tat ts k).num : Int), .int .i64 ((tat ts k).pos : Int), .int .i64 ((tat ts k).line : Int)] 89))
   have hle := hX.out.le
   have hZ : Hid (Z = if 200 < opens p (tat ts k) then (tat ts k).line else crowd (opens p (tat ts k)) (ts.drop (k + 1))) := Hd (by rw [hX.out.eq, drop_tat' hkl, crowd_cons])
   have hop : opens p (tat ts k) = if isOpen (tat ts k).text then p + 1 else if isShut (tat ts k).text then p - 1 else p := rfl
   have hz := text_bytes (tat ts k).text
   have hm : max ((p : Int) - 1) 0 = ((p - 1 : Nat) : Int) := by omega
   generalize (tat ts k).text = tx at *
   generalize ((tat ts k).line) = ln9 at *
   generalize ((tat ts k).kind : Int) = n1 at *
   generalize ((tat ts k).num : Int) = n2 at *
   generalize ((tat ts k).pos : Int) = n3 at *
   generalize opens p (tat ts k) = o2 at *
   by_cases g0 : tx = [40]
   ·have q0 : ((str tx).toList == [40]) = true := by rw [hz]; rw [g0]; rfl
    have q1 : ((str tx).toList == [91]) = false := by rw [hz]; rw [g0]; decide
    have q2 : ((str tx).toList == [123]) = false := by rw [hz]; rw [g0]; decide
    have q3 : ((str tx).toList == [41]) = false := by rw [hz]; rw [g0]; decide
    have q4 : ((str tx).toList == [93]) = false := by rw [hz]; rw [g0]; decide
    have q5 : ((str tx).toList == [125]) = false := by rw [hz]; rw [g0]; decide
    have ho : o2 = p + 1 := by rw [hop, g0]; rfl
    have hov : (p : Int) + 1 = ((p + 1 : Nat) : Int) := by omega
    subst ho
    clear hop hz g0
    by_cases hbig : 200 < p + 1
    ·have hz2 : Z = ln9 := by rw [hZ.out, if_pos hbig]
     subst hz2
     have qb : (200 : Int) < (p : Int) + 1 := by omega
     clear hZ hm hov
     go_wp2
     go_ret
     exact ⟨rfl, HB.out⟩
    ·have HX : Hid (CrSt ts Z w _ (p + 1) (k + 1)) := Hd ⟨by rw [hZ.out, if_neg hbig], HB.out, by omega⟩
     have qb : (p : Int) + 1 ≤ 200 := by omega
     clear hZ hm hov
     go_wp2
     go_roundw
     case rel => exact ⟨p + 1, k + 1, by omega, by go_num, by go_num, HX⟩
     case measure => simp [intOf]; omega
   by_cases g1 : tx = [91]
   ·have q0 : ((str tx).toList == [40]) = false := by rw [hz]; rw [g1]; decide
    have q1 : ((str tx).toList == [91]) = true := by rw [hz]; rw [g1]; rfl
    have q2 : ((str tx).toList == [123]) = false := by rw [hz]; rw [g1]; decide
    have q3 : ((str tx).toList == [41]) = false := by rw [hz]; rw [g1]; decide
    have q4 : ((str tx).toList == [93]) = false := by rw [hz]; rw [g1]; decide
    have q5 : ((str tx).toList == [125]) = false := by rw [hz]; rw [g1]; decide
    have ho : o2 = p + 1 := by rw [hop, g1]; rfl
    have hov : (p : Int) + 1 = ((p + 1 : Nat) : Int) := by omega
    subst ho
    clear hop hz g0 g1
    by_cases hbig : 200 < p + 1
    ·have hz2 : Z = ln9 := by rw [hZ.out, if_pos hbig]
     subst hz2
     have qb : (200 : Int) < (p : Int) + 1 := by omega
     clear hZ hm hov
     go_wp2
     go_ret
     exact ⟨rfl, HB.out⟩
    ·have HX : Hid (CrSt ts Z w _ (p + 1) (k + 1)) := Hd ⟨by rw [hZ.out, if_neg hbig], HB.out, by omega⟩
     have qb : (p : Int) + 1 ≤ 200 := by omega
     clear hZ hm hov
     go_wp2
     go_roundw
     case rel => exact ⟨p + 1, k + 1, by omega, by go_num, by go_num, HX⟩
     case measure => simp [intOf]; omega
   by_cases g2 : tx = [123]
   ·have q0 : ((str tx).toList == [40]) = false := by rw [hz]; rw [g2]; decide
    have q1 : ((str tx).toList == [91]) = false := by rw [hz]; rw [g2]; decide
    have q2 : ((str tx).toList == [123]) = true := by rw [hz]; rw [g2]; rfl
    have q3 : ((str tx).toList == [41]) = false := by rw [hz]; rw [g2]; decide
    have q4 : ((str tx).toList == [93]) = false := by rw [hz]; rw [g2]; decide
    have q5 : ((str tx).toList == [125]) = false := by rw [hz]; rw [g2]; decide
    have ho : o2 = p + 1 := by rw [hop, g2]; rfl
    have hov : (p : Int) + 1 = ((p + 1 : Nat) : Int) := by omega
    subst ho
    clear hop hz g0 g1 g2
    by_cases hbig : 200 < p + 1
    ·have hz2 : Z = ln9 := by rw [hZ.out, if_pos hbig]
     subst hz2
     have qb : (200 : Int) < (p : Int) + 1 := by omega
     clear hZ hm hov
     go_wp2
     go_ret
     exact ⟨rfl, HB.out⟩
    ·have HX : Hid (CrSt ts Z w _ (p + 1) (k + 1)) := Hd ⟨by rw [hZ.out, if_neg hbig], HB.out, by omega⟩
     have qb : (p : Int) + 1 ≤ 200 := by omega
     clear hZ hm hov
     go_wp2
     go_roundw
     case rel => exact ⟨p + 1, k + 1, by omega, by go_num, by go_num, HX⟩
     case measure => simp [intOf]; omega
   by_cases g3 : tx = [41]
   ·have q0 : ((str tx).toList == [40]) = false := by rw [hz]; rw [g3]; decide
    have q1 : ((str tx).toList == [91]) = false := by rw [hz]; rw [g3]; decide
    have q2 : ((str tx).toList == [123]) = false := by rw [hz]; rw [g3]; decide
    have q3 : ((str tx).toList == [41]) = true := by rw [hz]; rw [g3]; rfl
    have q4 : ((str tx).toList == [93]) = false := by rw [hz]; rw [g3]; decide
    have q5 : ((str tx).toList == [125]) = false := by rw [hz]; rw [g3]; decide
    have ho : o2 = p - 1 := by rw [hop, g3]; rfl
    subst ho
    clear hop hz g0 g1 g2 g3
    have hp1 : (((p - 1 : Nat) : Nat) : Int) ≤ 200 := by omega
    have HX : Hid (CrSt ts Z w _ (p - 1) (k + 1)) := Hd ⟨by rw [hZ.out, if_neg (by omega)], HB.out, by omega⟩
    clear hZ
    go_wp2
    go_roundw
    case rel => exact ⟨p - 1, k + 1, by omega, by first | rfl | (rw [hm]) | go_num, by go_num, HX⟩
    case measure => simp [intOf]; omega
   by_cases g4 : tx = [93]
   ·have q0 : ((str tx).toList == [40]) = false := by rw [hz]; rw [g4]; decide
    have q1 : ((str tx).toList == [91]) = false := by rw [hz]; rw [g4]; decide
    have q2 : ((str tx).toList == [123]) = false := by rw [hz]; rw [g4]; decide
    have q3 : ((str tx).toList == [41]) = false := by rw [hz]; rw [g4]; decide
    have q4 : ((str tx).toList == [93]) = true := by rw [hz]; rw [g4]; rfl
    have q5 : ((str tx).toList == [125]) = false := by rw [hz]; rw [g4]; decide
    have ho : o2 = p - 1 := by rw [hop, g4]; rfl
    subst ho
    clear hop hz g0 g1 g2 g3 g4
    have hp1 : (((p - 1 : Nat) : Nat) : Int) ≤ 200 := by omega
    have HX : Hid (CrSt ts Z w _ (p - 1) (k + 1)) := Hd ⟨by rw [hZ.out, if_neg (by omega)], HB.out, by omega⟩
    clear hZ
    go_wp2
    go_roundw
    case rel => exact ⟨p - 1, k + 1, by omega, by first | rfl | (rw [hm]) | go_num, by go_num, HX⟩
    case measure => simp [intOf]; omega
   by_cases g5 : tx = [125]
   ·have q0 : ((str tx).toList == [40]) = false := by rw [hz]; rw [g5]; decide
    have q1 : ((str tx).toList == [91]) = false := by rw [hz]; rw [g5]; decide
    have q2 : ((str tx).toList == [123]) = false := by rw [hz]; rw [g5]; decide
    have q3 : ((str tx).toList == [41]) = false := by rw [hz]; rw [g5]; decide
    have q4 : ((str tx).toList == [93]) = false := by rw [hz]; rw [g5]; decide
    have q5 : ((str tx).toList == [125]) = true := by rw [hz]; rw [g5]; rfl
    have ho : o2 = p - 1 := by rw [hop, g5]; rfl
    subst ho
    clear hop hz g0 g1 g2 g3 g4 g5
    have hp1 : (((p - 1 : Nat) : Nat) : Int) ≤ 200 := by omega
    have HX : Hid (CrSt ts Z w _ (p - 1) (k + 1)) := Hd ⟨by rw [hZ.out, if_neg (by omega)], HB.out, by omega⟩
    clear hZ
    go_wp2
    go_roundw
    case rel => exact ⟨p - 1, k + 1, by omega, by first | rfl | (rw [hm]) | go_num, by go_num, HX⟩
    case measure => simp [intOf]; omega
   have q0 : ((str tx).toList == [40]) = false := by rw [hz]; simp [g0]
   have q1 : ((str tx).toList == [91]) = false := by rw [hz]; simp [g1]
   have q2 : ((str tx).toList == [123]) = false := by rw [hz]; simp [g2]
   have q3 : ((str tx).toList == [41]) = false := by rw [hz]; simp [g3]
   have q4 : ((str tx).toList == [93]) = false := by rw [hz]; simp [g4]
   have q5 : ((str tx).toList == [125]) = false := by rw [hz]; simp [g5]
   have ho : p = o2 := by rw [hop]; simp [isOpen, isShut, g0, g1, g2, g3, g4, g5]
   subst ho
   clear hop hz g0 g1 g2 g3 g4 g5
   have hp1 : (p : Int) ≤ 200 := by omega
   have HX : Hid (CrSt ts Z w _ (p) (k + 1)) := Hd ⟨by rw [hZ.out, if_neg (by omega)], HB.out, by omega⟩
   clear hm
   clear hZ
   go_wp2
   go_roundw
   case rel => exact ⟨p, k + 1, by omega, by first | rfl | (rw [hm]) | go_num, by go_num, HX⟩
   case measure => simp [intOf]; omega
  ·have hz : Z = 0 := by rw [hX.out.eq, List.drop_of_length_le (by rw [HN.out]; omega), crowd_nil]
   subst hz
   go_wp2
   go_ret
   exact ⟨rfl, hX.out.bel⟩
end Go.Proofs.YthdbaligapdbeaaGreatDoor
