/- All rules of statements, given the rule loop: the contract of block; how long lists can be. -/
import Derived.Test.YtfnhogeocbndcaaGreatDoorMgPsSm
import Derived.Test.YtfnhogeocbndcaaGreatDoorMgPsBk
import Derived.Test.YtfnhogeocbndcaaGreatDoorMgPsPm
import Derived.Test.YtfnhogeocbndcaaGreatDoorMgPsLsParm
import Derived.BigQuiet
import Derived.Test.YtfnhogeocbndcaaGreatDoorMgPsLsExpr
import Derived.Deep.Slices
namespace Go.Proofs.YtfnhogeocbndcaaGreatDoor
open Go Go.RowKit
set_option linter.unusedVariables false

/-- The rule loop keeps its contract, given those of the rules of statements at less fuel. -/
def LoopOK (ts : List Tok) (R g c : Nat) : Prop := ∀ f, SC ts R g c f → ∀ s w, (hasT ts s [35] || hasT ts s [102, 111, 114] || hasT ts s [119, 104, 105, 108, 101]) = true → Rd w R g c ts s → 8 * rem ts s + 3 ≤ f + 1 →
  Calls Tryz.prog 157 #[.pointer (some ⟨R, 0, none⟩)] w (TP w R g c ts (one (S ts (f + 1) .lp s)))
theorem sc_all {ts : List Tok} {R g c : Nat} (X : Ctx ts R g c) (HL : LoopOK ts R g c) : ∀ f f1, f1 ≤ f → SC ts R g c f1 := by
  intro f
  induction f with
  | zero =>
    intro f1 h1
    obtain rfl : f1 = 0 := by omega
    exact ⟨fun s w _ h => by omega, fun s w _ _ h => by omega, fun s w _ _ h => by omega⟩
  | succ f ih =>
    intro f1 h1
    by_cases hle : f1 ≤ f
    · exact ih f1 hle
    · obtain rfl : f1 = f + 1 := by omega
      have H := ih f (Nat.le_refl _)
      refine ⟨fun s w hR h => block_step X f ih s w hR h, fun s w hs hR h => statement_step X f H ?_ s w hR h, fun s w hv hR h => branch_step X f H s hv w hR h⟩
      intro q W hq hW hf
      obtain ⟨f0, rfl⟩ : ∃ f0, f = f0 + 1 := ⟨f - 1, by omega⟩
      exact HL f0 (ih f0 (by omega)) q W hq hW hf
theorem blk_any {ts : List Tok} {R g c : Nat} (X : Ctx ts R g c) (HL : LoopOK ts R g c) (s : Sg) (w : World) (hR : Rd w R g c ts s) : Calls Tryz.prog 98 #[.pointer (some ⟨R, 0, none⟩)] w (TP w R g c ts (blk ts s)) := by
  have h := (sc_all X HL (big ts) (big ts) (Nat.le_refl _)).bk s w hR (by have := rem_le (ts := ts) (s := s); unfold big; omega)
  unfold blk
  exact h
theorem more_len {ts : List Tok} {item : Sg → Tree × Sg} (hOn : ∀ s, On ts s (item s).2) : ∀ f acc s, (more ts item f acc s).1.length ≤ acc.length + rem ts s := by
  intro f
  induction f with
  | zero => intro acc s; rw [more]; exact Nat.le_add_right _ _
  | succ f ih =>
    intro acc s
    rw [more]
    split
    · have h1 := ih (acc ++ [(item (adv s)).1]) (item (adv s)).2
      have h2 := rem_on (hOn (adv s))
      have h3 := rem_adv (hasT_in ‹_›)
      rw [List.length_append] at h1
      simp at h1
      omega
    · exact Nat.le_add_right _ _
theorem listM_len {ts : List Tok} {item : Sg → Tree × Sg} (hOn : ∀ s, On ts s (item s).2) (f : Nat) (s : Sg) : (listM ts item f s).1.length ≤ 1 + ts.length := by
  unfold listM
  split
  · simp
  · have h1 := more_len hOn f [(item (exc ts s [40])).1] (item (exc ts s [40])).2
    have h2 := rem_le (ts := ts) (s := (item (exc ts s [40])).2)
    simp at h1 ⊢
    omega
end Go.Proofs.YtfnhogeocbndcaaGreatDoor
/- The rules function and kernel: contracts. -/
namespace Go.Proofs.YtfnhogeocbndcaaGreatDoor
open Go Go.RowKit
set_option linter.unusedVariables false
set_option linter.unusedSimpArgs false

set_option maxHeartbeats 2000000 in
set_option maxRecDepth 100000 in
theorem func_any {ts : List Tok} {R g c : Nat} (X : Ctx ts R g c) (HLP : LoopOK ts R g c) (s : Sg) (hv : hasT ts s [102, 110] = true) (w : World) (hR : Rd w R g c ts s) : Calls Tryz.prog 57 #[.pointer (some ⟨R, 0, none⟩)] w (TP w R g c ts (func ts s)) := by
  have hXl := X.lt
  have F0 := Lib.hid ((Fr.start hR).node hXl ncz)
  have HN := Lib.hid fun W (h : Rd W R g c ts s) => node_any X 2 W h
  have HNM := Lib.hid fun q W (h : Rd W R g c ts q) => name_any X (s := q) W h
  have HTY := Lib.hid fun q W (h : Rd W R g c ts q) => typN_any X (s := q) W h
  have HBK := Lib.hid fun q W (h : Rd W R g c ts q) => blk_any X HLP q W h
  have HLS := Lib.hid fun W (h : Rd W R g c ts (nmS ts (adv s))) => list_scalar X (scal ts) (scal_on ts) (nmS ts (adv s)) (big ts) (by have := rem_le (ts := ts) (s := exc ts (nmS ts (adv s)) [40]); unfold big; omega) (fun q W hq hW => scal_any X q W hW) W h
  have hlen := X.len
  have hll := listM_len (scal_on ts) (big ts) (nmS ts (adv s))
  have hlf : (listM ts (scal ts) (big ts) (nmS ts (adv s))).1.length ≤ 99999 := by omega
  have hlg : (listM ts (scal ts) (big ts) (nmS ts (adv s))).1.length ≤ 100000 := by omega
  have HL : Hid (nc (labK 2 (ln ts s)) = [.int .i64 2, .string ⟨#[]⟩, .int .u64 0, .int .i64 0, .bool false, .int .i64 0, .int .i64 0, .int .i64 0, .int .i64 0, .int .i64 ((ln ts s : Nat) : Int), .slice none 0 0]) := Lib.hid rfl
  rw [HL.out] at HN
  have HE0 := Lib.hid fun W (h : Rd W R g c ts s) => expect_any X (s := s) [102, 110] (by simp) W h
  rw [exc_has hv] at HE0
  have HAR := Lib.hid fun q W (h : Rd W R g c ts q) => expect_any X (s := q) [45, 62] (by simp) W h
  have HM : Hid (func ts s = (.node { labK 2 (ln ts s) with name := nmV ts (adv s), wd := (tyV' ts (exc ts (listM ts (scal ts) (big ts) (nmS ts (adv s))).2 [45, 62])).1, sg := (tyV' ts (exc ts (listM ts (scal ts) (big ts) (nmS ts (adv s))).2 [45, 62])).2 } ((listM ts (scal ts) (big ts) (nmS ts (adv s))).1 ++ [(blk ts (tyS ts (exc ts (listM ts (scal ts) (big ts) (nmS ts (adv s))).2 [45, 62]))).1]), (blk ts (tyS ts (exc ts (listM ts (scal ts) (big ts) (nmS ts (adv s))).2 [45, 62]))).2)) := Lib.hid rfl
  rw [HM.out]
  clear HM hR HL hv hll hlen
  generalize listM ts (scal ts) (big ts) (nmS ts (adv s)) = PL at *
  go_enter Tryz.func57, Tryz.ntmps57
  go_wp2_with fail
  refine (HN.out _ F0.out.rd).mono ?_
  rintro e v1 ⟨rfl, hb⟩
  have G1 := Lib.hid (F0.out.quiet hXl hb)
  clear hb
  obtain ⟨hc0, hf0⟩ := G1.out.b0.all
  have hz0 := G1.out.b0.lt
  unfold ncz at hc0
  have hq10 := G1.out.b0.lt
  have G2 := Lib.hid (G1.out.node hXl [.int .i64 2, .string ⟨#[]⟩, .int .u64 0, .int .i64 0, .bool false, .int .i64 0, .int .i64 0, .int .i64 0, .int .i64 0, .int .i64 ((ln ts s : Nat) : Int), .slice none 0 0])
  go_wp2_with fail
  refine (HE0.out _ G2.out.rd).mono ?_
  rintro e v2 ⟨rfl, hr, hs⟩
  clear hc0 hf0 hz0
  have G3 := Lib.hid (G2.out.call hr hs)
  clear hr hs
  obtain ⟨hc0, hf0⟩ := G3.out.b0.all
  have hz0 := G3.out.b0.lt
  obtain ⟨hc1, hf1⟩ := G3.out.b1.all
  have hz1 := G3.out.b1.lt
  unfold ncz at hc1
  go_wp2_with fail
  refine (HNM.out _ _ G3.out.rd).mono ?_
  rintro e v3 ⟨rfl, hr, hs⟩
  clear hc0 hf0 hz0 hc1 hf1 hz1
  have G4 := Lib.hid (G3.out.call hr hs)
  clear hr hs
  obtain ⟨hc0, hf0⟩ := G4.out.b0.all
  have hz0 := G4.out.b0.lt
  obtain ⟨hc1, hf1⟩ := G4.out.b1.all
  have hz1 := G4.out.b1.lt
  unfold ncz at hc1
  have G5 := Lib.hid (G4.out.set0 hXl 1 (.string (str (nmV ts (adv s)))) [.int .i64 2, .string (str (nmV ts (adv s))), .int .u64 0, .int .i64 0, .bool false, .int .i64 0, .int .i64 0, .int .i64 0, .int .i64 0, .int .i64 ((ln ts s : Nat) : Int), .slice none 0 0] rfl)
  go_wp2_with fail
  refine (HLS.out _ G5.out.rd).mono ?_
  rintro e v4 ⟨vv, rfl, hk, hr, hs⟩
  obtain ⟨x1, k1, rfl⟩ := hk.shape
  clear hc0 hf0 hz0 hc1 hf1 hz1
  have G6 := Lib.hid (G5.out.fkL hk hr hs hlg)
  clear hk hr hs
  obtain ⟨hc0, hf0⟩ := G6.out.fr.b0.all
  have hz0 := G6.out.fr.b0.lt
  obtain ⟨hc1, hf1⟩ := G6.out.fr.b1.all
  have hz1 := G6.out.fr.b1.lt
  unfold ncz at hc1
  have G7 := Lib.hid (G6.out.set0 hXl 10 (.slice x1 PL.1.length k1) [.int .i64 2, .string (str (nmV ts (adv s))), .int .u64 0, .int .i64 0, .bool false, .int .i64 0, .int .i64 0, .int .i64 0, .int .i64 0, .int .i64 ((ln ts s : Nat) : Int), .slice x1 PL.1.length k1] rfl)
  go_wp2_with fail
  refine (HAR.out _ _ G7.out.fr.rd).mono ?_
  rintro e v5 ⟨rfl, hr, hs⟩
  clear hc0 hf0 hz0 hc1 hf1 hz1
  have G8 := Lib.hid (G7.out.call hr hs)
  clear hr hs
  obtain ⟨hc0, hf0⟩ := G8.out.fr.b0.all
  have hz0 := G8.out.fr.b0.lt
  obtain ⟨hc1, hf1⟩ := G8.out.fr.b1.all
  have hz1 := G8.out.fr.b1.lt
  unfold ncz at hc1
  go_wp2_with fail
  refine (HTY.out _ _ G8.out.fr.rd).mono ?_
  rintro e v6 ⟨rfl, hr, hs⟩
  clear hc0 hf0 hz0 hc1 hf1 hz1
  have G9 := Lib.hid (G8.out.call hr hs)
  clear hr hs
  obtain ⟨hc0, hf0⟩ := G9.out.fr.b0.all
  have hz0 := G9.out.fr.b0.lt
  obtain ⟨hc1, hf1⟩ := G9.out.fr.b1.all
  have hz1 := G9.out.fr.b1.lt
  unfold ncz at hc1
  have G10 := Lib.hid (G9.out.set0 hXl 3 (.int .i64 ((tyV' ts (exc ts (PL).2 [45, 62])).1 : Int)) [.int .i64 2, .string (str (nmV ts (adv s))), .int .u64 0, .int .i64 ((tyV' ts (exc ts (PL).2 [45, 62])).1 : Int), .bool false, .int .i64 0, .int .i64 0, .int .i64 0, .int .i64 0, .int .i64 ((ln ts s : Nat) : Int), .slice x1 PL.1.length k1] rfl)
  have G11 := Lib.hid (G10.out.set0 hXl 4 (.bool (tyV' ts (exc ts (PL).2 [45, 62])).2) [.int .i64 2, .string (str (nmV ts (adv s))), .int .u64 0, .int .i64 ((tyV' ts (exc ts (PL).2 [45, 62])).1 : Int), .bool (tyV' ts (exc ts (PL).2 [45, 62])).2, .int .i64 0, .int .i64 0, .int .i64 0, .int .i64 0, .int .i64 ((ln ts s : Nat) : Int), .slice x1 PL.1.length k1] rfl)
  go_wp2
  have G12 := Lib.hid (G11.out.drew)
  go_region_law (first | (refine fk_append KT1.out hXl (by rfl) _ _ _ (by rfl) Tryz.underlying26 infoNd2 (by rfl) (by simp [Act.eval]) ?_; intro g1 c1 u1 hk6; have KX1 := Lib.hid hk6; clear hk6; obtain ⟨hd10, he10⟩ := KX1.out.fr.b0.all; have hy10 := KX1.out.fr.b0.lt; obtain ⟨hd11, he11⟩ := KX1.out.fr.b1.all; have hy11 := KX1.out.fr.b1.lt; unfold ncz at hd11) | (go_simp; go_at_call 98; refine (HBK.out _ _ G12.out.fr.rd).mono ?_; rintro e y1 ⟨l2, x2, n2, k2, rfl, hT, hr, hs⟩; have KT1 := Lib.hid (G12.out.callT hlf hT hr hs); clear hT hr hs; obtain ⟨hu10, hv10⟩ := KT1.out.fr.b0.all; have hw10 := KT1.out.fr.b0.lt; obtain ⟨hu11, hv11⟩ := KT1.out.fr.b1.all; have hw11 := KT1.out.fr.b1.lt; unfold ncz at hu11))
  all_goals
    clear hu10 hv10 hw10 hu11 hv11 hw11
    clear hc0 hf0 hz0 hc1 hf1 hz1
    have G13 := Lib.hid (KX1.out.set0 hXl 10 (.slice (some ⟨g1, 0, none⟩) (PL.1.length + 1) c1) [.int .i64 2, .string (str (nmV ts (adv s))), .int .u64 0, .int .i64 ((tyV' ts (exc ts (PL).2 [45, 62])).1 : Int), .bool (tyV' ts (exc ts (PL).2 [45, 62])).2, .int .i64 0, .int .i64 0, .int .i64 0, .int .i64 0, .int .i64 ((ln ts s : Nat) : Int), .slice (some ⟨g1, 0, none⟩) (PL.1.length + 1) c1] rfl)
    have G14 := Lib.hid (G13.out.tree { labK 2 (ln ts s) with name := nmV ts (adv s), wd := (tyV' ts (exc ts (PL).2 [45, 62])).1, sg := (tyV' ts (exc ts (PL).2 [45, 62])).2 })
    go_wp2
    have G15 := Lib.hid (G14.out.stoR hXl (List.Mem.tail _ (List.Mem.head _)) rfl (.int .i64 2) (.string (str (nmV ts (adv s)))) (.int .u64 0) (.int .i64 ((tyV' ts (exc ts (PL).2 [45, 62])).1 : Int)) (.bool (tyV' ts (exc ts (PL).2 [45, 62])).2) (.int .i64 0) (.int .i64 0) (.int .i64 0) (.int .i64 0) (.int .i64 ((ln ts s : Nat) : Int)) (.slice (some ⟨g1, 0, none⟩) (PL.1.length + 1) c1))
    refine bodyPost_ret (G15.out.b0.res1 Tryz.results57 Tryz.underlying28 rfl infoNd _ rfl) rfl ?_
    exact G15.out.outT (rfl)

set_option maxHeartbeats 2000000 in
set_option maxRecDepth 100000 in
theorem kern_any {ts : List Tok} {R g c : Nat} (X : Ctx ts R g c) (HLP : LoopOK ts R g c) (s : Sg) (w : World) (hR : Rd w R g c ts s) : Calls Tryz.prog 58 #[.pointer (some ⟨R, 0, none⟩)] w (TP w R g c ts (kern ts s)) := by
  have hXl := X.lt
  have F0 := Lib.hid ((Fr.start hR).node hXl ncz)
  have HN := Lib.hid fun W (h : Rd W R g c ts s) => node_any X 3 W h
  have HNM := Lib.hid fun q W (h : Rd W R g c ts q) => name_any X (s := q) W h
  have HTY := Lib.hid fun q W (h : Rd W R g c ts q) => typN_any X (s := q) W h
  have HBK := Lib.hid fun q W (h : Rd W R g c ts q) => blk_any X HLP q W h
  have HLS := Lib.hid fun W (h : Rd W R g c ts (nmS ts (exc ts s [107, 101, 114, 110, 101, 108]))) => list_param X (prm ts) (prm_on ts) (nmS ts (exc ts s [107, 101, 114, 110, 101, 108])) (big ts) (by have := rem_le (ts := ts) (s := exc ts (nmS ts (exc ts s [107, 101, 114, 110, 101, 108])) [40]); unfold big; omega) (fun q W hq hW => prm_any X q W hW) W h
  have hlen := X.len
  have hll := listM_len (prm_on ts) (big ts) (nmS ts (exc ts s [107, 101, 114, 110, 101, 108]))
  have hlf : (listM ts (prm ts) (big ts) (nmS ts (exc ts s [107, 101, 114, 110, 101, 108]))).1.length ≤ 99999 := by omega
  have hlg : (listM ts (prm ts) (big ts) (nmS ts (exc ts s [107, 101, 114, 110, 101, 108]))).1.length ≤ 100000 := by omega
  have HL : Hid (nc (labK 3 (ln ts s)) = [.int .i64 3, .string ⟨#[]⟩, .int .u64 0, .int .i64 0, .bool false, .int .i64 0, .int .i64 0, .int .i64 0, .int .i64 0, .int .i64 ((ln ts s : Nat) : Int), .slice none 0 0]) := Lib.hid rfl
  rw [HL.out] at HN
  have HE0 := Lib.hid fun q W (h : Rd W R g c ts q) => expect_any X (s := q) [107, 101, 114, 110, 101, 108] (by simp) W h
  have HSK := Lib.hid fun W (h : Rd W R g c ts (listM ts (prm ts) (big ts) (nmS ts (exc ts s [107, 101, 114, 110, 101, 108]))).2) => skip_any' X [45, 62] (by simp) W h
  unfold skp at HSK
  cases h1 : hasT ts (listM ts (prm ts) (big ts) (nmS ts (exc ts s [107, 101, 114, 110, 101, 108]))).2 [45, 62] with
  | true =>
    have HM : Hid (kern ts s = (.node { labK 3 (ln ts s) with name := nmV ts (exc ts s [107, 101, 114, 110, 101, 108]), wd := (tyV' ts (adv (listM ts (prm ts) (big ts) (nmS ts (exc ts s [107, 101, 114, 110, 101, 108]))).2)).1, sg := (tyV' ts (adv (listM ts (prm ts) (big ts) (nmS ts (exc ts s [107, 101, 114, 110, 101, 108]))).2)).2 } ((listM ts (prm ts) (big ts) (nmS ts (exc ts s [107, 101, 114, 110, 101, 108]))).1 ++ [(blk ts (tyS ts (adv (listM ts (prm ts) (big ts) (nmS ts (exc ts s [107, 101, 114, 110, 101, 108]))).2))).1]), (blk ts (tyS ts (adv (listM ts (prm ts) (big ts) (nmS ts (exc ts s [107, 101, 114, 110, 101, 108]))).2))).2)) := Lib.hid (by unfold kern; dsimp only; rw [if_pos h1])
    rw [HM.out]
    rw [h1] at HSK
    clear HM hR HL h1 hll hlen
    generalize listM ts (prm ts) (big ts) (nmS ts (exc ts s [107, 101, 114, 110, 101, 108])) = PL at *
    go_enter Tryz.func58, Tryz.ntmps58
    go_wp2_with fail
    refine (HN.out _ F0.out.rd).mono ?_
    rintro e v1 ⟨rfl, hb⟩
    have G1 := Lib.hid (F0.out.quiet hXl hb)
    clear hb
    obtain ⟨hc0, hf0⟩ := G1.out.b0.all
    have hz0 := G1.out.b0.lt
    unfold ncz at hc0
    have hq10 := G1.out.b0.lt
    have G2 := Lib.hid (G1.out.node hXl [.int .i64 3, .string ⟨#[]⟩, .int .u64 0, .int .i64 0, .bool false, .int .i64 0, .int .i64 0, .int .i64 0, .int .i64 0, .int .i64 ((ln ts s : Nat) : Int), .slice none 0 0])
    go_wp2_with fail
    refine (HE0.out _ _ G2.out.rd).mono ?_
    rintro e v2 ⟨rfl, hr, hs⟩
    clear hc0 hf0 hz0
    have G3 := Lib.hid (G2.out.call hr hs)
    clear hr hs
    obtain ⟨hc0, hf0⟩ := G3.out.b0.all
    have hz0 := G3.out.b0.lt
    obtain ⟨hc1, hf1⟩ := G3.out.b1.all
    have hz1 := G3.out.b1.lt
    unfold ncz at hc1
    go_wp2_with fail
    refine (HNM.out _ _ G3.out.rd).mono ?_
    rintro e v3 ⟨rfl, hr, hs⟩
    clear hc0 hf0 hz0 hc1 hf1 hz1
    have G4 := Lib.hid (G3.out.call hr hs)
    clear hr hs
    obtain ⟨hc0, hf0⟩ := G4.out.b0.all
    have hz0 := G4.out.b0.lt
    obtain ⟨hc1, hf1⟩ := G4.out.b1.all
    have hz1 := G4.out.b1.lt
    unfold ncz at hc1
    have G5 := Lib.hid (G4.out.set0 hXl 1 (.string (str (nmV ts (exc ts s [107, 101, 114, 110, 101, 108])))) [.int .i64 3, .string (str (nmV ts (exc ts s [107, 101, 114, 110, 101, 108]))), .int .u64 0, .int .i64 0, .bool false, .int .i64 0, .int .i64 0, .int .i64 0, .int .i64 0, .int .i64 ((ln ts s : Nat) : Int), .slice none 0 0] rfl)
    go_wp2_with fail
    refine (HLS.out _ G5.out.rd).mono ?_
    rintro e v4 ⟨vv, rfl, hk, hr, hs⟩
    obtain ⟨x1, k1, rfl⟩ := hk.shape
    clear hc0 hf0 hz0 hc1 hf1 hz1
    have G6 := Lib.hid (G5.out.fkL hk hr hs hlg)
    clear hk hr hs
    obtain ⟨hc0, hf0⟩ := G6.out.fr.b0.all
    have hz0 := G6.out.fr.b0.lt
    obtain ⟨hc1, hf1⟩ := G6.out.fr.b1.all
    have hz1 := G6.out.fr.b1.lt
    unfold ncz at hc1
    have G7 := Lib.hid (G6.out.set0 hXl 10 (.slice x1 PL.1.length k1) [.int .i64 3, .string (str (nmV ts (exc ts s [107, 101, 114, 110, 101, 108]))), .int .u64 0, .int .i64 0, .bool false, .int .i64 0, .int .i64 0, .int .i64 0, .int .i64 0, .int .i64 ((ln ts s : Nat) : Int), .slice x1 PL.1.length k1] rfl)
    go_wp2_with fail
    refine (HSK.out _ G7.out.fr.rd).mono ?_
    rintro e v5 ⟨rfl, hr, hs⟩
    clear hc0 hf0 hz0 hc1 hf1 hz1
    have G8 := Lib.hid (G7.out.call hr hs)
    clear hr hs
    obtain ⟨hc0, hf0⟩ := G8.out.fr.b0.all
    have hz0 := G8.out.fr.b0.lt
    obtain ⟨hc1, hf1⟩ := G8.out.fr.b1.all
    have hz1 := G8.out.fr.b1.lt
    unfold ncz at hc1
    go_wp2_with fail
    refine (HTY.out _ _ G8.out.fr.rd).mono ?_
    rintro e v6 ⟨rfl, hr, hs⟩
    clear hc0 hf0 hz0 hc1 hf1 hz1
    have G9 := Lib.hid (G8.out.call hr hs)
    clear hr hs
    obtain ⟨hc0, hf0⟩ := G9.out.fr.b0.all
    have hz0 := G9.out.fr.b0.lt
    obtain ⟨hc1, hf1⟩ := G9.out.fr.b1.all
    have hz1 := G9.out.fr.b1.lt
    unfold ncz at hc1
    have G10 := Lib.hid (G9.out.set0 hXl 3 (.int .i64 ((tyV' ts (adv (PL).2)).1 : Int)) [.int .i64 3, .string (str (nmV ts (exc ts s [107, 101, 114, 110, 101, 108]))), .int .u64 0, .int .i64 ((tyV' ts (adv (PL).2)).1 : Int), .bool false, .int .i64 0, .int .i64 0, .int .i64 0, .int .i64 0, .int .i64 ((ln ts s : Nat) : Int), .slice x1 PL.1.length k1] rfl)
    have G11 := Lib.hid (G10.out.set0 hXl 4 (.bool (tyV' ts (adv (PL).2)).2) [.int .i64 3, .string (str (nmV ts (exc ts s [107, 101, 114, 110, 101, 108]))), .int .u64 0, .int .i64 ((tyV' ts (adv (PL).2)).1 : Int), .bool (tyV' ts (adv (PL).2)).2, .int .i64 0, .int .i64 0, .int .i64 0, .int .i64 0, .int .i64 ((ln ts s : Nat) : Int), .slice x1 PL.1.length k1] rfl)
    go_wp2
    have G12 := Lib.hid (G11.out.drew)
    go_region_law (first | (refine fk_append KT1.out hXl (by rfl) _ _ _ (by rfl) Tryz.underlying26 infoNd2 (by rfl) (by simp [Act.eval]) ?_; intro g1 c1 u1 hk6; have KX1 := Lib.hid hk6; clear hk6; obtain ⟨hd10, he10⟩ := KX1.out.fr.b0.all; have hy10 := KX1.out.fr.b0.lt; obtain ⟨hd11, he11⟩ := KX1.out.fr.b1.all; have hy11 := KX1.out.fr.b1.lt; unfold ncz at hd11) | (go_simp; go_at_call 98; refine (HBK.out _ _ G12.out.fr.rd).mono ?_; rintro e y1 ⟨l2, x2, n2, k2, rfl, hT, hr, hs⟩; have KT1 := Lib.hid (G12.out.callT hlf hT hr hs); clear hT hr hs; obtain ⟨hu10, hv10⟩ := KT1.out.fr.b0.all; have hw10 := KT1.out.fr.b0.lt; obtain ⟨hu11, hv11⟩ := KT1.out.fr.b1.all; have hw11 := KT1.out.fr.b1.lt; unfold ncz at hu11))
    all_goals
      clear hu10 hv10 hw10 hu11 hv11 hw11
      clear hc0 hf0 hz0 hc1 hf1 hz1
      have G13 := Lib.hid (KX1.out.set0 hXl 10 (.slice (some ⟨g1, 0, none⟩) (PL.1.length + 1) c1) [.int .i64 3, .string (str (nmV ts (exc ts s [107, 101, 114, 110, 101, 108]))), .int .u64 0, .int .i64 ((tyV' ts (adv (PL).2)).1 : Int), .bool (tyV' ts (adv (PL).2)).2, .int .i64 0, .int .i64 0, .int .i64 0, .int .i64 0, .int .i64 ((ln ts s : Nat) : Int), .slice (some ⟨g1, 0, none⟩) (PL.1.length + 1) c1] rfl)
      have G14 := Lib.hid (G13.out.tree { labK 3 (ln ts s) with name := nmV ts (exc ts s [107, 101, 114, 110, 101, 108]), wd := (tyV' ts (adv (PL).2)).1, sg := (tyV' ts (adv (PL).2)).2 })
      go_wp2
      have G15 := Lib.hid (G14.out.stoR hXl (List.Mem.tail _ (List.Mem.head _)) rfl (.int .i64 3) (.string (str (nmV ts (exc ts s [107, 101, 114, 110, 101, 108])))) (.int .u64 0) (.int .i64 ((tyV' ts (adv (PL).2)).1 : Int)) (.bool (tyV' ts (adv (PL).2)).2) (.int .i64 0) (.int .i64 0) (.int .i64 0) (.int .i64 0) (.int .i64 ((ln ts s : Nat) : Int)) (.slice (some ⟨g1, 0, none⟩) (PL.1.length + 1) c1))
      refine bodyPost_ret (G15.out.b0.res1 Tryz.results58 Tryz.underlying28 rfl infoNd _ rfl) rfl ?_
      exact G15.out.outT (rfl)
  | false =>
    have HM : Hid (kern ts s = (.node { labK 3 (ln ts s) with name := nmV ts (exc ts s [107, 101, 114, 110, 101, 108]) } ((listM ts (prm ts) (big ts) (nmS ts (exc ts s [107, 101, 114, 110, 101, 108]))).1 ++ [(blk ts ((listM ts (prm ts) (big ts) (nmS ts (exc ts s [107, 101, 114, 110, 101, 108]))).2)).1]), (blk ts ((listM ts (prm ts) (big ts) (nmS ts (exc ts s [107, 101, 114, 110, 101, 108]))).2)).2)) := Lib.hid (by unfold kern; dsimp only; rw [if_neg (by simp [h1])])
    rw [HM.out]
    rw [h1] at HSK
    clear HM hR HL h1 hll hlen
    generalize listM ts (prm ts) (big ts) (nmS ts (exc ts s [107, 101, 114, 110, 101, 108])) = PL at *
    go_enter Tryz.func58, Tryz.ntmps58
    go_wp2_with fail
    refine (HN.out _ F0.out.rd).mono ?_
    rintro e v1 ⟨rfl, hb⟩
    have G1 := Lib.hid (F0.out.quiet hXl hb)
    clear hb
    obtain ⟨hc0, hf0⟩ := G1.out.b0.all
    have hz0 := G1.out.b0.lt
    unfold ncz at hc0
    have hq10 := G1.out.b0.lt
    have G2 := Lib.hid (G1.out.node hXl [.int .i64 3, .string ⟨#[]⟩, .int .u64 0, .int .i64 0, .bool false, .int .i64 0, .int .i64 0, .int .i64 0, .int .i64 0, .int .i64 ((ln ts s : Nat) : Int), .slice none 0 0])
    go_wp2_with fail
    refine (HE0.out _ _ G2.out.rd).mono ?_
    rintro e v2 ⟨rfl, hr, hs⟩
    clear hc0 hf0 hz0
    have G3 := Lib.hid (G2.out.call hr hs)
    clear hr hs
    obtain ⟨hc0, hf0⟩ := G3.out.b0.all
    have hz0 := G3.out.b0.lt
    obtain ⟨hc1, hf1⟩ := G3.out.b1.all
    have hz1 := G3.out.b1.lt
    unfold ncz at hc1
    go_wp2_with fail
    refine (HNM.out _ _ G3.out.rd).mono ?_
    rintro e v3 ⟨rfl, hr, hs⟩
    clear hc0 hf0 hz0 hc1 hf1 hz1
    have G4 := Lib.hid (G3.out.call hr hs)
    clear hr hs
    obtain ⟨hc0, hf0⟩ := G4.out.b0.all
    have hz0 := G4.out.b0.lt
    obtain ⟨hc1, hf1⟩ := G4.out.b1.all
    have hz1 := G4.out.b1.lt
    unfold ncz at hc1
    have G5 := Lib.hid (G4.out.set0 hXl 1 (.string (str (nmV ts (exc ts s [107, 101, 114, 110, 101, 108])))) [.int .i64 3, .string (str (nmV ts (exc ts s [107, 101, 114, 110, 101, 108]))), .int .u64 0, .int .i64 0, .bool false, .int .i64 0, .int .i64 0, .int .i64 0, .int .i64 0, .int .i64 ((ln ts s : Nat) : Int), .slice none 0 0] rfl)
    go_wp2_with fail
    refine (HLS.out _ G5.out.rd).mono ?_
    rintro e v4 ⟨vv, rfl, hk, hr, hs⟩
    obtain ⟨x1, k1, rfl⟩ := hk.shape
    clear hc0 hf0 hz0 hc1 hf1 hz1
    have G6 := Lib.hid (G5.out.fkL hk hr hs hlg)
    clear hk hr hs
    obtain ⟨hc0, hf0⟩ := G6.out.fr.b0.all
    have hz0 := G6.out.fr.b0.lt
    obtain ⟨hc1, hf1⟩ := G6.out.fr.b1.all
    have hz1 := G6.out.fr.b1.lt
    unfold ncz at hc1
    have G7 := Lib.hid (G6.out.set0 hXl 10 (.slice x1 PL.1.length k1) [.int .i64 3, .string (str (nmV ts (exc ts s [107, 101, 114, 110, 101, 108]))), .int .u64 0, .int .i64 0, .bool false, .int .i64 0, .int .i64 0, .int .i64 0, .int .i64 0, .int .i64 ((ln ts s : Nat) : Int), .slice x1 PL.1.length k1] rfl)
    go_wp2_with fail
    refine (HSK.out _ G7.out.fr.rd).mono ?_
    rintro e v5 ⟨rfl, hr, hs⟩
    clear hc0 hf0 hz0 hc1 hf1 hz1
    have G8 := Lib.hid (G7.out.call hr hs)
    clear hr hs
    obtain ⟨hc0, hf0⟩ := G8.out.fr.b0.all
    have hz0 := G8.out.fr.b0.lt
    obtain ⟨hc1, hf1⟩ := G8.out.fr.b1.all
    have hz1 := G8.out.fr.b1.lt
    unfold ncz at hc1
    go_wp2
    have G9 := Lib.hid (G8.out.drew)
    go_region_law (first | (refine fk_append KT1.out hXl (by rfl) _ _ _ (by rfl) Tryz.underlying26 infoNd2 (by rfl) (by simp [Act.eval]) ?_; intro g1 c1 u1 hk6; have KX1 := Lib.hid hk6; clear hk6; obtain ⟨hd10, he10⟩ := KX1.out.fr.b0.all; have hy10 := KX1.out.fr.b0.lt; obtain ⟨hd11, he11⟩ := KX1.out.fr.b1.all; have hy11 := KX1.out.fr.b1.lt; unfold ncz at hd11) | (go_simp; go_at_call 98; refine (HBK.out _ _ G9.out.fr.rd).mono ?_; rintro e y1 ⟨l2, x2, n2, k2, rfl, hT, hr, hs⟩; have KT1 := Lib.hid (G9.out.callT hlf hT hr hs); clear hT hr hs; obtain ⟨hu10, hv10⟩ := KT1.out.fr.b0.all; have hw10 := KT1.out.fr.b0.lt; obtain ⟨hu11, hv11⟩ := KT1.out.fr.b1.all; have hw11 := KT1.out.fr.b1.lt; unfold ncz at hu11))
    all_goals
      clear hu10 hv10 hw10 hu11 hv11 hw11
      clear hc0 hf0 hz0 hc1 hf1 hz1
      have G10 := Lib.hid (KX1.out.set0 hXl 10 (.slice (some ⟨g1, 0, none⟩) (PL.1.length + 1) c1) [.int .i64 3, .string (str (nmV ts (exc ts s [107, 101, 114, 110, 101, 108]))), .int .u64 0, .int .i64 0, .bool false, .int .i64 0, .int .i64 0, .int .i64 0, .int .i64 0, .int .i64 ((ln ts s : Nat) : Int), .slice (some ⟨g1, 0, none⟩) (PL.1.length + 1) c1] rfl)
      have G11 := Lib.hid (G10.out.tree { labK 3 (ln ts s) with name := nmV ts (exc ts s [107, 101, 114, 110, 101, 108]) })
      go_wp2
      have G12 := Lib.hid (G11.out.stoR hXl (List.Mem.tail _ (List.Mem.head _)) rfl (.int .i64 3) (.string (str (nmV ts (exc ts s [107, 101, 114, 110, 101, 108])))) (.int .u64 0) (.int .i64 0) (.bool false) (.int .i64 0) (.int .i64 0) (.int .i64 0) (.int .i64 0) (.int .i64 ((ln ts s : Nat) : Int)) (.slice (some ⟨g1, 0, none⟩) (PL.1.length + 1) c1))
      refine bodyPost_ret (G12.out.b0.res1 Tryz.results58 Tryz.underlying28 rfl infoNd _ rfl) rfl ?_
      exact G12.out.outT (rfl)
end Go.Proofs.YtfnhogeocbndcaaGreatDoor
/- The rule program: contract. -/
namespace Go.Proofs.YtfnhogeocbndcaaGreatDoor
open Go Go.RowKit
set_option linter.unusedVariables false
set_option linter.unusedSimpArgs false

theorem units_end {ts : List Tok} {f : Nat} {acc : List Tree} {s : Sg} (h : ¬ (s.bad = false ∧ s.i < ts.length)) : units ts (f + 1) acc s = (acc, s) := by rw [units, if_neg h]
theorem units_fn {ts : List Tok} {f : Nat} {acc : List Tree} {s : Sg} (h : s.bad = false ∧ s.i < ts.length) (h2 : hasT ts s [102, 110] = true) : units ts (f + 1) acc s = units ts f (acc ++ [(func ts s).1]) (func ts s).2 := by rw [units, if_pos h, if_pos h2]
theorem units_kn {ts : List Tok} {f : Nat} {acc : List Tree} {s : Sg} (h : s.bad = false ∧ s.i < ts.length) (h2 : hasT ts s [102, 110] = false) : units ts (f + 1) acc s = units ts f (acc ++ [(kern ts s).1]) (kern ts s).2 := by rw [units, if_pos h, if_neg (by simp [h2])]
theorem func_prog {ts : List Tok} {s : Sg} (hs : s.bad = false ∧ s.i < ts.length) : rem ts (func ts s).2 + 1 ≤ rem ts s := by
  have ha := rem_adv hs
  have h1 : On ts (adv s) (func ts s).2 := by
    unfold func
    dsimp only
    exact (nmS_on _ _).trans ((listM_on (scal_on ts) _ _).trans (exc_on.trans ((tyS_on _ _).trans (blk_on _ _))))
  have := rem_on h1
  omega
theorem kern_prog {ts : List Tok} {s : Sg} (hs : s.bad = false ∧ s.i < ts.length) : rem ts (kern ts s).2 + 1 ≤ rem ts s := by
  have ha := rem_adv hs
  have hst : rem ts (stop s) + 1 ≤ rem ts s := by unfold rem stop; rw [hs.1]; simp; omega
  have he : rem ts (exc ts s [107, 101, 114, 110, 101, 108]) + 1 ≤ rem ts s := by
    unfold exc
    split
    · omega
    · exact hst
  have h1 : On ts (exc ts s [107, 101, 114, 110, 101, 108]) (kern ts s).2 := by
    have h2 : On ts (exc ts s [107, 101, 114, 110, 101, 108]) (listM ts (prm ts) (big ts) (nmS ts (exc ts s [107, 101, 114, 110, 101, 108]))).2 := (nmS_on _ _).trans (listM_on (prm_on ts) _ _)
    unfold kern
    dsimp only
    split
    · exact h2.trans ((adv_on (hasT_in ‹_›)).trans ((tyS_on _ _).trans (blk_on _ _)))
    · exact h2.trans (blk_on _ _)
  have := rem_on h1
  omega
/-- The state of the loop over functions and kernels. -/
def PgSt (ts : List Tok) (R g c : Nat) (w : World) (L0 L1 : Nat) (Z : List Tree × Sg) (L9 : Nat) (wr : World) (st : Sg) : Prop :=
  ∃ (x : Option Addr) (k F base : Nat) (acc : List Tree), FK w wr R g c ts st [(L1, [.int .i64 1, .string ⟨#[]⟩, .int .u64 0, .int .i64 0, .bool false, .int .i64 0, .int .i64 0, .int .i64 0, .int .i64 0, .int .i64 (L9 : Int), .slice x acc.length k]), (L0, ncz)] base (.slice x acc.length k) acc ∧ Z = units ts (F + 1) acc st ∧ rem ts st ≤ F ∧ acc.length + rem ts st ≤ ts.length
set_option maxHeartbeats 2000000 in
set_option maxRecDepth 100000 in
theorem program_any {ts : List Tok} {R g c : Nat} (X : Ctx ts R g c) (HLP : LoopOK ts R g c) (w : World) (hR : Rd w R g c ts ⟨0, false⟩) : Calls Tryz.prog 30 #[.pointer (some ⟨R, 0, none⟩)] w (TP w R g c ts (progT ts)) := by
  have hXl := X.lt
  have F0 := Lib.hid ((Fr.start hR).node hXl ncz)
  obtain ⟨s, hs0⟩ : ∃ s : Sg, s = ⟨0, false⟩ := ⟨_, rfl⟩
  rw [← hs0] at F0 hR
  have HN := Lib.hid fun W (h : Rd W R g c ts s) => node_any X 1 W h
  have HNX := Lib.hid fun q W (h : Rd W R g c ts q) => next_any X (s := q) W h
  have HFT := Lib.hid fun q W => fldT (nxt ts q) W
  have hlen := X.len
  have HL : Hid (nc (labK 1 (ln ts s)) = [.int .i64 1, .string ⟨#[]⟩, .int .u64 0, .int .i64 0, .bool false, .int .i64 0, .int .i64 0, .int .i64 0, .int .i64 0, .int .i64 ((ln ts s : Nat) : Int), .slice none 0 0]) := Lib.hid rfl
  rw [HL.out] at HN
  have hne : 0 < ts.length := List.length_pos_iff.2 X.ne
  have hln1 : 1 ≤ ln ts s := by
    rw [hs0]
    show 1 ≤ (tat ts 0).line
    rw [tat_get hne]
    exact (X.line _ (List.getElem_mem hne)).1
  obtain ⟨Z, hZ⟩ : ∃ Z, Z = units ts (ts.length + 1) [] s := ⟨_, rfl⟩
  have HM : Hid (progT ts = (.node (labK 1 (ln ts s)) Z.1, Z.2)) := Lib.hid (by rw [hZ, hs0]; unfold progT; dsimp only; rw [Nat.max_eq_left (by rw [← hs0]; exact hln1)])
  rw [HM.out]
  have HZ := Lib.hid hZ
  have hrl : rem ts s ≤ ts.length := rem_le
  clear HM hR HL hZ hs0
  generalize ln ts s = L9 at *
  have hmax : max (L9 : Int) 1 = (L9 : Int) := by omega
  go_enter Tryz.func30, Tryz.ntmps30
  go_wp2_with fail
  refine (HN.out _ F0.out.rd).mono ?_
  rintro e v1 ⟨rfl, hb⟩
  have G1 := Lib.hid (F0.out.quiet hXl hb)
  clear hb
  obtain ⟨hc0, hf0⟩ := G1.out.b0.all
  have hz0 := G1.out.b0.lt
  unfold ncz at hc0
  have hq10 := G1.out.b0.lt
  have G2 := Lib.hid (G1.out.node hXl [.int .i64 1, .string ⟨#[]⟩, .int .u64 0, .int .i64 0, .bool false, .int .i64 0, .int .i64 0, .int .i64 0, .int .i64 0, .int .i64 (L9 : Int), .slice none 0 0])
  have hzw : w.heap.size < v1.heap.size := hq10
  go_wp2
  clear hmax
  have G3 := Lib.hid (G2.out.fk)
  have h0 : Hid (PgSt ts R g c w w.heap.size v1.heap.size Z L9 _ s) := Lib.hid ⟨none, 0, ts.length, _, [], G3.out, HZ.out, hrl, by simp; exact hrl⟩
  clear HZ hrl HN hc0 hf0 hz0
  go_loopw [10] (fun _ wr => ∃ st, Hid (PgSt ts R g c w w.heap.size v1.heap.size Z L9 wr st)) (fun _ wr => ts.length - atW wr R)
  case atStart => exact ⟨_, h0⟩
  case round =>
    obtain ⟨st, hT⟩ := hrel
    obtain ⟨xk, kk, F, base, acc, hFr, hZ, hfu2, hal⟩ := hT.out
    have J0 := Lib.hid hFr
    have HZ2 := Lib.hid hZ
    obtain ⟨c0, c1, c2, f1a, f2a⟩ := J0.out.fr.rd.cells
    have hzR := J0.out.fr.rd.lt
    have hatl := atOf_le (ts := ts) J0.out.fr.rd.hi
    have hm0 := atW_rd J0.out.fr.rd
    clear hFr hZ hT h0 c2 f1a f2a
    by_cases hat : atOf ts st < ts.length
    · have hst : st.bad = false ∧ st.i < ts.length := by
        unfold atOf at hat
        cases hb : st.bad with
        | true => rw [hb] at hat; simp at hat
        | false => rw [hb] at hat; exact ⟨rfl, by simpa using hat⟩
      have qa : decide ((atOf ts st : Int) < (ts.length : Int)) = true := by simp; omega
      have qb : decide (atOf ts st < ts.length) = true := by simp; omega
      have hq1 : ((str (nxt ts st).text).toList == [102, 110]) = hasT ts st [102, 110] := by have := hasT_bytes ts st [102, 110]; rw [str_toList [102, 110]] at this; exact this
      have hF := HFT.out st
      obtain ⟨F2, rfl⟩ : ∃ F2, F = F2 + 1 := ⟨F - 1, by have := rem_adv hst; omega⟩
      have HHIN := Lib.hid hst
      have hfew : acc.length ≤ 99999 := by omega
      have HAT := Lib.hid hat
      cases hc : hasT ts st [102, 110] with
      | true =>
        rw [hc] at hq1
        have HZ3 : Hid (Z = units ts (F2 + 1) (acc ++ [(func ts st).1]) (func ts st).2) := Lib.hid (HZ2.out.trans (units_fn hst hc))
        have hpr : rem ts (func ts st).2 + 1 ≤ rem ts st := func_prog hst
        have HON : Hid (On ts st (func ts st).2) := Lib.hid (func_on hst)
        have HST := Lib.hid fun W (h : Rd W R g c ts st) => func_any X HLP st hc W h
        have hmm : Hid (atW wr R = atOf ts st) := Lib.hid hm0
        clear HZ2 hst hc hm0 hat
        go_wp2
        go_quiet (fail)
        have G31 := Lib.hid (J0.out.drewN nq)
        go_wp2_with fail
        refine (HNX.out _ _ G31.out.fr.rd).mono ?_
        rintro e v5 ⟨rfl, hb⟩
        have G32 := Lib.hid (G31.out.quiet hXl hb)
        clear hb
        obtain ⟨hc0, hf0⟩ := G32.out.fr.b0.all
        have hz0 := G32.out.fr.b0.lt
        obtain ⟨hc1, hf1⟩ := G32.out.fr.b1.all
        have hz1 := G32.out.fr.b1.lt
        unfold ncz at hc1
        clear qa qb c0 c1 hzR
        go_wp2
        have G33 := Lib.hid (G32.out.drew)
        go_region_law (first | (refine fk_append KT1.out hXl (by rfl) _ _ _ (by rfl) Tryz.underlying26 infoNd2 (by rfl) (by simp [Act.eval]) ?_; intro g1 c1 u1 hk6; have KX1 := Lib.hid hk6; clear hk6; obtain ⟨hd10, he10⟩ := KX1.out.fr.b0.all; have hy10 := KX1.out.fr.b0.lt; obtain ⟨hd11, he11⟩ := KX1.out.fr.b1.all; have hy11 := KX1.out.fr.b1.lt; unfold ncz at hd11) | (go_simp; go_at_call 57; refine (HST.out _ G33.out.fr.rd).mono ?_; rintro e y1 ⟨l3, x3, n3, k3, rfl, hT, hr, hs⟩; have KT1 := Lib.hid (G33.out.callT hfew hT hr hs); clear hT hr hs; obtain ⟨hu10, hv10⟩ := KT1.out.fr.b0.all; have hw10 := KT1.out.fr.b0.lt; obtain ⟨hu11, hv11⟩ := KT1.out.fr.b1.all; have hw11 := KT1.out.fr.b1.lt; unfold ncz at hu11))
        all_goals
          clear hu10 hv10 hw10 hu11 hv11 hw11
          clear hc0 hf0 hz0 hc1 hf1 hz1
          have G34 := Lib.hid (KX1.out.set0 hXl 10 (.slice (some ⟨g1, 0, none⟩) (acc.length + 1) c1) [.int .i64 1, .string ⟨#[]⟩, .int .u64 0, .int .i64 0, .bool false, .int .i64 0, .int .i64 0, .int .i64 0, .int .i64 0, .int .i64 (L9 : Int), .slice (some ⟨g1, 0, none⟩) (acc.length + 1) c1] rfl)
          have JE := Lib.hid G34.out
          have hm1 := atW_rd JE.out.fr.rd
          have hma := atOf_adv2 HHIN.out HON.out hpr JE.out.fr.rd.hi
          have hal2 : (acc ++ [(func ts st).1]).length = acc.length + 1 := by simp
          have HN2 : Hid (PgSt ts R g c w w.heap.size v1.heap.size Z L9 _ (func ts st).2) := Lib.hid ⟨some ⟨g1, 0, none⟩, c1, F2, base, _, (by rw [hal2]; exact JE.out), HZ3.out, by omega, by rw [hal2]; omega⟩
          have HM1 := Lib.hid hm1
          have HM : Hid (ts.length - atOf ts (func ts st).2 < ts.length - atOf ts st) := Lib.hid (by omega)
          clear hm1 hma hal2
          go_wp2
          go_roundw
          case rel => exact ⟨_, HN2⟩
          case measure => (rw [hmm.out]; refine Nat.lt_of_le_of_lt (Nat.le_of_eq ?_) HM.out; exact congrArg (ts.length - ·) HM1.out)
      | false =>
        rw [hc] at hq1
        have HZ3 : Hid (Z = units ts (F2 + 1) (acc ++ [(kern ts st).1]) (kern ts st).2) := Lib.hid (HZ2.out.trans (units_kn hst hc))
        have hpr : rem ts (kern ts st).2 + 1 ≤ rem ts st := kern_prog hst
        have HON : Hid (On ts st (kern ts st).2) := Lib.hid (kern_on ts st)
        have HST := Lib.hid fun W (h : Rd W R g c ts st) => kern_any X HLP st W h
        have hmm : Hid (atW wr R = atOf ts st) := Lib.hid hm0
        clear HZ2 hst hc hm0 hat
        go_wp2
        go_quiet (fail)
        have G31 := Lib.hid (J0.out.drewN nq)
        go_wp2_with fail
        refine (HNX.out _ _ G31.out.fr.rd).mono ?_
        rintro e v5 ⟨rfl, hb⟩
        have G32 := Lib.hid (G31.out.quiet hXl hb)
        clear hb
        obtain ⟨hc0, hf0⟩ := G32.out.fr.b0.all
        have hz0 := G32.out.fr.b0.lt
        obtain ⟨hc1, hf1⟩ := G32.out.fr.b1.all
        have hz1 := G32.out.fr.b1.lt
        unfold ncz at hc1
        clear qa qb c0 c1 hzR
        go_wp2
        have G33 := Lib.hid (G32.out.drew)
        go_region_law (first | (refine fk_append KT1.out hXl (by rfl) _ _ _ (by rfl) Tryz.underlying26 infoNd2 (by rfl) (by simp [Act.eval]) ?_; intro g1 c1 u1 hk6; have KX1 := Lib.hid hk6; clear hk6; obtain ⟨hd10, he10⟩ := KX1.out.fr.b0.all; have hy10 := KX1.out.fr.b0.lt; obtain ⟨hd11, he11⟩ := KX1.out.fr.b1.all; have hy11 := KX1.out.fr.b1.lt; unfold ncz at hd11) | (go_simp; go_at_call 58; refine (HST.out _ G33.out.fr.rd).mono ?_; rintro e y1 ⟨l3, x3, n3, k3, rfl, hT, hr, hs⟩; have KT1 := Lib.hid (G33.out.callT hfew hT hr hs); clear hT hr hs; obtain ⟨hu10, hv10⟩ := KT1.out.fr.b0.all; have hw10 := KT1.out.fr.b0.lt; obtain ⟨hu11, hv11⟩ := KT1.out.fr.b1.all; have hw11 := KT1.out.fr.b1.lt; unfold ncz at hu11))
        all_goals
          clear hu10 hv10 hw10 hu11 hv11 hw11
          clear hc0 hf0 hz0 hc1 hf1 hz1
          have G34 := Lib.hid (KX1.out.set0 hXl 10 (.slice (some ⟨g1, 0, none⟩) (acc.length + 1) c1) [.int .i64 1, .string ⟨#[]⟩, .int .u64 0, .int .i64 0, .bool false, .int .i64 0, .int .i64 0, .int .i64 0, .int .i64 0, .int .i64 (L9 : Int), .slice (some ⟨g1, 0, none⟩) (acc.length + 1) c1] rfl)
          have JE := Lib.hid G34.out
          have hm1 := atW_rd JE.out.fr.rd
          have hma := atOf_adv2 HHIN.out HON.out hpr JE.out.fr.rd.hi
          have hal2 : (acc ++ [(kern ts st).1]).length = acc.length + 1 := by simp
          have HN2 : Hid (PgSt ts R g c w w.heap.size v1.heap.size Z L9 _ (kern ts st).2) := Lib.hid ⟨some ⟨g1, 0, none⟩, c1, F2, base, _, (by rw [hal2]; exact JE.out), HZ3.out, by omega, by rw [hal2]; omega⟩
          have HM1 := Lib.hid hm1
          have HM : Hid (ts.length - atOf ts (kern ts st).2 < ts.length - atOf ts st) := Lib.hid (by omega)
          clear hm1 hma hal2
          go_wp2
          go_roundw
          case rel => exact ⟨_, HN2⟩
          case measure => (rw [hmm.out]; refine Nat.lt_of_le_of_lt (Nat.le_of_eq ?_) HM.out; exact congrArg (ts.length - ·) HM1.out)
    · have HZ3 : Hid (Z = (acc, st)) := Lib.hid (HZ2.out.trans (units_end (by
          unfold atOf at hat
          intro hh
          rw [hh.1] at hat
          exact hat (by simpa using hh.2))))
      have qa : decide ((atOf ts st : Int) < (ts.length : Int)) = false := by simp; omega
      have qb : decide (atOf ts st < ts.length) = false := by simp; omega
      clear HZ2 hat hm0
      go_wp2
      go_quiet (fail)
      have G51 := Lib.hid (J0.out.drewN nq)
      have hzz := HZ3.out
      subst hzz
      obtain ⟨hc0, hf0⟩ := G51.out.fr.b0.all
      have hz0 := G51.out.fr.b0.lt
      obtain ⟨hc1, hf1⟩ := G51.out.fr.b1.all
      have hz1 := G51.out.fr.b1.lt
      unfold ncz at hc1
      have G52 := Lib.hid (G51.out.tree (labK 1 L9))
      go_wp2
      have G53 := Lib.hid (G52.out.stoR hXl (List.Mem.tail _ (List.Mem.head _)) rfl (.int .i64 1) (.string ⟨#[]⟩) (.int .u64 0) (.int .i64 0) (.bool false) (.int .i64 0) (.int .i64 0) (.int .i64 0) (.int .i64 0) (.int .i64 (L9 : Int)) (.slice xk acc.length kk))
      refine bodyPost_ret (G53.out.b0.res1 Tryz.results30 Tryz.underlying28 rfl infoNd _ rfl) rfl ?_
      exact G53.out.outT (rfl)
end Go.Proofs.YtfnhogeocbndcaaGreatDoor
/- The kids of a tree in memory, for reading. -/
namespace Go.Proofs.YtfnhogeocbndcaaGreatDoor
open Go Go.RowKit
set_option linter.unusedVariables false

/-- The cells of kid i of a slice of nodes, as a load of the whole kid reads them. -/
def KidAt (w : World) (P : Nat → Prop) (a : Addr) (i : Nat) (t : Tree) : Prop := ∃ (l : Lab) (x : Option Addr) (n k : Nat),
  (w.cell? (a.add (i * 11)) = some (.int .i64 l.kind) ∧ w.cell? ⟨(a.add (i * 11)).block, (a.add (i * 11)).off + 1, none⟩ = some (.string (str l.name)) ∧ w.cell? ⟨(a.add (i * 11)).block, (a.add (i * 11)).off + 2, none⟩ = some (.int .u64 l.num) ∧
    w.cell? ⟨(a.add (i * 11)).block, (a.add (i * 11)).off + 3, none⟩ = some (.int .i64 l.wd) ∧ w.cell? ⟨(a.add (i * 11)).block, (a.add (i * 11)).off + 4, none⟩ = some (.bool l.sg) ∧ w.cell? ⟨(a.add (i * 11)).block, (a.add (i * 11)).off + 5, none⟩ = some (.int .i64 l.op) ∧
    w.cell? ⟨(a.add (i * 11)).block, (a.add (i * 11)).off + 6, none⟩ = some (.int .i64 l.fac) ∧ w.cell? ⟨(a.add (i * 11)).block, (a.add (i * 11)).off + 7, none⟩ = some (.int .i64 l.pip) ∧ w.cell? ⟨(a.add (i * 11)).block, (a.add (i * 11)).off + 8, none⟩ = some (.int .i64 l.unr) ∧
    w.cell? ⟨(a.add (i * 11)).block, (a.add (i * 11)).off + 9, none⟩ = some (.int .i64 l.line) ∧ w.cell? ⟨(a.add (i * 11)).block, (a.add (i * 11)).off + 10, none⟩ = some (.slice x n k)) ∧
  TreeAt w P [.int .i64 l.kind, .string (str l.name), .int .u64 l.num, .int .i64 l.wd, .bool l.sg, .int .i64 l.op, .int .i64 l.fac, .int .i64 l.pip, .int .i64 l.unr, .int .i64 l.line, .slice x n k] t
theorem KidAt.keep {w w' : World} {P Q : Nat → Prop} {a : Addr} {i : Nat} {t : Tree} (h : KidAt w P a i t) (ha : P a.block) (hs : ∀ g, P g → g < w.heap.size → w'.heap[g]? = w.heap[g]?) (hq : ∀ g, P g → g < w.heap.size → Q g) : KidAt w' Q a i t := by
  obtain ⟨l, x, n, k, ⟨e0, e1, e2, e3, e4, e5, e6, e7, e8, e9, e10⟩, hT⟩ := h
  have hbb : (a.add (i * 11)).block = a.block := add_block _ _
  have hlt : a.block < w.heap.size := by have := cell_block_lt e0; rw [hbb] at this; exact this
  have hblk := hs a.block ha hlt
  have same : ∀ (q : Addr) (v : Value), q.block = a.block → w.cell? q = some v → w'.cell? q = some v := fun q v hq hv => (cell_same (w := w) (w' := w') (by rw [hq]; exact hblk)).trans hv
  exact ⟨l, x, n, k, ⟨same _ _ hbb e0, same _ _ hbb e1, same _ _ hbb e2, same _ _ hbb e3, same _ _ hbb e4, same _ _ hbb e5, same _ _ hbb e6, same _ _ hbb e7, same _ _ hbb e8, same _ _ hbb e9, same _ _ hbb e10⟩, hT.keep hs hq⟩
theorem add_off (a : Addr) (i j : Nat) : a.add (i + (j + 1)) = ⟨(a.add i).block, (a.add i).off + (j + 1), none⟩ := by
  rw [← Go.Deep.add_add]
  unfold Addr.add
  rw [if_neg (by omega)]
def kat (ks : List Tree) (i : Nat) : Tree := ks.getD i tree0
theorem kat_get {ks : List Tree} {i : Nat} (h : i < ks.length) : kat ks i = ks[i] := by simp [kat, List.getD, h]
theorem drop_kat {ks : List Tree} {i : Nat} (h : i < ks.length) : ks.drop i = kat ks i :: ks.drop (i + 1) := by rw [kat_get h]; exact List.drop_eq_getElem_cons h
/-- A tree taken apart: its cells, how many kids, each kid. -/
theorem TreeAt.kids {w : World} {P : Nat → Prop} {cs : List Value} {l : Lab} {ks : List Tree} (h : TreeAt w P cs (.node l ks)) :
    ∃ (x : Option Addr) (k : Nat), cs = lcells l (.slice x ks.length k) ∧ ks.length ≤ k ∧ k ≤ maxLen ∧ ∀ i (hi : i < ks.length), ∃ a, x = some a ∧ P a.block ∧ KidAt w P a i (kat ks i) := by
  cases h with
  | nil => exact ⟨none, 0, rfl, by simp, by unfold maxLen; omega, fun i hi => by simp at hi⟩
  | mk _ a n cap C _ hn hc hm hP hcell hk =>
    subst hn
    refine ⟨some a, cap, rfl, hc, hm, fun i hi => ⟨a, rfl, hP (by omega), ?_⟩⟩
    have hT := hk i hi
    rw [← kat_get hi] at hT
    obtain ⟨l2, x2, n2, k2, hf⟩ := hT.form
    rw [hf] at hT
    have hcs := hcell i hi
    rw [hf] at hcs
    refine ⟨l2, x2, n2, k2, ⟨hcs 0 (by omega), ?_, ?_, ?_, ?_, ?_, ?_, ?_, ?_, ?_, ?_⟩, hT⟩
    · exact add_off a (i * 11) 0 ▸ hcs 1 (by omega)
    · exact add_off a (i * 11) 1 ▸ hcs 2 (by omega)
    · exact add_off a (i * 11) 2 ▸ hcs 3 (by omega)
    · exact add_off a (i * 11) 3 ▸ hcs 4 (by omega)
    · exact add_off a (i * 11) 4 ▸ hcs 5 (by omega)
    · exact add_off a (i * 11) 5 ▸ hcs 6 (by omega)
    · exact add_off a (i * 11) 6 ▸ hcs 7 (by omega)
    · exact add_off a (i * 11) 7 ▸ hcs 8 (by omega)
    · exact add_off a (i * 11) 8 ▸ hcs 9 (by omega)
    · exact add_off a (i * 11) 9 ▸ hcs 10 (by omega)



mutual
def wIn (left lv : Nat) : Tree → Bool × Nat
  | .node _ ks => if left = 0 ∨ lv = 0 then (false, left) else wIns (left - 1) (lv - 1) ks
def wIns (left lv : Nat) : List Tree → Bool × Nat
  | [] => (true, left)
  | t :: r => if (wIn left lv t).1 then wIns (wIn left lv t).2 lv r else (false, (wIn left lv t).2)
end
end Go.Proofs.YtfnhogeocbndcaaGreatDoor
