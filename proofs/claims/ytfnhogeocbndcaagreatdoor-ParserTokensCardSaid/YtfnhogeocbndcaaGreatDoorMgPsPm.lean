/- The rules scalar, division, param: contracts. -/
import Derived.Test.YtfnhogeocbndcaaGreatDoorMgPsSt1
namespace Go.Proofs.YtfnhogeocbndcaaGreatDoor
open Go Go.RowKit
set_option linter.unusedVariables false
set_option linter.unusedSimpArgs false

set_option maxHeartbeats 2000000 in
set_option maxRecDepth 100000 in
theorem scal_any {ts : List Tok} {R g c : Nat} (X : Ctx ts R g c) (s : Sg) (w : World) (hR : Rd w R g c ts s) : Calls Tryz.prog 96 #[.pointer (some ⟨R, 0, none⟩)] w (TP w R g c ts (scal ts s)) := by
  have hXl := X.lt
  have F0 := Lib.hid ((Fr.start hR).node hXl ncz)
  have HN := Lib.hid fun W (h : Rd W R g c ts s) => node_any X 4 W h
  have HNM := Lib.hid fun q W (h : Rd W R g c ts q) => name_any X (s := q) W h
  have HTY := Lib.hid fun q W (h : Rd W R g c ts q) => typN_any X (s := q) W h
  have HEO := Lib.hid fun q W (h : Rd W R g c ts q) => expect_any X (s := q) [58] (by simp) W h
  have HL : Hid (nc (labK 4 (ln ts s)) = [.int .i64 4, .string ⟨#[]⟩, .int .u64 0, .int .i64 0, .bool false, .int .i64 0, .int .i64 0, .int .i64 0, .int .i64 0, .int .i64 ((ln ts s : Nat) : Int), .slice none 0 0]) := Lib.hid rfl
  rw [HL.out] at HN
  have HM : Hid (scal ts s = (.node { labK 4 (ln ts s) with name := nmV ts s, wd := (tyV' ts (exc ts (nmS ts s) [58])).1, sg := (tyV' ts (exc ts (nmS ts s) [58])).2 } [], tyS ts (exc ts (nmS ts s) [58]))) := Lib.hid rfl
  rw [HM.out]
  clear HM hR HL
  go_enter Tryz.func96, Tryz.ntmps96
  go_wp2_with fail
  refine (HN.out _ F0.out.rd).mono ?_
  rintro e v1 ⟨rfl, hb⟩
  have G1 := Lib.hid (F0.out.quiet hXl hb)
  clear hb
  obtain ⟨hc0, hf0⟩ := G1.out.b0.all
  have hz0 := G1.out.b0.lt
  unfold ncz at hc0
  have hq10 := G1.out.b0.lt
  have G2 := Lib.hid (G1.out.node hXl [.int .i64 4, .string ⟨#[]⟩, .int .u64 0, .int .i64 0, .bool false, .int .i64 0, .int .i64 0, .int .i64 0, .int .i64 0, .int .i64 ((ln ts s : Nat) : Int), .slice none 0 0])
  go_wp2_with fail
  refine (HNM.out _ _ G2.out.rd).mono ?_
  rintro e v2 ⟨rfl, hr, hs⟩
  clear hc0 hf0 hz0
  have G3 := Lib.hid (G2.out.call hr hs)
  clear hr hs
  obtain ⟨hc0, hf0⟩ := G3.out.b0.all
  have hz0 := G3.out.b0.lt
  obtain ⟨hc1, hf1⟩ := G3.out.b1.all
  have hz1 := G3.out.b1.lt
  unfold ncz at hc1
  have G4 := Lib.hid (G3.out.set0 hXl 1 (.string (str (nmV ts s))) [.int .i64 4, .string (str (nmV ts s)), .int .u64 0, .int .i64 0, .bool false, .int .i64 0, .int .i64 0, .int .i64 0, .int .i64 0, .int .i64 ((ln ts s : Nat) : Int), .slice none 0 0] rfl)
  go_wp2_with fail
  refine (HEO.out _ _ G4.out.rd).mono ?_
  rintro e v3 ⟨rfl, hr, hs⟩
  clear hc0 hf0 hz0 hc1 hf1 hz1
  have G5 := Lib.hid (G4.out.call hr hs)
  clear hr hs
  obtain ⟨hc0, hf0⟩ := G5.out.b0.all
  have hz0 := G5.out.b0.lt
  obtain ⟨hc1, hf1⟩ := G5.out.b1.all
  have hz1 := G5.out.b1.lt
  unfold ncz at hc1
  go_wp2_with fail
  refine (HTY.out _ _ G5.out.rd).mono ?_
  rintro e v4 ⟨rfl, hr, hs⟩
  clear hc0 hf0 hz0 hc1 hf1 hz1
  have G6 := Lib.hid (G5.out.call hr hs)
  clear hr hs
  obtain ⟨hc0, hf0⟩ := G6.out.b0.all
  have hz0 := G6.out.b0.lt
  obtain ⟨hc1, hf1⟩ := G6.out.b1.all
  have hz1 := G6.out.b1.lt
  unfold ncz at hc1
  have G7 := Lib.hid (G6.out.set0 hXl 3 (.int .i64 ((tyV' ts (exc ts (nmS ts s) [58])).1 : Int)) [.int .i64 4, .string (str (nmV ts s)), .int .u64 0, .int .i64 ((tyV' ts (exc ts (nmS ts s) [58])).1 : Int), .bool false, .int .i64 0, .int .i64 0, .int .i64 0, .int .i64 0, .int .i64 ((ln ts s : Nat) : Int), .slice none 0 0] rfl)
  have G8 := Lib.hid (G7.out.set0 hXl 4 (.bool (tyV' ts (exc ts (nmS ts s) [58])).2) [.int .i64 4, .string (str (nmV ts s)), .int .u64 0, .int .i64 ((tyV' ts (exc ts (nmS ts s) [58])).1 : Int), .bool (tyV' ts (exc ts (nmS ts s) [58])).2, .int .i64 0, .int .i64 0, .int .i64 0, .int .i64 0, .int .i64 ((ln ts s : Nat) : Int), .slice none 0 0] rfl)
  have G9 := Lib.hid (G8.out.leaf { labK 4 (ln ts s) with name := nmV ts s, wd := (tyV' ts (exc ts (nmS ts s) [58])).1, sg := (tyV' ts (exc ts (nmS ts s) [58])).2 })
  go_wp2
  have G10 := Lib.hid (G9.out.stoR hXl (List.Mem.tail _ (List.Mem.head _)) rfl (.int .i64 4) (.string (str (nmV ts s))) (.int .u64 0) (.int .i64 ((tyV' ts (exc ts (nmS ts s) [58])).1 : Int)) (.bool (tyV' ts (exc ts (nmS ts s) [58])).2) (.int .i64 0) (.int .i64 0) (.int .i64 0) (.int .i64 0) (.int .i64 ((ln ts s : Nat) : Int)) (.slice none 0 0))
  refine bodyPost_ret (G10.out.b0.res1 Tryz.results96 Tryz.underlying28 rfl infoNd _ rfl) rfl ?_
  exact G10.out.outT (rfl)

theorem nuV_le (ts : List Tok) (s : Sg) (k : Nat) : nuV ts s k ≤ 1048576 := by
  unfold nuV
  split
  · rename_i h
    unfold okN at h
    simp at h
    exact h.2.2
  · omega

set_option maxHeartbeats 2000000 in
set_option maxRecDepth 100000 in
theorem divis_any {ts : List Tok} {R g c : Nat} (X : Ctx ts R g c) (s : Sg) (w : World) (hR : Rd w R g c ts s) : Calls Tryz.prog 135 #[.pointer (some ⟨R, 0, none⟩)] w fun e w' => e = .returned (.tuple #[.int .i64 (divO ts s : Int), .int .i64 (divF ts s : Int)]) ∧ Rd w' R g c ts (divS ts s) ∧ St w w' R := by
  have HSA := Lib.hid fun W (h : Rd W R g c ts s) => skip_any' X [99, 121, 99, 108, 105, 99] (by simp) W h
  have HSB := Lib.hid fun W (h : Rd W R g c ts s) => skip_any' X [98, 108, 111, 99, 107, 115] (by simp) W h
  have HSC := Lib.hid fun W (h : Rd W R g c ts s) => skip_any' X [99, 111, 109, 112, 108, 101, 116, 101] (by simp) W h
  have HNU : Hid (∀ W, Rd W R g c ts (adv s) → Calls Tryz.prog 134 #[.pointer (some ⟨R, 0, none⟩), .int .u64 0] W fun e w' => e = .returned (.int .u64 (nuV ts (adv s) 0 : Int)) ∧ Rd w' R g c ts (nuS ts (adv s) 0) ∧ St W w' R) := Lib.hid fun W h => numb_any X 0 (by omega) W h
  have hle := nuV_le ts (adv s) 0
  have HR := Lib.hid hR
  unfold divO divF divS
  unfold skp at HSA HSB HSC
  clear hR
  cases g0 : hasT ts s [99, 121, 99, 108, 105, 99] with
  | true =>
    rw [g0] at HSA
    simp only [g0, if_true, Bool.false_eq_true, if_false]
    clear g0
    generalize nuV ts (adv s) 0 = NV at *
    go_enter Tryz.func135, Tryz.ntmps135
    go_wp2_with fail
    refine (HSA.out _ HR.out).mono ?_
    rintro e w1 ⟨rfl, hr, hs⟩
    have K1 := Lib.hid (And.intro hr hs)
    clear hr hs
    go_wp2_with fail
    refine (HNU.out _ K1.out.1).mono ?_
    rintro e w2 ⟨rfl, hr, hs⟩
    have K2 := Lib.hid (And.intro hr (St.trans K1.out.2 hs))
    clear hr hs
    go_wp2
    go_ret2
    exact ⟨rfl, K2.out.1, K2.out.2⟩
  | false =>
    rw [g0] at HSA
    cases g1 : hasT ts s [98, 108, 111, 99, 107, 115] with
    | true =>
      rw [g1] at HSB
      simp only [g0, g1, if_true, Bool.false_eq_true, if_false]
      clear g0 g1
      generalize nuV ts (adv s) 0 = NV at *
      go_enter Tryz.func135, Tryz.ntmps135
      go_wp2_with fail
      refine (HSA.out _ HR.out).mono ?_
      rintro e w1 ⟨rfl, hr, hs⟩
      have K1 := Lib.hid (And.intro hr hs)
      clear hr hs
      go_wp2_with fail
      refine (HSB.out _ K1.out.1).mono ?_
      rintro e w2 ⟨rfl, hr, hs⟩
      have K2 := Lib.hid (And.intro hr (St.trans K1.out.2 hs))
      clear hr hs
      go_wp2_with fail
      refine (HNU.out _ K2.out.1).mono ?_
      rintro e w3 ⟨rfl, hr, hs⟩
      have K3 := Lib.hid (And.intro hr (St.trans K2.out.2 hs))
      clear hr hs
      go_wp2
      go_ret2
      exact ⟨rfl, K3.out.1, K3.out.2⟩
    | false =>
      rw [g1] at HSB
      cases g2 : hasT ts s [99, 111, 109, 112, 108, 101, 116, 101] with
      | true =>
        rw [g2] at HSC
        simp only [g0, g1, g2, if_true, Bool.false_eq_true, if_false]
        clear g0 g1 g2
        generalize nuV ts (adv s) 0 = NV at *
        go_enter Tryz.func135, Tryz.ntmps135
        go_wp2_with fail
        refine (HSA.out _ HR.out).mono ?_
        rintro e w1 ⟨rfl, hr, hs⟩
        have K1 := Lib.hid (And.intro hr hs)
        clear hr hs
        go_wp2_with fail
        refine (HSB.out _ K1.out.1).mono ?_
        rintro e w2 ⟨rfl, hr, hs⟩
        have K2 := Lib.hid (And.intro hr (St.trans K1.out.2 hs))
        clear hr hs
        go_wp2_with fail
        refine (HSC.out _ K2.out.1).mono ?_
        rintro e w3 ⟨rfl, hr, hs⟩
        have K3 := Lib.hid (And.intro hr (St.trans K2.out.2 hs))
        clear hr hs
        go_wp2
        go_ret2
        exact ⟨rfl, K3.out.1, K3.out.2⟩
      | false =>
        rw [g2] at HSC
        simp only [g0, g1, g2, Bool.false_eq_true, if_false]
        clear g0 g1 g2
        go_enter Tryz.func135, Tryz.ntmps135
        go_wp2_with fail
        refine (HSA.out _ HR.out).mono ?_
        rintro e w1 ⟨rfl, hr, hs⟩
        have K1 := Lib.hid (And.intro hr hs)
        clear hr hs
        go_wp2_with fail
        refine (HSB.out _ K1.out.1).mono ?_
        rintro e w2 ⟨rfl, hr, hs⟩
        have K2 := Lib.hid (And.intro hr (St.trans K1.out.2 hs))
        clear hr hs
        go_wp2_with fail
        refine (HSC.out _ K2.out.1).mono ?_
        rintro e w3 ⟨rfl, hr, hs⟩
        have K3 := Lib.hid (And.intro hr (St.trans K2.out.2 hs))
        clear hr hs
        go_wp2
        go_ret2
        exact ⟨rfl, K3.out.1, K3.out.2⟩

set_option maxHeartbeats 2000000 in
set_option maxRecDepth 100000 in
theorem prm_any {ts : List Tok} {R g c : Nat} (X : Ctx ts R g c) (s : Sg) (w : World) (hR : Rd w R g c ts s) : Calls Tryz.prog 99 #[.pointer (some ⟨R, 0, none⟩)] w (TP w R g c ts (prm ts s)) := by
  have hXl := X.lt
  have F0 := Lib.hid ((Fr.start hR).node hXl ncz)
  have HN := Lib.hid fun W (h : Rd W R g c ts s) => node_any X 4 W h
  have HNM := Lib.hid fun q W (h : Rd W R g c ts q) => name_any X (s := q) W h
  have HTY := Lib.hid fun q W (h : Rd W R g c ts q) => typN_any X (s := q) W h
  have HEO := Lib.hid fun q W (h : Rd W R g c ts q) => expect_any X (s := q) [58] (by simp) W h
  have HEB := Lib.hid fun q W (h : Rd W R g c ts q) => expect_any X (s := q) [93] (by simp) W h
  have HSA := Lib.hid fun W (h : Rd W R g c ts (exc ts (nmS ts s) [58])) => skip_any' X [105, 110] (by simp) W h
  have HSB := Lib.hid fun W (h : Rd W R g c ts (exc ts (nmS ts s) [58])) => skip_any' X [111, 117, 116] (by simp) W h
  unfold skp at HSA HSB
  have HL : Hid (nc (labK 4 (ln ts s)) = [.int .i64 4, .string ⟨#[]⟩, .int .u64 0, .int .i64 0, .bool false, .int .i64 0, .int .i64 0, .int .i64 0, .int .i64 0, .int .i64 ((ln ts s : Nat) : Int), .slice none 0 0]) := Lib.hid rfl
  rw [HL.out] at HN
  cases g0 : hasT ts (exc ts (nmS ts s) [58]) [105, 110] with
  | true =>
    have hk : prmK ts (exc ts (nmS ts s) [58]) = 6 := by unfold prmK; simp [g0]
    have hs : prmS ts (exc ts (nmS ts s) [58]) = adv (exc ts (nmS ts s) [58]) := by unfold prmS; simp [g0]
    have HM : Hid (prm ts s = (.node { labK 6 (ln ts s) with name := nmV ts s, wd := (tyV' ts (adv (exc ts (nmS ts s) [58]))).1, sg := (tyV' ts (adv (exc ts (nmS ts s) [58]))).2 } [], tyS ts (adv (exc ts (nmS ts s) [58])))) := Lib.hid (by unfold prm; dsimp only; rw [hk, hs, if_neg (by simp)]; rfl)
    rw [HM.out]
    rw [g0] at HSA
    clear HM hR HL hk hs g0
    go_enter Tryz.func99, Tryz.ntmps99
    go_wp2_with fail
    refine (HN.out _ F0.out.rd).mono ?_
    rintro e v1 ⟨rfl, hb⟩
    have G1 := Lib.hid (F0.out.quiet hXl hb)
    clear hb
    obtain ⟨hc0, hf0⟩ := G1.out.b0.all
    have hz0 := G1.out.b0.lt
    unfold ncz at hc0
    have hq10 := G1.out.b0.lt
    have G2 := Lib.hid (G1.out.node hXl [.int .i64 4, .string ⟨#[]⟩, .int .u64 0, .int .i64 0, .bool false, .int .i64 0, .int .i64 0, .int .i64 0, .int .i64 0, .int .i64 ((ln ts s : Nat) : Int), .slice none 0 0])
    go_wp2_with fail
    refine (HNM.out _ _ G2.out.rd).mono ?_
    rintro e v2 ⟨rfl, hr, hs⟩
    clear hc0 hf0 hz0
    have G3 := Lib.hid (G2.out.call hr hs)
    clear hr hs
    obtain ⟨hc0, hf0⟩ := G3.out.b0.all
    have hz0 := G3.out.b0.lt
    obtain ⟨hc1, hf1⟩ := G3.out.b1.all
    have hz1 := G3.out.b1.lt
    unfold ncz at hc1
    have G4 := Lib.hid (G3.out.set0 hXl 1 (.string (str (nmV ts s))) [.int .i64 4, .string (str (nmV ts s)), .int .u64 0, .int .i64 0, .bool false, .int .i64 0, .int .i64 0, .int .i64 0, .int .i64 0, .int .i64 ((ln ts s : Nat) : Int), .slice none 0 0] rfl)
    go_wp2_with fail
    refine (HEO.out _ _ G4.out.rd).mono ?_
    rintro e v3 ⟨rfl, hr, hs⟩
    clear hc0 hf0 hz0 hc1 hf1 hz1
    have G5 := Lib.hid (G4.out.call hr hs)
    clear hr hs
    obtain ⟨hc0, hf0⟩ := G5.out.b0.all
    have hz0 := G5.out.b0.lt
    obtain ⟨hc1, hf1⟩ := G5.out.b1.all
    have hz1 := G5.out.b1.lt
    unfold ncz at hc1
    go_wp2_with fail
    refine (HSA.out _ G5.out.rd).mono ?_
    rintro e v4 ⟨rfl, hr, hs⟩
    clear hc0 hf0 hz0 hc1 hf1 hz1
    have G6 := Lib.hid (G5.out.call hr hs)
    clear hr hs
    obtain ⟨hc0, hf0⟩ := G6.out.b0.all
    have hz0 := G6.out.b0.lt
    obtain ⟨hc1, hf1⟩ := G6.out.b1.all
    have hz1 := G6.out.b1.lt
    unfold ncz at hc1
    have G7 := Lib.hid (G6.out.set0 hXl 0 (.int .i64 6) [.int .i64 6, .string (str (nmV ts s)), .int .u64 0, .int .i64 0, .bool false, .int .i64 0, .int .i64 0, .int .i64 0, .int .i64 0, .int .i64 ((ln ts s : Nat) : Int), .slice none 0 0] rfl)
    go_wp2_with fail
    refine (HTY.out _ _ G7.out.rd).mono ?_
    rintro e v5 ⟨rfl, hr, hs⟩
    clear hc0 hf0 hz0 hc1 hf1 hz1
    have G8 := Lib.hid (G7.out.call hr hs)
    clear hr hs
    obtain ⟨hc0, hf0⟩ := G8.out.b0.all
    have hz0 := G8.out.b0.lt
    obtain ⟨hc1, hf1⟩ := G8.out.b1.all
    have hz1 := G8.out.b1.lt
    unfold ncz at hc1
    have G9 := Lib.hid (G8.out.set0 hXl 3 (.int .i64 ((tyV' ts (adv (exc ts (nmS ts s) [58]))).1 : Int)) [.int .i64 6, .string (str (nmV ts s)), .int .u64 0, .int .i64 ((tyV' ts (adv (exc ts (nmS ts s) [58]))).1 : Int), .bool false, .int .i64 0, .int .i64 0, .int .i64 0, .int .i64 0, .int .i64 ((ln ts s : Nat) : Int), .slice none 0 0] rfl)
    have G10 := Lib.hid (G9.out.set0 hXl 4 (.bool (tyV' ts (adv (exc ts (nmS ts s) [58]))).2) [.int .i64 6, .string (str (nmV ts s)), .int .u64 0, .int .i64 ((tyV' ts (adv (exc ts (nmS ts s) [58]))).1 : Int), .bool (tyV' ts (adv (exc ts (nmS ts s) [58]))).2, .int .i64 0, .int .i64 0, .int .i64 0, .int .i64 0, .int .i64 ((ln ts s : Nat) : Int), .slice none 0 0] rfl)
    have G11 := Lib.hid (G10.out.leaf { labK 6 (ln ts s) with name := nmV ts s, wd := (tyV' ts (adv (exc ts (nmS ts s) [58]))).1, sg := (tyV' ts (adv (exc ts (nmS ts s) [58]))).2 })
    go_wp2
    have G12 := Lib.hid (G11.out.stoR hXl (List.Mem.tail _ (List.Mem.head _)) rfl (.int .i64 6) (.string (str (nmV ts s))) (.int .u64 0) (.int .i64 ((tyV' ts (adv (exc ts (nmS ts s) [58]))).1 : Int)) (.bool (tyV' ts (adv (exc ts (nmS ts s) [58]))).2) (.int .i64 0) (.int .i64 0) (.int .i64 0) (.int .i64 0) (.int .i64 ((ln ts s : Nat) : Int)) (.slice none 0 0))
    refine bodyPost_ret (G12.out.b0.res1 Tryz.results99 Tryz.underlying28 rfl infoNd _ rfl) rfl ?_
    exact G12.out.outT (rfl)
  | false =>
    rw [g0] at HSA
    cases g1 : hasT ts (exc ts (nmS ts s) [58]) [111, 117, 116] with
    | true =>
      have hk : prmK ts (exc ts (nmS ts s) [58]) = 7 := by unfold prmK; simp [g0, g1]
      have hs : prmS ts (exc ts (nmS ts s) [58]) = adv (exc ts (nmS ts s) [58]) := by unfold prmS; simp [g0, g1]
      have HM : Hid (prm ts s = (.node { labK 7 (ln ts s) with name := nmV ts s, wd := (tyV' ts (adv (exc ts (nmS ts s) [58]))).1, sg := (tyV' ts (adv (exc ts (nmS ts s) [58]))).2 } [], tyS ts (adv (exc ts (nmS ts s) [58])))) := Lib.hid (by unfold prm; dsimp only; rw [hk, hs, if_neg (by simp)]; rfl)
      rw [HM.out]
      rw [g1] at HSB
      clear HM hR HL hk hs g0 g1
      go_enter Tryz.func99, Tryz.ntmps99
      go_wp2_with fail
      refine (HN.out _ F0.out.rd).mono ?_
      rintro e v1 ⟨rfl, hb⟩
      have G1 := Lib.hid (F0.out.quiet hXl hb)
      clear hb
      obtain ⟨hc0, hf0⟩ := G1.out.b0.all
      have hz0 := G1.out.b0.lt
      unfold ncz at hc0
      have hq10 := G1.out.b0.lt
      have G2 := Lib.hid (G1.out.node hXl [.int .i64 4, .string ⟨#[]⟩, .int .u64 0, .int .i64 0, .bool false, .int .i64 0, .int .i64 0, .int .i64 0, .int .i64 0, .int .i64 ((ln ts s : Nat) : Int), .slice none 0 0])
      go_wp2_with fail
      refine (HNM.out _ _ G2.out.rd).mono ?_
      rintro e v2 ⟨rfl, hr, hs⟩
      clear hc0 hf0 hz0
      have G3 := Lib.hid (G2.out.call hr hs)
      clear hr hs
      obtain ⟨hc0, hf0⟩ := G3.out.b0.all
      have hz0 := G3.out.b0.lt
      obtain ⟨hc1, hf1⟩ := G3.out.b1.all
      have hz1 := G3.out.b1.lt
      unfold ncz at hc1
      have G4 := Lib.hid (G3.out.set0 hXl 1 (.string (str (nmV ts s))) [.int .i64 4, .string (str (nmV ts s)), .int .u64 0, .int .i64 0, .bool false, .int .i64 0, .int .i64 0, .int .i64 0, .int .i64 0, .int .i64 ((ln ts s : Nat) : Int), .slice none 0 0] rfl)
      go_wp2_with fail
      refine (HEO.out _ _ G4.out.rd).mono ?_
      rintro e v3 ⟨rfl, hr, hs⟩
      clear hc0 hf0 hz0 hc1 hf1 hz1
      have G5 := Lib.hid (G4.out.call hr hs)
      clear hr hs
      obtain ⟨hc0, hf0⟩ := G5.out.b0.all
      have hz0 := G5.out.b0.lt
      obtain ⟨hc1, hf1⟩ := G5.out.b1.all
      have hz1 := G5.out.b1.lt
      unfold ncz at hc1
      go_wp2_with fail
      refine (HSA.out _ G5.out.rd).mono ?_
      rintro e v4 ⟨rfl, hr, hs⟩
      clear hc0 hf0 hz0 hc1 hf1 hz1
      have G6 := Lib.hid (G5.out.call hr hs)
      clear hr hs
      obtain ⟨hc0, hf0⟩ := G6.out.b0.all
      have hz0 := G6.out.b0.lt
      obtain ⟨hc1, hf1⟩ := G6.out.b1.all
      have hz1 := G6.out.b1.lt
      unfold ncz at hc1
      go_wp2_with fail
      refine (HSB.out _ G6.out.rd).mono ?_
      rintro e v5 ⟨rfl, hr, hs⟩
      clear hc0 hf0 hz0 hc1 hf1 hz1
      have G7 := Lib.hid (G6.out.call hr hs)
      clear hr hs
      obtain ⟨hc0, hf0⟩ := G7.out.b0.all
      have hz0 := G7.out.b0.lt
      obtain ⟨hc1, hf1⟩ := G7.out.b1.all
      have hz1 := G7.out.b1.lt
      unfold ncz at hc1
      have G8 := Lib.hid (G7.out.set0 hXl 0 (.int .i64 7) [.int .i64 7, .string (str (nmV ts s)), .int .u64 0, .int .i64 0, .bool false, .int .i64 0, .int .i64 0, .int .i64 0, .int .i64 0, .int .i64 ((ln ts s : Nat) : Int), .slice none 0 0] rfl)
      go_wp2_with fail
      refine (HTY.out _ _ G8.out.rd).mono ?_
      rintro e v6 ⟨rfl, hr, hs⟩
      clear hc0 hf0 hz0 hc1 hf1 hz1
      have G9 := Lib.hid (G8.out.call hr hs)
      clear hr hs
      obtain ⟨hc0, hf0⟩ := G9.out.b0.all
      have hz0 := G9.out.b0.lt
      obtain ⟨hc1, hf1⟩ := G9.out.b1.all
      have hz1 := G9.out.b1.lt
      unfold ncz at hc1
      have G10 := Lib.hid (G9.out.set0 hXl 3 (.int .i64 ((tyV' ts (adv (exc ts (nmS ts s) [58]))).1 : Int)) [.int .i64 7, .string (str (nmV ts s)), .int .u64 0, .int .i64 ((tyV' ts (adv (exc ts (nmS ts s) [58]))).1 : Int), .bool false, .int .i64 0, .int .i64 0, .int .i64 0, .int .i64 0, .int .i64 ((ln ts s : Nat) : Int), .slice none 0 0] rfl)
      have G11 := Lib.hid (G10.out.set0 hXl 4 (.bool (tyV' ts (adv (exc ts (nmS ts s) [58]))).2) [.int .i64 7, .string (str (nmV ts s)), .int .u64 0, .int .i64 ((tyV' ts (adv (exc ts (nmS ts s) [58]))).1 : Int), .bool (tyV' ts (adv (exc ts (nmS ts s) [58]))).2, .int .i64 0, .int .i64 0, .int .i64 0, .int .i64 0, .int .i64 ((ln ts s : Nat) : Int), .slice none 0 0] rfl)
      have G12 := Lib.hid (G11.out.leaf { labK 7 (ln ts s) with name := nmV ts s, wd := (tyV' ts (adv (exc ts (nmS ts s) [58]))).1, sg := (tyV' ts (adv (exc ts (nmS ts s) [58]))).2 })
      go_wp2
      have G13 := Lib.hid (G12.out.stoR hXl (List.Mem.tail _ (List.Mem.head _)) rfl (.int .i64 7) (.string (str (nmV ts s))) (.int .u64 0) (.int .i64 ((tyV' ts (adv (exc ts (nmS ts s) [58]))).1 : Int)) (.bool (tyV' ts (adv (exc ts (nmS ts s) [58]))).2) (.int .i64 0) (.int .i64 0) (.int .i64 0) (.int .i64 0) (.int .i64 ((ln ts s : Nat) : Int)) (.slice none 0 0))
      refine bodyPost_ret (G13.out.b0.res1 Tryz.results99 Tryz.underlying28 rfl infoNd _ rfl) rfl ?_
      exact G13.out.outT (rfl)
    | false =>
      rw [g1] at HSB
      have hk : prmK ts (exc ts (nmS ts s) [58]) = 4 := by unfold prmK; simp [g0, g1]
      have hs : prmS ts (exc ts (nmS ts s) [58]) = exc ts (nmS ts s) [58] := by unfold prmS; simp [g0, g1]
      have HSD := Lib.hid fun W (h : Rd W R g c ts (tyS ts (exc ts (nmS ts s) [58]))) => skip_any' X [91] (by simp) W h
      have HDV := Lib.hid fun q W (h : Rd W R g c ts q) => divis_any X q W h
      have HNU : Hid (∀ W, Rd W R g c ts (adv (tyS ts (exc ts (nmS ts s) [58]))) → Calls Tryz.prog 134 #[.pointer (some ⟨R, 0, none⟩), .int .u64 0] W fun e w' => e = .returned (.int .u64 (nuV ts (adv (tyS ts (exc ts (nmS ts s) [58]))) 0 : Int)) ∧ Rd w' R g c ts (nuS ts (adv (tyS ts (exc ts (nmS ts s) [58]))) 0) ∧ St W w' R) := Lib.hid fun W h => numb_any X 0 (by omega) W h
      unfold skp at HSD
      cases g2 : hasT ts (tyS ts (exc ts (nmS ts s) [58])) [91] with
      | true =>
        have HM : Hid (prm ts s = (.node { labK 5 (ln ts s) with name := nmV ts s, wd := (tyV' ts (exc ts (nmS ts s) [58])).1, sg := (tyV' ts (exc ts (nmS ts s) [58])).2, num := nuV ts (adv (tyS ts (exc ts (nmS ts s) [58]))) 0, op := divO ts (exc ts (nuS ts (adv (tyS ts (exc ts (nmS ts s) [58]))) 0) [93]), fac := divF ts (exc ts (nuS ts (adv (tyS ts (exc ts (nmS ts s) [58]))) 0) [93]) } [], divS ts (exc ts (nuS ts (adv (tyS ts (exc ts (nmS ts s) [58]))) 0) [93]))) := Lib.hid (by unfold prm; dsimp only; rw [hk, hs, if_pos ⟨rfl, g2⟩])
        rw [HM.out]
        rw [g2] at HSD
        clear HM hR HL hk hs g0 g1 g2
        go_enter Tryz.func99, Tryz.ntmps99
        go_wp2_with fail
        refine (HN.out _ F0.out.rd).mono ?_
        rintro e v1 ⟨rfl, hb⟩
        have G1 := Lib.hid (F0.out.quiet hXl hb)
        clear hb
        obtain ⟨hc0, hf0⟩ := G1.out.b0.all
        have hz0 := G1.out.b0.lt
        unfold ncz at hc0
        have hq10 := G1.out.b0.lt
        have G2 := Lib.hid (G1.out.node hXl [.int .i64 4, .string ⟨#[]⟩, .int .u64 0, .int .i64 0, .bool false, .int .i64 0, .int .i64 0, .int .i64 0, .int .i64 0, .int .i64 ((ln ts s : Nat) : Int), .slice none 0 0])
        go_wp2_with fail
        refine (HNM.out _ _ G2.out.rd).mono ?_
        rintro e v2 ⟨rfl, hr, hs⟩
        clear hc0 hf0 hz0
        have G3 := Lib.hid (G2.out.call hr hs)
        clear hr hs
        obtain ⟨hc0, hf0⟩ := G3.out.b0.all
        have hz0 := G3.out.b0.lt
        obtain ⟨hc1, hf1⟩ := G3.out.b1.all
        have hz1 := G3.out.b1.lt
        unfold ncz at hc1
        have G4 := Lib.hid (G3.out.set0 hXl 1 (.string (str (nmV ts s))) [.int .i64 4, .string (str (nmV ts s)), .int .u64 0, .int .i64 0, .bool false, .int .i64 0, .int .i64 0, .int .i64 0, .int .i64 0, .int .i64 ((ln ts s : Nat) : Int), .slice none 0 0] rfl)
        go_wp2_with fail
        refine (HEO.out _ _ G4.out.rd).mono ?_
        rintro e v3 ⟨rfl, hr, hs⟩
        clear hc0 hf0 hz0 hc1 hf1 hz1
        have G5 := Lib.hid (G4.out.call hr hs)
        clear hr hs
        obtain ⟨hc0, hf0⟩ := G5.out.b0.all
        have hz0 := G5.out.b0.lt
        obtain ⟨hc1, hf1⟩ := G5.out.b1.all
        have hz1 := G5.out.b1.lt
        unfold ncz at hc1
        go_wp2_with fail
        refine (HSA.out _ G5.out.rd).mono ?_
        rintro e v4 ⟨rfl, hr, hs⟩
        clear hc0 hf0 hz0 hc1 hf1 hz1
        have G6 := Lib.hid (G5.out.call hr hs)
        clear hr hs
        obtain ⟨hc0, hf0⟩ := G6.out.b0.all
        have hz0 := G6.out.b0.lt
        obtain ⟨hc1, hf1⟩ := G6.out.b1.all
        have hz1 := G6.out.b1.lt
        unfold ncz at hc1
        go_wp2_with fail
        refine (HSB.out _ G6.out.rd).mono ?_
        rintro e v5 ⟨rfl, hr, hs⟩
        clear hc0 hf0 hz0 hc1 hf1 hz1
        have G7 := Lib.hid (G6.out.call hr hs)
        clear hr hs
        obtain ⟨hc0, hf0⟩ := G7.out.b0.all
        have hz0 := G7.out.b0.lt
        obtain ⟨hc1, hf1⟩ := G7.out.b1.all
        have hz1 := G7.out.b1.lt
        unfold ncz at hc1
        go_wp2_with fail
        refine (HTY.out _ _ G7.out.rd).mono ?_
        rintro e v6 ⟨rfl, hr, hs⟩
        clear hc0 hf0 hz0 hc1 hf1 hz1
        have G8 := Lib.hid (G7.out.call hr hs)
        clear hr hs
        obtain ⟨hc0, hf0⟩ := G8.out.b0.all
        have hz0 := G8.out.b0.lt
        obtain ⟨hc1, hf1⟩ := G8.out.b1.all
        have hz1 := G8.out.b1.lt
        unfold ncz at hc1
        have G9 := Lib.hid (G8.out.set0 hXl 3 (.int .i64 ((tyV' ts (exc ts (nmS ts s) [58])).1 : Int)) [.int .i64 4, .string (str (nmV ts s)), .int .u64 0, .int .i64 ((tyV' ts (exc ts (nmS ts s) [58])).1 : Int), .bool false, .int .i64 0, .int .i64 0, .int .i64 0, .int .i64 0, .int .i64 ((ln ts s : Nat) : Int), .slice none 0 0] rfl)
        have G10 := Lib.hid (G9.out.set0 hXl 4 (.bool (tyV' ts (exc ts (nmS ts s) [58])).2) [.int .i64 4, .string (str (nmV ts s)), .int .u64 0, .int .i64 ((tyV' ts (exc ts (nmS ts s) [58])).1 : Int), .bool (tyV' ts (exc ts (nmS ts s) [58])).2, .int .i64 0, .int .i64 0, .int .i64 0, .int .i64 0, .int .i64 ((ln ts s : Nat) : Int), .slice none 0 0] rfl)
        go_wp2_with fail
        refine (HSD.out _ G10.out.rd).mono ?_
        rintro e v7 ⟨rfl, hr, hs⟩
        clear hc0 hf0 hz0 hc1 hf1 hz1
        have G11 := Lib.hid (G10.out.call hr hs)
        clear hr hs
        obtain ⟨hc0, hf0⟩ := G11.out.b0.all
        have hz0 := G11.out.b0.lt
        obtain ⟨hc1, hf1⟩ := G11.out.b1.all
        have hz1 := G11.out.b1.lt
        unfold ncz at hc1
        have G12 := Lib.hid (G11.out.set0 hXl 0 (.int .i64 5) [.int .i64 5, .string (str (nmV ts s)), .int .u64 0, .int .i64 ((tyV' ts (exc ts (nmS ts s) [58])).1 : Int), .bool (tyV' ts (exc ts (nmS ts s) [58])).2, .int .i64 0, .int .i64 0, .int .i64 0, .int .i64 0, .int .i64 ((ln ts s : Nat) : Int), .slice none 0 0] rfl)
        go_wp2_with fail
        refine (HNU.out _ G12.out.rd).mono ?_
        rintro e v8 ⟨rfl, hr, hs⟩
        clear hc0 hf0 hz0 hc1 hf1 hz1
        have G13 := Lib.hid (G12.out.call hr hs)
        clear hr hs
        obtain ⟨hc0, hf0⟩ := G13.out.b0.all
        have hz0 := G13.out.b0.lt
        obtain ⟨hc1, hf1⟩ := G13.out.b1.all
        have hz1 := G13.out.b1.lt
        unfold ncz at hc1
        have G14 := Lib.hid (G13.out.set0 hXl 2 (.int .u64 (nuV ts (adv (tyS ts (exc ts (nmS ts s) [58]))) 0 : Int)) [.int .i64 5, .string (str (nmV ts s)), .int .u64 (nuV ts (adv (tyS ts (exc ts (nmS ts s) [58]))) 0 : Int), .int .i64 ((tyV' ts (exc ts (nmS ts s) [58])).1 : Int), .bool (tyV' ts (exc ts (nmS ts s) [58])).2, .int .i64 0, .int .i64 0, .int .i64 0, .int .i64 0, .int .i64 ((ln ts s : Nat) : Int), .slice none 0 0] rfl)
        go_wp2_with fail
        refine (HEB.out _ _ G14.out.rd).mono ?_
        rintro e v9 ⟨rfl, hr, hs⟩
        clear hc0 hf0 hz0 hc1 hf1 hz1
        have G15 := Lib.hid (G14.out.call hr hs)
        clear hr hs
        obtain ⟨hc0, hf0⟩ := G15.out.b0.all
        have hz0 := G15.out.b0.lt
        obtain ⟨hc1, hf1⟩ := G15.out.b1.all
        have hz1 := G15.out.b1.lt
        unfold ncz at hc1
        go_wp2_with fail
        refine (HDV.out _ _ G15.out.rd).mono ?_
        rintro e v10 ⟨rfl, hr, hs⟩
        clear hc0 hf0 hz0 hc1 hf1 hz1
        have G16 := Lib.hid (G15.out.call hr hs)
        clear hr hs
        obtain ⟨hc0, hf0⟩ := G16.out.b0.all
        have hz0 := G16.out.b0.lt
        obtain ⟨hc1, hf1⟩ := G16.out.b1.all
        have hz1 := G16.out.b1.lt
        unfold ncz at hc1
        have G17 := Lib.hid (G16.out.set0 hXl 5 (.int .i64 (divO ts (exc ts (nuS ts (adv (tyS ts (exc ts (nmS ts s) [58]))) 0) [93]) : Int)) [.int .i64 5, .string (str (nmV ts s)), .int .u64 (nuV ts (adv (tyS ts (exc ts (nmS ts s) [58]))) 0 : Int), .int .i64 ((tyV' ts (exc ts (nmS ts s) [58])).1 : Int), .bool (tyV' ts (exc ts (nmS ts s) [58])).2, .int .i64 (divO ts (exc ts (nuS ts (adv (tyS ts (exc ts (nmS ts s) [58]))) 0) [93]) : Int), .int .i64 0, .int .i64 0, .int .i64 0, .int .i64 ((ln ts s : Nat) : Int), .slice none 0 0] rfl)
        have G18 := Lib.hid (G17.out.set0 hXl 6 (.int .i64 (divF ts (exc ts (nuS ts (adv (tyS ts (exc ts (nmS ts s) [58]))) 0) [93]) : Int)) [.int .i64 5, .string (str (nmV ts s)), .int .u64 (nuV ts (adv (tyS ts (exc ts (nmS ts s) [58]))) 0 : Int), .int .i64 ((tyV' ts (exc ts (nmS ts s) [58])).1 : Int), .bool (tyV' ts (exc ts (nmS ts s) [58])).2, .int .i64 (divO ts (exc ts (nuS ts (adv (tyS ts (exc ts (nmS ts s) [58]))) 0) [93]) : Int), .int .i64 (divF ts (exc ts (nuS ts (adv (tyS ts (exc ts (nmS ts s) [58]))) 0) [93]) : Int), .int .i64 0, .int .i64 0, .int .i64 ((ln ts s : Nat) : Int), .slice none 0 0] rfl)
        have G19 := Lib.hid (G18.out.leaf { labK 5 (ln ts s) with name := nmV ts s, wd := (tyV' ts (exc ts (nmS ts s) [58])).1, sg := (tyV' ts (exc ts (nmS ts s) [58])).2, num := nuV ts (adv (tyS ts (exc ts (nmS ts s) [58]))) 0, op := divO ts (exc ts (nuS ts (adv (tyS ts (exc ts (nmS ts s) [58]))) 0) [93]), fac := divF ts (exc ts (nuS ts (adv (tyS ts (exc ts (nmS ts s) [58]))) 0) [93]) })
        go_wp2
        have G20 := Lib.hid (G19.out.stoR hXl (List.Mem.tail _ (List.Mem.head _)) rfl (.int .i64 5) (.string (str (nmV ts s))) (.int .u64 (nuV ts (adv (tyS ts (exc ts (nmS ts s) [58]))) 0 : Int)) (.int .i64 ((tyV' ts (exc ts (nmS ts s) [58])).1 : Int)) (.bool (tyV' ts (exc ts (nmS ts s) [58])).2) (.int .i64 (divO ts (exc ts (nuS ts (adv (tyS ts (exc ts (nmS ts s) [58]))) 0) [93]) : Int)) (.int .i64 (divF ts (exc ts (nuS ts (adv (tyS ts (exc ts (nmS ts s) [58]))) 0) [93]) : Int)) (.int .i64 0) (.int .i64 0) (.int .i64 ((ln ts s : Nat) : Int)) (.slice none 0 0))
        refine bodyPost_ret (G20.out.b0.res1 Tryz.results99 Tryz.underlying28 rfl infoNd _ rfl) rfl ?_
        exact G20.out.outT (rfl)
      | false =>
        have HM : Hid (prm ts s = (.node { labK 4 (ln ts s) with name := nmV ts s, wd := (tyV' ts (exc ts (nmS ts s) [58])).1, sg := (tyV' ts (exc ts (nmS ts s) [58])).2 } [], tyS ts (exc ts (nmS ts s) [58]))) := Lib.hid (by unfold prm; dsimp only; rw [hk, hs, if_neg (by simp [g2])]; rfl)
        rw [HM.out]
        rw [g2] at HSD
        clear HM hR HL hk hs g0 g1 g2
        go_enter Tryz.func99, Tryz.ntmps99
        go_wp2_with fail
        refine (HN.out _ F0.out.rd).mono ?_
        rintro e v1 ⟨rfl, hb⟩
        have G1 := Lib.hid (F0.out.quiet hXl hb)
        clear hb
        obtain ⟨hc0, hf0⟩ := G1.out.b0.all
        have hz0 := G1.out.b0.lt
        unfold ncz at hc0
        have hq10 := G1.out.b0.lt
        have G2 := Lib.hid (G1.out.node hXl [.int .i64 4, .string ⟨#[]⟩, .int .u64 0, .int .i64 0, .bool false, .int .i64 0, .int .i64 0, .int .i64 0, .int .i64 0, .int .i64 ((ln ts s : Nat) : Int), .slice none 0 0])
        go_wp2_with fail
        refine (HNM.out _ _ G2.out.rd).mono ?_
        rintro e v2 ⟨rfl, hr, hs⟩
        clear hc0 hf0 hz0
        have G3 := Lib.hid (G2.out.call hr hs)
        clear hr hs
        obtain ⟨hc0, hf0⟩ := G3.out.b0.all
        have hz0 := G3.out.b0.lt
        obtain ⟨hc1, hf1⟩ := G3.out.b1.all
        have hz1 := G3.out.b1.lt
        unfold ncz at hc1
        have G4 := Lib.hid (G3.out.set0 hXl 1 (.string (str (nmV ts s))) [.int .i64 4, .string (str (nmV ts s)), .int .u64 0, .int .i64 0, .bool false, .int .i64 0, .int .i64 0, .int .i64 0, .int .i64 0, .int .i64 ((ln ts s : Nat) : Int), .slice none 0 0] rfl)
        go_wp2_with fail
        refine (HEO.out _ _ G4.out.rd).mono ?_
        rintro e v3 ⟨rfl, hr, hs⟩
        clear hc0 hf0 hz0 hc1 hf1 hz1
        have G5 := Lib.hid (G4.out.call hr hs)
        clear hr hs
        obtain ⟨hc0, hf0⟩ := G5.out.b0.all
        have hz0 := G5.out.b0.lt
        obtain ⟨hc1, hf1⟩ := G5.out.b1.all
        have hz1 := G5.out.b1.lt
        unfold ncz at hc1
        go_wp2_with fail
        refine (HSA.out _ G5.out.rd).mono ?_
        rintro e v4 ⟨rfl, hr, hs⟩
        clear hc0 hf0 hz0 hc1 hf1 hz1
        have G6 := Lib.hid (G5.out.call hr hs)
        clear hr hs
        obtain ⟨hc0, hf0⟩ := G6.out.b0.all
        have hz0 := G6.out.b0.lt
        obtain ⟨hc1, hf1⟩ := G6.out.b1.all
        have hz1 := G6.out.b1.lt
        unfold ncz at hc1
        go_wp2_with fail
        refine (HSB.out _ G6.out.rd).mono ?_
        rintro e v5 ⟨rfl, hr, hs⟩
        clear hc0 hf0 hz0 hc1 hf1 hz1
        have G7 := Lib.hid (G6.out.call hr hs)
        clear hr hs
        obtain ⟨hc0, hf0⟩ := G7.out.b0.all
        have hz0 := G7.out.b0.lt
        obtain ⟨hc1, hf1⟩ := G7.out.b1.all
        have hz1 := G7.out.b1.lt
        unfold ncz at hc1
        go_wp2_with fail
        refine (HTY.out _ _ G7.out.rd).mono ?_
        rintro e v6 ⟨rfl, hr, hs⟩
        clear hc0 hf0 hz0 hc1 hf1 hz1
        have G8 := Lib.hid (G7.out.call hr hs)
        clear hr hs
        obtain ⟨hc0, hf0⟩ := G8.out.b0.all
        have hz0 := G8.out.b0.lt
        obtain ⟨hc1, hf1⟩ := G8.out.b1.all
        have hz1 := G8.out.b1.lt
        unfold ncz at hc1
        have G9 := Lib.hid (G8.out.set0 hXl 3 (.int .i64 ((tyV' ts (exc ts (nmS ts s) [58])).1 : Int)) [.int .i64 4, .string (str (nmV ts s)), .int .u64 0, .int .i64 ((tyV' ts (exc ts (nmS ts s) [58])).1 : Int), .bool false, .int .i64 0, .int .i64 0, .int .i64 0, .int .i64 0, .int .i64 ((ln ts s : Nat) : Int), .slice none 0 0] rfl)
        have G10 := Lib.hid (G9.out.set0 hXl 4 (.bool (tyV' ts (exc ts (nmS ts s) [58])).2) [.int .i64 4, .string (str (nmV ts s)), .int .u64 0, .int .i64 ((tyV' ts (exc ts (nmS ts s) [58])).1 : Int), .bool (tyV' ts (exc ts (nmS ts s) [58])).2, .int .i64 0, .int .i64 0, .int .i64 0, .int .i64 0, .int .i64 ((ln ts s : Nat) : Int), .slice none 0 0] rfl)
        go_wp2_with fail
        refine (HSD.out _ G10.out.rd).mono ?_
        rintro e v7 ⟨rfl, hr, hs⟩
        clear hc0 hf0 hz0 hc1 hf1 hz1
        have G11 := Lib.hid (G10.out.call hr hs)
        clear hr hs
        obtain ⟨hc0, hf0⟩ := G11.out.b0.all
        have hz0 := G11.out.b0.lt
        obtain ⟨hc1, hf1⟩ := G11.out.b1.all
        have hz1 := G11.out.b1.lt
        unfold ncz at hc1
        have G12 := Lib.hid (G11.out.leaf { labK 4 (ln ts s) with name := nmV ts s, wd := (tyV' ts (exc ts (nmS ts s) [58])).1, sg := (tyV' ts (exc ts (nmS ts s) [58])).2 })
        go_wp2
        have G13 := Lib.hid (G12.out.stoR hXl (List.Mem.tail _ (List.Mem.head _)) rfl (.int .i64 4) (.string (str (nmV ts s))) (.int .u64 0) (.int .i64 ((tyV' ts (exc ts (nmS ts s) [58])).1 : Int)) (.bool (tyV' ts (exc ts (nmS ts s) [58])).2) (.int .i64 0) (.int .i64 0) (.int .i64 0) (.int .i64 0) (.int .i64 ((ln ts s : Nat) : Int)) (.slice none 0 0))
        refine bodyPost_ret (G13.out.b0.res1 Tryz.results99 Tryz.underlying28 rfl infoNd _ rfl) rfl ?_
        exact G13.out.outT (rfl)
end Go.Proofs.YtfnhogeocbndcaaGreatDoor
