/- The reference's rule loop: contract. -/
import Derived.Test.YtkliclihpobmiaaGreatDoorMgPqBk
import Derived.Test.YtkliclihpobmiaaGreatDoorMgPqPa
import Derived.Deep.RegionWith
import Derived.IntWalk
namespace Go.Proofs.YtkliclihpobmiaaGreatDoor
namespace Q
open Go Go.RowKit
set_option linter.unusedVariables false
set_option linter.unusedSimpArgs false

theorem SQ_lp_bad {ts : List Tok} {f p u : Nat} {s t : Sg} (h : dirsQ ts 3 0 0 s = (p, u, t, true)) : one (SQ ts (f + 1) .lp s) = (.node { labK 0 (lnR ts s) with pip := p, unr := u } [], t) := by
 unfold one; rw [SQ]; simp only [h, if_true]; rfl
theorem SQ_lp_wh {ts : List Tok} {f p u : Nat} {s t : Sg} (h : dirsQ ts 3 0 0 s = (p, u, t, false)) (hw : hasT ts t [119, 104, 105, 108, 101] = true) : one (SQ ts (f + 1) .lp s) = (.node { labK 15 (lnR ts s) with pip := p, unr := u } [(xprQ ts (adv t)).1, (one (SQ ts f .bk (xprQ ts (adv t)).2)).1], (one (SQ ts f .bk (xprQ ts (adv t)).2)).2) := by
 have e := SQ_one (ts := ts) f .bk (xprQ ts (adv t)).2 (by simp)
 rw [SQ]
 simp only [h, hw, if_true, Bool.false_eq_true, if_false]
 generalize SQ ts f .bk (xprQ ts (adv t)).2 = B at *
 obtain ⟨b1, b2⟩ := B
 obtain ⟨x, hx⟩ : ∃ x, b1 = [x] := ⟨_, e⟩
 subst hx
 rfl
theorem SQ_lp_fo {ts : List Tok} {f p u : Nat} {s t : Sg} (h : dirsQ ts 3 0 0 s = (p, u, t, false)) (hw : hasT ts t [119, 104, 105, 108, 101] = false) {s0 s1 s2 s3 s4 : Sg} (h0 : s0 = exc ts t [102, 111, 114]) (h1 : s1 = nmS ts s0) (h2 : s2 = exc ts s1 [58]) (h3 : s3 = exc ts (tyS ts s2) [105, 110]) (h4 : s4 = exc ts (xprQ ts s3).2 [46, 46]) :
  one (SQ ts (f + 1) .lp s) = (.node { labK 14 (lnR ts s) with name := nmV ts s0, wd := (tyV' ts s2).1, sg := (tyV' ts s2).2, pip := p, unr := u } [(xprQ ts s3).1, (xprQ ts s4).1, (one (SQ ts f .bk (xprQ ts s4).2)).1], (one (SQ ts f .bk (xprQ ts s4).2)).2) := by
 have e := SQ_one (ts := ts) f .bk (xprQ ts s4).2 (by simp)
 rw [SQ]
 simp only [h, hw, Bool.false_eq_true, if_false, ← h0, ← h1, ← h2, ← h3, ← h4]
 generalize SQ ts f .bk (xprQ ts s4).2 = B at *
 obtain ⟨b1, b2⟩ := B
 obtain ⟨x, hx⟩ : ∃ x, b1 = [x] := ⟨_, e⟩
 subst hx
 rfl
theorem dir_next {ts : List Tok} {p u F : Nat} {s : Sg} (hz : ¬ (0 < p ∧ 0 < u)) (h : zs p u < F + 1) {p' u' : Nat} {t : Sg} (e : dir ts p u s = (p', u', t)) : t.bad = true ∨ zs p' u' < F := by
 cases hb : t.bad with
 | true => exact .inl rfl
 | false =>
  right
  have := dir_dec (ts := ts) (s := s) hz (by rw [e]; exact hb)
  rw [e] at this
  simp only at this
  omega
theorem dirsQ_next {ts : List Tok} {p u F : Nat} {s : Sg} (hh : hasT ts s [35] = true) (hz : ¬ (0 < p ∧ 0 < u)) {p' u' : Nat} {t : Sg} (e : dir ts p u (adv s) = (p', u', t)) : dirsQ ts (F + 1) p u s = dirsQ ts F p' u' t := by rw [dirsQ, if_pos hh, if_neg hz, e]
theorem dirsQ_many {ts : List Tok} {p u F : Nat} {s : Sg} (hh : hasT ts s [35] = true) (hz : 0 < p ∧ 0 < u) : dirsQ ts (F + 1) p u s = (p, u, stop s, true) := by rw [dirsQ, if_pos hh, if_pos hz]
theorem dirsQ_end {ts : List Tok} {p u F : Nat} {s : Sg} (hh : hasT ts s [35] = false) : dirsQ ts F p u s = (p, u, s, false) := by
 cases F with
 | zero => rfl
 | succ F => rw [dirsQ, if_neg (by simp [hh])]
theorem dir_of_on {ts : List Tok} {p u : Nat} {s : Sg} {p' u' : Nat} {t : Sg} (e : dir ts p u s = (p', u', t)) : On ts s t := by have := dir_on ts p u s; rw [e] at this; exact this
theorem on_less {ts : List Tok} {s t : Sg} (hs : s.bad = false ∧ s.i < ts.length) (h : On ts (adv s) t) : (if t.bad then 0 else ts.length - t.i + 1) < ts.length - s.i + 1 := by
 have h1 : s.i + 1 ≤ t.i := h.1
 split <;> omega
theorem rem_exc {ts : List Tok} {s : Sg} {c : UInt8} {t : List UInt8} : rem ts (exc ts s (c :: t)) ≤ rem ts s - 1 := by
 unfold exc
 cases h : hasT ts s (c :: t) with
 | true => have := rem_adv (hasT_in h); simp; omega
 | false => show 0 ≤ _; omega
def LpSt (ts : List Tok) (R g c : Nat) (w : World) (L0 L1 : Nat) (D : Nat × Nat × Sg × Bool) (L9 B0 : Nat) (wr : World) (st : Sg) : Prop :=
 ∃ p u F : Nat, Fr w wr R g c ts st [(L1, [.int .i64 0, .string ⟨#[]⟩, .int .u64 0, .int .i64 0, .bool false, .int .i64 0, .int .i64 0, .int .i64 (p : Int), .int .i64 (u : Int), .int .i64 (L9 : Int), .slice none 0 0]), (L0, ncz)] [] ∧ D = dirsQ ts F p u st ∧ (st.bad = true ∨ zs p u < F) ∧ rem ts st ≤ B0
set_option maxHeartbeats 16000000 in
set_option maxRecDepth 100000 in
theorem loop_step {ts : List Tok} {R g c : Nat} (X : QC ts R g c) (K : KW ts) (f : Nat) (H : SC ts R g c f) (s : Sg) (hv : (hasT ts s [35] || hasT ts s [102, 111, 114] || hasT ts s [119, 104, 105, 108, 101]) = true) (w : World) (hR : Rd w R g c ts s) (hf : 8 * rem ts s + 3 ≤ f + 1) : Calls Tryz.prog 163 #[.pointer (some ⟨R, 0, none⟩)] w (TP w R g c ts (one (SQ ts (f + 1) .lp s))) := by
 have hrs : 1 ≤ rem ts s := by
  have hi : s.bad = false ∧ s.i < ts.length := by
   simp only [Bool.or_eq_true] at hv
   rcases hv with (h | h) | h <;> exact hasT_in h
  have := rem_adv hi
  omega
 have hXl := X.x.lt
 have F0 := Hd ((Fr.start hR).node hXl ncz)
 have HLN := Hd fun W (h : Rd W R g c ts s) => line_any X.x W h
 have HTX := Hd fun q W (h : Rd W R g c ts q) => text_any X.x (s := q) W h
 have HKD := Hd fun q W (h : Rd W R g c ts q) => kind_any X.x (s := q) W h
 have HNM := Hd fun q W (h : Rd W R g c ts q) => name_any X.x (s := q) W h
 have HTY := Hd fun q W (h : Rd W R g c ts q) => typ_any X (s := q) W h
 have HXP := Hd fun q W (h : Rd W R g c ts q) => xpr_any X q W h
 have HNU1 : Hid (∀ q W, Rd W R g c ts q → Calls Tryz.prog 137 #[.pointer (some ⟨R, 0, none⟩), .int .u64 1] W fun e w' => e = .returned (.int .u64 (nuV ts q 1 : Int)) ∧ Rd w' R g c ts (nuS ts q 1) ∧ St W w' R) := Hd fun q W h => numb_any X.x (s := q) 1 (by omega) W h
 have HNU2 : Hid (∀ q W, Rd W R g c ts q → Calls Tryz.prog 137 #[.pointer (some ⟨R, 0, none⟩), .int .u64 2] W fun e w' => e = .returned (.int .u64 (nuV ts q 2 : Int)) ∧ Rd w' R g c ts (nuS ts q 2) ∧ St W w' R) := Hd fun q W h => numb_any X.x (s := q) 2 (by omega) W h
 have HTK := Hd fun t (ht : t ≠ []) q W (h : Rd W R g c ts q) => take_any X.x (s := q) t ht W h
 have HEF := Hd fun q W (h : Rd W R g c ts q) => need_any X.x (s := q) [102, 111, 114] (by simp) W h
 have HEL := Hd fun q W (h : Rd W R g c ts q) => need_any X.x (s := q) [58] (by simp) W h
 have HEI := Hd fun q W (h : Rd W R g c ts q) => need_any X.x (s := q) [105, 110] (by simp) W h
 have HED := Hd fun q W (h : Rd W R g c ts q) => need_any X.x (s := q) [46, 46] (by simp) W h
 unfold skp at HTK
 have HBK := Hd fun q W (h0 : rem ts q ≤ rem ts s - 1) (h : Rd W R g c ts q) => H.bk q W h (by omega)
 have hlen := X.x.len
 obtain ⟨Z, hZ⟩ : ∃ Z, Z = one (SQ ts (f + 1) .lp s) := ⟨_, rfl⟩
 rw [← hZ]
 have HZ := Hd hZ
 obtain ⟨D, hD⟩ : ∃ D, D = dirsQ ts 3 0 0 s := ⟨_, rfl⟩
 have HD := Hd hD
 obtain ⟨B0, hB0⟩ : ∃ B0, B0 = rem ts s := ⟨_, rfl⟩
 rw [← hB0] at HBK hrs
 have hB0l : rem ts s ≤ B0 := by omega
 obtain ⟨L9, hL9⟩ : ∃ L9, L9 = lnR ts s := ⟨_, rfl⟩
 rw [← hL9] at HLN
 have HL9 := Hd hL9
 clear hZ hD hB0 hL9 H hR hf hv
 go_enter Tryz.func163, Tryz.ntmps163
 go_wp2_with fail
 refine (HLN.out _ F0.out.rd).mono ?_
 rintro e v1 ⟨rfl, hb⟩
 have G1 := Hd (F0.out.quiet hXl hb)
 clear hb
 obtain ⟨hc0, hf0⟩ := G1.out.b0.all
 have hz0 := G1.out.b0.lt
 unfold ncz at hc0
 have hq10 := G1.out.b0.lt
 have G2 := Hd (G1.out.node hXl [.int .i64 0, .string ⟨#[]⟩, .int .u64 0, .int .i64 0, .bool false, .int .i64 0, .int .i64 0, .int .i64 0, .int .i64 0, .int .i64 (L9 : Int), .slice none 0 0])
 go_wp2
 have h0 : Hid (LpSt ts R g c w w.heap.size v1.heap.size D L9 B0 _ s) := Hd ⟨0, 0, 3, G2.out, HD.out, Or.inr (by decide), hB0l⟩
 have hL01 : w.heap.size < v1.heap.size := hq10
 clear hB0l HLN
 go_loopw [7] (fun _ wr => ∃ st, Hid (LpSt ts R g c w w.heap.size v1.heap.size D L9 B0 wr st)) (fun _ wr => mW wr R ts.length)
 case atStart => exact ⟨_, h0⟩
 case round =>
  obtain ⟨st, hT⟩ := hrel
  obtain ⟨p, u, F, hFr, hDD, hzF, hB⟩ := hT.out
  have J0 := Hd hFr
  have HD2 := Hd hDD
  have hm0 := mW_rd J0.out.rd
  have hatl := J0.out.rd.hi
  clear hFr hDD hT h0
  have hq0 := str_lit ts st [35]
  cases hh : hasT ts st [35] with
  | true =>
   have hin := hasT_in hh
   have HIN := Hd hin
   have hra := rem_adv hin
   rw [hh] at hq0
   rw [hin.1] at hm0
   have HM0 := Hd hm0
   have hil : st.i < 65536 := by omega
   have hil2 : (adv st).i ≤ 65536 := by show st.i + 1 ≤ 65536; omega
   have hzF2 : zs p u < F := hzF.resolve_left (by simp [hin.1])
   obtain ⟨F2, rfl⟩ : ∃ F2, F = F2 + 1 := ⟨F - 1, by omega⟩
   have hq1 := str_lit ts (adv st) [112, 105, 112, 101, 108, 105, 110, 101]
   have hq2 := str_lit ts (adv st) [117, 110, 114, 111, 108, 108]
   clear hzF hm0
   by_cases hp0 : p = 0
   ·have qp : decide ((0 : Int) < (p : Int)) = false := by simp; omega
    have qp2 : ((p : Int) == 0) = true := by simp; omega
    have HNZ : Hid (¬ (0 < p ∧ 0 < u)) := Hd (by omega)
    have HHH := Hd hh
    have HZF := Hd hzF2
    clear hh hin hzF2
    cases a1 : hasT ts (adv st) [112, 105, 112, 101, 108, 105, 110, 101] with
    | true =>
     rw [a1] at hq1
     have HIN2 := Hd (hasT_in a1)
     have HK2 := Hd fun W (h : Rd W R g c ts (adv (adv st))) => HKD.out _ W h
     have hk3 : kd ts (adv (adv st)) = kd ts (adv (adv st)) := rfl
     by_cases hk : kd ts (adv (adv st)) = 3
     ·rw [hk] at HK2
      have HE : Hid (dir ts p u (adv st) = ((nuV ts (adv (adv st)) 1), u, (nuS ts (adv (adv st)) 1))) := Hd (by unfold dir; rw [if_pos ⟨hp0, a1⟩]; simp [amV, amS, hk])
      have hle := nuV_le ts (adv (adv st)) 1
      have hwr : IntKind.i64.wrap ((nuV ts (adv (adv st)) 1 : Nat) : Int) = ((nuV ts (adv (adv st)) 1 : Nat) : Int) := IntWalk.i64_in _ (by omega)
      clear hle
      clear hk hk3 a1
      go_wp2_with fail
      refine (HTX.out _ _ J0.out.rd).mono ?_
      rintro e v5 ⟨rfl, hb⟩
      have G106 := Hd (J0.out.quiet hXl hb)
      clear hb
      obtain ⟨hc0, hf0, hz0, hc1, hf1, hz1⟩ := G106.out.l2
      have hRn0 := (G106.out.bl _ _ (List.Mem.head _)).2
      have hRn1 := (G106.out.bl _ _ (List.Mem.tail _ (List.Mem.head _))).2
      have hRw := G106.out.hR
      obtain ⟨c0, c1, c2, fr1, fr2⟩ := G106.out.rd.cells
      have hzR := G106.out.rd.lt
      clear c0 c2 fr2
      have G107 := Hd (G106.out.advR hXl HIN.out (v := (st.i : Int) + 1) rfl)
      go_wp2_with fail
      refine (HTX.out _ _ G107.out.rd).mono ?_
      rintro e v6 ⟨rfl, hb⟩
      have G108 := Hd (G107.out.quiet hXl hb)
      clear hb hc0 hf0 hz0 hc1 hf1 hz1
      obtain ⟨hc0, hf0, hz0, hc1, hf1, hz1⟩ := G108.out.l2
      clear c1 fr1 hzR hRn0 hRn1 hRw
      have hRn0 := (G108.out.bl _ _ (List.Mem.head _)).2
      have hRn1 := (G108.out.bl _ _ (List.Mem.tail _ (List.Mem.head _))).2
      have hRw := G108.out.hR
      obtain ⟨c0, c1, c2, fr1, fr2⟩ := G108.out.rd.cells
      have hzR := G108.out.rd.lt
      clear c0 c2 fr2
      have G109 := Hd (G108.out.advR hXl HIN2.out (v := ((adv st).i : Int) + 1) rfl)
      have G110 := Hd (G109.out.s7 hXl (.int .i64 1))
      go_wp2_with fail
      refine (HK2.out _ G110.out.rd).mono ?_
      rintro e v7 ⟨rfl, hb⟩
      have G111 := Hd (G110.out.quiet hXl hb)
      clear hb hc0 hf0 hz0 hc1 hf1 hz1
      obtain ⟨hc0, hf0, hz0, hc1, hf1, hz1⟩ := G111.out.l2
      clear c1 fr1 hzR hRn0 hRn1 hRw
      go_wp2_with fail
      refine (HNU1.out _ _ G111.out.rd).mono ?_
      rintro e v8 ⟨rfl, hr, hs⟩
      have G112 := Hd (G111.out.call hr hs)
      clear hr hs hc0 hf0 hz0 hc1 hf1 hz1
      obtain ⟨hc0, hf0, hz0, hc1, hf1, hz1⟩ := G112.out.l2
      have G113 := Hd (G112.out.s7 hXl (.int .i64 ((nuV ts (adv (adv st)) 1 : Nat) : Int)))
      have JE := Hd G113.out
      have hm1 := mW_rd JE.out.rd
      have hon : On ts (adv st) (nuS ts (adv (adv st)) 1) := dir_of_on HE.out
      have hrt := rem_on hon
      have HN2 : Hid (LpSt ts R g c w w.heap.size v1.heap.size D L9 B0 _ (nuS ts (adv (adv st)) 1)) := Hd ⟨(nuV ts (adv (adv st)) 1), u, F2, (by exact JE.out), HD2.out.trans (dirsQ_next HHH.out HNZ.out HE.out), dir_next HNZ.out HZF.out HE.out, by omega⟩
      have HM1 := Hd hm1
      have HM := Hd (on_less HIN.out hon)
      clear hm1 hrt hon
      go_wp2
      go_roundw
      case rel => exact ⟨_, HN2⟩
      case measure => (rw [HM0.out]; exact Nat.lt_of_le_of_lt (Nat.le_of_eq HM1.out) (by simpa using HM.out))
     ·have qk : ((kd ts (adv (adv st)) : Int) == 3) = false := by simp; omega
      have HE : Hid (dir ts p u (adv st) = ((1), u, (adv (adv st)))) := Hd (by unfold dir; rw [if_pos ⟨hp0, a1⟩]; simp [amV, amS, hk])
      clear hk hk3 a1
      go_wp2_with fail
      refine (HTX.out _ _ J0.out.rd).mono ?_
      rintro e v5 ⟨rfl, hb⟩
      have G101 := Hd (J0.out.quiet hXl hb)
      clear hb
      obtain ⟨hc0, hf0, hz0, hc1, hf1, hz1⟩ := G101.out.l2
      have hRn0 := (G101.out.bl _ _ (List.Mem.head _)).2
      have hRn1 := (G101.out.bl _ _ (List.Mem.tail _ (List.Mem.head _))).2
      have hRw := G101.out.hR
      obtain ⟨c0, c1, c2, fr1, fr2⟩ := G101.out.rd.cells
      have hzR := G101.out.rd.lt
      clear c0 c2 fr2
      have G102 := Hd (G101.out.advR hXl HIN.out (v := (st.i : Int) + 1) rfl)
      go_wp2_with fail
      refine (HTX.out _ _ G102.out.rd).mono ?_
      rintro e v6 ⟨rfl, hb⟩
      have G103 := Hd (G102.out.quiet hXl hb)
      clear hb hc0 hf0 hz0 hc1 hf1 hz1
      obtain ⟨hc0, hf0, hz0, hc1, hf1, hz1⟩ := G103.out.l2
      clear c1 fr1 hzR hRn0 hRn1 hRw
      have hRn0 := (G103.out.bl _ _ (List.Mem.head _)).2
      have hRn1 := (G103.out.bl _ _ (List.Mem.tail _ (List.Mem.head _))).2
      have hRw := G103.out.hR
      obtain ⟨c0, c1, c2, fr1, fr2⟩ := G103.out.rd.cells
      have hzR := G103.out.rd.lt
      clear c0 c2 fr2
      have G104 := Hd (G103.out.advR hXl HIN2.out (v := ((adv st).i : Int) + 1) rfl)
      have G105 := Hd (G104.out.s7 hXl (.int .i64 1))
      go_wp2_with fail
      refine (HK2.out _ G105.out.rd).mono ?_
      rintro e v7 ⟨rfl, hb⟩
      have G106 := Hd (G105.out.quiet hXl hb)
      clear hb hc0 hf0 hz0 hc1 hf1 hz1
      obtain ⟨hc0, hf0, hz0, hc1, hf1, hz1⟩ := G106.out.l2
      clear c1 fr1 hzR hRn0 hRn1 hRw
      have JE := Hd G106.out
      have hm1 := mW_rd JE.out.rd
      have hon : On ts (adv st) (adv (adv st)) := dir_of_on HE.out
      have hrt := rem_on hon
      have HN2 : Hid (LpSt ts R g c w w.heap.size v1.heap.size D L9 B0 _ (adv (adv st))) := Hd ⟨(1), u, F2, (by exact JE.out), HD2.out.trans (dirsQ_next HHH.out HNZ.out HE.out), dir_next HNZ.out HZF.out HE.out, by omega⟩
      have HM1 := Hd hm1
      have HM := Hd (on_less HIN.out hon)
      clear hm1 hrt hon
      go_wp2
      go_roundw
      case rel => exact ⟨_, HN2⟩
      case measure => (rw [HM0.out]; exact Nat.lt_of_le_of_lt (Nat.le_of_eq HM1.out) (by simpa using HM.out))
    | false =>
     rw [a1] at hq1
     cases a2 : hasT ts (adv st) [117, 110, 114, 111, 108, 108] with
     | true =>
      rw [a2] at hq2
      by_cases hu0 : u = 0
      ·have qu2 : ((u : Int) == 0) = true := by simp; omega
       have HIN2 := Hd (hasT_in a2)
       have HK2 := Hd fun W (h : Rd W R g c ts (adv (adv st))) => HKD.out _ W h
       have hk3 : kd ts (adv (adv st)) = kd ts (adv (adv st)) := rfl
       by_cases hk : kd ts (adv (adv st)) = 3
       ·rw [hk] at HK2
        have HE : Hid (dir ts p u (adv st) = (p, (nuV ts (adv (adv st)) 2), (nuS ts (adv (adv st)) 2))) := Hd (by unfold dir; rw [if_neg (by simp [a1]), if_pos ⟨hu0, a2⟩]; simp [amV, amS, hk])
        have hle := nuV_le ts (adv (adv st)) 2
        have hwr : IntKind.i64.wrap ((nuV ts (adv (adv st)) 2 : Nat) : Int) = ((nuV ts (adv (adv st)) 2 : Nat) : Int) := IntWalk.i64_in _ (by omega)
        clear hle
        clear hk hk3 a1 a2
        go_wp2_with fail
        refine (HTX.out _ _ J0.out.rd).mono ?_
        rintro e v5 ⟨rfl, hb⟩
        have G126 := Hd (J0.out.quiet hXl hb)
        clear hb
        obtain ⟨hc0, hf0, hz0, hc1, hf1, hz1⟩ := G126.out.l2
        have hRn0 := (G126.out.bl _ _ (List.Mem.head _)).2
        have hRn1 := (G126.out.bl _ _ (List.Mem.tail _ (List.Mem.head _))).2
        have hRw := G126.out.hR
        obtain ⟨c0, c1, c2, fr1, fr2⟩ := G126.out.rd.cells
        have hzR := G126.out.rd.lt
        clear c0 c2 fr2
        have G127 := Hd (G126.out.advR hXl HIN.out (v := (st.i : Int) + 1) rfl)
        go_wp2_with fail
        refine (HTX.out _ _ G127.out.rd).mono ?_
        rintro e v6 ⟨rfl, hb⟩
        have G128 := Hd (G127.out.quiet hXl hb)
        clear hb hc0 hf0 hz0 hc1 hf1 hz1
        obtain ⟨hc0, hf0, hz0, hc1, hf1, hz1⟩ := G128.out.l2
        clear c1 fr1 hzR hRn0 hRn1 hRw
        go_wp2_with fail
        refine (HTX.out _ _ G128.out.rd).mono ?_
        rintro e v7 ⟨rfl, hb⟩
        have G129 := Hd (G128.out.quiet hXl hb)
        clear hb hc0 hf0 hz0 hc1 hf1 hz1
        obtain ⟨hc0, hf0, hz0, hc1, hf1, hz1⟩ := G129.out.l2
        have hRn0 := (G129.out.bl _ _ (List.Mem.head _)).2
        have hRn1 := (G129.out.bl _ _ (List.Mem.tail _ (List.Mem.head _))).2
        have hRw := G129.out.hR
        obtain ⟨c0, c1, c2, fr1, fr2⟩ := G129.out.rd.cells
        have hzR := G129.out.rd.lt
        clear c0 c2 fr2
        have G130 := Hd (G129.out.advR hXl HIN2.out (v := ((adv st).i : Int) + 1) rfl)
        have G131 := Hd (G130.out.s8 hXl (.int .i64 1))
        go_wp2_with fail
        refine (HK2.out _ G131.out.rd).mono ?_
        rintro e v8 ⟨rfl, hb⟩
        have G132 := Hd (G131.out.quiet hXl hb)
        clear hb hc0 hf0 hz0 hc1 hf1 hz1
        obtain ⟨hc0, hf0, hz0, hc1, hf1, hz1⟩ := G132.out.l2
        clear c1 fr1 hzR hRn0 hRn1 hRw
        go_wp2_with fail
        refine (HNU2.out _ _ G132.out.rd).mono ?_
        rintro e v9 ⟨rfl, hr, hs⟩
        have G133 := Hd (G132.out.call hr hs)
        clear hr hs hc0 hf0 hz0 hc1 hf1 hz1
        obtain ⟨hc0, hf0, hz0, hc1, hf1, hz1⟩ := G133.out.l2
        have G134 := Hd (G133.out.s8 hXl (.int .i64 ((nuV ts (adv (adv st)) 2 : Nat) : Int)))
        have JE := Hd G134.out
        have hm1 := mW_rd JE.out.rd
        have hon : On ts (adv st) (nuS ts (adv (adv st)) 2) := dir_of_on HE.out
        have hrt := rem_on hon
        have HN2 : Hid (LpSt ts R g c w w.heap.size v1.heap.size D L9 B0 _ (nuS ts (adv (adv st)) 2)) := Hd ⟨p, (nuV ts (adv (adv st)) 2), F2, (by exact JE.out), HD2.out.trans (dirsQ_next HHH.out HNZ.out HE.out), dir_next HNZ.out HZF.out HE.out, by omega⟩
        have HM1 := Hd hm1
        have HM := Hd (on_less HIN.out hon)
        clear hm1 hrt hon
        go_wp2
        go_roundw
        case rel => exact ⟨_, HN2⟩
        case measure => (rw [HM0.out]; exact Nat.lt_of_le_of_lt (Nat.le_of_eq HM1.out) (by simpa using HM.out))
       ·have qk : ((kd ts (adv (adv st)) : Int) == 3) = false := by simp; omega
        have HE : Hid (dir ts p u (adv st) = (p, (1), (adv (adv st)))) := Hd (by unfold dir; rw [if_neg (by simp [a1]), if_pos ⟨hu0, a2⟩]; simp [amV, amS, hk])
        clear hk hk3 a1 a2
        go_wp2_with fail
        refine (HTX.out _ _ J0.out.rd).mono ?_
        rintro e v5 ⟨rfl, hb⟩
        have G121 := Hd (J0.out.quiet hXl hb)
        clear hb
        obtain ⟨hc0, hf0, hz0, hc1, hf1, hz1⟩ := G121.out.l2
        have hRn0 := (G121.out.bl _ _ (List.Mem.head _)).2
        have hRn1 := (G121.out.bl _ _ (List.Mem.tail _ (List.Mem.head _))).2
        have hRw := G121.out.hR
        obtain ⟨c0, c1, c2, fr1, fr2⟩ := G121.out.rd.cells
        have hzR := G121.out.rd.lt
        clear c0 c2 fr2
        have G122 := Hd (G121.out.advR hXl HIN.out (v := (st.i : Int) + 1) rfl)
        go_wp2_with fail
        refine (HTX.out _ _ G122.out.rd).mono ?_
        rintro e v6 ⟨rfl, hb⟩
        have G123 := Hd (G122.out.quiet hXl hb)
        clear hb hc0 hf0 hz0 hc1 hf1 hz1
        obtain ⟨hc0, hf0, hz0, hc1, hf1, hz1⟩ := G123.out.l2
        clear c1 fr1 hzR hRn0 hRn1 hRw
        go_wp2_with fail
        refine (HTX.out _ _ G123.out.rd).mono ?_
        rintro e v7 ⟨rfl, hb⟩
        have G124 := Hd (G123.out.quiet hXl hb)
        clear hb hc0 hf0 hz0 hc1 hf1 hz1
        obtain ⟨hc0, hf0, hz0, hc1, hf1, hz1⟩ := G124.out.l2
        have hRn0 := (G124.out.bl _ _ (List.Mem.head _)).2
        have hRn1 := (G124.out.bl _ _ (List.Mem.tail _ (List.Mem.head _))).2
        have hRw := G124.out.hR
        obtain ⟨c0, c1, c2, fr1, fr2⟩ := G124.out.rd.cells
        have hzR := G124.out.rd.lt
        clear c0 c2 fr2
        have G125 := Hd (G124.out.advR hXl HIN2.out (v := ((adv st).i : Int) + 1) rfl)
        have G126 := Hd (G125.out.s8 hXl (.int .i64 1))
        go_wp2_with fail
        refine (HK2.out _ G126.out.rd).mono ?_
        rintro e v8 ⟨rfl, hb⟩
        have G127 := Hd (G126.out.quiet hXl hb)
        clear hb hc0 hf0 hz0 hc1 hf1 hz1
        obtain ⟨hc0, hf0, hz0, hc1, hf1, hz1⟩ := G127.out.l2
        clear c1 fr1 hzR hRn0 hRn1 hRw
        have JE := Hd G127.out
        have hm1 := mW_rd JE.out.rd
        have hon : On ts (adv st) (adv (adv st)) := dir_of_on HE.out
        have hrt := rem_on hon
        have HN2 : Hid (LpSt ts R g c w w.heap.size v1.heap.size D L9 B0 _ (adv (adv st))) := Hd ⟨p, (1), F2, (by exact JE.out), HD2.out.trans (dirsQ_next HHH.out HNZ.out HE.out), dir_next HNZ.out HZF.out HE.out, by omega⟩
        have HM1 := Hd hm1
        have HM := Hd (on_less HIN.out hon)
        clear hm1 hrt hon
        go_wp2
        go_roundw
        case rel => exact ⟨_, HN2⟩
        case measure => (rw [HM0.out]; exact Nat.lt_of_le_of_lt (Nat.le_of_eq HM1.out) (by simpa using HM.out))
      ·have qu2 : ((u : Int) == 0) = false := by simp; omega
       have HE : Hid (dir ts p u (adv st) = (p, u, stop (adv st))) := Hd (by unfold dir; rw [if_neg (by simp [a1]), if_neg (by simp [hu0])])
       go_wp2_with fail
       refine (HTX.out _ _ J0.out.rd).mono ?_
       rintro e v5 ⟨rfl, hb⟩
       have G141 := Hd (J0.out.quiet hXl hb)
       clear hb
       obtain ⟨hc0, hf0, hz0, hc1, hf1, hz1⟩ := G141.out.l2
       have hRn0 := (G141.out.bl _ _ (List.Mem.head _)).2
       have hRn1 := (G141.out.bl _ _ (List.Mem.tail _ (List.Mem.head _))).2
       have hRw := G141.out.hR
       obtain ⟨c0, c1, c2, fr1, fr2⟩ := G141.out.rd.cells
       have hzR := G141.out.rd.lt
       clear c0 c2 fr2
       have G142 := Hd (G141.out.advR hXl HIN.out (v := (st.i : Int) + 1) rfl)
       go_wp2_with fail
       refine (HTX.out _ _ G142.out.rd).mono ?_
       rintro e v6 ⟨rfl, hb⟩
       have G143 := Hd (G142.out.quiet hXl hb)
       clear hb hc0 hf0 hz0 hc1 hf1 hz1
       obtain ⟨hc0, hf0, hz0, hc1, hf1, hz1⟩ := G143.out.l2
       clear c1 fr1 hzR hRn0 hRn1 hRw
       go_wp2_with fail
       refine (HTX.out _ _ G143.out.rd).mono ?_
       rintro e v7 ⟨rfl, hb⟩
       have G144 := Hd (G143.out.quiet hXl hb)
       clear hb hc0 hf0 hz0 hc1 hf1 hz1
       obtain ⟨hc0, hf0, hz0, hc1, hf1, hz1⟩ := G144.out.l2
       have hRn0 := (G144.out.bl _ _ (List.Mem.head _)).2
       have hRn1 := (G144.out.bl _ _ (List.Mem.tail _ (List.Mem.head _))).2
       have hRw := G144.out.hR
       obtain ⟨c0, c1, c2, fr1, fr2⟩ := G144.out.rd.cells
       have hzR := G144.out.rd.lt
       clear c0 c1 fr1
       have G145 := Hd (G144.out.badR hXl)
       have JE := Hd G145.out
       have hm1 := mW_rd JE.out.rd
       have hon : On ts (adv st) (stop (adv st)) := dir_of_on HE.out
       have hrt := rem_on hon
       have HN2 : Hid (LpSt ts R g c w w.heap.size v1.heap.size D L9 B0 _ (stop (adv st))) := Hd ⟨p, u, F2, (by exact JE.out), HD2.out.trans (dirsQ_next HHH.out HNZ.out HE.out), dir_next HNZ.out HZF.out HE.out, by omega⟩
       have HM1 := Hd hm1
       have HM := Hd (on_less HIN.out hon)
       clear hm1 hrt hon
       go_wp2
       go_roundw
       case rel => exact ⟨_, HN2⟩
       case measure => (rw [HM0.out]; exact Nat.lt_of_le_of_lt (Nat.le_of_eq HM1.out) (by simpa using HM.out))
     | false =>
      rw [a2] at hq2
      have HE : Hid (dir ts p u (adv st) = (p, u, stop (adv st))) := Hd (by unfold dir; rw [if_neg (by simp [a1]), if_neg (by simp [a2])])
      go_wp2_with fail
      refine (HTX.out _ _ J0.out.rd).mono ?_
      rintro e v5 ⟨rfl, hb⟩
      have G151 := Hd (J0.out.quiet hXl hb)
      clear hb
      obtain ⟨hc0, hf0, hz0, hc1, hf1, hz1⟩ := G151.out.l2
      have hRn0 := (G151.out.bl _ _ (List.Mem.head _)).2
      have hRn1 := (G151.out.bl _ _ (List.Mem.tail _ (List.Mem.head _))).2
      have hRw := G151.out.hR
      obtain ⟨c0, c1, c2, fr1, fr2⟩ := G151.out.rd.cells
      have hzR := G151.out.rd.lt
      clear c0 c2 fr2
      have G152 := Hd (G151.out.advR hXl HIN.out (v := (st.i : Int) + 1) rfl)
      go_wp2_with fail
      refine (HTX.out _ _ G152.out.rd).mono ?_
      rintro e v6 ⟨rfl, hb⟩
      have G153 := Hd (G152.out.quiet hXl hb)
      clear hb hc0 hf0 hz0 hc1 hf1 hz1
      obtain ⟨hc0, hf0, hz0, hc1, hf1, hz1⟩ := G153.out.l2
      clear c1 fr1 hzR hRn0 hRn1 hRw
      go_wp2_with fail
      refine (HTX.out _ _ G153.out.rd).mono ?_
      rintro e v7 ⟨rfl, hb⟩
      have G154 := Hd (G153.out.quiet hXl hb)
      clear hb hc0 hf0 hz0 hc1 hf1 hz1
      obtain ⟨hc0, hf0, hz0, hc1, hf1, hz1⟩ := G154.out.l2
      have hRn0 := (G154.out.bl _ _ (List.Mem.head _)).2
      have hRn1 := (G154.out.bl _ _ (List.Mem.tail _ (List.Mem.head _))).2
      have hRw := G154.out.hR
      obtain ⟨c0, c1, c2, fr1, fr2⟩ := G154.out.rd.cells
      have hzR := G154.out.rd.lt
      clear c0 c1 fr1
      have G155 := Hd (G154.out.badR hXl)
      have JE := Hd G155.out
      have hm1 := mW_rd JE.out.rd
      have hon : On ts (adv st) (stop (adv st)) := dir_of_on HE.out
      have hrt := rem_on hon
      have HN2 : Hid (LpSt ts R g c w w.heap.size v1.heap.size D L9 B0 _ (stop (adv st))) := Hd ⟨p, u, F2, (by exact JE.out), HD2.out.trans (dirsQ_next HHH.out HNZ.out HE.out), dir_next HNZ.out HZF.out HE.out, by omega⟩
      have HM1 := Hd hm1
      have HM := Hd (on_less HIN.out hon)
      clear hm1 hrt hon
      go_wp2
      go_roundw
      case rel => exact ⟨_, HN2⟩
      case measure => (rw [HM0.out]; exact Nat.lt_of_le_of_lt (Nat.le_of_eq HM1.out) (by simpa using HM.out))
   ·have qp : decide ((0 : Int) < (p : Int)) = true := by simp; omega
    have qp2 : ((p : Int) == 0) = false := by simp; omega
    by_cases hu0 : u = 0
    ·have qu : decide ((0 : Int) < (u : Int)) = false := by simp; omega
     have qu2 : ((u : Int) == 0) = true := by simp; omega
     have HNZ : Hid (¬ (0 < p ∧ 0 < u)) := Hd (by omega)
     have HHH := Hd hh
     have HZF := Hd hzF2
     clear hh hin hzF2
     cases a2 : hasT ts (adv st) [117, 110, 114, 111, 108, 108] with
     | true =>
      rw [a2] at hq2
      have a1 : hasT ts (adv st) [112, 105, 112, 101, 108, 105, 110, 101] = false := hasT_two (by decide) a2
      rw [a1] at hq1
      have HIN2 := Hd (hasT_in a2)
      have HK2 := Hd fun W (h : Rd W R g c ts (adv (adv st))) => HKD.out _ W h
      have hk3 : kd ts (adv (adv st)) = kd ts (adv (adv st)) := rfl
      by_cases hk : kd ts (adv (adv st)) = 3
      ·rw [hk] at HK2
       have HE : Hid (dir ts p u (adv st) = (p, (nuV ts (adv (adv st)) 2), (nuS ts (adv (adv st)) 2))) := Hd (by unfold dir; rw [if_neg (by simp [a1]), if_pos ⟨hu0, a2⟩]; simp [amV, amS, hk])
       have hle := nuV_le ts (adv (adv st)) 2
       have hwr : IntKind.i64.wrap ((nuV ts (adv (adv st)) 2 : Nat) : Int) = ((nuV ts (adv (adv st)) 2 : Nat) : Int) := IntWalk.i64_in _ (by omega)
       clear hle
       clear hk hk3 a1 a2
       go_wp2_with fail
       refine (HTX.out _ _ J0.out.rd).mono ?_
       rintro e v5 ⟨rfl, hb⟩
       have G166 := Hd (J0.out.quiet hXl hb)
       clear hb
       obtain ⟨hc0, hf0, hz0, hc1, hf1, hz1⟩ := G166.out.l2
       have hRn0 := (G166.out.bl _ _ (List.Mem.head _)).2
       have hRn1 := (G166.out.bl _ _ (List.Mem.tail _ (List.Mem.head _))).2
       have hRw := G166.out.hR
       obtain ⟨c0, c1, c2, fr1, fr2⟩ := G166.out.rd.cells
       have hzR := G166.out.rd.lt
       clear c0 c2 fr2
       have G167 := Hd (G166.out.advR hXl HIN.out (v := (st.i : Int) + 1) rfl)
       go_wp2_with fail
       refine (HTX.out _ _ G167.out.rd).mono ?_
       rintro e v6 ⟨rfl, hb⟩
       have G168 := Hd (G167.out.quiet hXl hb)
       clear hb hc0 hf0 hz0 hc1 hf1 hz1
       obtain ⟨hc0, hf0, hz0, hc1, hf1, hz1⟩ := G168.out.l2
       clear c1 fr1 hzR hRn0 hRn1 hRw
       go_wp2_with fail
       refine (HTX.out _ _ G168.out.rd).mono ?_
       rintro e v7 ⟨rfl, hb⟩
       have G169 := Hd (G168.out.quiet hXl hb)
       clear hb hc0 hf0 hz0 hc1 hf1 hz1
       obtain ⟨hc0, hf0, hz0, hc1, hf1, hz1⟩ := G169.out.l2
       have hRn0 := (G169.out.bl _ _ (List.Mem.head _)).2
       have hRn1 := (G169.out.bl _ _ (List.Mem.tail _ (List.Mem.head _))).2
       have hRw := G169.out.hR
       obtain ⟨c0, c1, c2, fr1, fr2⟩ := G169.out.rd.cells
       have hzR := G169.out.rd.lt
       clear c0 c2 fr2
       have G170 := Hd (G169.out.advR hXl HIN2.out (v := ((adv st).i : Int) + 1) rfl)
       have G171 := Hd (G170.out.s8 hXl (.int .i64 1))
       go_wp2_with fail
       refine (HK2.out _ G171.out.rd).mono ?_
       rintro e v8 ⟨rfl, hb⟩
       have G172 := Hd (G171.out.quiet hXl hb)
       clear hb hc0 hf0 hz0 hc1 hf1 hz1
       obtain ⟨hc0, hf0, hz0, hc1, hf1, hz1⟩ := G172.out.l2
       clear c1 fr1 hzR hRn0 hRn1 hRw
       go_wp2_with fail
       refine (HNU2.out _ _ G172.out.rd).mono ?_
       rintro e v9 ⟨rfl, hr, hs⟩
       have G173 := Hd (G172.out.call hr hs)
       clear hr hs hc0 hf0 hz0 hc1 hf1 hz1
       obtain ⟨hc0, hf0, hz0, hc1, hf1, hz1⟩ := G173.out.l2
       have G174 := Hd (G173.out.s8 hXl (.int .i64 ((nuV ts (adv (adv st)) 2 : Nat) : Int)))
       have JE := Hd G174.out
       have hm1 := mW_rd JE.out.rd
       have hon : On ts (adv st) (nuS ts (adv (adv st)) 2) := dir_of_on HE.out
       have hrt := rem_on hon
       have HN2 : Hid (LpSt ts R g c w w.heap.size v1.heap.size D L9 B0 _ (nuS ts (adv (adv st)) 2)) := Hd ⟨p, (nuV ts (adv (adv st)) 2), F2, (by exact JE.out), HD2.out.trans (dirsQ_next HHH.out HNZ.out HE.out), dir_next HNZ.out HZF.out HE.out, by omega⟩
       have HM1 := Hd hm1
       have HM := Hd (on_less HIN.out hon)
       clear hm1 hrt hon
       go_wp2
       go_roundw
       case rel => exact ⟨_, HN2⟩
       case measure => (rw [HM0.out]; exact Nat.lt_of_le_of_lt (Nat.le_of_eq HM1.out) (by simpa using HM.out))
      ·have qk : ((kd ts (adv (adv st)) : Int) == 3) = false := by simp; omega
       have HE : Hid (dir ts p u (adv st) = (p, (1), (adv (adv st)))) := Hd (by unfold dir; rw [if_neg (by simp [a1]), if_pos ⟨hu0, a2⟩]; simp [amV, amS, hk])
       clear hk hk3 a1 a2
       go_wp2_with fail
       refine (HTX.out _ _ J0.out.rd).mono ?_
       rintro e v5 ⟨rfl, hb⟩
       have G161 := Hd (J0.out.quiet hXl hb)
       clear hb
       obtain ⟨hc0, hf0, hz0, hc1, hf1, hz1⟩ := G161.out.l2
       have hRn0 := (G161.out.bl _ _ (List.Mem.head _)).2
       have hRn1 := (G161.out.bl _ _ (List.Mem.tail _ (List.Mem.head _))).2
       have hRw := G161.out.hR
       obtain ⟨c0, c1, c2, fr1, fr2⟩ := G161.out.rd.cells
       have hzR := G161.out.rd.lt
       clear c0 c2 fr2
       have G162 := Hd (G161.out.advR hXl HIN.out (v := (st.i : Int) + 1) rfl)
       go_wp2_with fail
       refine (HTX.out _ _ G162.out.rd).mono ?_
       rintro e v6 ⟨rfl, hb⟩
       have G163 := Hd (G162.out.quiet hXl hb)
       clear hb hc0 hf0 hz0 hc1 hf1 hz1
       obtain ⟨hc0, hf0, hz0, hc1, hf1, hz1⟩ := G163.out.l2
       clear c1 fr1 hzR hRn0 hRn1 hRw
       go_wp2_with fail
       refine (HTX.out _ _ G163.out.rd).mono ?_
       rintro e v7 ⟨rfl, hb⟩
       have G164 := Hd (G163.out.quiet hXl hb)
       clear hb hc0 hf0 hz0 hc1 hf1 hz1
       obtain ⟨hc0, hf0, hz0, hc1, hf1, hz1⟩ := G164.out.l2
       have hRn0 := (G164.out.bl _ _ (List.Mem.head _)).2
       have hRn1 := (G164.out.bl _ _ (List.Mem.tail _ (List.Mem.head _))).2
       have hRw := G164.out.hR
       obtain ⟨c0, c1, c2, fr1, fr2⟩ := G164.out.rd.cells
       have hzR := G164.out.rd.lt
       clear c0 c2 fr2
       have G165 := Hd (G164.out.advR hXl HIN2.out (v := ((adv st).i : Int) + 1) rfl)
       have G166 := Hd (G165.out.s8 hXl (.int .i64 1))
       go_wp2_with fail
       refine (HK2.out _ G166.out.rd).mono ?_
       rintro e v8 ⟨rfl, hb⟩
       have G167 := Hd (G166.out.quiet hXl hb)
       clear hb hc0 hf0 hz0 hc1 hf1 hz1
       obtain ⟨hc0, hf0, hz0, hc1, hf1, hz1⟩ := G167.out.l2
       clear c1 fr1 hzR hRn0 hRn1 hRw
       have JE := Hd G167.out
       have hm1 := mW_rd JE.out.rd
       have hon : On ts (adv st) (adv (adv st)) := dir_of_on HE.out
       have hrt := rem_on hon
       have HN2 : Hid (LpSt ts R g c w w.heap.size v1.heap.size D L9 B0 _ (adv (adv st))) := Hd ⟨p, (1), F2, (by exact JE.out), HD2.out.trans (dirsQ_next HHH.out HNZ.out HE.out), dir_next HNZ.out HZF.out HE.out, by omega⟩
       have HM1 := Hd hm1
       have HM := Hd (on_less HIN.out hon)
       clear hm1 hrt hon
       go_wp2
       go_roundw
       case rel => exact ⟨_, HN2⟩
       case measure => (rw [HM0.out]; exact Nat.lt_of_le_of_lt (Nat.le_of_eq HM1.out) (by simpa using HM.out))
     | false =>
      rw [a2] at hq2
      cases a1 : hasT ts (adv st) [112, 105, 112, 101, 108, 105, 110, 101] with
      | true =>
       rw [a1] at hq1
       have HE : Hid (dir ts p u (adv st) = (p, u, stop (adv st))) := Hd (by unfold dir; rw [if_neg (by simp [hp0]), if_neg (by simp [a2])])
       go_wp2_with fail
       refine (HTX.out _ _ J0.out.rd).mono ?_
       rintro e v5 ⟨rfl, hb⟩
       have G181 := Hd (J0.out.quiet hXl hb)
       clear hb
       obtain ⟨hc0, hf0, hz0, hc1, hf1, hz1⟩ := G181.out.l2
       have hRn0 := (G181.out.bl _ _ (List.Mem.head _)).2
       have hRn1 := (G181.out.bl _ _ (List.Mem.tail _ (List.Mem.head _))).2
       have hRw := G181.out.hR
       obtain ⟨c0, c1, c2, fr1, fr2⟩ := G181.out.rd.cells
       have hzR := G181.out.rd.lt
       clear c0 c2 fr2
       have G182 := Hd (G181.out.advR hXl HIN.out (v := (st.i : Int) + 1) rfl)
       go_wp2_with fail
       refine (HTX.out _ _ G182.out.rd).mono ?_
       rintro e v6 ⟨rfl, hb⟩
       have G183 := Hd (G182.out.quiet hXl hb)
       clear hb hc0 hf0 hz0 hc1 hf1 hz1
       obtain ⟨hc0, hf0, hz0, hc1, hf1, hz1⟩ := G183.out.l2
       clear c1 fr1 hzR hRn0 hRn1 hRw
       go_wp2_with fail
       refine (HTX.out _ _ G183.out.rd).mono ?_
       rintro e v7 ⟨rfl, hb⟩
       have G184 := Hd (G183.out.quiet hXl hb)
       clear hb hc0 hf0 hz0 hc1 hf1 hz1
       obtain ⟨hc0, hf0, hz0, hc1, hf1, hz1⟩ := G184.out.l2
       have hRn0 := (G184.out.bl _ _ (List.Mem.head _)).2
       have hRn1 := (G184.out.bl _ _ (List.Mem.tail _ (List.Mem.head _))).2
       have hRw := G184.out.hR
       obtain ⟨c0, c1, c2, fr1, fr2⟩ := G184.out.rd.cells
       have hzR := G184.out.rd.lt
       clear c0 c1 fr1
       have G185 := Hd (G184.out.badR hXl)
       have JE := Hd G185.out
       have hm1 := mW_rd JE.out.rd
       have hon : On ts (adv st) (stop (adv st)) := dir_of_on HE.out
       have hrt := rem_on hon
       have HN2 : Hid (LpSt ts R g c w w.heap.size v1.heap.size D L9 B0 _ (stop (adv st))) := Hd ⟨p, u, F2, (by exact JE.out), HD2.out.trans (dirsQ_next HHH.out HNZ.out HE.out), dir_next HNZ.out HZF.out HE.out, by omega⟩
       have HM1 := Hd hm1
       have HM := Hd (on_less HIN.out hon)
       clear hm1 hrt hon
       go_wp2
       go_roundw
       case rel => exact ⟨_, HN2⟩
       case measure => (rw [HM0.out]; exact Nat.lt_of_le_of_lt (Nat.le_of_eq HM1.out) (by simpa using HM.out))
      | false =>
       rw [a1] at hq1
       have HE : Hid (dir ts p u (adv st) = (p, u, stop (adv st))) := Hd (by unfold dir; rw [if_neg (by simp [hp0]), if_neg (by simp [a2])])
       go_wp2_with fail
       refine (HTX.out _ _ J0.out.rd).mono ?_
       rintro e v5 ⟨rfl, hb⟩
       have G191 := Hd (J0.out.quiet hXl hb)
       clear hb
       obtain ⟨hc0, hf0, hz0, hc1, hf1, hz1⟩ := G191.out.l2
       have hRn0 := (G191.out.bl _ _ (List.Mem.head _)).2
       have hRn1 := (G191.out.bl _ _ (List.Mem.tail _ (List.Mem.head _))).2
       have hRw := G191.out.hR
       obtain ⟨c0, c1, c2, fr1, fr2⟩ := G191.out.rd.cells
       have hzR := G191.out.rd.lt
       clear c0 c2 fr2
       have G192 := Hd (G191.out.advR hXl HIN.out (v := (st.i : Int) + 1) rfl)
       go_wp2_with fail
       refine (HTX.out _ _ G192.out.rd).mono ?_
       rintro e v6 ⟨rfl, hb⟩
       have G193 := Hd (G192.out.quiet hXl hb)
       clear hb hc0 hf0 hz0 hc1 hf1 hz1
       obtain ⟨hc0, hf0, hz0, hc1, hf1, hz1⟩ := G193.out.l2
       clear c1 fr1 hzR hRn0 hRn1 hRw
       go_wp2_with fail
       refine (HTX.out _ _ G193.out.rd).mono ?_
       rintro e v7 ⟨rfl, hb⟩
       have G194 := Hd (G193.out.quiet hXl hb)
       clear hb hc0 hf0 hz0 hc1 hf1 hz1
       obtain ⟨hc0, hf0, hz0, hc1, hf1, hz1⟩ := G194.out.l2
       have hRn0 := (G194.out.bl _ _ (List.Mem.head _)).2
       have hRn1 := (G194.out.bl _ _ (List.Mem.tail _ (List.Mem.head _))).2
       have hRw := G194.out.hR
       obtain ⟨c0, c1, c2, fr1, fr2⟩ := G194.out.rd.cells
       have hzR := G194.out.rd.lt
       clear c0 c1 fr1
       have G195 := Hd (G194.out.badR hXl)
       have JE := Hd G195.out
       have hm1 := mW_rd JE.out.rd
       have hon : On ts (adv st) (stop (adv st)) := dir_of_on HE.out
       have hrt := rem_on hon
       have HN2 : Hid (LpSt ts R g c w w.heap.size v1.heap.size D L9 B0 _ (stop (adv st))) := Hd ⟨p, u, F2, (by exact JE.out), HD2.out.trans (dirsQ_next HHH.out HNZ.out HE.out), dir_next HNZ.out HZF.out HE.out, by omega⟩
       have HM1 := Hd hm1
       have HM := Hd (on_less HIN.out hon)
       clear hm1 hrt hon
       go_wp2
       go_roundw
       case rel => exact ⟨_, HN2⟩
       case measure => (rw [HM0.out]; exact Nat.lt_of_le_of_lt (Nat.le_of_eq HM1.out) (by simpa using HM.out))
    ·have qu : decide ((0 : Int) < (u : Int)) = true := by simp; omega
     have HZ3 : Hid (Z = (.node { labK 0 L9 with pip := (p : Int), unr := (u : Int) } [], stop st)) := Hd (by rw [HZ.out, HL9.out]; exact SQ_lp_bad (HD.out.symm.trans (HD2.out.trans (dirsQ_many hh (by omega)))))
     clear hh hin hzF2
     go_wp2_with fail
     refine (HTX.out _ _ J0.out.rd).mono ?_
     rintro e v5 ⟨rfl, hb⟩
     have G201 := Hd (J0.out.quiet hXl hb)
     clear hb
     obtain ⟨hc0, hf0, hz0, hc1, hf1, hz1⟩ := G201.out.l2
     have hRn0 := (G201.out.bl _ _ (List.Mem.head _)).2
     have hRn1 := (G201.out.bl _ _ (List.Mem.tail _ (List.Mem.head _))).2
     have hRw := G201.out.hR
     obtain ⟨c0, c1, c2, fr1, fr2⟩ := G201.out.rd.cells
     have hzR := G201.out.rd.lt
     clear c0 c1 fr1
     have G202 := Hd (G201.out.badR hXl)
     have G203 := Hd (G202.out.leaf { labK 0 L9 with pip := (p : Int), unr := (u : Int) })
     go_wp2
     have G204 := Hd (G203.out.stoR hXl (List.Mem.tail _ (List.Mem.head _)) rfl (.int .i64 0) (.string ⟨#[]⟩) (.int .u64 0) (.int .i64 0) (.bool false) (.int .i64 0) (.int .i64 0) (.int .i64 (p : Int)) (.int .i64 (u : Int)) (.int .i64 (L9 : Int)) (.slice none 0 0))
     refine bodyPost_ret (G204.out.b0.res1 Tryz.results163 Tryz.underlying28 rfl infoNd _ rfl) rfl ?_
     exact G204.out.outT (HZ3.out)
  | false =>
   rw [hh] at hq0
   have HDE := Hd (HD.out.symm.trans (HD2.out.trans (dirsQ_end hh)))
   have HWH := Hd fun W (h : Rd W R g c ts st) => HTK.out [119, 104, 105, 108, 101] (by simp) st W h
   clear hzF hm0 hh
   cases hw : hasT ts st [119, 104, 105, 108, 101] with
   | true =>
    rw [hw] at HWH
    have hin := hasT_in hw
    have hra := rem_adv hin
    have HZ3 : Hid (Z = (.node { labK 15 L9 with pip := (p : Int), unr := (u : Int) } [(xprQ ts (adv st)).1, (one (SQ ts f .bk (xprQ ts (adv st)).2)).1], (one (SQ ts f .bk (xprQ ts (adv st)).2)).2)) := Hd (by rw [HZ.out, HL9.out]; exact SQ_lp_wh HDE.out hw)
    have hrx := rem_on (xprQ_on ts (adv st))
    have HB2 := Hd fun W (h : Rd W R g c ts (xprQ ts (adv st)).2) => HBK.out _ W (by omega) h
    clear hin hra hrx hw
    go_wp2_with fail
    refine (HTX.out _ _ J0.out.rd).mono ?_
    rintro e v5 ⟨rfl, hb⟩
    have G221 := Hd (J0.out.quiet hXl hb)
    clear hb
    obtain ⟨hc0, hf0, hz0, hc1, hf1, hz1⟩ := G221.out.l2
    go_wp2_with fail
    refine (HWH.out _ G221.out.rd).mono ?_
    rintro e v6 ⟨rfl, hr, hs⟩
    have G222 := Hd (G221.out.call hr hs)
    clear hr hs hc0 hf0 hz0 hc1 hf1 hz1
    obtain ⟨hc0, hf0, hz0, hc1, hf1, hz1⟩ := G222.out.l2
    have G223 := Hd (G222.out.s0 hXl (.int .i64 15))
    have G224 := Hd (G223.out.fk)
    go_wp2
    have G225 := Hd (G224.out.drew)
    go_region_law (first | (refine fk_append KT1.out hXl (by rfl) _ _ _ (by rfl) Tryz.underlying26 infoNd2 (by rfl) (by simp [Act.eval]) ?_; intro g1 c1 u1 hk6; have KX1 := Hd hk6; clear hk6; obtain ⟨hd10, he10, hy10, hd11, he11, hy11⟩ := KX1.out.fr.l2) | (go_simp; go_at_call 161; refine (HXP.out _ _ G225.out.fr.rd).mono ?_; rintro e y1 ⟨l3, x3, n3, k3, rfl, hT, hr, hs⟩; have KT1 := Hd (G225.out.callT (by simp) hT hr hs); clear hT hr hs; obtain ⟨hu10, hv10, hw10, hu11, hv11, hw11⟩ := KT1.out.fr.l2))
    all_goals
     clear hu10 hv10 hw10 hu11 hv11 hw11
     clear hc0 hf0 hz0 hc1 hf1 hz1
     have G226 := Hd (KX1.out.s10 hXl (.slice (some ⟨g1, 0, none⟩) 1 c1))
     go_wp2
     have G227 := Hd (G226.out.drew)
     go_region_law (first | (refine fk_append KT2.out hXl (by rfl) _ _ _ (by rfl) Tryz.underlying26 infoNd2 (by rfl) (by simp [Act.eval]) ?_; intro g2 c2 u2 hk6; have KX2 := Hd hk6; clear hk6; obtain ⟨hd20, he20, hy20, hd21, he21, hy21⟩ := KX2.out.fr.l2) | (go_simp; go_at_call 110; refine (HB2.out _ G227.out.fr.rd).mono ?_; rintro e y2 ⟨l4, x4, n4, k4, rfl, hT, hr, hs⟩; have KT2 := Hd (G227.out.callT (by simp) hT hr hs); clear hT hr hs; obtain ⟨hu20, hv20, hw20, hu21, hv21, hw21⟩ := KT2.out.fr.l2))
     all_goals
      clear hu20 hv20 hw20 hu21 hv21 hw21
      have G228 := Hd (KX2.out.s10 hXl (.slice (some ⟨g2, 0, none⟩) 2 c2))
      have G229 := Hd (G228.out.tree { labK 15 L9 with pip := (p : Int), unr := (u : Int) })
      go_wp2
      have G230 := Hd (G229.out.stoR hXl (List.Mem.tail _ (List.Mem.head _)) rfl (.int .i64 15) (.string ⟨#[]⟩) (.int .u64 0) (.int .i64 0) (.bool false) (.int .i64 0) (.int .i64 0) (.int .i64 (p : Int)) (.int .i64 (u : Int)) (.int .i64 (L9 : Int)) (.slice (some ⟨g2, 0, none⟩) 2 c2))
      refine bodyPost_ret (G230.out.b0.res1 Tryz.results163 Tryz.underlying28 rfl infoNd _ rfl) rfl ?_
      exact G230.out.outT (HZ3.out)
   | false =>
    rw [hw] at HWH
    obtain ⟨s0, e0⟩ : ∃ q, q = exc ts st [102, 111, 114] := ⟨_, rfl⟩
    obtain ⟨s1, e1⟩ : ∃ q, q = nmS ts s0 := ⟨_, rfl⟩
    obtain ⟨s2, e2⟩ : ∃ q, q = exc ts s1 [58] := ⟨_, rfl⟩
    obtain ⟨s3, e3⟩ : ∃ q, q = exc ts (tyS ts s2) [105, 110] := ⟨_, rfl⟩
    obtain ⟨s4, e4⟩ : ∃ q, q = exc ts (xprQ ts s3).2 [46, 46] := ⟨_, rfl⟩
    have HZ3 : Hid (Z = (.node { labK 14 L9 with name := nmV ts s0, wd := (tyV' ts s2).1, sg := (tyV' ts s2).2, pip := (p : Int), unr := (u : Int) } [(xprQ ts s3).1, (xprQ ts s4).1, (one (SQ ts f .bk (xprQ ts s4).2)).1], (one (SQ ts f .bk (xprQ ts s4).2)).2)) := Hd (by rw [HZ.out, HL9.out]; exact SQ_lp_fo HDE.out hw e0 e1 e2 e3 e4)
    have hr0 : rem ts s0 ≤ rem ts st - 1 := by rw [e0]; exact rem_exc
    have hr1 : rem ts s1 ≤ rem ts s0 := by rw [e1]; exact rem_on (nmS_on ts s0)
    have hr2 : rem ts s2 ≤ rem ts s1 := by rw [e2]; exact rem_on exc_on
    have hr3 : rem ts s3 ≤ rem ts s2 := by rw [e3]; exact rem_on ((tyS_on ts s2).trans exc_on)
    have hr4 : rem ts s4 ≤ rem ts s3 := by rw [e4]; exact rem_on ((xprQ_on ts s3).trans exc_on)
    have hr5 := rem_on (xprQ_on ts s4)
    have HB2 := Hd fun W (h : Rd W R g c ts (xprQ ts s4).2) => HBK.out _ W (by omega) h
    have HF1 := Hd fun W (h : Rd W R g c ts st) => HEF.out _ W h
    rw [← e0] at HF1
    have HN1 := Hd fun W (h : Rd W R g c ts s0) => HNM.out _ W h
    rw [← e1] at HN1
    have HL1 := Hd fun W (h : Rd W R g c ts s1) => HEL.out _ W h
    rw [← e2] at HL1
    have HI1 := Hd fun W (h : Rd W R g c ts (tyS ts s2)) => HEI.out _ W h
    rw [← e3] at HI1
    have HD1 := Hd fun W (h : Rd W R g c ts (xprQ ts s3).2) => HED.out _ W h
    rw [← e4] at HD1
    clear hw e0 e1 e2 e3 e4 hr0 hr1 hr2 hr3 hr4 hr5
    go_wp2_with fail
    refine (HTX.out _ _ J0.out.rd).mono ?_
    rintro e v5 ⟨rfl, hb⟩
    have G241 := Hd (J0.out.quiet hXl hb)
    clear hb
    obtain ⟨hc0, hf0, hz0, hc1, hf1, hz1⟩ := G241.out.l2
    go_wp2_with fail
    refine (HWH.out _ G241.out.rd).mono ?_
    rintro e v6 ⟨rfl, hr, hs⟩
    have G242 := Hd (G241.out.call hr hs)
    clear hr hs hc0 hf0 hz0 hc1 hf1 hz1
    obtain ⟨hc0, hf0, hz0, hc1, hf1, hz1⟩ := G242.out.l2
    go_wp2_with fail
    refine (HF1.out _ G242.out.rd).mono ?_
    rintro e v7 ⟨rfl, hr, hs⟩
    have G243 := Hd (G242.out.call hr hs)
    clear hr hs hc0 hf0 hz0 hc1 hf1 hz1
    obtain ⟨hc0, hf0, hz0, hc1, hf1, hz1⟩ := G243.out.l2
    have G244 := Hd (G243.out.s0 hXl (.int .i64 14))
    go_wp2_with fail
    refine (HN1.out _ G244.out.rd).mono ?_
    rintro e v8 ⟨rfl, hr, hs⟩
    have G245 := Hd (G244.out.call hr hs)
    clear hr hs hc0 hf0 hz0 hc1 hf1 hz1
    obtain ⟨hc0, hf0, hz0, hc1, hf1, hz1⟩ := G245.out.l2
    have G246 := Hd (G245.out.s1 hXl (.string (str (nmV ts s0))))
    go_wp2_with fail
    refine (HL1.out _ G246.out.rd).mono ?_
    rintro e v9 ⟨rfl, hr, hs⟩
    have G247 := Hd (G246.out.call hr hs)
    clear hr hs hc0 hf0 hz0 hc1 hf1 hz1
    obtain ⟨hc0, hf0, hz0, hc1, hf1, hz1⟩ := G247.out.l2
    go_wp2_with fail
    refine (HTY.out _ _ G247.out.rd).mono ?_
    rintro e v10 ⟨rfl, hr, hs⟩
    have G248 := Hd (G247.out.call hr hs)
    clear hr hs hc0 hf0 hz0 hc1 hf1 hz1
    obtain ⟨hc0, hf0, hz0, hc1, hf1, hz1⟩ := G248.out.l2
    have G249 := Hd (G248.out.s3 hXl (.int .i64 ((tyV' ts s2).1 : Int)))
    have G250 := Hd (G249.out.s4 hXl (.bool (tyV' ts s2).2))
    go_wp2_with fail
    refine (HI1.out _ G250.out.rd).mono ?_
    rintro e v11 ⟨rfl, hr, hs⟩
    have G251 := Hd (G250.out.call hr hs)
    clear hr hs hc0 hf0 hz0 hc1 hf1 hz1
    obtain ⟨hc0, hf0, hz0, hc1, hf1, hz1⟩ := G251.out.l2
    have G252 := Hd (G251.out.fk)
    go_wp2
    have G253 := Hd (G252.out.drew)
    go_region_law (first | (refine fk_append KT1.out hXl (by rfl) _ _ _ (by rfl) Tryz.underlying26 infoNd2 (by rfl) (by simp [Act.eval]) ?_; intro g1 c1 u1 hk6; have KX1 := Hd hk6; clear hk6; obtain ⟨hd10, he10, hy10, hd11, he11, hy11⟩ := KX1.out.fr.l2) | (go_simp; go_at_call 161; refine (HXP.out _ _ G253.out.fr.rd).mono ?_; rintro e y1 ⟨l3, x3, n3, k3, rfl, hT, hr, hs⟩; have KT1 := Hd (G253.out.callT (by simp) hT hr hs); clear hT hr hs; obtain ⟨hu10, hv10, hw10, hu11, hv11, hw11⟩ := KT1.out.fr.l2))
    all_goals
     clear hu10 hv10 hw10 hu11 hv11 hw11
     clear hc0 hf0 hz0 hc1 hf1 hz1
     have G254 := Hd (KX1.out.s10 hXl (.slice (some ⟨g1, 0, none⟩) 1 c1))
     go_wp2_with fail
     refine (HD1.out _ G254.out.fr.rd).mono ?_
     rintro e v12 ⟨rfl, hr, hs⟩
     have G255 := Hd (G254.out.call hr hs)
     clear hr hs
     obtain ⟨hc0, hf0, hz0, hc1, hf1, hz1⟩ := G255.out.fr.l2
     go_wp2
     have G256 := Hd (G255.out.drew)
     go_region_law (first | (refine fk_append KT2.out hXl (by rfl) _ _ _ (by rfl) Tryz.underlying26 infoNd2 (by rfl) (by simp [Act.eval]) ?_; intro g2 c2 u2 hk6; have KX2 := Hd hk6; clear hk6; obtain ⟨hd20, he20, hy20, hd21, he21, hy21⟩ := KX2.out.fr.l2) | (go_simp; go_at_call 161; refine (HXP.out _ _ G256.out.fr.rd).mono ?_; rintro e y2 ⟨l4, x4, n4, k4, rfl, hT, hr, hs⟩; have KT2 := Hd (G256.out.callT (by simp) hT hr hs); clear hT hr hs; obtain ⟨hu20, hv20, hw20, hu21, hv21, hw21⟩ := KT2.out.fr.l2))
     all_goals
      clear hu20 hv20 hw20 hu21 hv21 hw21
      clear hc0 hf0 hz0 hc1 hf1 hz1
      have G257 := Hd (KX2.out.s10 hXl (.slice (some ⟨g2, 0, none⟩) 2 c2))
      go_wp2
      have G258 := Hd (G257.out.drew)
      go_region_law (first | (refine fk_append KT3.out hXl (by rfl) _ _ _ (by rfl) Tryz.underlying26 infoNd2 (by rfl) (by simp [Act.eval]) ?_; intro g3 c3 u3 hk6; have KX3 := Hd hk6; clear hk6; obtain ⟨hd30, he30, hy30, hd31, he31, hy31⟩ := KX3.out.fr.l2) | (go_simp; go_at_call 110; refine (HB2.out _ G258.out.fr.rd).mono ?_; rintro e y3 ⟨l5, x5, n5, k5, rfl, hT, hr, hs⟩; have KT3 := Hd (G258.out.callT (by simp) hT hr hs); clear hT hr hs; obtain ⟨hu30, hv30, hw30, hu31, hv31, hw31⟩ := KT3.out.fr.l2))
      all_goals
       clear hu30 hv30 hw30 hu31 hv31 hw31
       have G259 := Hd (KX3.out.s10 hXl (.slice (some ⟨g3, 0, none⟩) 3 c3))
       have G260 := Hd (G259.out.tree { labK 14 L9 with name := nmV ts s0, wd := (tyV' ts s2).1, sg := (tyV' ts s2).2, pip := (p : Int), unr := (u : Int) })
       go_wp2
       have G261 := Hd (G260.out.stoR hXl (List.Mem.tail _ (List.Mem.head _)) rfl (.int .i64 14) (.string (str (nmV ts s0))) (.int .u64 0) (.int .i64 ((tyV' ts s2).1 : Int)) (.bool (tyV' ts s2).2) (.int .i64 0) (.int .i64 0) (.int .i64 (p : Int)) (.int .i64 (u : Int)) (.int .i64 (L9 : Int)) (.slice (some ⟨g3, 0, none⟩) 3 c3))
       refine bodyPost_ret (G261.out.b0.res1 Tryz.results163 Tryz.underlying28 rfl infoNd _ rfl) rfl ?_
       exact G261.out.outT (HZ3.out)
end Q
end Go.Proofs.YtkliclihpobmiaaGreatDoor
