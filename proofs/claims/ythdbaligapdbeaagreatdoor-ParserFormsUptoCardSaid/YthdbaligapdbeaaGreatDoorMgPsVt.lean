/- The code's fits: contract. -/
import Derived.Test.YthdbaligapdbeaaGreatDoorMgPsVdA
import Derived.Test.YthdbaligapdbeaaGreatDoorMgPsEqf
namespace Go.Proofs.YthdbaligapdbeaaGreatDoor
open Go Go.RowKit
set_option linter.unusedVariables false

theorem TreeAt.relabel {w : World} {P : Nat → Prop} {l : Lab} {v : Value} {ks : List Tree} (h : TreeAt w P (lcells l v) (.node l ks)) (m : Lab) : TreeAt w P (lcells m v) (.node m ks) := by
 generalize hc : lcells l v = cs at h
 cases h with
 | nil l2 =>
  have := (lab_of hc).2
  subst this
  exact .nil P m
 | mk l2 a n cap C _ hn hc2 hm hP hcell hk =>
  have := (lab_of hc).2
  subst this
  exact .mk P m a n cap C ks hn hc2 hm hP hcell hk
def fitOK (d : Nat) : Prop := ∀ t, depth t ≤ d → TreeWf 281474976710656 t → ∀ (l : Lab) (x : Option Addr) (n k : Nat) (w : World), Vs w → Lv w → Gr w → TreeAt w (fun _ => True) [.int .i64 l.kind, .string (str l.name), .int .u64 l.num, .int .i64 l.wd, .bool l.sg, .int .i64 l.op, .int .i64 l.fac, .int .i64 l.pip, .int .i64 l.unr, .int .i64 l.line, .slice x n k] t →
 Calls Tryz.prog 30 #[.agg #[.int .i64 l.kind, .string (str l.name), .int .u64 l.num, .int .i64 l.wd, .bool l.sg, .int .i64 l.op, .int .i64 l.fac, .int .i64 l.pip, .int .i64 l.unr, .int .i64 l.line, .slice x n k]] w fun e w' => e = .returned (.bool (fitB d t)) ∧ Below w.heap.size w w'
theorem lab_eqS (a b : Lab) (W : World) : (binOp .eql 71 (.agg #[.int .i64 a.kind, .string (str a.name), .int .u64 a.num, .int .i64 a.wd, .bool a.sg, .int .i64 a.op, .int .i64 a.fac, .int .i64 a.pip, .int .i64 a.unr]) (.agg #[.int .i64 b.kind, .string (str b.name), .int .u64 b.num, .int .i64 b.wd, .bool b.sg, .int .i64 b.op, .int .i64 b.fac, .int .i64 b.pip, .int .i64 b.unr])).run Tryz.prog W = .ok (.bool (sameL a b)) W := by
 cases h : sameL a b with
 | true =>
  obtain ⟨a0, a1, a2, a3, a4, a5, a6, a7, a8, a9⟩ := a
  obtain ⟨b0, b1, b2, b3, b4, b5, b6, b7, b8, b9⟩ := b
  obtain ⟨rfl, rfl, rfl, rfl, rfl, rfl, rfl, rfl, rfl⟩ := sameL_iff.1 h
  go_simp
 | false =>
  exact lab_eq _ _ _ _ _ _ _ _ _ _ _ _ _ _ _ _ _ _ (fun hh => by rw [sameL_iff.2 hh] at h; cases h) W
structure SF (w W : World) (B : Nat) (cn co : List Value) : Prop where
 n : Blk W w.heap.size 27 cn
 o : Blk W B 71 co
 bel : Below w.heap.size w W
theorem SF.call {w W W' : World} {B : Nat} {cn co : List Value} (h : SF w W B cn co) (hb : Below W.heap.size W W') : SF w W' B cn co :=
 ⟨h.n.below hb h.n.lt, h.o.below hb h.o.lt, h.bel.trans (hb.mono (Nat.le_of_lt h.n.lt))⟩
set_option maxHeartbeats 1000000 in
set_option maxRecDepth 100000 in
theorem fits1_any {d : Nat} {t : Tree} (H : ∀ (l : Lab) (x : Option Addr) (n k : Nat) (w : World), Vs w → Lv w → Gr w → TreeAt w (fun _ => True) [.int .i64 l.kind, .string (str l.name), .int .u64 l.num, .int .i64 l.wd, .bool l.sg, .int .i64 l.op, .int .i64 l.fac, .int .i64 l.pip, .int .i64 l.unr, .int .i64 l.line, .slice x n k] t → Calls Tryz.prog 30 #[.agg #[.int .i64 l.kind, .string (str l.name), .int .u64 l.num, .int .i64 l.wd, .bool l.sg, .int .i64 l.op, .int .i64 l.fac, .int .i64 l.pip, .int .i64 l.unr, .int .i64 l.line, .slice x n k]] w fun e w' => e = .returned (.bool (fitB d t)) ∧ Below w.heap.size w w')
  (l : Lab) (x : Option Addr) (n k : Nat) (w : World) (V : Vs w) (L : Lv w) (G : Gr w) (hT : TreeAt w (fun _ => True) [.int .i64 l.kind, .string (str l.name), .int .u64 l.num, .int .i64 l.wd, .bool l.sg, .int .i64 l.op, .int .i64 l.fac, .int .i64 l.pip, .int .i64 l.unr, .int .i64 l.line, .slice x n k] t) :
  Calls Tryz.prog 56 #[.agg #[.int .i64 l.kind, .string (str l.name), .int .u64 l.num, .int .i64 l.wd, .bool l.sg, .int .i64 l.op, .int .i64 l.fac, .int .i64 l.pip, .int .i64 l.unr, .int .i64 l.line, .slice x n k]] w fun e w' => e = .returned (.bool (!(fitB d t))) ∧ Below w.heap.size w w' := by
 have HB := Hd ((Below.refl w.heap.size w).alloc (Nat.le_refl _) (.cells #[.int .i64 l.kind, .string (str l.name), .int .u64 l.num, .int .i64 l.wd, .bool l.sg, .int .i64 l.op, .int .i64 l.fac, .int .i64 l.pip, .int .i64 l.unr, .int .i64 l.line, .slice x n k] 27))
 have HC := Hd (H l x n k _ (V.below HB.out) (L.belowK HB.out) (G.below HB.out) (hT.keep (w' := w.alloc (.cells #[.int .i64 l.kind, .string (str l.name), .int .u64 l.num, .int .i64 l.wd, .bool l.sg, .int .i64 l.op, .int .i64 l.fac, .int .i64 l.pip, .int .i64 l.unr, .int .i64 l.line, .slice x n k] 27)) (Q := fun _ => True) (fun g _ hl => HB.out.block g hl) fun _ _ _ => trivial))
 clear V L G hT H
 generalize fitB d t = R at *
 go_enter Tryz.func56, Tryz.ntmps56
 go_wp2_with fail
 refine HC.out.mono ?_
 rintro e w1 ⟨rfl, hb⟩
 have HB1 := Hd (HB.out.trans (hb.mono HB.out.size))
 clear hb HC
 go_wp2
 go_ret
 exact ⟨rfl, HB1.out⟩
theorem okB_line (l : Lab) : okB { l with wd := (bareL l).wd, sg := (bareL l).sg } = okB (bareL l) := rfl
theorem ownB_line (l : Lab) : ownB { l with wd := (bareL l).wd, sg := (bareL l).sg } = ownB (bareL l) := rfl
theorem sameL_line (o l : Lab) : sameL o { l with wd := (bareL l).wd, sg := (bareL l).sg } = sameL o (bareL l) := rfl
set_option maxHeartbeats 40000000 in
set_option maxRecDepth 100000 in
theorem fit_step {d : Nat} (H : fitOK d) : fitOK (d + 1) := by
 intro t ht hwf l x n k w V L G hT
 obtain ⟨lt, ks⟩ := t
 have HTT := Hd fun W (hb : Below w.heap.size w W) => hT.keep (w' := W) (Q := fun _ => True) (fun g _ hl => hb.block g hl) fun _ _ _ => trivial
 obtain ⟨xk, kk, hcs, hnk, hkm, hkids⟩ := TreeAt.kids hT
 obtain ⟨rfl, hv⟩ := lab_of (l := l) (m := lt) hcs
 simp only [Value.slice.injEq] at hv
 obtain ⟨rfl, rfl, rfl⟩ := hv
 obtain ⟨hlw, hkw⟩ := wf_node hwf
 have hnm := hlw.name
 have hdk : ∀ i, i < ks.length → depth (kat ks i) ≤ d := fun i hi => by
  have := depth_kat hi
  rw [depth] at ht
  omega
 have HBT := Hd fun W (hb : Below w.heap.size w W) => bareType_any l x ks.length k W (G.below hb).exprs
 have HSD := Hd fun W (hb : Below w.heap.size w W) => said_any { l with wd := (bareL l).wd, sg := (bareL l).sg } hnm x ks.length k W (V.below hb) (L.belowK hb)
 have HLB := Hd fun W => labelOf_any { l with wd := (bareL l).wd, sg := (bareL l).sg } x ks.length k W
 have HKF := Hd fun W (hb : Below w.heap.size w W) => kidsFit_any { l with wd := (bareL l).wd, sg := (bareL l).sg } ks { l with wd := (bareL l).wd, sg := (bareL l).sg } x ks.length k W (G.below hb) (TreeAt.relabel (l := l) (HTT.out W hb) { l with wd := (bareL l).wd, sg := (bareL l).sg })
 have HCO := Hd fun W (hb : Below w.heap.size w W) => fi_contains (fitB d) ks x k (Nat.le_trans hnk hkm) W (fun i hi l2 x2 n2 k2 W2 hb2 hTT => fits1_any (H (kat ks i) (hdk i hi) (hkw i hi)) l2 x2 n2 k2 W2 (V.below (hb.trans (hb2.mono hb.size))) (L.belowK (hb.trans (hb2.mono hb.size))) (G.below (hb.trans (hb2.mono hb.size))) hTT) (fun i hi => by
  obtain ⟨a, h1, h2, h3⟩ := hkids i hi
  exact ⟨a, h1, h2, h3.keep h2 (fun g hg hl => hb.block g hl) fun _ _ _ => trivial⟩)
 have HR : Hid (fitB (d + 1) (.node l ks) = (okB (bareL l) && (sameL (ownB (bareL l)) (bareL l) && (kidsB l.kind ks && ks.all (fitB d))))) := Hd (by rw [fitB])
 have qeq : ∀ W, _ := fun W => lab_eqS (ownB (bareL l)) { l with wd := (bareL l).wd, sg := (bareL l).sg } W
 rw [okB_line, ownB_line] at HSD
 have hke : ({ l with wd := (bareL l).wd, sg := (bareL l).sg } : Lab).kind = l.kind := rfl
 rw [hke] at HKF
 rw [sameL_line] at qeq
 have HN := Hd (BW.start w [.int .i64 l.kind, .string (str l.name), .int .u64 l.num, .int .i64 l.wd, .bool l.sg, .int .i64 l.op, .int .i64 l.fac, .int .i64 l.pip, .int .i64 l.unr, .int .i64 l.line, .slice x ks.length k])
 clear hkids hkw hdk hnm hlw ht hwf HTT V L G H hcs hT hke
 generalize okB (bareL l) = bO at *
 generalize sameL (ownB (bareL l)) (bareL l) = bS at *
 generalize kidsB l.kind ks = bK at *
 generalize ks.all (fitB d) = bA at *
 generalize ownB (bareL l) = m at *
 generalize (bareL l).wd = bw at *
 generalize (bareL l).sg = bs at *
 generalize hNN : ks.length = N at *
 clear hNN
 obtain ⟨a0, a1, a2, a3, a4, a5, a6, a7, a8, a9⟩ := l
 obtain ⟨m0, m1, m2, m3, m4, m5, m6, m7, m8, m9⟩ := m
 dsimp only at *
 have c0 := HN.out.a.cell
 have f0 := HN.out.a.frozen
 go_enter Tryz.func30, Tryz.ntmps30
 go_wp2_with fail
 refine (HBT.out _ HN.out.bel).mono ?_
 rintro e w1 ⟨rfl, hb⟩
 have HN1 := Hd (HN.out.call hb)
 have c1 := HN1.out.a.cell
 have f1 := HN1.out.a.frozen
 have HN2 : Hid (BW w ((w1.setCell ⟨w.heap.size, 3, none⟩ (.int .i64 bw)).setCell ⟨w.heap.size, 4, none⟩ (.bool bs)) [.int .i64 a0, .string (str a1), .int .u64 a2, .int .i64 bw, .bool bs, .int .i64 a5, .int .i64 a6, .int .i64 a7, .int .i64 a8, .int .i64 a9, .slice x N k]) := Hd ⟨(HN1.out.a.set 3 _).set 4 _, (HN1.out.bel.setCell (p := ⟨w.heap.size, 3, none⟩) (Nat.le_refl _) _).setCell (p := ⟨w.heap.size, 4, none⟩) (Nat.le_refl _) _⟩
 have c2 := HN2.out.a.cell
 clear hb
 go_wp2_with fail
 refine (HSD.out _ HN2.out.bel).mono ?_
 rintro e w3 ⟨rfl, hb⟩
 have HN3 := Hd (HN2.out.call hb)
 have c3 := HN3.out.a.cell
 have HF0 : Hid (SF w (w3.alloc (.cells #[.int .i64 m0, .string (str m1), .int .u64 m2, .int .i64 m3, .bool m4, .int .i64 m5, .int .i64 m6, .int .i64 m7, .int .i64 m8] 71)) w3.heap.size [.int .i64 a0, .string (str a1), .int .u64 a2, .int .i64 bw, .bool bs, .int .i64 a5, .int .i64 a6, .int .i64 a7, .int .i64 a8, .int .i64 a9, .slice x N k] [.int .i64 m0, .string (str m1), .int .u64 m2, .int .i64 m3, .bool m4, .int .i64 m5, .int .i64 m6, .int .i64 m7, .int .i64 m8]) := Hd ⟨HN3.out.a.alloc_other _, Blk.alloc w3 _ _, HN3.out.bel.alloc HN3.out.bel.size _⟩
 clear hb c0 c1 c2 f0 f1 HN HN1 HN2
 go_upto_region 3 with fail
 clear c3 HN3
 generalize (w3.alloc (.cells #[.int .i64 m0, .string (str m1), .int .u64 m2, .int .i64 m3, .bool m4, .int .i64 m5, .int .i64 m6, .int .i64 m7, .int .i64 m8] 71)) = W2 at *
 have hD : Below W2.heap.size W2 W2.drew := (Below.refl _ _).drew
 have HF2 := Hd (HF0.out.call hD)
 have cn := HF2.out.n.cell
 have co := HF2.out.o.cell
 cases bO with
 | false =>
  first
  | (go_region_with (fail))
  | fail
  all_goals
   go_wp2
   go_ret
   exact ⟨by rw [HR.out]; rfl, HF2.out.bel⟩
 | true =>
  cases bS with
  | false =>
   first
   | (go_region_with (first | (go_at_call 54; refine (HLB.out _).mono ?_; rintro e w6 ⟨rfl, hb6⟩; (first | have HF6 := Hd (HF6.out.call hb6) | have HF6 := Hd (HF2.out.call hb6)); have cn6 := HF6.out.n.cell; have co6 := HF6.out.o.cell)))
   | fail
   all_goals
    go_wp2
    go_ret
    exact ⟨by rw [HR.out]; rfl, HF6.out.bel⟩
  | true =>
   cases bK with
   | false =>
    first
    | (go_region_with (first | (go_at_call 54; refine (HLB.out _).mono ?_; rintro e w6 ⟨rfl, hb6⟩; (first | have HF6 := Hd (HF6.out.call hb6) | have HF6 := Hd (HF2.out.call hb6)); have cn6 := HF6.out.n.cell; have co6 := HF6.out.o.cell) | (go_at_call 55; refine (HKF.out _ (by first | exact HF6.out.bel | exact HF2.out.bel)).mono ?_; rintro e w6 ⟨rfl, hb6⟩; (first | have HF6 := Hd (HF6.out.call hb6) | have HF6 := Hd (HF2.out.call hb6)); have cn6 := HF6.out.n.cell; have co6 := HF6.out.o.cell)))
    | fail
    all_goals
     go_wp2
     go_ret
     exact ⟨by rw [HR.out]; rfl, HF6.out.bel⟩
   | true =>
    first
    | (go_region_with (first | (go_at_call 54; refine (HLB.out _).mono ?_; rintro e w6 ⟨rfl, hb6⟩; (first | have HF6 := Hd (HF6.out.call hb6) | have HF6 := Hd (HF2.out.call hb6)); have cn6 := HF6.out.n.cell; have co6 := HF6.out.o.cell) | (go_at_call 55; refine (HKF.out _ (by first | exact HF6.out.bel | exact HF2.out.bel)).mono ?_; rintro e w6 ⟨rfl, hb6⟩; (first | have HF6 := Hd (HF6.out.call hb6) | have HF6 := Hd (HF2.out.call hb6)); have cn6 := HF6.out.n.cell; have co6 := HF6.out.o.cell) | (go_at_call 50; refine (HCO.out _ (by first | exact HF6.out.bel | exact HF2.out.bel)).mono ?_; rintro e w6 ⟨rfl, hb6⟩; (first | have HF6 := Hd (HF6.out.call hb6) | have HF6 := Hd (HF2.out.call hb6)); have cn6 := HF6.out.n.cell; have co6 := HF6.out.o.cell)))
    | fail
    all_goals
     go_wp2
     go_ret
     exact ⟨by rw [HR.out]; cases bA <;> rfl, HF6.out.bel⟩
theorem fit_any : ∀ d, fitOK d
 | 0 => fun t h => by obtain ⟨lt, ks⟩ := t; rw [depth] at h; omega
 | d + 1 => fit_step (fit_any d)
set_option maxHeartbeats 4000000 in
set_option maxRecDepth 100000 in
theorem valid_any (t : Tree) (hwf : TreeWf 281474976710656 t) (l : Lab) (x : Option Addr) (n k : Nat) (w : World) (V : Vs w) (L : Lv w) (G : Gr w) (hT : TreeAt w (fun _ => True) [.int .i64 l.kind, .string (str l.name), .int .u64 l.num, .int .i64 l.wd, .bool l.sg, .int .i64 l.op, .int .i64 l.fac, .int .i64 l.pip, .int .i64 l.unr, .int .i64 l.line, .slice x n k] t) :
  Calls Tryz.prog 12 #[.agg #[.int .i64 l.kind, .string (str l.name), .int .u64 l.num, .int .i64 l.wd, .bool l.sg, .int .i64 l.op, .int .i64 l.fac, .int .i64 l.pip, .int .i64 l.unr, .int .i64 l.line, .slice x n k]] w fun e w' => e = .returned (.bool (kin 1 1 t && (decide (count t ≤ 20000 ∧ depth t ≤ 200) && fitB 202 t))) ∧ Below w.heap.size w w' := by
 have hkk : kin 1 1 t = inG 1 1 l.kind := by unfold kin; rw [kindT_cellsE hT]
 have HN := Hd (BW.start w [.int .i64 l.kind, .string (str l.name), .int .u64 l.num, .int .i64 l.wd, .bool l.sg, .int .i64 l.op, .int .i64 l.fac, .int .i64 l.pip, .int .i64 l.unr, .int .i64 l.line, .slice x n k])
 have HTT := Hd fun W (hb : Below w.heap.size w W) => hT.keep (w' := W) (Q := fun _ => True) (fun g _ hl => hb.block g hl) fun _ _ _ => trivial
 have HWI := Hd fun W (hb : Below w.heap.size w W) => within_any t l x n k W (HTT.out W hb)
 have HFI : Hid (depth t ≤ 200 → ∀ W, Below w.heap.size w W → Calls Tryz.prog 30 #[.agg #[.int .i64 l.kind, .string (str l.name), .int .u64 l.num, .int .i64 l.wd, .bool l.sg, .int .i64 l.op, .int .i64 l.fac, .int .i64 l.pip, .int .i64 l.unr, .int .i64 l.line, .slice x n k]] W fun e w' => e = .returned (.bool (fitB 202 t)) ∧ Below W.heap.size W w') := Hd fun hd W hb => fit_any 202 t (by omega) hwf l x n k W (V.below hb) (L.belowK hb) (G.below hb) (HTT.out W hb)
 rw [hkk]
 clear V L G hT hwf HTT hkk
 generalize fitB 202 t = bF at *
 have c0 := HN.out.a.cell
 by_cases h1 : l.kind = 1
 ·have HR : Hid (inG 1 1 l.kind = true) := Hd (by rw [h1]; rfl)
  have q1 : (l.kind == 1) = true := by rw [h1]; rfl
  clear h1
  by_cases hw : count t ≤ 20000 ∧ depth t ≤ 200
  ·have HW := Hd (HFI.out hw.2)
   have HD : Hid (decide (count t ≤ 20000 ∧ depth t ≤ 200) = true) := Hd (decide_eq_true hw)
   rw [HD.out] at HWI
   clear hw HFI
   go_enter Tryz.func12, Tryz.ntmps12
   go_wp2_with fail
   refine (HWI.out _ HN.out.bel).mono ?_
   rintro e w1 ⟨rfl, hb⟩
   have HN1 := Hd (HN.out.call hb)
   have c1 := HN1.out.a.cell
   clear hb
   go_wp2_with fail
   refine (HW.out _ HN1.out.bel).mono ?_
   rintro e w2 ⟨rfl, hb⟩
   have HN2 := Hd (HN1.out.call hb)
   clear hb
   go_wp2
   go_ret
   exact ⟨by rw [HR.out, HD.out]; rfl, HN2.out.bel⟩
  ·have HD : Hid (decide (count t ≤ 20000 ∧ depth t ≤ 200) = false) := Hd (decide_eq_false hw)
   rw [HD.out] at HWI
   clear hw HFI
   go_enter Tryz.func12, Tryz.ntmps12
   go_wp2_with fail
   refine (HWI.out _ HN.out.bel).mono ?_
   rintro e w1 ⟨rfl, hb⟩
   have HN1 := Hd (HN.out.call hb)
   have c1 := HN1.out.a.cell
   clear hb
   go_wp2
   go_ret
   exact ⟨by rw [HR.out, HD.out]; rfl, HN1.out.bel⟩
 ·have HR : Hid (inG 1 1 l.kind = false) := Hd (by simp [inG]; omega)
  have q1 : (l.kind == 1) = false := by rw [beq_eq_false_iff_ne]; exact h1
  clear h1
  go_enter Tryz.func12, Tryz.ntmps12
  go_wp2
  go_ret
  exact ⟨by rw [HR.out]; rfl, HN.out.bel⟩
end Go.Proofs.YthdbaligapdbeaaGreatDoor
