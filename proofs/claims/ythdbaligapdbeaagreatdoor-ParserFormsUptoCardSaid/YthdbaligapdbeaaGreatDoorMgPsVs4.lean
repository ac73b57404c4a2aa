/- The reference's body and statement: contracts. -/
import Derived.Test.YthdbaligapdbeaaGreatDoorMgPsVd
namespace Go.Proofs.YthdbaligapdbeaaGreatDoor
open Go Go.RowKit
set_option linter.unusedVariables false

theorem kindT_cells {w : World} {P : Nat → Prop} {l : Lab} {v : Value} {t : Tree} (h : TreeAt w P (lcells l v) t) : kindT t = l.kind := by
 obtain ⟨lt, ks⟩ := t
 obtain ⟨xk, kk, hcs, _⟩ := TreeAt.kids h
 rw [(lab_of hcs).1]; rfl
theorem add_11 (a : Addr) : a.add (1 * 11) = ⟨a.block, a.off + 11, none⟩ := by unfold Addr.add; simp
theorem add_22 (a : Addr) : a.add (2 * 11) = ⟨a.block, a.off + 22, none⟩ := by unfold Addr.add; simp
theorem all_true {f : Tree → Bool} {ks : List Tree} (h : ∀ i, i < ks.length → f (kat ks i) = true) : ks.all f = true := by
 have := (all_take (f := f) ks ks.length (Nat.le_refl _)).2 h
 rwa [List.take_length] at this
theorem all_false {f : Tree → Bool} {ks : List Tree} {i : Nat} (hi : i < ks.length) (h : f (kat ks i) = false) : ks.all f = false :=
 Bool.eq_false_iff.2 fun k => by
  have := (all_take (f := f) ks ks.length (Nat.le_refl _)).1 (by rw [List.take_length]; exact k) i hi
  rw [h] at this; cases this
def BOK (d : Nat) : Prop := ∀ t, depth t ≤ d → TreeWf 281474976710656 t → ∀ (l : Lab) (x : Option Addr) (n k : Nat) (w : World), TreeAt w (fun _ => True) [.int .i64 l.kind, .string (str l.name), .int .u64 l.num, .int .i64 l.wd, .bool l.sg, .int .i64 l.op, .int .i64 l.fac, .int .i64 l.pip, .int .i64 l.unr, .int .i64 l.line, .slice x n k] t →
 Calls Tryz.prog 58 #[.agg #[.int .i64 l.kind, .string (str l.name), .int .u64 l.num, .int .i64 l.wd, .bool l.sg, .int .i64 l.op, .int .i64 l.fac, .int .i64 l.pip, .int .i64 l.unr, .int .i64 l.line, .slice x n k]] w fun e w' => e = .returned (.bool (bodyB d t)) ∧ Below w.heap.size w w'
def SOK (d : Nat) : Prop := ∀ t, depth t ≤ d → TreeWf 281474976710656 t → ∀ (l : Lab) (x : Option Addr) (n k : Nat) (w : World), TreeAt w (fun _ => True) [.int .i64 l.kind, .string (str l.name), .int .u64 l.num, .int .i64 l.wd, .bool l.sg, .int .i64 l.op, .int .i64 l.fac, .int .i64 l.pip, .int .i64 l.unr, .int .i64 l.line, .slice x n k] t →
 Calls Tryz.prog 94 #[.agg #[.int .i64 l.kind, .string (str l.name), .int .u64 l.num, .int .i64 l.wd, .bool l.sg, .int .i64 l.op, .int .i64 l.fac, .int .i64 l.pip, .int .i64 l.unr, .int .i64 l.line, .slice x n k]] w fun e w' => e = .returned (.bool (stB d t)) ∧ Below w.heap.size w w'
set_option maxHeartbeats 4000000 in
set_option maxRecDepth 100000 in
theorem body_step {d : Nat} (H : SOK d) : BOK (d + 1) := by
 intro t ht hwf l x n k w hT
 obtain ⟨lt, ks⟩ := t
 obtain ⟨xk, kk, hcs, hnk, hkm, hkids⟩ := TreeAt.kids hT
 obtain ⟨rfl, hv⟩ := lab_of (l := l) (m := lt) hcs
 simp only [Value.slice.injEq] at hv
 obtain ⟨rfl, rfl, rfl⟩ := hv
 obtain ⟨hlw, hkw⟩ := wf_node hwf
 have hnm := hlw.name
 have hdk : ∀ i, i < ks.length → depth (kat ks i) ≤ d := fun i hi => by
  have := depth_kat hi
  rw [depth] at ht
  omega
 clear hcs ht hwf hlw
 have HH := Hd fun i (hi : i < ks.length) => H (kat ks i) (hdk i hi) (hkw i hi)
 have HK := Hd hkids
 have HF : Hid (∀ W, Calls Tryz.prog 31 #[.agg #[.int .i64 l.kind, .string (str l.name), .int .u64 l.num, .int .i64 l.wd, .bool l.sg, .int .i64 l.op, .int .i64 l.fac, .int .i64 l.pip, .int .i64 l.unr, .int .i64 l.line, .slice x ks.length k], .agg #[.int .i64 8, .string ⟨#[]⟩, .int .u64 0, .int .i64 0, .bool false, .int .i64 0, .int .i64 0, .int .i64 0, .int .i64 0, .int .i64 0, .slice none 0 0]] W fun e w' => e = .returned (.bool (sameL ⟨8, [], 0, 0, false, 0, 0, 0, 0, 0⟩ l)) ∧ Below W.heap.size W w') := Hd fun W => fields_no l.kind l.name l.num l.wd l.sg l.op l.fac l.pip l.unr l.line x ks.length k 8 0 0 false 0 0 0 0 0 none 0 0 W
 have HR : Hid (bodyB (d + 1) (.node l ks) = (sameL ⟨8, [], 0, 0, false, 0, 0, 0, 0, 0⟩ l && ks.all (stB d))) := Hd (by rw [bodyB_succ]; rfl)
 have HL2 : Hid ((∀ i, i < ks.length → stB d (kat ks i) = true) → ks.all (stB d) = true) := Hd all_true
 have HL3 : Hid (∀ i, i < ks.length → stB d (kat ks i) = false → ks.all (stB d) = false) := Hd fun i => all_false
 have HB0 : Hid (BW w (w.alloc (.cells #[.int .i64 l.kind, .string (str l.name), .int .u64 l.num, .int .i64 l.wd, .bool l.sg, .int .i64 l.op, .int .i64 l.fac, .int .i64 l.pip, .int .i64 l.unr, .int .i64 l.line, .slice x ks.length k] 27)) [.int .i64 l.kind, .string (str l.name), .int .u64 l.num, .int .i64 l.wd, .bool l.sg, .int .i64 l.op, .int .i64 l.fac, .int .i64 l.pip, .int .i64 l.unr, .int .i64 l.line, .slice x ks.length k]) := Hd (BW.start w _)
 unfold maxLen at hkm
 clear hkids hkw hdk hnm H
 generalize bodyB (d + 1) (.node l ks) = R at *
 generalize sameL ⟨8, [], 0, 0, false, 0, 0, 0, 0, 0⟩ l = bF at *
 generalize ks.all (stB d) = bA at *
 generalize hN : ks.length = N at *
 have HN := Hd hN
 clear hN
 have c0 := HB0.out.a.cell
 go_enter Tryz.func58, Tryz.ntmps58
 go_wp2_with fail
 refine (HF.out _).mono ?_
 rintro e w1 ⟨rfl, hb⟩
 have HB1 := Hd (HB0.out.call hb)
 have c1 := HB1.out.a.cell
 clear hb
 cases bF with
 | false =>
  go_wp2
  go_ret
  exact ⟨by rw [HR.out]; rfl, HB1.out.bel⟩
 | true =>
  have h0 : Hid (ExSt (stB d) w w1 [.int .i64 l.kind, .string (str l.name), .int .u64 l.num, .int .i64 l.wd, .bool l.sg, .int .i64 l.op, .int .i64 l.fac, .int .i64 l.pip, .int .i64 l.unr, .int .i64 l.line, .slice x N k] ks 0) := Hd ⟨HB1.out, fun i hi => by omega⟩
  go_wp2
  clear c0 c1 HB0 HB1
  generalize (w.alloc (.cells #[.int .i64 l.kind, .string (str l.name), .int .u64 l.num, .int .i64 l.wd, .bool l.sg, .int .i64 l.op, .int .i64 l.fac, .int .i64 l.pip, .int .i64 l.unr, .int .i64 l.line, .slice x N k] 27)) = W1 at *
  go_loopw [3] (fun i wr => ∃ j : Nat, j ≤ N ∧ i = .int .i64 (j : Int) ∧ Hid (ExSt (stB d) w wr [.int .i64 l.kind, .string (str l.name), .int .u64 l.num, .int .i64 l.wd, .bool l.sg, .int .i64 l.op, .int .i64 l.fac, .int .i64 l.pip, .int .i64 l.unr, .int .i64 l.line, .slice x N k] ks j)) (fun i _ => N - (intOf i).toNat)
  case atStart => exact ⟨0, by omega, rfl, h0⟩
  case round =>
   clear h0
   obtain ⟨j, hj, rfl, hX⟩ := hrel
   have c0 := hX.out.bw.a.cell
   by_cases hjn : j < N
   ·skip
    obtain ⟨ad, hxa, hab, hkid⟩ := HK.out j hjn
    subst hxa
    have hbw := hX.out.bw.bel
    obtain ⟨l2, x2, n2, k2, ⟨e0, e1, e2, e3, e4, e5, e6, e7, e8, e9, e10⟩, hT3⟩ := hkid.keep (w' := wr) (Q := fun _ => True) hab (fun g hg hl => hbw.block g hl) fun _ hg _ => trivial
    have HC := Hd (HH.out j hjn l2 x2 n2 k2 wr hT3)
    have hj0 : (0 : Int) ≤ (j : Int) := by omega
    have hj1 : (j : Int) < (N : Int) := by omega
    clear hT3 hkid hbw
    obtain ⟨bq, hbq⟩ : ∃ b, b = stB d (kat ks j) := ⟨_, rfl⟩
    rw [← hbq] at HC
    have HQ := Hd hbq
    clear hbq
    go_wp2_with fail
    refine HC.out.mono ?_
    rintro e w2 ⟨rfl, hb⟩
    have HB := Hd (hX.out.bw.call hb)
    clear hb HC c0
    have c0 := HB.out.a.cell
    cases bq with
    | true =>
     have HX2 := Hd (hX.out.step HB.out HQ.out.symm)
     clear hX HQ
     go_wp2
     go_roundw
     case rel => exact ⟨j + 1, by omega, by go_num, HX2⟩
     case measure => simp [intOf]; omega
    | false =>
     have HR2 := Hd (HL3.out j hjn HQ.out.symm)
     clear hX HQ
     go_wp2
     go_ret
     exact ⟨by rw [HR.out, HR2.out]; rfl, HB.out.bel⟩
   ·obtain rfl : j = N := by omega
    have HR2 := Hd (HL2.out hX.out.all)
    have HB := Hd hX.out.bw.bel
    clear hX
    go_wp2
    go_ret
    exact ⟨by rw [HR.out, HR2.out]; rfl, HB.out⟩
theorem zer_eq (wd : Int) (sg : Bool) (W : World) : (binOp .eql 24 (.agg #[.int .i64 wd, .bool sg]) (.agg #[.int .i64 0, .bool false])).run Tryz.prog W = .ok (.bool (zerB wd sg)) W := by
 by_cases h : wd = 0
 ·subst h
  cases sg
  ·have hz : zerB 0 false = true := rfl
   rw [hz]
   go_simp
  ·have hz : zerB 0 true = false := rfl
   rw [hz]
   go_simp
 ·have hz : zerB wd sg = false := by simp [zerB, h]
  rw [hz]
  go_simp
  try exact fun h2 => absurd h2 h
end Go.Proofs.YthdbaligapdbeaaGreatDoor
/- The reference's statement, kind by kind (1). -/
namespace Go.Proofs.YthdbaligapdbeaaGreatDoor
open Go Go.RowKit
set_option linter.unusedVariables false

set_option maxHeartbeats 8000000 in
set_option maxRecDepth 100000 in
theorem st_9 {d : Nat} (H : XOK d) (HB : BOK d) (HS : SOK d) (t : Tree) (hk : ∀ l ks, t = .node l ks → l.kind = 9) (ht : depth t ≤ d + 1) (hwf : TreeWf 281474976710656 t) (l : Lab) (x : Option Addr) (n k : Nat) (w : World) (hT : TreeAt w (fun _ => True) [.int .i64 l.kind, .string (str l.name), .int .u64 l.num, .int .i64 l.wd, .bool l.sg, .int .i64 l.op, .int .i64 l.fac, .int .i64 l.pip, .int .i64 l.unr, .int .i64 l.line, .slice x n k] t) :
  Calls Tryz.prog 94 #[.agg #[.int .i64 l.kind, .string (str l.name), .int .u64 l.num, .int .i64 l.wd, .bool l.sg, .int .i64 l.op, .int .i64 l.fac, .int .i64 l.pip, .int .i64 l.unr, .int .i64 l.line, .slice x n k]] w fun e w' => e = .returned (.bool (stB (d + 1) t)) ∧ Below w.heap.size w w' := by
 obtain ⟨lt, ks⟩ := t
 obtain ⟨xk, kk, hcs, hnk, hkm, hkids⟩ := TreeAt.kids hT
 obtain ⟨rfl, hv⟩ := lab_of (l := l) (m := lt) hcs
 simp only [Value.slice.injEq] at hv
 obtain ⟨rfl, rfl, rfl⟩ := hv
 obtain ⟨hlw, hkw⟩ := wf_node hwf
 have hnm := hlw.name
 have hdk : ∀ i, i < ks.length → depth (kat ks i) ≤ d := fun i hi => by
  have := depth_kat hi
  rw [depth] at ht
  omega
 have hkk := hk _ _ rfl
 clear hcs ht hwf hlw hk
 have HX := Hd fun (j : Nat) (ji : Int) (hji : (j : Int) = ji) W (hb : Below w.heap.size w W) => exprs_at H l ks x k hkw hdk j ji hji W ⟨hnk, hkm⟩ (fun i hi => by
  obtain ⟨a, h1, h2, h3⟩ := hkids i hi
  exact ⟨a, h1, h2, h3.keep h2 (fun g hg hl => hb.block g hl) fun _ _ _ => trivial⟩)
 have HN := Hd fun W => rname_any l.name hnm W
 have HRI := Hd fun W => right_any l.wd l.sg W
 have HDI := Hd fun W => direct_any l x ks.length k W
 have HK : Hid (∀ W, Below w.heap.size w W → ∀ i, i < ks.length → ∃ a, x = some a ∧ True ∧ KidAt W (fun _ => True) a i (kat ks i)) := Hd fun W hb i hi => by
  obtain ⟨a, h1, h2, h3⟩ := hkids i hi
  exact ⟨a, h1, h2, h3.keep h2 (fun g hg hl => hb.block g hl) fun _ _ _ => trivial⟩
 have HBD := Hd fun i (hi : i < ks.length) => HB (kat ks i) (hdk i hi) (hkw i hi)
 have HSD := Hd fun i (hi : i < ks.length) => HS (kat ks i) (hdk i hi) (hkw i hi)
 have HB0 : Hid (BW w (w.alloc (.cells #[.int .i64 l.kind, .string (str l.name), .int .u64 l.num, .int .i64 l.wd, .bool l.sg, .int .i64 l.op, .int .i64 l.fac, .int .i64 l.pip, .int .i64 l.unr, .int .i64 l.line, .slice x ks.length k] 27)) [.int .i64 l.kind, .string (str l.name), .int .u64 l.num, .int .i64 l.wd, .bool l.sg, .int .i64 l.op, .int .i64 l.fac, .int .i64 l.pip, .int .i64 l.unr, .int .i64 l.line, .slice x ks.length k]) := Hd (BW.start w _)
 obtain ⟨a0, a1, a2, a3, a4, a5, a6, a7, a8, a9⟩ := l
 dsimp only at *
 clear hkids hkw hdk hnm hnk hkm
 clear HB HS H
 generalize hNN : ks.length = N at *
 have HNN := Hd hNN
 clear hNN
 subst hkk
 generalize hb1 : nameB a1 = bN at *
 generalize hb2 : typB a3 = bR at *
 generalize hb3 : dirB ⟨9, a1, a2, a3, a4, a5, a6, a7, a8, a9⟩ = bD at *
 have HNBD := Hd (And.intro hb1 (And.intro hb2 hb3))
 clear hb1 hb2 hb3
 have c0 := HB0.out.a.cell
 go_enter Tryz.func94, Tryz.ntmps94
 have HF := Hd fun W => fields_nm 9 a1 a2 a3 a4 a5 a6 a7 a8 a9 x N k 9 a1 0 a3 a4 0 0 0 0 0 none 0 0 W
 have HR : Hid (stB (d + 1) (.node ⟨9, a1, a2, a3, a4, a5, a6, a7, a8, a9⟩ ks) = (sameL ⟨9, a1, 0, a3, a4, 0, 0, 0, 0, 0⟩ ⟨9, a1, a2, a3, a4, a5, a6, a7, a8, a9⟩ && (bN && (bR && (decide (N ≤ 1) && exsW (xB d) ks N))))) := Hd (by rw [stB, HNN.out, if_pos (by simp)]; simp only [HNBD.out.1, HNBD.out.2.1]; try rfl)
 generalize sameL ⟨9, a1, 0, a3, a4, 0, 0, 0, 0, 0⟩ ⟨9, a1, a2, a3, a4, a5, a6, a7, a8, a9⟩ = bF at *
 clear HNBD
 go_wp2_with fail
 refine (HF.out _).mono ?_
 rintro e w1 ⟨rfl, hb⟩
 have HB1 := Hd (HB0.out.call hb)
 have c1 := HB1.out.a.cell
 clear hb
 cases bF with
 | false =>
  go_wp2
  go_ret
  exact ⟨by rw [HR.out]; rfl, HB1.out.bel⟩
 | true =>
  go_wp2_with fail
  refine (HN.out _).mono ?_
  rintro e w2 ⟨rfl, hb⟩
  have HB2 := Hd (HB1.out.call hb)
  have c2 := HB2.out.a.cell
  clear hb
  cases bN with
  | false =>
   go_wp2
   go_ret
   exact ⟨by rw [HR.out]; rfl, HB2.out.bel⟩
  | true =>
   go_wp2_with fail
   refine (HRI.out _).mono ?_
   rintro e w3 ⟨rfl, hb⟩
   have HB3 := Hd (HB2.out.call hb)
   have c3 := HB3.out.a.cell
   clear hb
   cases bR with
   | false =>
    go_wp2
    go_ret
    exact ⟨by rw [HR.out]; rfl, HB3.out.bel⟩
   | true =>
    by_cases h1 : N ≤ 1
    rotate_left
    ·have HR2 := HR.out
     rw [decide_eq_false h1] at HR2
     have HR := Hd HR2
     clear HR2
     have h1i : decide (N ≤ 1) = false := decide_eq_false h1
     go_wp2
     go_ret
     exact ⟨by rw [HR.out]; rfl, HB3.out.bel⟩
    have HR2 := HR.out
    rw [decide_eq_true h1] at HR2
    have HR := Hd HR2
    clear HR2
    have h1i : decide (N ≤ 1) = true := decide_eq_true h1
    have HX1 := Hd (HX.out N (N : Int) rfl _ HB3.out.bel)
    generalize exsW (xB d) ks N = bX at *
    go_wp2_with fail
    refine (HX1.out).mono ?_
    rintro e w4 ⟨rfl, hb⟩
    have HB4 := Hd (HB3.out.call hb)
    have c4 := HB4.out.a.cell
    clear hb
    go_wp2
    go_ret
    exact ⟨by rw [HR.out]; cases bX <;> rfl, HB4.out.bel⟩
set_option maxHeartbeats 8000000 in
set_option maxRecDepth 100000 in
theorem st_10 {d : Nat} (H : XOK d) (HB : BOK d) (HS : SOK d) (t : Tree) (hk : ∀ l ks, t = .node l ks → l.kind = 10) (ht : depth t ≤ d + 1) (hwf : TreeWf 281474976710656 t) (l : Lab) (x : Option Addr) (n k : Nat) (w : World) (hT : TreeAt w (fun _ => True) [.int .i64 l.kind, .string (str l.name), .int .u64 l.num, .int .i64 l.wd, .bool l.sg, .int .i64 l.op, .int .i64 l.fac, .int .i64 l.pip, .int .i64 l.unr, .int .i64 l.line, .slice x n k] t) :
  Calls Tryz.prog 94 #[.agg #[.int .i64 l.kind, .string (str l.name), .int .u64 l.num, .int .i64 l.wd, .bool l.sg, .int .i64 l.op, .int .i64 l.fac, .int .i64 l.pip, .int .i64 l.unr, .int .i64 l.line, .slice x n k]] w fun e w' => e = .returned (.bool (stB (d + 1) t)) ∧ Below w.heap.size w w' := by
 obtain ⟨lt, ks⟩ := t
 obtain ⟨xk, kk, hcs, hnk, hkm, hkids⟩ := TreeAt.kids hT
 obtain ⟨rfl, hv⟩ := lab_of (l := l) (m := lt) hcs
 simp only [Value.slice.injEq] at hv
 obtain ⟨rfl, rfl, rfl⟩ := hv
 obtain ⟨hlw, hkw⟩ := wf_node hwf
 have hnm := hlw.name
 have hdk : ∀ i, i < ks.length → depth (kat ks i) ≤ d := fun i hi => by
  have := depth_kat hi
  rw [depth] at ht
  omega
 have hkk := hk _ _ rfl
 clear hcs ht hwf hlw hk
 have HX := Hd fun (j : Nat) (ji : Int) (hji : (j : Int) = ji) W (hb : Below w.heap.size w W) => exprs_at H l ks x k hkw hdk j ji hji W ⟨hnk, hkm⟩ (fun i hi => by
  obtain ⟨a, h1, h2, h3⟩ := hkids i hi
  exact ⟨a, h1, h2, h3.keep h2 (fun g hg hl => hb.block g hl) fun _ _ _ => trivial⟩)
 have HN := Hd fun W => rname_any l.name hnm W
 have HRI := Hd fun W => right_any l.wd l.sg W
 have HDI := Hd fun W => direct_any l x ks.length k W
 have HK : Hid (∀ W, Below w.heap.size w W → ∀ i, i < ks.length → ∃ a, x = some a ∧ True ∧ KidAt W (fun _ => True) a i (kat ks i)) := Hd fun W hb i hi => by
  obtain ⟨a, h1, h2, h3⟩ := hkids i hi
  exact ⟨a, h1, h2, h3.keep h2 (fun g hg hl => hb.block g hl) fun _ _ _ => trivial⟩
 have HBD := Hd fun i (hi : i < ks.length) => HB (kat ks i) (hdk i hi) (hkw i hi)
 have HSD := Hd fun i (hi : i < ks.length) => HS (kat ks i) (hdk i hi) (hkw i hi)
 have HB0 : Hid (BW w (w.alloc (.cells #[.int .i64 l.kind, .string (str l.name), .int .u64 l.num, .int .i64 l.wd, .bool l.sg, .int .i64 l.op, .int .i64 l.fac, .int .i64 l.pip, .int .i64 l.unr, .int .i64 l.line, .slice x ks.length k] 27)) [.int .i64 l.kind, .string (str l.name), .int .u64 l.num, .int .i64 l.wd, .bool l.sg, .int .i64 l.op, .int .i64 l.fac, .int .i64 l.pip, .int .i64 l.unr, .int .i64 l.line, .slice x ks.length k]) := Hd (BW.start w _)
 obtain ⟨a0, a1, a2, a3, a4, a5, a6, a7, a8, a9⟩ := l
 dsimp only at *
 clear hkids hkw hdk hnm hnk hkm
 clear HB HS H
 generalize hNN : ks.length = N at *
 have HNN := Hd hNN
 clear hNN
 subst hkk
 generalize hb1 : nameB a1 = bN at *
 generalize hb2 : typB a3 = bR at *
 generalize hb3 : dirB ⟨10, a1, a2, a3, a4, a5, a6, a7, a8, a9⟩ = bD at *
 have HNBD := Hd (And.intro hb1 (And.intro hb2 hb3))
 clear hb1 hb2 hb3
 have c0 := HB0.out.a.cell
 go_enter Tryz.func94, Tryz.ntmps94
 have HF := Hd fun W => fields_nm 10 a1 a2 a3 a4 a5 a6 a7 a8 a9 x N k 10 a1 0 a3 a4 0 0 0 0 0 none 0 0 W
 have HR : Hid (stB (d + 1) (.node ⟨10, a1, a2, a3, a4, a5, a6, a7, a8, a9⟩ ks) = (sameL ⟨10, a1, 0, a3, a4, 0, 0, 0, 0, 0⟩ ⟨10, a1, a2, a3, a4, a5, a6, a7, a8, a9⟩ && (bN && ((bR || zerB a3 a4) && (decide (N = 1) && exsW (xB d) ks 1))))) := Hd (by rw [stB, HNN.out, if_neg (by simp), if_pos (by simp)]; simp only [HNBD.out.1, HNBD.out.2.1]; try rfl)
 generalize sameL ⟨10, a1, 0, a3, a4, 0, 0, 0, 0, 0⟩ ⟨10, a1, a2, a3, a4, a5, a6, a7, a8, a9⟩ = bF at *
 clear HNBD
 go_wp2_with fail
 refine (HF.out _).mono ?_
 rintro e w1 ⟨rfl, hb⟩
 have HB1 := Hd (HB0.out.call hb)
 have c1 := HB1.out.a.cell
 clear hb
 cases bF with
 | false =>
  go_wp2
  go_ret
  exact ⟨by rw [HR.out]; rfl, HB1.out.bel⟩
 | true =>
  go_wp2_with fail
  refine (HN.out _).mono ?_
  rintro e w2 ⟨rfl, hb⟩
  have HB2 := Hd (HB1.out.call hb)
  have c2 := HB2.out.a.cell
  clear hb
  cases bN with
  | false =>
   go_wp2
   go_ret
   exact ⟨by rw [HR.out]; rfl, HB2.out.bel⟩
  | true =>
   go_wp2_with fail
   refine (HRI.out _).mono ?_
   rintro e w3 ⟨rfl, hb⟩
   have HB3 := Hd (HB2.out.call hb)
   have c3 := HB3.out.a.cell
   clear hb
   obtain ⟨bZ, hbZ⟩ : ∃ b, b = zerB a3 a4 := ⟨_, rfl⟩
   have HR2 := HR.out
   rw [← hbZ] at HR2
   have HR := Hd HR2
   have q9 : ∀ W, (binOp .eql 24 (.agg #[.int .i64 a3, .bool a4]) (.agg #[.int .i64 0, .bool false])).run Tryz.prog W = .ok (.bool bZ) W := fun W => by rw [hbZ]; exact zer_eq a3 a4 W
   clear hbZ HR2
   cases bR with
   | false =>
    cases bZ with
    | false =>
     go_wp2
     go_ret
     exact ⟨by rw [HR.out]; rfl, HB3.out.bel⟩
    | true =>
     by_cases hj1 : N = 1
     rotate_left
     ·have HR2 := HR.out
      rw [decide_eq_false hj1] at HR2
      have HR := Hd HR2
      clear HR2
      have q1 : ((N : Int) == 1) = false := by rw [beq_eq_false_iff_ne]; omega
      go_wp2
      go_ret
      exact ⟨by rw [HR.out]; rfl, HB3.out.bel⟩
     have HR2 := HR.out
     rw [decide_eq_true hj1] at HR2
     have HR := Hd HR2
     clear HR2
     have q1 : ((N : Int) == 1) = true := by rw [hj1]; rfl
     have HJ := Hd hj1
     clear hj1
     have HX1 := Hd (HX.out 1 1 rfl _ HB3.out.bel)
     generalize exsW (xB d) ks 1 = bX at *
     go_wp2_with fail
     refine (HX1.out).mono ?_
     rintro e w4 ⟨rfl, hb⟩
     have HB4 := Hd (HB3.out.call hb)
     have c4 := HB4.out.a.cell
     clear hb
     go_wp2
     go_ret
     exact ⟨by rw [HR.out]; cases bX <;> rfl, HB4.out.bel⟩
   | true =>
    by_cases hj1 : N = 1
    rotate_left
    ·have HR2 := HR.out
     rw [decide_eq_false hj1] at HR2
     have HR := Hd HR2
     clear HR2
     have q1 : ((N : Int) == 1) = false := by rw [beq_eq_false_iff_ne]; omega
     go_wp2
     go_ret
     exact ⟨by rw [HR.out]; rfl, HB3.out.bel⟩
    have HR2 := HR.out
    rw [decide_eq_true hj1] at HR2
    have HR := Hd HR2
    clear HR2
    have q1 : ((N : Int) == 1) = true := by rw [hj1]; rfl
    have HJ := Hd hj1
    clear hj1
    have HX1 := Hd (HX.out 1 1 rfl _ HB3.out.bel)
    generalize exsW (xB d) ks 1 = bX at *
    go_wp2_with fail
    refine (HX1.out).mono ?_
    rintro e w4 ⟨rfl, hb⟩
    have HB4 := Hd (HB3.out.call hb)
    have c4 := HB4.out.a.cell
    clear hb
    go_wp2
    go_ret
    exact ⟨by rw [HR.out]; cases bX <;> rfl, HB4.out.bel⟩
end Go.Proofs.YthdbaligapdbeaaGreatDoor
/- The reference's statement, kind by kind (2). -/
namespace Go.Proofs.YthdbaligapdbeaaGreatDoor
open Go Go.RowKit
set_option linter.unusedVariables false

set_option maxHeartbeats 8000000 in
set_option maxRecDepth 100000 in
theorem st_11 {d : Nat} (H : XOK d) (HB : BOK d) (HS : SOK d) (t : Tree) (hk : ∀ l ks, t = .node l ks → l.kind = 11) (ht : depth t ≤ d + 1) (hwf : TreeWf 281474976710656 t) (l : Lab) (x : Option Addr) (n k : Nat) (w : World) (hT : TreeAt w (fun _ => True) [.int .i64 l.kind, .string (str l.name), .int .u64 l.num, .int .i64 l.wd, .bool l.sg, .int .i64 l.op, .int .i64 l.fac, .int .i64 l.pip, .int .i64 l.unr, .int .i64 l.line, .slice x n k] t) :
  Calls Tryz.prog 94 #[.agg #[.int .i64 l.kind, .string (str l.name), .int .u64 l.num, .int .i64 l.wd, .bool l.sg, .int .i64 l.op, .int .i64 l.fac, .int .i64 l.pip, .int .i64 l.unr, .int .i64 l.line, .slice x n k]] w fun e w' => e = .returned (.bool (stB (d + 1) t)) ∧ Below w.heap.size w w' := by
 obtain ⟨lt, ks⟩ := t
 obtain ⟨xk, kk, hcs, hnk, hkm, hkids⟩ := TreeAt.kids hT
 obtain ⟨rfl, hv⟩ := lab_of (l := l) (m := lt) hcs
 simp only [Value.slice.injEq] at hv
 obtain ⟨rfl, rfl, rfl⟩ := hv
 obtain ⟨hlw, hkw⟩ := wf_node hwf
 have hnm := hlw.name
 have hdk : ∀ i, i < ks.length → depth (kat ks i) ≤ d := fun i hi => by
  have := depth_kat hi
  rw [depth] at ht
  omega
 have hkk := hk _ _ rfl
 clear hcs ht hwf hlw hk
 have HX := Hd fun (j : Nat) (ji : Int) (hji : (j : Int) = ji) W (hb : Below w.heap.size w W) => exprs_at H l ks x k hkw hdk j ji hji W ⟨hnk, hkm⟩ (fun i hi => by
  obtain ⟨a, h1, h2, h3⟩ := hkids i hi
  exact ⟨a, h1, h2, h3.keep h2 (fun g hg hl => hb.block g hl) fun _ _ _ => trivial⟩)
 have HN := Hd fun W => rname_any l.name hnm W
 have HRI := Hd fun W => right_any l.wd l.sg W
 have HDI := Hd fun W => direct_any l x ks.length k W
 have HK : Hid (∀ W, Below w.heap.size w W → ∀ i, i < ks.length → ∃ a, x = some a ∧ True ∧ KidAt W (fun _ => True) a i (kat ks i)) := Hd fun W hb i hi => by
  obtain ⟨a, h1, h2, h3⟩ := hkids i hi
  exact ⟨a, h1, h2, h3.keep h2 (fun g hg hl => hb.block g hl) fun _ _ _ => trivial⟩
 have HBD := Hd fun i (hi : i < ks.length) => HB (kat ks i) (hdk i hi) (hkw i hi)
 have HSD := Hd fun i (hi : i < ks.length) => HS (kat ks i) (hdk i hi) (hkw i hi)
 have HB0 : Hid (BW w (w.alloc (.cells #[.int .i64 l.kind, .string (str l.name), .int .u64 l.num, .int .i64 l.wd, .bool l.sg, .int .i64 l.op, .int .i64 l.fac, .int .i64 l.pip, .int .i64 l.unr, .int .i64 l.line, .slice x ks.length k] 27)) [.int .i64 l.kind, .string (str l.name), .int .u64 l.num, .int .i64 l.wd, .bool l.sg, .int .i64 l.op, .int .i64 l.fac, .int .i64 l.pip, .int .i64 l.unr, .int .i64 l.line, .slice x ks.length k]) := Hd (BW.start w _)
 obtain ⟨a0, a1, a2, a3, a4, a5, a6, a7, a8, a9⟩ := l
 dsimp only at *
 clear hkids hkw hdk hnm hnk hkm
 clear HB HS H
 generalize hNN : ks.length = N at *
 have HNN := Hd hNN
 clear hNN
 subst hkk
 generalize hb1 : nameB a1 = bN at *
 generalize hb2 : typB a3 = bR at *
 generalize hb3 : dirB ⟨11, a1, a2, a3, a4, a5, a6, a7, a8, a9⟩ = bD at *
 have HNBD := Hd (And.intro hb1 (And.intro hb2 hb3))
 clear hb1 hb2 hb3
 have c0 := HB0.out.a.cell
 go_enter Tryz.func94, Tryz.ntmps94
 have HF := Hd fun W => fields_nm 11 a1 a2 a3 a4 a5 a6 a7 a8 a9 x N k 11 a1 0 0 false 0 0 0 0 0 none 0 0 W
 have HR : Hid (stB (d + 1) (.node ⟨11, a1, a2, a3, a4, a5, a6, a7, a8, a9⟩ ks) = (sameL ⟨11, a1, 0, 0, false, 0, 0, 0, 0, 0⟩ ⟨11, a1, a2, a3, a4, a5, a6, a7, a8, a9⟩ && (bN && (decide (N = 1) && exsW (xB d) ks 1)))) := Hd (by rw [stB, HNN.out, if_neg (by simp), if_neg (by simp), if_pos (by simp)]; simp only [HNBD.out.1]; try rfl)
 generalize sameL ⟨11, a1, 0, 0, false, 0, 0, 0, 0, 0⟩ ⟨11, a1, a2, a3, a4, a5, a6, a7, a8, a9⟩ = bF at *
 clear HNBD
 go_wp2_with fail
 refine (HF.out _).mono ?_
 rintro e w1 ⟨rfl, hb⟩
 have HB1 := Hd (HB0.out.call hb)
 have c1 := HB1.out.a.cell
 clear hb
 cases bF with
 | false =>
  go_wp2
  go_ret
  exact ⟨by rw [HR.out]; rfl, HB1.out.bel⟩
 | true =>
  go_wp2_with fail
  refine (HN.out _).mono ?_
  rintro e w2 ⟨rfl, hb⟩
  have HB2 := Hd (HB1.out.call hb)
  have c2 := HB2.out.a.cell
  clear hb
  cases bN with
  | false =>
   go_wp2
   go_ret
   exact ⟨by rw [HR.out]; rfl, HB2.out.bel⟩
  | true =>
   by_cases hj1 : N = 1
   rotate_left
   ·have HR2 := HR.out
    rw [decide_eq_false hj1] at HR2
    have HR := Hd HR2
    clear HR2
    have q1 : ((N : Int) == 1) = false := by rw [beq_eq_false_iff_ne]; omega
    go_wp2
    go_ret
    exact ⟨by rw [HR.out]; rfl, HB2.out.bel⟩
   have HR2 := HR.out
   rw [decide_eq_true hj1] at HR2
   have HR := Hd HR2
   clear HR2
   have q1 : ((N : Int) == 1) = true := by rw [hj1]; rfl
   have HJ := Hd hj1
   clear hj1
   have HX1 := Hd (HX.out 1 1 rfl _ HB2.out.bel)
   generalize exsW (xB d) ks 1 = bX at *
   go_wp2_with fail
   refine (HX1.out).mono ?_
   rintro e w3 ⟨rfl, hb⟩
   have HB3 := Hd (HB2.out.call hb)
   have c3 := HB3.out.a.cell
   clear hb
   go_wp2
   go_ret
   exact ⟨by rw [HR.out]; cases bX <;> rfl, HB3.out.bel⟩
set_option maxHeartbeats 8000000 in
set_option maxRecDepth 100000 in
theorem st_12 {d : Nat} (H : XOK d) (HB : BOK d) (HS : SOK d) (t : Tree) (hk : ∀ l ks, t = .node l ks → l.kind = 12) (ht : depth t ≤ d + 1) (hwf : TreeWf 281474976710656 t) (l : Lab) (x : Option Addr) (n k : Nat) (w : World) (hT : TreeAt w (fun _ => True) [.int .i64 l.kind, .string (str l.name), .int .u64 l.num, .int .i64 l.wd, .bool l.sg, .int .i64 l.op, .int .i64 l.fac, .int .i64 l.pip, .int .i64 l.unr, .int .i64 l.line, .slice x n k] t) :
  Calls Tryz.prog 94 #[.agg #[.int .i64 l.kind, .string (str l.name), .int .u64 l.num, .int .i64 l.wd, .bool l.sg, .int .i64 l.op, .int .i64 l.fac, .int .i64 l.pip, .int .i64 l.unr, .int .i64 l.line, .slice x n k]] w fun e w' => e = .returned (.bool (stB (d + 1) t)) ∧ Below w.heap.size w w' := by
 obtain ⟨lt, ks⟩ := t
 obtain ⟨xk, kk, hcs, hnk, hkm, hkids⟩ := TreeAt.kids hT
 obtain ⟨rfl, hv⟩ := lab_of (l := l) (m := lt) hcs
 simp only [Value.slice.injEq] at hv
 obtain ⟨rfl, rfl, rfl⟩ := hv
 obtain ⟨hlw, hkw⟩ := wf_node hwf
 have hnm := hlw.name
 have hdk : ∀ i, i < ks.length → depth (kat ks i) ≤ d := fun i hi => by
  have := depth_kat hi
  rw [depth] at ht
  omega
 have hkk := hk _ _ rfl
 clear hcs ht hwf hlw hk
 have HX := Hd fun (j : Nat) (ji : Int) (hji : (j : Int) = ji) W (hb : Below w.heap.size w W) => exprs_at H l ks x k hkw hdk j ji hji W ⟨hnk, hkm⟩ (fun i hi => by
  obtain ⟨a, h1, h2, h3⟩ := hkids i hi
  exact ⟨a, h1, h2, h3.keep h2 (fun g hg hl => hb.block g hl) fun _ _ _ => trivial⟩)
 have HN := Hd fun W => rname_any l.name hnm W
 have HRI := Hd fun W => right_any l.wd l.sg W
 have HDI := Hd fun W => direct_any l x ks.length k W
 have HK : Hid (∀ W, Below w.heap.size w W → ∀ i, i < ks.length → ∃ a, x = some a ∧ True ∧ KidAt W (fun _ => True) a i (kat ks i)) := Hd fun W hb i hi => by
  obtain ⟨a, h1, h2, h3⟩ := hkids i hi
  exact ⟨a, h1, h2, h3.keep h2 (fun g hg hl => hb.block g hl) fun _ _ _ => trivial⟩
 have HBD := Hd fun i (hi : i < ks.length) => HB (kat ks i) (hdk i hi) (hkw i hi)
 have HSD := Hd fun i (hi : i < ks.length) => HS (kat ks i) (hdk i hi) (hkw i hi)
 have HB0 : Hid (BW w (w.alloc (.cells #[.int .i64 l.kind, .string (str l.name), .int .u64 l.num, .int .i64 l.wd, .bool l.sg, .int .i64 l.op, .int .i64 l.fac, .int .i64 l.pip, .int .i64 l.unr, .int .i64 l.line, .slice x ks.length k] 27)) [.int .i64 l.kind, .string (str l.name), .int .u64 l.num, .int .i64 l.wd, .bool l.sg, .int .i64 l.op, .int .i64 l.fac, .int .i64 l.pip, .int .i64 l.unr, .int .i64 l.line, .slice x ks.length k]) := Hd (BW.start w _)
 obtain ⟨a0, a1, a2, a3, a4, a5, a6, a7, a8, a9⟩ := l
 dsimp only at *
 clear hkids hkw hdk hnm hnk hkm
 clear HB HS H
 generalize hNN : ks.length = N at *
 have HNN := Hd hNN
 clear hNN
 subst hkk
 generalize hb1 : nameB a1 = bN at *
 generalize hb2 : typB a3 = bR at *
 generalize hb3 : dirB ⟨12, a1, a2, a3, a4, a5, a6, a7, a8, a9⟩ = bD at *
 have HNBD := Hd (And.intro hb1 (And.intro hb2 hb3))
 clear hb1 hb2 hb3
 have c0 := HB0.out.a.cell
 go_enter Tryz.func94, Tryz.ntmps94
 have HF := Hd fun W => fields_nm 12 a1 a2 a3 a4 a5 a6 a7 a8 a9 x N k 12 a1 0 0 false 0 0 0 0 0 none 0 0 W
 have HR : Hid (stB (d + 1) (.node ⟨12, a1, a2, a3, a4, a5, a6, a7, a8, a9⟩ ks) = (sameL ⟨12, a1, 0, 0, false, 0, 0, 0, 0, 0⟩ ⟨12, a1, a2, a3, a4, a5, a6, a7, a8, a9⟩ && (bN && (decide (N = 2) && exsW (xB d) ks 2)))) := Hd (by rw [stB, HNN.out, if_neg (by simp), if_neg (by simp), if_neg (by simp), if_pos (by simp)]; simp only [HNBD.out.1]; try rfl)
 generalize sameL ⟨12, a1, 0, 0, false, 0, 0, 0, 0, 0⟩ ⟨12, a1, a2, a3, a4, a5, a6, a7, a8, a9⟩ = bF at *
 clear HNBD
 go_wp2_with fail
 refine (HF.out _).mono ?_
 rintro e w1 ⟨rfl, hb⟩
 have HB1 := Hd (HB0.out.call hb)
 have c1 := HB1.out.a.cell
 clear hb
 cases bF with
 | false =>
  go_wp2
  go_ret
  exact ⟨by rw [HR.out]; rfl, HB1.out.bel⟩
 | true =>
  go_wp2_with fail
  refine (HN.out _).mono ?_
  rintro e w2 ⟨rfl, hb⟩
  have HB2 := Hd (HB1.out.call hb)
  have c2 := HB2.out.a.cell
  clear hb
  cases bN with
  | false =>
   go_wp2
   go_ret
   exact ⟨by rw [HR.out]; rfl, HB2.out.bel⟩
  | true =>
   by_cases hj2 : N = 2
   rotate_left
   ·have HR2 := HR.out
    rw [decide_eq_false hj2] at HR2
    have HR := Hd HR2
    clear HR2
    have q1 : ((N : Int) == 2) = false := by rw [beq_eq_false_iff_ne]; omega
    go_wp2
    go_ret
    exact ⟨by rw [HR.out]; rfl, HB2.out.bel⟩
   have HR2 := HR.out
   rw [decide_eq_true hj2] at HR2
   have HR := Hd HR2
   clear HR2
   have q1 : ((N : Int) == 2) = true := by rw [hj2]; rfl
   have HJ := Hd hj2
   clear hj2
   have HX1 := Hd (HX.out 2 2 rfl _ HB2.out.bel)
   generalize exsW (xB d) ks 2 = bX at *
   go_wp2_with fail
   refine (HX1.out).mono ?_
   rintro e w3 ⟨rfl, hb⟩
   have HB3 := Hd (HB2.out.call hb)
   have c3 := HB3.out.a.cell
   clear hb
   go_wp2
   go_ret
   exact ⟨by rw [HR.out]; cases bX <;> rfl, HB3.out.bel⟩
set_option maxHeartbeats 8000000 in
set_option maxRecDepth 100000 in
theorem st_13 {d : Nat} (H : XOK d) (HB : BOK d) (HS : SOK d) (t : Tree) (hk : ∀ l ks, t = .node l ks → l.kind = 13) (ht : depth t ≤ d + 1) (hwf : TreeWf 281474976710656 t) (l : Lab) (x : Option Addr) (n k : Nat) (w : World) (hT : TreeAt w (fun _ => True) [.int .i64 l.kind, .string (str l.name), .int .u64 l.num, .int .i64 l.wd, .bool l.sg, .int .i64 l.op, .int .i64 l.fac, .int .i64 l.pip, .int .i64 l.unr, .int .i64 l.line, .slice x n k] t) :
  Calls Tryz.prog 94 #[.agg #[.int .i64 l.kind, .string (str l.name), .int .u64 l.num, .int .i64 l.wd, .bool l.sg, .int .i64 l.op, .int .i64 l.fac, .int .i64 l.pip, .int .i64 l.unr, .int .i64 l.line, .slice x n k]] w fun e w' => e = .returned (.bool (stB (d + 1) t)) ∧ Below w.heap.size w w' := by
 obtain ⟨lt, ks⟩ := t
 obtain ⟨xk, kk, hcs, hnk, hkm, hkids⟩ := TreeAt.kids hT
 obtain ⟨rfl, hv⟩ := lab_of (l := l) (m := lt) hcs
 simp only [Value.slice.injEq] at hv
 obtain ⟨rfl, rfl, rfl⟩ := hv
 obtain ⟨hlw, hkw⟩ := wf_node hwf
 have hnm := hlw.name
 have hdk : ∀ i, i < ks.length → depth (kat ks i) ≤ d := fun i hi => by
  have := depth_kat hi
  rw [depth] at ht
  omega
 have hkk := hk _ _ rfl
 clear hcs ht hwf hlw hk
 have HX := Hd fun (j : Nat) (ji : Int) (hji : (j : Int) = ji) W (hb : Below w.heap.size w W) => exprs_at H l ks x k hkw hdk j ji hji W ⟨hnk, hkm⟩ (fun i hi => by
  obtain ⟨a, h1, h2, h3⟩ := hkids i hi
  exact ⟨a, h1, h2, h3.keep h2 (fun g hg hl => hb.block g hl) fun _ _ _ => trivial⟩)
 have HN := Hd fun W => rname_any l.name hnm W
 have HRI := Hd fun W => right_any l.wd l.sg W
 have HDI := Hd fun W => direct_any l x ks.length k W
 have HK : Hid (∀ W, Below w.heap.size w W → ∀ i, i < ks.length → ∃ a, x = some a ∧ True ∧ KidAt W (fun _ => True) a i (kat ks i)) := Hd fun W hb i hi => by
  obtain ⟨a, h1, h2, h3⟩ := hkids i hi
  exact ⟨a, h1, h2, h3.keep h2 (fun g hg hl => hb.block g hl) fun _ _ _ => trivial⟩
 have HBD := Hd fun i (hi : i < ks.length) => HB (kat ks i) (hdk i hi) (hkw i hi)
 have HSD := Hd fun i (hi : i < ks.length) => HS (kat ks i) (hdk i hi) (hkw i hi)
 have HB0 : Hid (BW w (w.alloc (.cells #[.int .i64 l.kind, .string (str l.name), .int .u64 l.num, .int .i64 l.wd, .bool l.sg, .int .i64 l.op, .int .i64 l.fac, .int .i64 l.pip, .int .i64 l.unr, .int .i64 l.line, .slice x ks.length k] 27)) [.int .i64 l.kind, .string (str l.name), .int .u64 l.num, .int .i64 l.wd, .bool l.sg, .int .i64 l.op, .int .i64 l.fac, .int .i64 l.pip, .int .i64 l.unr, .int .i64 l.line, .slice x ks.length k]) := Hd (BW.start w _)
 obtain ⟨a0, a1, a2, a3, a4, a5, a6, a7, a8, a9⟩ := l
 dsimp only at *
 clear hkids hkw hdk hnm hnk hkm
 clear HB HS H
 generalize hNN : ks.length = N at *
 have HNN := Hd hNN
 clear hNN
 subst hkk
 generalize hb1 : nameB a1 = bN at *
 generalize hb2 : typB a3 = bR at *
 generalize hb3 : dirB ⟨13, a1, a2, a3, a4, a5, a6, a7, a8, a9⟩ = bD at *
 have HNBD := Hd (And.intro hb1 (And.intro hb2 hb3))
 clear hb1 hb2 hb3
 have c0 := HB0.out.a.cell
 go_enter Tryz.func94, Tryz.ntmps94
 have HF := Hd fun W => fields_no 13 a1 a2 a3 a4 a5 a6 a7 a8 a9 x N k 13 0 0 false 0 0 0 0 0 none 0 0 W
 have HR : Hid (stB (d + 1) (.node ⟨13, a1, a2, a3, a4, a5, a6, a7, a8, a9⟩ ks) = (sameL ⟨13, [], 0, 0, false, 0, 0, 0, 0, 0⟩ ⟨13, a1, a2, a3, a4, a5, a6, a7, a8, a9⟩ && (decide (2 ≤ N) && (decide (N ≤ 3) && (exsW (xB d) ks 1 && (bodyB d (kat ks 1) && (decide (N = 2) || (bodyB d (kat ks 2) || (decide (kindT (kat ks 2) = 13) && stB d (kat ks 2)))))))))) := Hd (by rw [stB, HNN.out, if_neg (by simp), if_neg (by simp), if_neg (by simp), if_neg (by simp), if_neg (by simp), if_pos (by simp)]; try rfl)
 generalize sameL ⟨13, [], 0, 0, false, 0, 0, 0, 0, 0⟩ ⟨13, a1, a2, a3, a4, a5, a6, a7, a8, a9⟩ = bF at *
 clear HNBD
 go_wp2_with fail
 refine (HF.out _).mono ?_
 rintro e w1 ⟨rfl, hb⟩
 have HB1 := Hd (HB0.out.call hb)
 have c1 := HB1.out.a.cell
 clear hb
 cases bF with
 | false =>
  go_wp2
  go_ret
  exact ⟨by rw [HR.out]; rfl, HB1.out.bel⟩
 | true =>
  by_cases h2 : 2 ≤ N
  rotate_left
  ·have HR2 := HR.out
   rw [decide_eq_false h2] at HR2
   have HR := Hd HR2
   clear HR2
   have h2i : decide (N < 2) = true := decide_eq_true (by omega)
   go_wp2
   go_ret
   exact ⟨by rw [HR.out]; rfl, HB1.out.bel⟩
  have HR2 := HR.out
  rw [decide_eq_true h2] at HR2
  have HR := Hd HR2
  clear HR2
  have h2i : decide (N < 2) = false := decide_eq_false (by omega)
  by_cases h3 : N ≤ 3
  rotate_left
  ·have HR2 := HR.out
   rw [decide_eq_false h3] at HR2
   have HR := Hd HR2
   clear HR2
   have h3i : decide (3 < N) = true := decide_eq_true (by omega)
   go_wp2
   go_ret
   exact ⟨by rw [HR.out]; rfl, HB1.out.bel⟩
  have HR2 := HR.out
  rw [decide_eq_true h3] at HR2
  have HR := Hd HR2
  clear HR2
  have h3i : decide (3 < N) = false := decide_eq_false (by omega)
  have HX1 := Hd (HX.out 1 1 rfl _ HB1.out.bel)
  generalize exsW (xB d) ks 1 = bX at *
  go_wp2_with fail
  refine (HX1.out).mono ?_
  rintro e w2 ⟨rfl, hb⟩
  have HB2 := Hd (HB1.out.call hb)
  have c2 := HB2.out.a.cell
  clear hb
  cases bX with
  | false =>
   go_wp2
   go_ret
   exact ⟨by rw [HR.out]; rfl, HB2.out.bel⟩
  | true =>
   obtain ⟨ad, hxa, hab, hkid⟩ := HK.out _ HB2.out.bel 1 (by first | omega | (have := HJ.out; omega))
   subst hxa
   obtain ⟨l2, x2, n2, k2, ⟨e0, e1, e2, e3, e4, e5, e6, e7, e8, e9, e10⟩, hT⟩ := hkid
   simp only [add_11] at e0 e1 e2 e3 e4 e5 e6 e7 e8 e9 e10
   have hj1 : (1 : Int) < (N : Int) := by first | omega | (have := HJ.out; omega)
   have HC := Hd (HBD.out 1 (by omega) l2 x2 n2 k2 _ hT)
   generalize bodyB d (kat ks 1) = bB at *
   clear hT
   go_wp2_with fail
   refine (HC.out).mono ?_
   rintro e w3 ⟨rfl, hb⟩
   have HB3 := Hd (HB2.out.call hb)
   have c3 := HB3.out.a.cell
   clear hb
   clear e0 e1 e2 e3 e4 e5 e6 e7 e8 e9 e10
   cases bB with
   | false =>
    go_wp2
    go_ret
    exact ⟨by rw [HR.out]; rfl, HB3.out.bel⟩
   | true =>
    by_cases hN2 : N = 2
    ·have HR2 := HR.out
     rw [decide_eq_true hN2] at HR2
     have HR := Hd HR2
     clear HR2
     have q2 : ((N : Int) == 2) = true := by rw [hN2]; rfl
     clear hN2
     go_wp2
     go_ret
     exact ⟨by rw [HR.out]; rfl, HB3.out.bel⟩
    have HR2 := HR.out
    rw [decide_eq_false hN2] at HR2
    have HR := Hd HR2
    clear HR2
    have q2 : ((N : Int) == 2) = false := by rw [beq_eq_false_iff_ne]; omega
    obtain ⟨adb, hxa, habb, hkid⟩ := HK.out _ HB3.out.bel 2 (by first | omega | (have := HJ.out; omega))
    injection hxa with hxa
    subst hxa
    have HKQ := Hd hkid
    obtain ⟨l2b, x2b, n2b, k2b, ⟨e0b, e1b, e2b, e3b, e4b, e5b, e6b, e7b, e8b, e9b, e10b⟩, hTb⟩ := hkid
    simp only [add_22] at e0b e1b e2b e3b e4b e5b e6b e7b e8b e9b e10b
    have hjb1 : (2 : Int) < (N : Int) := by first | omega | (have := HJ.out; omega)
    have HC2 := Hd (HBD.out 2 (by omega) l2b x2b n2b k2b _ hTb)
    generalize bodyB d (kat ks 2) = bB2 at *
    have HKP : Hid (∀ w9, Below _ _ w9 → KidAt w9 (fun _ => True) ad 2 (kat ks 2)) := Hd fun w9 hb => (KidAt.keep (w := w3) (P := fun _ => True) (Q := fun _ => True) HKQ.out trivial (fun g _ hl => hb.block g hl) fun _ _ _ => trivial)
    clear hTb
    go_wp2_with fail
    refine (HC2.out).mono ?_
    rintro e w4 ⟨rfl, hb⟩
    have HB4 := Hd (HB3.out.call hb)
    have c4 := HB4.out.a.cell
    have hkid := HKP.out _ hb
    clear hb e0b e1b e2b e3b e4b e5b e6b e7b e8b e9b e10b
    cases bB2 with
    | true =>
     go_wp2
     go_ret
     exact ⟨by rw [HR.out]; rfl, HB4.out.bel⟩
    | false =>
     obtain ⟨l3, x3, n3, k3, ⟨e0, e1, e2, e3, e4, e5, e6, e7, e8, e9, e10⟩, hT3⟩ := hkid
     have hkt : kindT (kat ks 2) = l3.kind := kindT_cells hT3
     simp only [add_22] at e0 e1 e2 e3 e4 e5 e6 e7 e8 e9 e10
     have HC3 := Hd (HSD.out 2 (by omega) l3 x3 n3 k3 _ hT3)
     generalize stB d (kat ks 2) = bS at *
     clear hT3
     have HR2 := HR.out
     rw [hkt] at HR2
     have HR := Hd HR2
     clear HR2 hkt
     by_cases h13 : l3.kind = 13
     rotate_left
     ·have HR2 := HR.out
      rw [decide_eq_false h13] at HR2
      have HR := Hd HR2
      clear HR2
      have q3 : (l3.kind == 13) = false := by rw [beq_eq_false_iff_ne]; exact h13
      go_wp2
      go_ret
      exact ⟨by rw [HR.out]; rfl, HB4.out.bel⟩
     have HR2 := HR.out
     rw [decide_eq_true h13] at HR2
     have HR := Hd HR2
     clear HR2
     have q3 : (l3.kind == 13) = true := by rw [h13]; rfl
     clear h13
     go_wp2_with fail
     refine (HC3.out).mono ?_
     rintro e w5 ⟨rfl, hb⟩
     have HB5 := Hd (HB4.out.call hb)
     have c5 := HB5.out.a.cell
     clear hb
     go_wp2
     go_ret
     exact ⟨by rw [HR.out]; cases bS <;> rfl, HB5.out.bel⟩
end Go.Proofs.YthdbaligapdbeaaGreatDoor
/- The reference's statement, kind by kind (3). -/
namespace Go.Proofs.YthdbaligapdbeaaGreatDoor
open Go Go.RowKit
set_option linter.unusedVariables false

set_option maxHeartbeats 8000000 in
set_option maxRecDepth 100000 in
theorem st_14 {d : Nat} (H : XOK d) (HB : BOK d) (HS : SOK d) (t : Tree) (hk : ∀ l ks, t = .node l ks → l.kind = 14) (ht : depth t ≤ d + 1) (hwf : TreeWf 281474976710656 t) (l : Lab) (x : Option Addr) (n k : Nat) (w : World) (hT : TreeAt w (fun _ => True) [.int .i64 l.kind, .string (str l.name), .int .u64 l.num, .int .i64 l.wd, .bool l.sg, .int .i64 l.op, .int .i64 l.fac, .int .i64 l.pip, .int .i64 l.unr, .int .i64 l.line, .slice x n k] t) :
  Calls Tryz.prog 94 #[.agg #[.int .i64 l.kind, .string (str l.name), .int .u64 l.num, .int .i64 l.wd, .bool l.sg, .int .i64 l.op, .int .i64 l.fac, .int .i64 l.pip, .int .i64 l.unr, .int .i64 l.line, .slice x n k]] w fun e w' => e = .returned (.bool (stB (d + 1) t)) ∧ Below w.heap.size w w' := by
 obtain ⟨lt, ks⟩ := t
 obtain ⟨xk, kk, hcs, hnk, hkm, hkids⟩ := TreeAt.kids hT
 obtain ⟨rfl, hv⟩ := lab_of (l := l) (m := lt) hcs
 simp only [Value.slice.injEq] at hv
 obtain ⟨rfl, rfl, rfl⟩ := hv
 obtain ⟨hlw, hkw⟩ := wf_node hwf
 have hnm := hlw.name
 have hdk : ∀ i, i < ks.length → depth (kat ks i) ≤ d := fun i hi => by
  have := depth_kat hi
  rw [depth] at ht
  omega
 have hkk := hk _ _ rfl
 clear hcs ht hwf hlw hk
 have HX := Hd fun (j : Nat) (ji : Int) (hji : (j : Int) = ji) W (hb : Below w.heap.size w W) => exprs_at H l ks x k hkw hdk j ji hji W ⟨hnk, hkm⟩ (fun i hi => by
  obtain ⟨a, h1, h2, h3⟩ := hkids i hi
  exact ⟨a, h1, h2, h3.keep h2 (fun g hg hl => hb.block g hl) fun _ _ _ => trivial⟩)
 have HN := Hd fun W => rname_any l.name hnm W
 have HRI := Hd fun W => right_any l.wd l.sg W
 have HDI := Hd fun W => direct_any l x ks.length k W
 have HK : Hid (∀ W, Below w.heap.size w W → ∀ i, i < ks.length → ∃ a, x = some a ∧ True ∧ KidAt W (fun _ => True) a i (kat ks i)) := Hd fun W hb i hi => by
  obtain ⟨a, h1, h2, h3⟩ := hkids i hi
  exact ⟨a, h1, h2, h3.keep h2 (fun g hg hl => hb.block g hl) fun _ _ _ => trivial⟩
 have HBD := Hd fun i (hi : i < ks.length) => HB (kat ks i) (hdk i hi) (hkw i hi)
 have HSD := Hd fun i (hi : i < ks.length) => HS (kat ks i) (hdk i hi) (hkw i hi)
 have HB0 : Hid (BW w (w.alloc (.cells #[.int .i64 l.kind, .string (str l.name), .int .u64 l.num, .int .i64 l.wd, .bool l.sg, .int .i64 l.op, .int .i64 l.fac, .int .i64 l.pip, .int .i64 l.unr, .int .i64 l.line, .slice x ks.length k] 27)) [.int .i64 l.kind, .string (str l.name), .int .u64 l.num, .int .i64 l.wd, .bool l.sg, .int .i64 l.op, .int .i64 l.fac, .int .i64 l.pip, .int .i64 l.unr, .int .i64 l.line, .slice x ks.length k]) := Hd (BW.start w _)
 obtain ⟨a0, a1, a2, a3, a4, a5, a6, a7, a8, a9⟩ := l
 dsimp only at *
 clear hkids hkw hdk hnm hnk hkm
 clear HB HS H
 generalize hNN : ks.length = N at *
 have HNN := Hd hNN
 clear hNN
 subst hkk
 generalize hb1 : nameB a1 = bN at *
 generalize hb2 : typB a3 = bR at *
 generalize hb3 : dirB ⟨14, a1, a2, a3, a4, a5, a6, a7, a8, a9⟩ = bD at *
 have HNBD := Hd (And.intro hb1 (And.intro hb2 hb3))
 clear hb1 hb2 hb3
 have c0 := HB0.out.a.cell
 go_enter Tryz.func94, Tryz.ntmps94
 have HF := Hd fun W => fields_nm 14 a1 a2 a3 a4 a5 a6 a7 a8 a9 x N k 14 a1 0 a3 a4 0 0 a7 a8 0 none 0 0 W
 have HR : Hid (stB (d + 1) (.node ⟨14, a1, a2, a3, a4, a5, a6, a7, a8, a9⟩ ks) = (sameL ⟨14, a1, 0, a3, a4, 0, 0, a7, a8, 0⟩ ⟨14, a1, a2, a3, a4, a5, a6, a7, a8, a9⟩ && (bN && (bR && (bD && (decide (N = 3) && (exsW (xB d) ks 2 && bodyB d (kat ks 2)))))))) := Hd (by rw [stB, HNN.out, if_neg (by simp), if_neg (by simp), if_neg (by simp), if_neg (by simp), if_neg (by simp), if_neg (by simp), if_pos (by simp)]; simp only [HNBD.out.1, HNBD.out.2.1, HNBD.out.2.2]; try rfl)
 generalize sameL ⟨14, a1, 0, a3, a4, 0, 0, a7, a8, 0⟩ ⟨14, a1, a2, a3, a4, a5, a6, a7, a8, a9⟩ = bF at *
 clear HNBD
 go_wp2_with fail
 refine (HF.out _).mono ?_
 rintro e w1 ⟨rfl, hb⟩
 have HB1 := Hd (HB0.out.call hb)
 have c1 := HB1.out.a.cell
 clear hb
 cases bF with
 | false =>
  go_wp2
  go_ret
  exact ⟨by rw [HR.out]; rfl, HB1.out.bel⟩
 | true =>
  go_wp2_with fail
  refine (HN.out _).mono ?_
  rintro e w2 ⟨rfl, hb⟩
  have HB2 := Hd (HB1.out.call hb)
  have c2 := HB2.out.a.cell
  clear hb
  cases bN with
  | false =>
   go_wp2
   go_ret
   exact ⟨by rw [HR.out]; rfl, HB2.out.bel⟩
  | true =>
   go_wp2_with fail
   refine (HRI.out _).mono ?_
   rintro e w3 ⟨rfl, hb⟩
   have HB3 := Hd (HB2.out.call hb)
   have c3 := HB3.out.a.cell
   clear hb
   cases bR with
   | false =>
    go_wp2
    go_ret
    exact ⟨by rw [HR.out]; rfl, HB3.out.bel⟩
   | true =>
    go_wp2_with fail
    refine (HDI.out _).mono ?_
    rintro e w4 ⟨rfl, hb⟩
    have HB4 := Hd (HB3.out.call hb)
    have c4 := HB4.out.a.cell
    clear hb
    cases bD with
    | false =>
     go_wp2
     go_ret
     exact ⟨by rw [HR.out]; rfl, HB4.out.bel⟩
    | true =>
     by_cases hj3 : N = 3
     rotate_left
     ·have HR2 := HR.out
      rw [decide_eq_false hj3] at HR2
      have HR := Hd HR2
      clear HR2
      have q1 : ((N : Int) == 3) = false := by rw [beq_eq_false_iff_ne]; omega
      go_wp2
      go_ret
      exact ⟨by rw [HR.out]; rfl, HB4.out.bel⟩
     have HR2 := HR.out
     rw [decide_eq_true hj3] at HR2
     have HR := Hd HR2
     clear HR2
     have q1 : ((N : Int) == 3) = true := by rw [hj3]; rfl
     have HJ := Hd hj3
     clear hj3
     have HX1 := Hd (HX.out 2 2 rfl _ HB4.out.bel)
     generalize exsW (xB d) ks 2 = bX at *
     go_wp2_with fail
     refine (HX1.out).mono ?_
     rintro e w5 ⟨rfl, hb⟩
     have HB5 := Hd (HB4.out.call hb)
     have c5 := HB5.out.a.cell
     clear hb
     cases bX with
     | false =>
      go_wp2
      go_ret
      exact ⟨by rw [HR.out]; rfl, HB5.out.bel⟩
     | true =>
      obtain ⟨ad, hxa, hab, hkid⟩ := HK.out _ HB5.out.bel 2 (by first | omega | (have := HJ.out; omega))
      subst hxa
      obtain ⟨l2, x2, n2, k2, ⟨e0, e1, e2, e3, e4, e5, e6, e7, e8, e9, e10⟩, hT⟩ := hkid
      simp only [add_22] at e0 e1 e2 e3 e4 e5 e6 e7 e8 e9 e10
      have hj1 : (2 : Int) < (N : Int) := by first | omega | (have := HJ.out; omega)
      have HC := Hd (HBD.out 2 (by first | omega | (have := HJ.out; omega)) l2 x2 n2 k2 _ hT)
      generalize bodyB d (kat ks 2) = bB at *
      clear hT
      go_wp2_with fail
      refine (HC.out).mono ?_
      rintro e w6 ⟨rfl, hb⟩
      have HB6 := Hd (HB5.out.call hb)
      have c6 := HB6.out.a.cell
      clear hb
      go_wp2
      go_ret
      exact ⟨by rw [HR.out]; cases bB <;> rfl, HB6.out.bel⟩
end Go.Proofs.YthdbaligapdbeaaGreatDoor
/- The reference's statement, kind by kind (4). -/
namespace Go.Proofs.YthdbaligapdbeaaGreatDoor
open Go Go.RowKit
set_option linter.unusedVariables false

set_option maxHeartbeats 8000000 in
set_option maxRecDepth 100000 in
theorem st_15 {d : Nat} (H : XOK d) (HB : BOK d) (HS : SOK d) (t : Tree) (hk : ∀ l ks, t = .node l ks → l.kind = 15) (ht : depth t ≤ d + 1) (hwf : TreeWf 281474976710656 t) (l : Lab) (x : Option Addr) (n k : Nat) (w : World) (hT : TreeAt w (fun _ => True) [.int .i64 l.kind, .string (str l.name), .int .u64 l.num, .int .i64 l.wd, .bool l.sg, .int .i64 l.op, .int .i64 l.fac, .int .i64 l.pip, .int .i64 l.unr, .int .i64 l.line, .slice x n k] t) :
  Calls Tryz.prog 94 #[.agg #[.int .i64 l.kind, .string (str l.name), .int .u64 l.num, .int .i64 l.wd, .bool l.sg, .int .i64 l.op, .int .i64 l.fac, .int .i64 l.pip, .int .i64 l.unr, .int .i64 l.line, .slice x n k]] w fun e w' => e = .returned (.bool (stB (d + 1) t)) ∧ Below w.heap.size w w' := by
 obtain ⟨lt, ks⟩ := t
 obtain ⟨xk, kk, hcs, hnk, hkm, hkids⟩ := TreeAt.kids hT
 obtain ⟨rfl, hv⟩ := lab_of (l := l) (m := lt) hcs
 simp only [Value.slice.injEq] at hv
 obtain ⟨rfl, rfl, rfl⟩ := hv
 obtain ⟨hlw, hkw⟩ := wf_node hwf
 have hnm := hlw.name
 have hdk : ∀ i, i < ks.length → depth (kat ks i) ≤ d := fun i hi => by
  have := depth_kat hi
  rw [depth] at ht
  omega
 have hkk := hk _ _ rfl
 clear hcs ht hwf hlw hk
 have HX := Hd fun (j : Nat) (ji : Int) (hji : (j : Int) = ji) W (hb : Below w.heap.size w W) => exprs_at H l ks x k hkw hdk j ji hji W ⟨hnk, hkm⟩ (fun i hi => by
  obtain ⟨a, h1, h2, h3⟩ := hkids i hi
  exact ⟨a, h1, h2, h3.keep h2 (fun g hg hl => hb.block g hl) fun _ _ _ => trivial⟩)
 have HN := Hd fun W => rname_any l.name hnm W
 have HRI := Hd fun W => right_any l.wd l.sg W
 have HDI := Hd fun W => direct_any l x ks.length k W
 have HK : Hid (∀ W, Below w.heap.size w W → ∀ i, i < ks.length → ∃ a, x = some a ∧ True ∧ KidAt W (fun _ => True) a i (kat ks i)) := Hd fun W hb i hi => by
  obtain ⟨a, h1, h2, h3⟩ := hkids i hi
  exact ⟨a, h1, h2, h3.keep h2 (fun g hg hl => hb.block g hl) fun _ _ _ => trivial⟩
 have HBD := Hd fun i (hi : i < ks.length) => HB (kat ks i) (hdk i hi) (hkw i hi)
 have HSD := Hd fun i (hi : i < ks.length) => HS (kat ks i) (hdk i hi) (hkw i hi)
 have HB0 : Hid (BW w (w.alloc (.cells #[.int .i64 l.kind, .string (str l.name), .int .u64 l.num, .int .i64 l.wd, .bool l.sg, .int .i64 l.op, .int .i64 l.fac, .int .i64 l.pip, .int .i64 l.unr, .int .i64 l.line, .slice x ks.length k] 27)) [.int .i64 l.kind, .string (str l.name), .int .u64 l.num, .int .i64 l.wd, .bool l.sg, .int .i64 l.op, .int .i64 l.fac, .int .i64 l.pip, .int .i64 l.unr, .int .i64 l.line, .slice x ks.length k]) := Hd (BW.start w _)
 obtain ⟨a0, a1, a2, a3, a4, a5, a6, a7, a8, a9⟩ := l
 dsimp only at *
 clear hkids hkw hdk hnm hnk hkm
 clear HB HS H
 generalize hNN : ks.length = N at *
 have HNN := Hd hNN
 clear hNN
 subst hkk
 generalize hb1 : nameB a1 = bN at *
 generalize hb2 : typB a3 = bR at *
 generalize hb3 : dirB ⟨15, a1, a2, a3, a4, a5, a6, a7, a8, a9⟩ = bD at *
 have HNBD := Hd (And.intro hb1 (And.intro hb2 hb3))
 clear hb1 hb2 hb3
 have c0 := HB0.out.a.cell
 go_enter Tryz.func94, Tryz.ntmps94
 have HF := Hd fun W => fields_no 15 a1 a2 a3 a4 a5 a6 a7 a8 a9 x N k 15 0 0 false 0 0 a7 a8 0 none 0 0 W
 have HR : Hid (stB (d + 1) (.node ⟨15, a1, a2, a3, a4, a5, a6, a7, a8, a9⟩ ks) = (sameL ⟨15, [], 0, 0, false, 0, 0, a7, a8, 0⟩ ⟨15, a1, a2, a3, a4, a5, a6, a7, a8, a9⟩ && (bD && (decide (N = 2) && (exsW (xB d) ks 1 && bodyB d (kat ks 1)))))) := Hd (by rw [stB, HNN.out, if_neg (by simp), if_neg (by simp), if_neg (by simp), if_neg (by simp), if_neg (by simp), if_neg (by simp), if_neg (by simp), if_pos (by simp)]; simp only [HNBD.out.2.2]; try rfl)
 generalize sameL ⟨15, [], 0, 0, false, 0, 0, a7, a8, 0⟩ ⟨15, a1, a2, a3, a4, a5, a6, a7, a8, a9⟩ = bF at *
 clear HNBD
 go_wp2_with fail
 refine (HF.out _).mono ?_
 rintro e w1 ⟨rfl, hb⟩
 have HB1 := Hd (HB0.out.call hb)
 have c1 := HB1.out.a.cell
 clear hb
 cases bF with
 | false =>
  go_wp2
  go_ret
  exact ⟨by rw [HR.out]; rfl, HB1.out.bel⟩
 | true =>
  go_wp2_with fail
  refine (HDI.out _).mono ?_
  rintro e w2 ⟨rfl, hb⟩
  have HB2 := Hd (HB1.out.call hb)
  have c2 := HB2.out.a.cell
  clear hb
  cases bD with
  | false =>
   go_wp2
   go_ret
   exact ⟨by rw [HR.out]; rfl, HB2.out.bel⟩
  | true =>
   by_cases hj2 : N = 2
   rotate_left
   ·have HR2 := HR.out
    rw [decide_eq_false hj2] at HR2
    have HR := Hd HR2
    clear HR2
    have q1 : ((N : Int) == 2) = false := by rw [beq_eq_false_iff_ne]; omega
    go_wp2
    go_ret
    exact ⟨by rw [HR.out]; rfl, HB2.out.bel⟩
   have HR2 := HR.out
   rw [decide_eq_true hj2] at HR2
   have HR := Hd HR2
   clear HR2
   have q1 : ((N : Int) == 2) = true := by rw [hj2]; rfl
   have HJ := Hd hj2
   clear hj2
   have HX1 := Hd (HX.out 1 1 rfl _ HB2.out.bel)
   generalize exsW (xB d) ks 1 = bX at *
   go_wp2_with fail
   refine (HX1.out).mono ?_
   rintro e w3 ⟨rfl, hb⟩
   have HB3 := Hd (HB2.out.call hb)
   have c3 := HB3.out.a.cell
   clear hb
   cases bX with
   | false =>
    go_wp2
    go_ret
    exact ⟨by rw [HR.out]; rfl, HB3.out.bel⟩
   | true =>
    obtain ⟨ad, hxa, hab, hkid⟩ := HK.out _ HB3.out.bel 1 (by first | omega | (have := HJ.out; omega))
    subst hxa
    obtain ⟨l2, x2, n2, k2, ⟨e0, e1, e2, e3, e4, e5, e6, e7, e8, e9, e10⟩, hT⟩ := hkid
    simp only [add_11] at e0 e1 e2 e3 e4 e5 e6 e7 e8 e9 e10
    have hj1 : (1 : Int) < (N : Int) := by first | omega | (have := HJ.out; omega)
    have HC := Hd (HBD.out 1 (by first | omega | (have := HJ.out; omega)) l2 x2 n2 k2 _ hT)
    generalize bodyB d (kat ks 1) = bB at *
    clear hT
    go_wp2_with fail
    refine (HC.out).mono ?_
    rintro e w4 ⟨rfl, hb⟩
    have HB4 := Hd (HB3.out.call hb)
    have c4 := HB4.out.a.cell
    clear hb
    go_wp2
    go_ret
    exact ⟨by rw [HR.out]; cases bB <;> rfl, HB4.out.bel⟩
set_option maxHeartbeats 8000000 in
set_option maxRecDepth 100000 in
theorem st_16 {d : Nat} (H : XOK d) (HB : BOK d) (HS : SOK d) (t : Tree) (hk : ∀ l ks, t = .node l ks → l.kind = 16) (ht : depth t ≤ d + 1) (hwf : TreeWf 281474976710656 t) (l : Lab) (x : Option Addr) (n k : Nat) (w : World) (hT : TreeAt w (fun _ => True) [.int .i64 l.kind, .string (str l.name), .int .u64 l.num, .int .i64 l.wd, .bool l.sg, .int .i64 l.op, .int .i64 l.fac, .int .i64 l.pip, .int .i64 l.unr, .int .i64 l.line, .slice x n k] t) :
  Calls Tryz.prog 94 #[.agg #[.int .i64 l.kind, .string (str l.name), .int .u64 l.num, .int .i64 l.wd, .bool l.sg, .int .i64 l.op, .int .i64 l.fac, .int .i64 l.pip, .int .i64 l.unr, .int .i64 l.line, .slice x n k]] w fun e w' => e = .returned (.bool (stB (d + 1) t)) ∧ Below w.heap.size w w' := by
 obtain ⟨lt, ks⟩ := t
 obtain ⟨xk, kk, hcs, hnk, hkm, hkids⟩ := TreeAt.kids hT
 obtain ⟨rfl, hv⟩ := lab_of (l := l) (m := lt) hcs
 simp only [Value.slice.injEq] at hv
 obtain ⟨rfl, rfl, rfl⟩ := hv
 obtain ⟨hlw, hkw⟩ := wf_node hwf
 have hnm := hlw.name
 have hdk : ∀ i, i < ks.length → depth (kat ks i) ≤ d := fun i hi => by
  have := depth_kat hi
  rw [depth] at ht
  omega
 have hkk := hk _ _ rfl
 clear hcs ht hwf hlw hk
 have HX := Hd fun (j : Nat) (ji : Int) (hji : (j : Int) = ji) W (hb : Below w.heap.size w W) => exprs_at H l ks x k hkw hdk j ji hji W ⟨hnk, hkm⟩ (fun i hi => by
  obtain ⟨a, h1, h2, h3⟩ := hkids i hi
  exact ⟨a, h1, h2, h3.keep h2 (fun g hg hl => hb.block g hl) fun _ _ _ => trivial⟩)
 have HN := Hd fun W => rname_any l.name hnm W
 have HRI := Hd fun W => right_any l.wd l.sg W
 have HDI := Hd fun W => direct_any l x ks.length k W
 have HK : Hid (∀ W, Below w.heap.size w W → ∀ i, i < ks.length → ∃ a, x = some a ∧ True ∧ KidAt W (fun _ => True) a i (kat ks i)) := Hd fun W hb i hi => by
  obtain ⟨a, h1, h2, h3⟩ := hkids i hi
  exact ⟨a, h1, h2, h3.keep h2 (fun g hg hl => hb.block g hl) fun _ _ _ => trivial⟩
 have HBD := Hd fun i (hi : i < ks.length) => HB (kat ks i) (hdk i hi) (hkw i hi)
 have HSD := Hd fun i (hi : i < ks.length) => HS (kat ks i) (hdk i hi) (hkw i hi)
 have HB0 : Hid (BW w (w.alloc (.cells #[.int .i64 l.kind, .string (str l.name), .int .u64 l.num, .int .i64 l.wd, .bool l.sg, .int .i64 l.op, .int .i64 l.fac, .int .i64 l.pip, .int .i64 l.unr, .int .i64 l.line, .slice x ks.length k] 27)) [.int .i64 l.kind, .string (str l.name), .int .u64 l.num, .int .i64 l.wd, .bool l.sg, .int .i64 l.op, .int .i64 l.fac, .int .i64 l.pip, .int .i64 l.unr, .int .i64 l.line, .slice x ks.length k]) := Hd (BW.start w _)
 obtain ⟨a0, a1, a2, a3, a4, a5, a6, a7, a8, a9⟩ := l
 dsimp only at *
 clear hkids hkw hdk hnm hnk hkm
 clear HB HS H
 generalize hNN : ks.length = N at *
 have HNN := Hd hNN
 clear hNN
 subst hkk
 generalize hb1 : nameB a1 = bN at *
 generalize hb2 : typB a3 = bR at *
 generalize hb3 : dirB ⟨16, a1, a2, a3, a4, a5, a6, a7, a8, a9⟩ = bD at *
 have HNBD := Hd (And.intro hb1 (And.intro hb2 hb3))
 clear hb1 hb2 hb3
 have c0 := HB0.out.a.cell
 go_enter Tryz.func94, Tryz.ntmps94
 have HF := Hd fun W => fields_nm 16 a1 a2 a3 a4 a5 a6 a7 a8 a9 x N k 16 a1 0 0 false 0 0 0 0 0 none 0 0 W
 have HR : Hid (stB (d + 1) (.node ⟨16, a1, a2, a3, a4, a5, a6, a7, a8, a9⟩ ks) = (sameL ⟨16, a1, 0, 0, false, 0, 0, 0, 0, 0⟩ ⟨16, a1, a2, a3, a4, a5, a6, a7, a8, a9⟩ && (bN && (decide (N = 1) && exsW (xB d) ks 1)))) := Hd (by rw [stB, HNN.out, if_neg (by simp), if_neg (by simp), if_pos (by simp)]; simp only [HNBD.out.1]; try rfl)
 generalize sameL ⟨16, a1, 0, 0, false, 0, 0, 0, 0, 0⟩ ⟨16, a1, a2, a3, a4, a5, a6, a7, a8, a9⟩ = bF at *
 clear HNBD
 go_wp2_with fail
 refine (HF.out _).mono ?_
 rintro e w1 ⟨rfl, hb⟩
 have HB1 := Hd (HB0.out.call hb)
 have c1 := HB1.out.a.cell
 clear hb
 cases bF with
 | false =>
  go_wp2
  go_ret
  exact ⟨by rw [HR.out]; rfl, HB1.out.bel⟩
 | true =>
  go_wp2_with fail
  refine (HN.out _).mono ?_
  rintro e w2 ⟨rfl, hb⟩
  have HB2 := Hd (HB1.out.call hb)
  have c2 := HB2.out.a.cell
  clear hb
  cases bN with
  | false =>
   go_wp2
   go_ret
   exact ⟨by rw [HR.out]; rfl, HB2.out.bel⟩
  | true =>
   by_cases hj1 : N = 1
   rotate_left
   ·have HR2 := HR.out
    rw [decide_eq_false hj1] at HR2
    have HR := Hd HR2
    clear HR2
    have q1 : ((N : Int) == 1) = false := by rw [beq_eq_false_iff_ne]; omega
    go_wp2
    go_ret
    exact ⟨by rw [HR.out]; rfl, HB2.out.bel⟩
   have HR2 := HR.out
   rw [decide_eq_true hj1] at HR2
   have HR := Hd HR2
   clear HR2
   have q1 : ((N : Int) == 1) = true := by rw [hj1]; rfl
   have HJ := Hd hj1
   clear hj1
   have HX1 := Hd (HX.out 1 1 rfl _ HB2.out.bel)
   generalize exsW (xB d) ks 1 = bX at *
   go_wp2_with fail
   refine (HX1.out).mono ?_
   rintro e w3 ⟨rfl, hb⟩
   have HB3 := Hd (HB2.out.call hb)
   have c3 := HB3.out.a.cell
   clear hb
   go_wp2
   go_ret
   exact ⟨by rw [HR.out]; cases bX <;> rfl, HB3.out.bel⟩
set_option maxHeartbeats 8000000 in
set_option maxRecDepth 100000 in
theorem st_17 {d : Nat} (H : XOK d) (HB : BOK d) (HS : SOK d) (t : Tree) (hk : ∀ l ks, t = .node l ks → l.kind = 17) (ht : depth t ≤ d + 1) (hwf : TreeWf 281474976710656 t) (l : Lab) (x : Option Addr) (n k : Nat) (w : World) (hT : TreeAt w (fun _ => True) [.int .i64 l.kind, .string (str l.name), .int .u64 l.num, .int .i64 l.wd, .bool l.sg, .int .i64 l.op, .int .i64 l.fac, .int .i64 l.pip, .int .i64 l.unr, .int .i64 l.line, .slice x n k] t) :
  Calls Tryz.prog 94 #[.agg #[.int .i64 l.kind, .string (str l.name), .int .u64 l.num, .int .i64 l.wd, .bool l.sg, .int .i64 l.op, .int .i64 l.fac, .int .i64 l.pip, .int .i64 l.unr, .int .i64 l.line, .slice x n k]] w fun e w' => e = .returned (.bool (stB (d + 1) t)) ∧ Below w.heap.size w w' := by
 obtain ⟨lt, ks⟩ := t
 obtain ⟨xk, kk, hcs, hnk, hkm, hkids⟩ := TreeAt.kids hT
 obtain ⟨rfl, hv⟩ := lab_of (l := l) (m := lt) hcs
 simp only [Value.slice.injEq] at hv
 obtain ⟨rfl, rfl, rfl⟩ := hv
 obtain ⟨hlw, hkw⟩ := wf_node hwf
 have hnm := hlw.name
 have hdk : ∀ i, i < ks.length → depth (kat ks i) ≤ d := fun i hi => by
  have := depth_kat hi
  rw [depth] at ht
  omega
 have hkk := hk _ _ rfl
 clear hcs ht hwf hlw hk
 have HX := Hd fun (j : Nat) (ji : Int) (hji : (j : Int) = ji) W (hb : Below w.heap.size w W) => exprs_at H l ks x k hkw hdk j ji hji W ⟨hnk, hkm⟩ (fun i hi => by
  obtain ⟨a, h1, h2, h3⟩ := hkids i hi
  exact ⟨a, h1, h2, h3.keep h2 (fun g hg hl => hb.block g hl) fun _ _ _ => trivial⟩)
 have HN := Hd fun W => rname_any l.name hnm W
 have HRI := Hd fun W => right_any l.wd l.sg W
 have HDI := Hd fun W => direct_any l x ks.length k W
 have HK : Hid (∀ W, Below w.heap.size w W → ∀ i, i < ks.length → ∃ a, x = some a ∧ True ∧ KidAt W (fun _ => True) a i (kat ks i)) := Hd fun W hb i hi => by
  obtain ⟨a, h1, h2, h3⟩ := hkids i hi
  exact ⟨a, h1, h2, h3.keep h2 (fun g hg hl => hb.block g hl) fun _ _ _ => trivial⟩
 have HBD := Hd fun i (hi : i < ks.length) => HB (kat ks i) (hdk i hi) (hkw i hi)
 have HSD := Hd fun i (hi : i < ks.length) => HS (kat ks i) (hdk i hi) (hkw i hi)
 have HB0 : Hid (BW w (w.alloc (.cells #[.int .i64 l.kind, .string (str l.name), .int .u64 l.num, .int .i64 l.wd, .bool l.sg, .int .i64 l.op, .int .i64 l.fac, .int .i64 l.pip, .int .i64 l.unr, .int .i64 l.line, .slice x ks.length k] 27)) [.int .i64 l.kind, .string (str l.name), .int .u64 l.num, .int .i64 l.wd, .bool l.sg, .int .i64 l.op, .int .i64 l.fac, .int .i64 l.pip, .int .i64 l.unr, .int .i64 l.line, .slice x ks.length k]) := Hd (BW.start w _)
 obtain ⟨a0, a1, a2, a3, a4, a5, a6, a7, a8, a9⟩ := l
 dsimp only at *
 clear hkids hkw hdk hnm hnk hkm
 clear HB HS H
 generalize hNN : ks.length = N at *
 have HNN := Hd hNN
 clear hNN
 subst hkk
 generalize hb1 : nameB a1 = bN at *
 generalize hb2 : typB a3 = bR at *
 generalize hb3 : dirB ⟨17, a1, a2, a3, a4, a5, a6, a7, a8, a9⟩ = bD at *
 have HNBD := Hd (And.intro hb1 (And.intro hb2 hb3))
 clear hb1 hb2 hb3
 have c0 := HB0.out.a.cell
 go_enter Tryz.func94, Tryz.ntmps94
 have HF := Hd fun W => fields_no 17 a1 a2 a3 a4 a5 a6 a7 a8 a9 x N k 17 0 0 false 0 0 0 0 0 none 0 0 W
 have HR : Hid (stB (d + 1) (.node ⟨17, a1, a2, a3, a4, a5, a6, a7, a8, a9⟩ ks) = (sameL ⟨17, [], 0, 0, false, 0, 0, 0, 0, 0⟩ ⟨17, a1, a2, a3, a4, a5, a6, a7, a8, a9⟩ && (decide (N = 1) && exsW (xB d) ks 1))) := Hd (by rw [stB, HNN.out, if_neg (by simp), if_neg (by simp), if_neg (by simp), if_neg (by simp), if_pos (by simp)]; try rfl)
 generalize sameL ⟨17, [], 0, 0, false, 0, 0, 0, 0, 0⟩ ⟨17, a1, a2, a3, a4, a5, a6, a7, a8, a9⟩ = bF at *
 clear HNBD
 go_wp2_with fail
 refine (HF.out _).mono ?_
 rintro e w1 ⟨rfl, hb⟩
 have HB1 := Hd (HB0.out.call hb)
 have c1 := HB1.out.a.cell
 clear hb
 cases bF with
 | false =>
  go_wp2
  go_ret
  exact ⟨by rw [HR.out]; rfl, HB1.out.bel⟩
 | true =>
  by_cases hj1 : N = 1
  rotate_left
  ·have HR2 := HR.out
   rw [decide_eq_false hj1] at HR2
   have HR := Hd HR2
   clear HR2
   have q1 : ((N : Int) == 1) = false := by rw [beq_eq_false_iff_ne]; omega
   go_wp2
   go_ret
   exact ⟨by rw [HR.out]; rfl, HB1.out.bel⟩
  have HR2 := HR.out
  rw [decide_eq_true hj1] at HR2
  have HR := Hd HR2
  clear HR2
  have q1 : ((N : Int) == 1) = true := by rw [hj1]; rfl
  have HJ := Hd hj1
  clear hj1
  have HX1 := Hd (HX.out 1 1 rfl _ HB1.out.bel)
  generalize exsW (xB d) ks 1 = bX at *
  go_wp2_with fail
  refine (HX1.out).mono ?_
  rintro e w2 ⟨rfl, hb⟩
  have HB2 := Hd (HB1.out.call hb)
  have c2 := HB2.out.a.cell
  clear hb
  go_wp2
  go_ret
  exact ⟨by rw [HR.out]; cases bX <;> rfl, HB2.out.bel⟩
set_option maxHeartbeats 8000000 in
set_option maxRecDepth 100000 in
theorem st_no {d : Nat} (H : XOK d) (HB : BOK d) (HS : SOK d) (t : Tree) (hk : ∀ l ks, t = .node l ks → ¬ l.kind = 9 ∧ ¬ l.kind = 10 ∧ ¬ l.kind = 11 ∧ ¬ l.kind = 12 ∧ ¬ l.kind = 13 ∧ ¬ l.kind = 14 ∧ ¬ l.kind = 15 ∧ ¬ l.kind = 16 ∧ ¬ l.kind = 17) (ht : depth t ≤ d + 1) (hwf : TreeWf 281474976710656 t) (l : Lab) (x : Option Addr) (n k : Nat) (w : World) (hT : TreeAt w (fun _ => True) [.int .i64 l.kind, .string (str l.name), .int .u64 l.num, .int .i64 l.wd, .bool l.sg, .int .i64 l.op, .int .i64 l.fac, .int .i64 l.pip, .int .i64 l.unr, .int .i64 l.line, .slice x n k] t) :
  Calls Tryz.prog 94 #[.agg #[.int .i64 l.kind, .string (str l.name), .int .u64 l.num, .int .i64 l.wd, .bool l.sg, .int .i64 l.op, .int .i64 l.fac, .int .i64 l.pip, .int .i64 l.unr, .int .i64 l.line, .slice x n k]] w fun e w' => e = .returned (.bool (stB (d + 1) t)) ∧ Below w.heap.size w w' := by
 obtain ⟨lt, ks⟩ := t
 obtain ⟨xk, kk, hcs, hnk, hkm, hkids⟩ := TreeAt.kids hT
 obtain ⟨rfl, hv⟩ := lab_of (l := l) (m := lt) hcs
 simp only [Value.slice.injEq] at hv
 obtain ⟨rfl, rfl, rfl⟩ := hv
 obtain ⟨hlw, hkw⟩ := wf_node hwf
 have hnm := hlw.name
 have hdk : ∀ i, i < ks.length → depth (kat ks i) ≤ d := fun i hi => by
  have := depth_kat hi
  rw [depth] at ht
  omega
 have hkk := hk _ _ rfl
 clear hcs ht hwf hlw hk
 have HX := Hd fun (j : Nat) (ji : Int) (hji : (j : Int) = ji) W (hb : Below w.heap.size w W) => exprs_at H l ks x k hkw hdk j ji hji W ⟨hnk, hkm⟩ (fun i hi => by
  obtain ⟨a, h1, h2, h3⟩ := hkids i hi
  exact ⟨a, h1, h2, h3.keep h2 (fun g hg hl => hb.block g hl) fun _ _ _ => trivial⟩)
 have HN := Hd fun W => rname_any l.name hnm W
 have HRI := Hd fun W => right_any l.wd l.sg W
 have HDI := Hd fun W => direct_any l x ks.length k W
 have HK : Hid (∀ W, Below w.heap.size w W → ∀ i, i < ks.length → ∃ a, x = some a ∧ True ∧ KidAt W (fun _ => True) a i (kat ks i)) := Hd fun W hb i hi => by
  obtain ⟨a, h1, h2, h3⟩ := hkids i hi
  exact ⟨a, h1, h2, h3.keep h2 (fun g hg hl => hb.block g hl) fun _ _ _ => trivial⟩
 have HBD := Hd fun i (hi : i < ks.length) => HB (kat ks i) (hdk i hi) (hkw i hi)
 have HSD := Hd fun i (hi : i < ks.length) => HS (kat ks i) (hdk i hi) (hkw i hi)
 have HB0 : Hid (BW w (w.alloc (.cells #[.int .i64 l.kind, .string (str l.name), .int .u64 l.num, .int .i64 l.wd, .bool l.sg, .int .i64 l.op, .int .i64 l.fac, .int .i64 l.pip, .int .i64 l.unr, .int .i64 l.line, .slice x ks.length k] 27)) [.int .i64 l.kind, .string (str l.name), .int .u64 l.num, .int .i64 l.wd, .bool l.sg, .int .i64 l.op, .int .i64 l.fac, .int .i64 l.pip, .int .i64 l.unr, .int .i64 l.line, .slice x ks.length k]) := Hd (BW.start w _)
 obtain ⟨a0, a1, a2, a3, a4, a5, a6, a7, a8, a9⟩ := l
 dsimp only at *
 clear hkids hkw hdk hnm hnk hkm
 clear HB HS H
 generalize hNN : ks.length = N at *
 have HNN := Hd hNN
 clear hNN
 obtain ⟨g9, g10, g11, g12, g13, g14, g15, g16, g17⟩ := hkk
 generalize hb1 : nameB a1 = bN at *
 generalize hb2 : typB a3 = bR at *
 generalize hb3 : dirB ⟨a0, a1, a2, a3, a4, a5, a6, a7, a8, a9⟩ = bD at *
 have HNBD := Hd (And.intro hb1 (And.intro hb2 hb3))
 clear hb1 hb2 hb3
 have c0 := HB0.out.a.cell
 go_enter Tryz.func94, Tryz.ntmps94
 have HR : Hid (stB (d + 1) (.node ⟨a0, a1, a2, a3, a4, a5, a6, a7, a8, a9⟩ ks) = false) := Hd (by rw [stB]; simp [g9, g10, g11, g12, g13, g14, g15, g16, g17])
 go_wp2
 go_ret
 exact ⟨by rw [HR.out]; rfl, HB0.out.bel⟩
end Go.Proofs.YthdbaligapdbeaaGreatDoor
