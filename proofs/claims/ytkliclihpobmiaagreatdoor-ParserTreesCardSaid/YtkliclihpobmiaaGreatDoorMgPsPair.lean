/- Lines, and the reference's Same: contracts. -/
import Derived.Test.YtkliclihpobmiaaGreatDoorMgPsSame
import Derived.Laws.StructEq
import Derived.StillTailTactics
import Derived.Deep.Cut
namespace Go.Proofs.YtkliclihpobmiaaGreatDoor
open Go Go.RowKit
set_option linter.unusedVariables false

def linesOK (t u : Tree) : Prop := ∀ (l1 : Lab) (x1 : Option Addr) (n1 k1 : Nat) (l2 : Lab) (x2 : Option Addr) (n2 k2 : Nat) (w : World), TreeAt w (fun _ => True) [.int .i64 l1.kind, .string (str l1.name), .int .u64 l1.num, .int .i64 l1.wd, .bool l1.sg, .int .i64 l1.op, .int .i64 l1.fac, .int .i64 l1.pip, .int .i64 l1.unr, .int .i64 l1.line, .slice x1 n1 k1] t → TreeAt w (fun _ => True) [.int .i64 l2.kind, .string (str l2.name), .int .u64 l2.num, .int .i64 l2.wd, .bool l2.sg, .int .i64 l2.op, .int .i64 l2.fac, .int .i64 l2.pip, .int .i64 l2.unr, .int .i64 l2.line, .slice x2 n2 k2] u →
 Calls Tryz.prog 14 #[.agg #[.int .i64 l1.kind, .string (str l1.name), .int .u64 l1.num, .int .i64 l1.wd, .bool l1.sg, .int .i64 l1.op, .int .i64 l1.fac, .int .i64 l1.pip, .int .i64 l1.unr, .int .i64 l1.line, .slice x1 n1 k1], .agg #[.int .i64 l2.kind, .string (str l2.name), .int .u64 l2.num, .int .i64 l2.wd, .bool l2.sg, .int .i64 l2.op, .int .i64 l2.fac, .int .i64 l2.pip, .int .i64 l2.unr, .int .i64 l2.line, .slice x2 n2 k2]] w fun e w' => e = .returned (.bool (lineT t u)) ∧ Below w.heap.size w w'
set_option maxHeartbeats 4000000 in
set_option maxRecDepth 100000 in
theorem lines_step (la lb : Lab) (ks us : List Tree) (ih : ∀ i, i < ks.length → i < us.length → linesOK (kat ks i) (kat us i)) : linesOK (.node la ks) (.node lb us) := by
 intro l1 x1 n1 k1 l2 x2 n2 k2 w hT hU
 obtain ⟨xk, kk, hcs, hnk, hkm, hkids⟩ := TreeAt.kids hT
 obtain ⟨xu, ku, hcu, hnu, hum, huids⟩ := TreeAt.kids hU
 obtain ⟨rfl, hv⟩ := lab_of (l := l1) (m := la) hcs
 obtain ⟨rfl, hv2⟩ := lab_of (l := l2) (m := lb) hcu
 simp only [Value.slice.injEq] at hv hv2
 obtain ⟨rfl, rfl, rfl⟩ := hv
 obtain ⟨rfl, rfl, rfl⟩ := hv2
 clear hT hU hcs hcu
 obtain ⟨a0, a1, a2, a3, a4, a5, a6, a7, a8, a9⟩ := l1
 obtain ⟨b0, b1, b2, b3, b4, b5, b6, b7, b8, b9⟩ := l2
 dsimp only at *
 have HK := Hd hkids
 have HU := Hd huids
 have HIH := Hd ih
 clear hkids huids ih
 unfold maxLen at hkm hum
 have hW : Below w.heap.size w ((w.alloc (.cells #[.int .i64 a0, .string (str a1), .int .u64 a2, .int .i64 a3, .bool a4, .int .i64 a5, .int .i64 a6, .int .i64 a7, .int .i64 a8, .int .i64 a9, .slice x1 ks.length k1] 28)).alloc (.cells #[.int .i64 b0, .string (str b1), .int .u64 b2, .int .i64 b3, .bool b4, .int .i64 b5, .int .i64 b6, .int .i64 b7, .int .i64 b8, .int .i64 b9, .slice x2 us.length k2] 28)) := ((Below.refl w.heap.size w).alloc (Nat.le_refl _) _).alloc (by simp) _
 have hb1 : ((w.alloc (.cells #[.int .i64 a0, .string (str a1), .int .u64 a2, .int .i64 a3, .bool a4, .int .i64 a5, .int .i64 a6, .int .i64 a7, .int .i64 a8, .int .i64 a9, .slice x1 ks.length k1] 28)).alloc (.cells #[.int .i64 b0, .string (str b1), .int .u64 b2, .int .i64 b3, .bool b4, .int .i64 b5, .int .i64 b6, .int .i64 b7, .int .i64 b8, .int .i64 b9, .slice x2 us.length k2] 28)).cell? ⟨w.heap.size, 10, none⟩ = some (.slice x1 ks.length k1) := by go_simp
 have hb2 : ((w.alloc (.cells #[.int .i64 a0, .string (str a1), .int .u64 a2, .int .i64 a3, .bool a4, .int .i64 a5, .int .i64 a6, .int .i64 a7, .int .i64 a8, .int .i64 a9, .slice x1 ks.length k1] 28)).alloc (.cells #[.int .i64 b0, .string (str b1), .int .u64 b2, .int .i64 b3, .bool b4, .int .i64 b5, .int .i64 b6, .int .i64 b7, .int .i64 b8, .int .i64 b9, .slice x2 us.length k2] 28)).cell? ⟨w.heap.size + 1, 10, none⟩ = some (.slice x2 us.length k2) := by go_simp
 have hlt : w.heap.size + 1 < ((w.alloc (.cells #[.int .i64 a0, .string (str a1), .int .u64 a2, .int .i64 a3, .bool a4, .int .i64 a5, .int .i64 a6, .int .i64 a7, .int .i64 a8, .int .i64 a9, .slice x1 ks.length k1] 28)).alloc (.cells #[.int .i64 b0, .string (str b1), .int .u64 b2, .int .i64 b3, .bool b4, .int .i64 b5, .int .i64 b6, .int .i64 b7, .int .i64 b8, .int .i64 b9, .slice x2 us.length k2] 28)).heap.size := by simp
 have HW := Hd hW
 have HB1 := Hd hb1
 have HB2 := Hd hb2
 clear hW hb1 hb2
 by_cases hl : a9 = b9
 rotate_left
 ·have q1 : (a9 == b9) = false := by rw [beq_eq_false_iff_ne]; exact hl
  go_enter Tryz.func14, Tryz.ntmps14
  go_wp2
  go_ret
  exact ⟨by rw [lineT_lab (a := ⟨a0, a1, a2, a3, a4, a5, a6, a7, a8, a9⟩) (b := ⟨b0, b1, b2, b3, b4, b5, b6, b7, b8, b9⟩) hl]; rfl, HW.out⟩
 subst hl
 by_cases hn : ks.length = us.length
 rotate_left
 ·have q1 : ((ks.length : Int) == (us.length : Int)) = false := by rw [beq_eq_false_iff_ne]; omega
  go_enter Tryz.func14, Tryz.ntmps14
  go_wp2
  go_ret
  exact ⟨by rw [lineT_len hn]; rfl, HW.out⟩
 generalize hNk2 : us.length = N2 at *
 generalize hNk : ks.length = N at *
 subst hn
 have HNK := Hd hNk
 have HN : Hid (ks.length = us.length) := Hd (hNk.trans hNk2.symm)
 have HN2 := Hd hNk2
 clear hNk hNk2
 go_enter Tryz.func14, Tryz.ntmps14
 go_wp2
 generalize ((w.alloc (.cells #[.int .i64 a0, .string (str a1), .int .u64 a2, .int .i64 a3, .bool a4, .int .i64 a5, .int .i64 a6, .int .i64 a7, .int .i64 a8, .int .i64 a9, .slice x1 N k1] 28)).alloc (.cells #[.int .i64 b0, .string (str b1), .int .u64 b2, .int .i64 b3, .bool b4, .int .i64 b5, .int .i64 b6, .int .i64 b7, .int .i64 b8, .int .i64 a9, .slice x2 N k2] 28)) = W2 at *
 have h0 : Hid (PairSt lineT W2 W2 ks us 0) := Hd ⟨fun i hi => by omega, Below.refl _ _⟩
 go_loopw [5] (fun i wr => ∃ j : Nat, j ≤ N ∧ i = .int .i64 (j : Int) ∧ Hid (PairSt lineT W2 wr ks us j)) (fun i _ => N - (intOf i).toNat)
 case atStart => exact ⟨0, by omega, rfl, h0⟩
 case round =>
  clear h0
  obtain ⟨j, hj, rfl, hX⟩ := hrel
  have hb1 : wr.cell? ⟨w.heap.size, 10, none⟩ = some (.slice x1 N k1) := (hX.out.bel.cell (p := ⟨w.heap.size, 10, none⟩) (by show w.heap.size < W2.heap.size; omega)).trans HB1.out
  have hb2 : wr.cell? ⟨w.heap.size + 1, 10, none⟩ = some (.slice x2 N k2) := (hX.out.bel.cell (p := ⟨w.heap.size + 1, 10, none⟩) (by exact hlt)).trans HB2.out
  have hbw := HW.out.trans (hX.out.bel.mono (by omega))
  have HBW := Hd hbw
  by_cases hjn : j < N
  ·obtain ⟨ad1, hxa, hab, hkid⟩ := HK.out j hjn
   obtain ⟨ad2, hxb, hab2, hkid2⟩ := HU.out j hjn
   subst hxa hxb
   obtain ⟨l3, x3, n3, k3, ⟨e0, e1, e2, e3, e4, e5, e6, e7, e8, e9, e10⟩, hT3⟩ := hkid.keep (w' := wr) (Q := fun _ => True) hab (fun g hg hl => hbw.block g hl) fun _ hg _ => trivial
   obtain ⟨l4, x4, n4, k4, ⟨f0, f1, f2, f3, f4, f5, f6, f7, f8, f9, f10⟩, hT4⟩ := hkid2.keep (w' := wr) (Q := fun _ => True) hab2 (fun g hg hl => hbw.block g hl) fun _ hg _ => trivial
   have hdr : Below wr.heap.size wr wr.drew := ⟨rfl, rfl, rfl, Nat.le_refl _, fun _ _ => rfl⟩
   have HC := Hd (HIH.out j hjn hjn l3 x3 n3 k3 l4 x4 n4 k4 wr.drew (hT3.keep (fun g _ hl => hdr.block g hl) fun _ _ _ => trivial) (hT4.keep (fun g _ hl => hdr.block g hl) fun _ _ _ => trivial))
   have hj0 : (0 : Int) ≤ (j : Int) := by omega
   have hj1 : (j : Int) < (N : Int) := by omega
   clear hT3 hT4 hkid hkid2 hbw
   have HX := Hd hX.out
   clear hX
   go_upto_region 6 with fail
   go_still_tail 10, (by kernel_rfl)
   go_wp2_with fail
   refine HC.out.mono ?_
   rintro e w5 ⟨rfl, hb5⟩
   have HB5 := Hd (HX.out.bel.trans ((hdr.trans hb5).mono HX.out.bel.size))
   clear hb5 HC
   cases hq : lineT (kat ks j) (kat us j) with
   | true =>
    have HX2 : Hid (PairSt lineT W2 w5 ks us (j + 1)) := Hd ⟨fun i hi => by
     by_cases e : i = j
     ·subst e; exact hq
     ·exact HX.out.all i (by omega), HB5.out⟩
    clear hq HX
    go_wp2
    go_roundw
    case rel => exact ⟨j + 1, by omega, by go_num, HX2⟩
    case measure => simp [intOf]; omega
   | false =>
    have HR : Hid (lineT (.node ⟨a0, a1, a2, a3, a4, a5, a6, a7, a8, a9⟩ ks) (.node ⟨b0, b1, b2, b3, b4, b5, b6, b7, b8, a9⟩ us) = false) := Hd (lineT_kid (i := j) (by rw [HNK.out]; exact hjn) hq)
    clear hq HX
    go_wp2
    go_ret
    exact ⟨by rw [HR.out]; rfl, HW.out.trans (HB5.out.mono (by omega))⟩
  ·obtain rfl : j = N := by omega
   have HR : lineT (.node ⟨a0, a1, a2, a3, a4, a5, a6, a7, a8, a9⟩ ks) (.node ⟨b0, b1, b2, b3, b4, b5, b6, b7, b8, a9⟩ us) = true := lineT_all rfl HN.out (fun i hi => hX.out.all i (by rw [← HNK.out]; exact hi))
   have HR := Hd HR
   clear hX
   go_wp2
   go_ret
   exact ⟨by rw [HR.out]; rfl, HBW.out⟩

theorem lines_any : ∀ d t u, depth t ≤ d → linesOK t u := by
 intro d
 induction d with
 | zero => intro t u h; obtain ⟨lt, ks⟩ := t; rw [depth] at h; omega
 | succ d ih =>
  intro t u h
  obtain ⟨lt, ks⟩ := t
  obtain ⟨lu, us⟩ := u
  refine lines_step lt lu ks us fun i hi _ => ih _ _ ?_
  have := depth_kat hi
  rw [depth] at h
  omega

def rSameOK (t u : Tree) : Prop := ∀ (l1 : Lab) (x1 : Option Addr) (n1 k1 : Nat) (l2 : Lab) (x2 : Option Addr) (n2 k2 : Nat) (w : World), TreeAt w (fun _ => True) [.int .i64 l1.kind, .string (str l1.name), .int .u64 l1.num, .int .i64 l1.wd, .bool l1.sg, .int .i64 l1.op, .int .i64 l1.fac, .int .i64 l1.pip, .int .i64 l1.unr, .int .i64 l1.line, .slice x1 n1 k1] t → TreeAt w (fun _ => True) [.int .i64 l2.kind, .string (str l2.name), .int .u64 l2.num, .int .i64 l2.wd, .bool l2.sg, .int .i64 l2.op, .int .i64 l2.fac, .int .i64 l2.pip, .int .i64 l2.unr, .int .i64 l2.line, .slice x2 n2 k2] u →
 Calls Tryz.prog 13 #[.agg #[.int .i64 l1.kind, .string (str l1.name), .int .u64 l1.num, .int .i64 l1.wd, .bool l1.sg, .int .i64 l1.op, .int .i64 l1.fac, .int .i64 l1.pip, .int .i64 l1.unr, .int .i64 l1.line, .slice x1 n1 k1], .agg #[.int .i64 l2.kind, .string (str l2.name), .int .u64 l2.num, .int .i64 l2.wd, .bool l2.sg, .int .i64 l2.op, .int .i64 l2.fac, .int .i64 l2.pip, .int .i64 l2.unr, .int .i64 l2.line, .slice x2 n2 k2]] w fun e w' => e = .returned (.bool (sameT t u)) ∧ Below w.heap.size w w'
set_option maxHeartbeats 4000000 in
set_option maxRecDepth 100000 in
theorem rSame_step (la lb : Lab) (ks us : List Tree) (ih : ∀ i, i < ks.length → i < us.length → rSameOK (kat ks i) (kat us i)) : rSameOK (.node la ks) (.node lb us) := by
 intro l1 x1 n1 k1 l2 x2 n2 k2 w hT hU
 obtain ⟨xk, kk, hcs, hnk, hkm, hkids⟩ := TreeAt.kids hT
 obtain ⟨xu, ku, hcu, hnu, hum, huids⟩ := TreeAt.kids hU
 obtain ⟨rfl, hv⟩ := lab_of (l := l1) (m := la) hcs
 obtain ⟨rfl, hv2⟩ := lab_of (l := l2) (m := lb) hcu
 simp only [Value.slice.injEq] at hv hv2
 obtain ⟨rfl, rfl, rfl⟩ := hv
 obtain ⟨rfl, rfl, rfl⟩ := hv2
 clear hT hU hcs hcu
 obtain ⟨a0, a1, a2, a3, a4, a5, a6, a7, a8, a9⟩ := l1
 obtain ⟨b0, b1, b2, b3, b4, b5, b6, b7, b8, b9⟩ := l2
 dsimp only at *
 have HK := Hd hkids
 have HU := Hd huids
 have HIH := Hd ih
 clear hkids huids ih
 unfold maxLen at hkm hum
 have hW : Below w.heap.size w ((w.alloc (.cells #[.int .i64 a0, .string (str a1), .int .u64 a2, .int .i64 a3, .bool a4, .int .i64 a5, .int .i64 a6, .int .i64 a7, .int .i64 a8, .int .i64 a9, .slice x1 ks.length k1] 28)).alloc (.cells #[.int .i64 b0, .string (str b1), .int .u64 b2, .int .i64 b3, .bool b4, .int .i64 b5, .int .i64 b6, .int .i64 b7, .int .i64 b8, .int .i64 b9, .slice x2 us.length k2] 28)) := ((Below.refl w.heap.size w).alloc (Nat.le_refl _) _).alloc (by simp) _
 have hb1 : ((w.alloc (.cells #[.int .i64 a0, .string (str a1), .int .u64 a2, .int .i64 a3, .bool a4, .int .i64 a5, .int .i64 a6, .int .i64 a7, .int .i64 a8, .int .i64 a9, .slice x1 ks.length k1] 28)).alloc (.cells #[.int .i64 b0, .string (str b1), .int .u64 b2, .int .i64 b3, .bool b4, .int .i64 b5, .int .i64 b6, .int .i64 b7, .int .i64 b8, .int .i64 b9, .slice x2 us.length k2] 28)).cell? ⟨w.heap.size, 10, none⟩ = some (.slice x1 ks.length k1) := by go_simp
 have hb2 : ((w.alloc (.cells #[.int .i64 a0, .string (str a1), .int .u64 a2, .int .i64 a3, .bool a4, .int .i64 a5, .int .i64 a6, .int .i64 a7, .int .i64 a8, .int .i64 a9, .slice x1 ks.length k1] 28)).alloc (.cells #[.int .i64 b0, .string (str b1), .int .u64 b2, .int .i64 b3, .bool b4, .int .i64 b5, .int .i64 b6, .int .i64 b7, .int .i64 b8, .int .i64 b9, .slice x2 us.length k2] 28)).cell? ⟨w.heap.size + 1, 10, none⟩ = some (.slice x2 us.length k2) := by go_simp
 have hlt : w.heap.size + 1 < ((w.alloc (.cells #[.int .i64 a0, .string (str a1), .int .u64 a2, .int .i64 a3, .bool a4, .int .i64 a5, .int .i64 a6, .int .i64 a7, .int .i64 a8, .int .i64 a9, .slice x1 ks.length k1] 28)).alloc (.cells #[.int .i64 b0, .string (str b1), .int .u64 b2, .int .i64 b3, .bool b4, .int .i64 b5, .int .i64 b6, .int .i64 b7, .int .i64 b8, .int .i64 b9, .slice x2 us.length k2] 28)).heap.size := by simp
 have HW := Hd hW
 have HB1 := Hd hb1
 have HB2 := Hd hb2
 clear hW hb1 hb2
 by_cases hl : a0 = b0
 rotate_left
 ·have HS : Hid (sameT (.node ⟨a0, a1, a2, a3, a4, a5, a6, a7, a8, a9⟩ ks) (.node ⟨b0, b1, b2, b3, b4, b5, b6, b7, b8, b9⟩ us) = false) := Hd (sameT_lab (Bool.eq_false_iff.2 fun h => hl (sameL_iff.1 h).1))
  have q1 : (a0 == b0) = false := by rw [beq_eq_false_iff_ne]; exact hl
  go_enter Tryz.func13, Tryz.ntmps13
  go_wp2
  go_ret
  exact ⟨by rw [HS.out]; rfl, HW.out⟩
 subst hl
 by_cases hl : a1 = b1
 rotate_left
 ·have HS : Hid (sameT (.node ⟨a0, a1, a2, a3, a4, a5, a6, a7, a8, a9⟩ ks) (.node ⟨a0, b1, b2, b3, b4, b5, b6, b7, b8, b9⟩ us) = false) := Hd (sameT_lab (Bool.eq_false_iff.2 fun h => hl (sameL_iff.1 h).2.1))
  have q1 : ¬ (str a1).toList = (str b1).toList := by rw [str_toList, str_toList]; exact hl
  go_enter Tryz.func13, Tryz.ntmps13
  go_wp2
  go_ret
  exact ⟨by rw [HS.out]; rfl, HW.out⟩
 subst hl
 by_cases hl : a2 = b2
 rotate_left
 ·have HS : Hid (sameT (.node ⟨a0, a1, a2, a3, a4, a5, a6, a7, a8, a9⟩ ks) (.node ⟨a0, a1, b2, b3, b4, b5, b6, b7, b8, b9⟩ us) = false) := Hd (sameT_lab (Bool.eq_false_iff.2 fun h => hl (sameL_iff.1 h).2.2.1))
  have q1 : (a2 == b2) = false := by rw [beq_eq_false_iff_ne]; exact hl
  go_enter Tryz.func13, Tryz.ntmps13
  go_wp2
  go_ret
  exact ⟨by rw [HS.out]; rfl, HW.out⟩
 subst hl
 by_cases hl : a3 = b3
 rotate_left
 ·have HS : Hid (sameT (.node ⟨a0, a1, a2, a3, a4, a5, a6, a7, a8, a9⟩ ks) (.node ⟨a0, a1, a2, b3, b4, b5, b6, b7, b8, b9⟩ us) = false) := Hd (sameT_lab (Bool.eq_false_iff.2 fun h => hl (sameL_iff.1 h).2.2.2.1))
  have q1 : (a3 == b3) = false := by rw [beq_eq_false_iff_ne]; exact hl
  go_enter Tryz.func13, Tryz.ntmps13
  go_wp2
  go_ret
  exact ⟨by rw [HS.out]; rfl, HW.out⟩
 subst hl
 by_cases hl : a4 = b4
 rotate_left
 ·have HS : Hid (sameT (.node ⟨a0, a1, a2, a3, a4, a5, a6, a7, a8, a9⟩ ks) (.node ⟨a0, a1, a2, a3, b4, b5, b6, b7, b8, b9⟩ us) = false) := Hd (sameT_lab (Bool.eq_false_iff.2 fun h => hl (sameL_iff.1 h).2.2.2.2.1))
  have q1 : (a4 == b4) = false := by rw [beq_eq_false_iff_ne]; exact hl
  go_enter Tryz.func13, Tryz.ntmps13
  go_wp2
  go_ret
  exact ⟨by rw [HS.out]; rfl, HW.out⟩
 subst hl
 by_cases hl : a5 = b5
 rotate_left
 ·have HS : Hid (sameT (.node ⟨a0, a1, a2, a3, a4, a5, a6, a7, a8, a9⟩ ks) (.node ⟨a0, a1, a2, a3, a4, b5, b6, b7, b8, b9⟩ us) = false) := Hd (sameT_lab (Bool.eq_false_iff.2 fun h => hl (sameL_iff.1 h).2.2.2.2.2.1))
  have q1 : (a5 == b5) = false := by rw [beq_eq_false_iff_ne]; exact hl
  go_enter Tryz.func13, Tryz.ntmps13
  go_wp2
  go_ret
  exact ⟨by rw [HS.out]; rfl, HW.out⟩
 subst hl
 by_cases hl : a6 = b6
 rotate_left
 ·have HS : Hid (sameT (.node ⟨a0, a1, a2, a3, a4, a5, a6, a7, a8, a9⟩ ks) (.node ⟨a0, a1, a2, a3, a4, a5, b6, b7, b8, b9⟩ us) = false) := Hd (sameT_lab (Bool.eq_false_iff.2 fun h => hl (sameL_iff.1 h).2.2.2.2.2.2.1))
  have q1 : (a6 == b6) = false := by rw [beq_eq_false_iff_ne]; exact hl
  go_enter Tryz.func13, Tryz.ntmps13
  go_wp2
  go_ret
  exact ⟨by rw [HS.out]; rfl, HW.out⟩
 subst hl
 by_cases hl : a7 = b7
 rotate_left
 ·have HS : Hid (sameT (.node ⟨a0, a1, a2, a3, a4, a5, a6, a7, a8, a9⟩ ks) (.node ⟨a0, a1, a2, a3, a4, a5, a6, b7, b8, b9⟩ us) = false) := Hd (sameT_lab (Bool.eq_false_iff.2 fun h => hl (sameL_iff.1 h).2.2.2.2.2.2.2.1))
  have q1 : (a7 == b7) = false := by rw [beq_eq_false_iff_ne]; exact hl
  go_enter Tryz.func13, Tryz.ntmps13
  go_wp2
  go_ret
  exact ⟨by rw [HS.out]; rfl, HW.out⟩
 subst hl
 by_cases hl : a8 = b8
 rotate_left
 ·have HS : Hid (sameT (.node ⟨a0, a1, a2, a3, a4, a5, a6, a7, a8, a9⟩ ks) (.node ⟨a0, a1, a2, a3, a4, a5, a6, a7, b8, b9⟩ us) = false) := Hd (sameT_lab (Bool.eq_false_iff.2 fun h => hl (sameL_iff.1 h).2.2.2.2.2.2.2.2))
  have q1 : (a8 == b8) = false := by rw [beq_eq_false_iff_ne]; exact hl
  go_enter Tryz.func13, Tryz.ntmps13
  go_wp2
  go_ret
  exact ⟨by rw [HS.out]; rfl, HW.out⟩
 subst hl
 by_cases hn : ks.length = us.length
 rotate_left
 ·have q1 : ((ks.length : Int) == (us.length : Int)) = false := by rw [beq_eq_false_iff_ne]; omega
  go_enter Tryz.func13, Tryz.ntmps13
  go_wp2
  go_ret
  exact ⟨by rw [sameT_len hn]; rfl, HW.out⟩
 generalize hNk2 : us.length = N2 at *
 generalize hNk : ks.length = N at *
 subst hn
 have HNK := Hd hNk
 have HN : Hid (ks.length = us.length) := Hd (hNk.trans hNk2.symm)
 have HN2 := Hd hNk2
 clear hNk hNk2
 go_enter Tryz.func13, Tryz.ntmps13
 go_wp2
 generalize ((w.alloc (.cells #[.int .i64 a0, .string (str a1), .int .u64 a2, .int .i64 a3, .bool a4, .int .i64 a5, .int .i64 a6, .int .i64 a7, .int .i64 a8, .int .i64 a9, .slice x1 N k1] 28)).alloc (.cells #[.int .i64 a0, .string (str a1), .int .u64 a2, .int .i64 a3, .bool a4, .int .i64 a5, .int .i64 a6, .int .i64 a7, .int .i64 a8, .int .i64 b9, .slice x2 N k2] 28)) = W2 at *
 have h0 : Hid (PairSt sameT W2 W2 ks us 0) := Hd ⟨fun i hi => by omega, Below.refl _ _⟩
 go_loopw [5] (fun i wr => ∃ j : Nat, j ≤ N ∧ i = .int .i64 (j : Int) ∧ Hid (PairSt sameT W2 wr ks us j)) (fun i _ => N - (intOf i).toNat)
 case atStart => exact ⟨0, by omega, rfl, h0⟩
 case round =>
  clear h0
  obtain ⟨j, hj, rfl, hX⟩ := hrel
  have hb1 : wr.cell? ⟨w.heap.size, 10, none⟩ = some (.slice x1 N k1) := (hX.out.bel.cell (p := ⟨w.heap.size, 10, none⟩) (by show w.heap.size < W2.heap.size; omega)).trans HB1.out
  have hb2 : wr.cell? ⟨w.heap.size + 1, 10, none⟩ = some (.slice x2 N k2) := (hX.out.bel.cell (p := ⟨w.heap.size + 1, 10, none⟩) (by exact hlt)).trans HB2.out
  have hbw := HW.out.trans (hX.out.bel.mono (by omega))
  have HBW := Hd hbw
  by_cases hjn : j < N
  ·obtain ⟨ad1, hxa, hab, hkid⟩ := HK.out j hjn
   obtain ⟨ad2, hxb, hab2, hkid2⟩ := HU.out j hjn
   subst hxa hxb
   obtain ⟨l3, x3, n3, k3, ⟨e0, e1, e2, e3, e4, e5, e6, e7, e8, e9, e10⟩, hT3⟩ := hkid.keep (w' := wr) (Q := fun _ => True) hab (fun g hg hl => hbw.block g hl) fun _ hg _ => trivial
   obtain ⟨l4, x4, n4, k4, ⟨f0, f1, f2, f3, f4, f5, f6, f7, f8, f9, f10⟩, hT4⟩ := hkid2.keep (w' := wr) (Q := fun _ => True) hab2 (fun g hg hl => hbw.block g hl) fun _ hg _ => trivial
   have hdr : Below wr.heap.size wr wr.drew := ⟨rfl, rfl, rfl, Nat.le_refl _, fun _ _ => rfl⟩
   have HC := Hd (HIH.out j hjn hjn l3 x3 n3 k3 l4 x4 n4 k4 wr.drew (hT3.keep (fun g _ hl => hdr.block g hl) fun _ _ _ => trivial) (hT4.keep (fun g _ hl => hdr.block g hl) fun _ _ _ => trivial))
   have hj0 : (0 : Int) ≤ (j : Int) := by omega
   have hj1 : (j : Int) < (N : Int) := by omega
   clear hT3 hT4 hkid hkid2 hbw
   have HX := Hd hX.out
   clear hX
   go_upto_region 6 with fail
   go_still_tail 10, (by kernel_rfl)
   go_wp2_with fail
   refine HC.out.mono ?_
   rintro e w5 ⟨rfl, hb5⟩
   have HB5 := Hd (HX.out.bel.trans ((hdr.trans hb5).mono HX.out.bel.size))
   clear hb5 HC
   cases hq : sameT (kat ks j) (kat us j) with
   | true =>
    have HX2 : Hid (PairSt sameT W2 w5 ks us (j + 1)) := Hd ⟨fun i hi => by
     by_cases e : i = j
     ·subst e; exact hq
     ·exact HX.out.all i (by omega), HB5.out⟩
    clear hq HX
    go_wp2
    go_roundw
    case rel => exact ⟨j + 1, by omega, by go_num, HX2⟩
    case measure => simp [intOf]; omega
   | false =>
    have HR : Hid (sameT (.node ⟨a0, a1, a2, a3, a4, a5, a6, a7, a8, a9⟩ ks) (.node ⟨a0, a1, a2, a3, a4, a5, a6, a7, a8, b9⟩ us) = false) := Hd (sameT_kid (i := j) (by rw [HNK.out]; exact hjn) hq)
    clear hq HX
    go_wp2
    go_ret
    exact ⟨by rw [HR.out]; rfl, HW.out.trans (HB5.out.mono (by omega))⟩
  ·obtain rfl : j = N := by omega
   have HR : sameT (.node ⟨a0, a1, a2, a3, a4, a5, a6, a7, a8, a9⟩ ks) (.node ⟨a0, a1, a2, a3, a4, a5, a6, a7, a8, b9⟩ us) = true := sameT_all (sameL_iff.2 ⟨rfl, rfl, rfl, rfl, rfl, rfl, rfl, rfl, rfl⟩) HN.out (fun i hi => hX.out.all i (by rw [← HNK.out]; exact hi))
   have HR := Hd HR
   clear hX
   go_wp2
   go_ret
   exact ⟨by rw [HR.out]; rfl, HBW.out⟩

theorem rSame_any : ∀ d t u, depth t ≤ d → rSameOK t u := by
 intro d
 induction d with
 | zero => intro t u h; obtain ⟨lt, ks⟩ := t; rw [depth] at h; omega
 | succ d ih =>
  intro t u h
  obtain ⟨lt, ks⟩ := t
  obtain ⟨lu, us⟩ := u
  refine rSame_step lt lu ks us fun i hi _ => ih _ _ ?_
  have := depth_kat hi
  rw [depth] at h
  omega
end Go.Proofs.YtkliclihpobmiaaGreatDoor
