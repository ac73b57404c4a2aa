/- The code's Same: contract. -/
import Derived.Test.YtfnhogeocbndcaaGreatDoorMgPsPair
import Derived.Laws.EntriesVeiled
import Derived.Deep.RegionHeld3
import Derived.Test.YtfnhogeocbndcaaGreatDoorMgPsKid
import Derived.Deep.AppendLies
namespace Go.Proofs.YtfnhogeocbndcaaGreatDoor
open Go Go.RowKit
set_option linter.unusedVariables false

theorem infoLb : (Tryz.prog.info? 74).map (·.size) = some 9 := by kernel_rfl
set_option maxHeartbeats 1000000 in
set_option maxRecDepth 100000 in
theorem labelOf_any (l : Lab) (x : Option Addr) (n k : Nat) (w : World) :
    Calls Tryz.prog 50 #[.agg #[.int .i64 l.kind, .string (str l.name), .int .u64 l.num, .int .i64 l.wd, .bool l.sg, .int .i64 l.op, .int .i64 l.fac, .int .i64 l.pip, .int .i64 l.unr, .int .i64 l.line, .slice x n k]] w fun e w' => e = .returned (.agg #[.int .i64 l.kind, .string (str l.name), .int .u64 l.num, .int .i64 l.wd, .bool l.sg, .int .i64 l.op, .int .i64 l.fac, .int .i64 l.pip, .int .i64 l.unr]) ∧ Below w.heap.size w w' := by
  have hB := Blk.alloc (w.alloc (.cells #[.int .i64 l.kind, .string (str l.name), .int .u64 l.num, .int .i64 l.wd, .bool l.sg, .int .i64 l.op, .int .i64 l.fac, .int .i64 l.pip, .int .i64 l.unr, .int .i64 l.line, .slice x n k] 28)) 74 [.int .i64 l.kind, .string (str l.name), .int .u64 l.num, .int .i64 l.wd, .bool l.sg, .int .i64 l.op, .int .i64 l.fac, .int .i64 l.pip, .int .i64 l.unr]
  have hs : (w.alloc (.cells #[.int .i64 l.kind, .string (str l.name), .int .u64 l.num, .int .i64 l.wd, .bool l.sg, .int .i64 l.op, .int .i64 l.fac, .int .i64 l.pip, .int .i64 l.unr, .int .i64 l.line, .slice x n k] 28)).heap.size = w.heap.size + 1 := by simp
  rw [hs] at hB
  have HB := Lib.hid hB
  clear hB hs
  go_enter Tryz.func50, Tryz.ntmps50
  go_wp2
  refine bodyPost_ret (HB.out.res1 Tryz.results50 Tryz.underlying74 rfl infoLb _ rfl) rfl ?_
  exact ⟨rfl, ((Below.refl w.heap.size w).alloc (Nat.le_refl _) _).alloc (by simp) _⟩

def sameOK (t u : Tree) : Prop := ∀ (l1 : Lab) (x1 : Option Addr) (n1 k1 : Nat) (l2 : Lab) (x2 : Option Addr) (n2 k2 : Nat) (w : World), TreeAt w (fun _ => True) [.int .i64 l1.kind, .string (str l1.name), .int .u64 l1.num, .int .i64 l1.wd, .bool l1.sg, .int .i64 l1.op, .int .i64 l1.fac, .int .i64 l1.pip, .int .i64 l1.unr, .int .i64 l1.line, .slice x1 n1 k1] t → TreeAt w (fun _ => True) [.int .i64 l2.kind, .string (str l2.name), .int .u64 l2.num, .int .i64 l2.wd, .bool l2.sg, .int .i64 l2.op, .int .i64 l2.fac, .int .i64 l2.pip, .int .i64 l2.unr, .int .i64 l2.line, .slice x2 n2 k2] u →
  Calls Tryz.prog 23 #[.agg #[.int .i64 l1.kind, .string (str l1.name), .int .u64 l1.num, .int .i64 l1.wd, .bool l1.sg, .int .i64 l1.op, .int .i64 l1.fac, .int .i64 l1.pip, .int .i64 l1.unr, .int .i64 l1.line, .slice x1 n1 k1], .agg #[.int .i64 l2.kind, .string (str l2.name), .int .u64 l2.num, .int .i64 l2.wd, .bool l2.sg, .int .i64 l2.op, .int .i64 l2.fac, .int .i64 l2.pip, .int .i64 l2.unr, .int .i64 l2.line, .slice x2 n2 k2]] w fun e w' => e = .returned (.bool (sameT t u)) ∧ Below w.heap.size w w'
theorem sameTs_len {ks us : List Tree} (h : ks.length ≠ us.length) : sameTs ks us = false := Bool.eq_false_iff.2 fun k => h ((sameTs_iff ks us).1 k).1
theorem sameTs_kid {ks us : List Tree} {i : Nat} (hi : i < ks.length) (h : sameT (kat ks i) (kat us i) = false) : sameTs ks us = false := Bool.eq_false_iff.2 fun k => by rw [((sameTs_iff ks us).1 k).2 i hi] at h; cases h

set_option maxHeartbeats 4000000 in
set_option maxRecDepth 100000 in
theorem eqf_any (ks us : List Tree) (ih : ∀ i, i < ks.length → i < us.length → sameOK (kat ks i) (kat us i)) (x1 x2 : Option Addr) (k1 k2 : Nat) (w : World) (hk1 : ks.length ≤ k1) (hk2 : k1 ≤ maxLen) (hu1 : us.length ≤ k2) (hu2 : k2 ≤ maxLen)
    (hkids : ∀ i (hi : i < ks.length), ∃ a, x1 = some a ∧ True ∧ KidAt w (fun _ => True) a i (kat ks i)) (huids : ∀ i (hi : i < us.length), ∃ a, x2 = some a ∧ True ∧ KidAt w (fun _ => True) a i (kat us i)) :
    Calls Tryz.prog 51 #[.slice x1 ks.length k1, .slice x2 us.length k2, .func (Fn.func 23) #[] #[]] w fun e w' => e = .returned (.bool (sameTs ks us)) ∧ Below w.heap.size w w' := by
  have HK := Lib.hid hkids
  have HU := Lib.hid huids
  have HIH := Lib.hid ih
  clear hkids huids ih
  unfold maxLen at hk2 hu2
  by_cases hn : ks.length = us.length
  rotate_left
  · have q1 : ((ks.length : Int) == (us.length : Int)) = false := by rw [beq_eq_false_iff_ne]; omega
    go_enter Tryz.func51, Tryz.ntmps51
    go_wp2
    go_ret
    exact ⟨by rw [sameTs_len hn]; rfl, Below.refl _ _⟩
  generalize hNk2 : us.length = N2 at *
  generalize hNk : ks.length = N at *
  subst hn
  have HNK := Lib.hid hNk
  have HN : Hid (ks.length = us.length) := Lib.hid (hNk.trans hNk2.symm)
  clear hNk hNk2
  have h0 : Hid (PairSt sameT w w ks us 0) := Lib.hid ⟨fun i hi => by omega, Below.refl _ _⟩
  go_enter Tryz.func51, Tryz.ntmps51
  go_wp2
  go_loopw [17] (fun i wr => ∃ j : Nat, j ≤ N ∧ i = .int .i64 (j : Int) ∧ Hid (PairSt sameT w wr ks us j)) (fun i _ => N - (intOf i).toNat)
  case atStart => exact ⟨0, by omega, rfl, h0⟩
  case round =>
    clear h0
    obtain ⟨j, hj, rfl, hX⟩ := hrel
    by_cases hjn : j < N
    · obtain ⟨ad1, hxa, hab, hkid⟩ := HK.out j hjn
      obtain ⟨ad2, hxb, hab2, hkid2⟩ := HU.out j hjn
      subst hxa hxb
      have hbw := hX.out.bel
      obtain ⟨l3, x3, n3, k3, ⟨e0, e1, e2, e3, e4, e5, e6, e7, e8, e9, e10⟩, hT3⟩ := hkid.keep (w' := wr) (Q := fun _ => True) hab (fun g hg hl => hbw.block g hl) fun _ hg _ => trivial
      obtain ⟨l4, x4, n4, k4, f, hT4⟩ := hkid2.keep (w' := wr.alloc (.cells #[.int .i64 l3.kind, .string (str l3.name), .int .u64 l3.num, .int .i64 l3.wd, .bool l3.sg, .int .i64 l3.op, .int .i64 l3.fac, .int .i64 l3.pip, .int .i64 l3.unr, .int .i64 l3.line, .slice x3 n3 k3] 28)) (Q := fun _ => True) hab2 (fun g hg hl => (hbw.alloc hbw.size _).block g hl) fun _ hg _ => trivial
      obtain ⟨f0, f1, f2, f3, f4, f5, f6, f7, f8, f9, f10⟩ := f
      have hB4 := (hbw.alloc hbw.size (.cells #[.int .i64 l3.kind, .string (str l3.name), .int .u64 l3.num, .int .i64 l3.wd, .bool l3.sg, .int .i64 l3.op, .int .i64 l3.fac, .int .i64 l3.pip, .int .i64 l3.unr, .int .i64 l3.line, .slice x3 n3 k3] 28)).alloc (by simp; exact Nat.le_trans hbw.size (Nat.le_succ _)) (.cells #[.int .i64 l4.kind, .string (str l4.name), .int .u64 l4.num, .int .i64 l4.wd, .bool l4.sg, .int .i64 l4.op, .int .i64 l4.fac, .int .i64 l4.pip, .int .i64 l4.unr, .int .i64 l4.line, .slice x4 n4 k4] 28)
      have hT3' := hT3.keep (w' := (wr.alloc (.cells #[.int .i64 l3.kind, .string (str l3.name), .int .u64 l3.num, .int .i64 l3.wd, .bool l3.sg, .int .i64 l3.op, .int .i64 l3.fac, .int .i64 l3.pip, .int .i64 l3.unr, .int .i64 l3.line, .slice x3 n3 k3] 28)).alloc (.cells #[.int .i64 l4.kind, .string (str l4.name), .int .u64 l4.num, .int .i64 l4.wd, .bool l4.sg, .int .i64 l4.op, .int .i64 l4.fac, .int .i64 l4.pip, .int .i64 l4.unr, .int .i64 l4.line, .slice x4 n4 k4] 28)) (Q := fun _ => True) (fun g _ hl => (((Below.refl wr.heap.size wr).alloc (Nat.le_refl _) _).alloc (by simp) _).block g hl) fun _ _ _ => trivial
      have hT4' := hT4.keep (w' := (wr.alloc (.cells #[.int .i64 l3.kind, .string (str l3.name), .int .u64 l3.num, .int .i64 l3.wd, .bool l3.sg, .int .i64 l3.op, .int .i64 l3.fac, .int .i64 l3.pip, .int .i64 l3.unr, .int .i64 l3.line, .slice x3 n3 k3] 28)).alloc (.cells #[.int .i64 l4.kind, .string (str l4.name), .int .u64 l4.num, .int .i64 l4.wd, .bool l4.sg, .int .i64 l4.op, .int .i64 l4.fac, .int .i64 l4.pip, .int .i64 l4.unr, .int .i64 l4.line, .slice x4 n4 k4] 28)) (Q := fun _ => True) (fun g _ hl => Below.heap_alloc _ _ g hl) fun _ _ _ => trivial
      have HC := Lib.hid (HIH.out j hjn hjn l3 x3 n3 k3 l4 x4 n4 k4 _ hT3' hT4')
      have HB4 := Lib.hid hB4
      have HX := Lib.hid hX.out
      have hj0 : (0 : Int) ≤ (j : Int) := by omega
      have hj1 : (j : Int) < (N : Int) := by omega
      clear hT3 hT4 hkid hkid2 hbw hT3' hT4' hB4 hX
      go_wp2_with fail
      refine HC.out.mono ?_
      rintro e w5 ⟨rfl, hb5⟩
      have HB5 := Lib.hid (HB4.out.trans (hb5.mono HB4.out.size))
      clear hb5 HC HB4
      cases hq : sameT (kat ks j) (kat us j) with
      | true =>
        have HX2 : Hid (PairSt sameT w w5 ks us (j + 1)) := Lib.hid ⟨fun i hi => by
          by_cases e : i = j
          · subst e; exact hq
          · exact HX.out.all i (by omega), HB5.out⟩
        clear hq HX
        go_wp2
        go_roundw
        case rel => exact ⟨j + 1, by omega, by go_num, HX2⟩
        case measure => simp [intOf]; omega
      | false =>
        have HR : Hid (sameTs ks us = false) := Lib.hid (sameTs_kid (i := j) (by rw [HNK.out]; exact hjn) hq)
        clear hq HX
        go_wp2
        go_ret
        exact ⟨by rw [HR.out]; rfl, HB5.out⟩
    · obtain rfl : j = N := by omega
      have HR : Hid (sameTs ks us = true) := Lib.hid ((sameTs_iff ks us).2 ⟨HN.out, fun i hi => hX.out.all i (by rw [← HNK.out]; exact hi)⟩)
      have HB := Lib.hid hX.out.bel
      clear hX
      go_wp2
      go_ret
      exact ⟨by rw [HR.out]; rfl, HB.out⟩

theorem keepE {W2 w' w'' : World} (h : Below W2.heap.size W2 w') (hb : Below w'.heap.size w' w'') : Below W2.heap.size W2 w'' := h.trans (hb.mono h.size)
theorem keepB {q0 q1 : Prop} {W2 w' : World} (h : q0 ∧ q1 ∧ Hid (Below W2.heap.size W2 w')) : Below W2.heap.size W2 w' := h.2.2.out
theorem keepC {q0 q1 : Prop} {W2 w' w'' : World} (h : q0 ∧ q1 ∧ Hid (Below W2.heap.size W2 w')) (hb : Below w'.heap.size w' w'') : Below W2.heap.size W2 w'' := (keepB h).trans (hb.mono (keepB h).size)
theorem keepD {q0 q1 : Prop} {W2 w' : World} (h : q0 ∧ q1 ∧ Hid (Below W2.heap.size W2 w')) : Below W2.heap.size W2 w'.drew := (keepB h).drew
set_option maxHeartbeats 400000 in
set_option maxRecDepth 100000 in
theorem lab_eq (a0 : Int) (a1 : List UInt8) (a2 a3 : Int) (a4 : Bool) (a5 a6 a7 a8 : Int) (b0 : Int) (b1 : List UInt8) (b2 b3 : Int) (b4 : Bool) (b5 b6 b7 b8 : Int) (hne : ¬ (a0 = b0 ∧ a1 = b1 ∧ a2 = b2 ∧ a3 = b3 ∧ a4 = b4 ∧ a5 = b5 ∧ a6 = b6 ∧ a7 = b7 ∧ a8 = b8)) (W : World) :
    (binOp .eql 74 (.agg #[.int .i64 a0, .string (str a1), .int .u64 a2, .int .i64 a3, .bool a4, .int .i64 a5, .int .i64 a6, .int .i64 a7, .int .i64 a8]) (.agg #[.int .i64 b0, .string (str b1), .int .u64 b2, .int .i64 b3, .bool b4, .int .i64 b5, .int .i64 b6, .int .i64 b7, .int .i64 b8])).run Tryz.prog W = .ok (.bool false) W := by
  go_simp
  rw [str_toList, str_toList]
  intro h0 h1 h2 h3 h4 h5 h6 h7 h8
  exact hne ⟨h0, h1, h2, h3, h4, h5, h6, h7, h8⟩
end Go.Proofs.YtfnhogeocbndcaaGreatDoor
/- The code's Same: contract. -/
namespace Go.Proofs.YtfnhogeocbndcaaGreatDoor
open Go Go.RowKit
set_option linter.unusedVariables false

set_option maxHeartbeats 4000000 in
set_option maxRecDepth 100000 in
theorem same_step (la lb : Lab) (ks us : List Tree) (ih : ∀ i, i < ks.length → i < us.length → sameOK (kat ks i) (kat us i)) : sameOK (.node la ks) (.node lb us) := by
  intro l1 x1 n1 k1 l2 x2 n2 k2 w hT hU
  obtain ⟨xk, kk, hcs, hnk, hkm, hkids⟩ := TreeAt.kids hT
  obtain ⟨xu, ku, hcu, hnu, hum, huids⟩ := TreeAt.kids hU
  obtain ⟨rfl, hv⟩ := lab_of (l := l1) (m := la) hcs
  obtain ⟨rfl, hv2⟩ := lab_of (l := l2) (m := lb) hcu
  simp only [Value.slice.injEq] at hv hv2
  obtain ⟨rfl, rfl, rfl⟩ := hv
  obtain ⟨rfl, rfl, rfl⟩ := hv2
  clear hT hU hcs hcu
  have hW : Below w.heap.size w ((w.alloc (.cells #[.int .i64 l1.kind, .string (str l1.name), .int .u64 l1.num, .int .i64 l1.wd, .bool l1.sg, .int .i64 l1.op, .int .i64 l1.fac, .int .i64 l1.pip, .int .i64 l1.unr, .int .i64 l1.line, .slice x1 ks.length k1] 28)).alloc (.cells #[.int .i64 l2.kind, .string (str l2.name), .int .u64 l2.num, .int .i64 l2.wd, .bool l2.sg, .int .i64 l2.op, .int .i64 l2.fac, .int .i64 l2.pip, .int .i64 l2.unr, .int .i64 l2.line, .slice x2 us.length k2] 28)) := ((Below.refl w.heap.size w).alloc (Nat.le_refl _) _).alloc (by simp) _
  have hE : ∀ W, Below ((w.alloc (.cells #[.int .i64 l1.kind, .string (str l1.name), .int .u64 l1.num, .int .i64 l1.wd, .bool l1.sg, .int .i64 l1.op, .int .i64 l1.fac, .int .i64 l1.pip, .int .i64 l1.unr, .int .i64 l1.line, .slice x1 ks.length k1] 28)).alloc (.cells #[.int .i64 l2.kind, .string (str l2.name), .int .u64 l2.num, .int .i64 l2.wd, .bool l2.sg, .int .i64 l2.op, .int .i64 l2.fac, .int .i64 l2.pip, .int .i64 l2.unr, .int .i64 l2.line, .slice x2 us.length k2] 28)).heap.size ((w.alloc (.cells #[.int .i64 l1.kind, .string (str l1.name), .int .u64 l1.num, .int .i64 l1.wd, .bool l1.sg, .int .i64 l1.op, .int .i64 l1.fac, .int .i64 l1.pip, .int .i64 l1.unr, .int .i64 l1.line, .slice x1 ks.length k1] 28)).alloc (.cells #[.int .i64 l2.kind, .string (str l2.name), .int .u64 l2.num, .int .i64 l2.wd, .bool l2.sg, .int .i64 l2.op, .int .i64 l2.fac, .int .i64 l2.pip, .int .i64 l2.unr, .int .i64 l2.line, .slice x2 us.length k2] 28)) W → Calls Tryz.prog 51 #[.slice x1 ks.length k1, .slice x2 us.length k2, .func (Fn.func 23) #[] #[]] W fun e w' => e = .returned (.bool (sameTs ks us)) ∧ Below W.heap.size W w' := fun W hb => by
    have hb2 := hW.trans (hb.mono hW.size)
    exact eqf_any ks us ih x1 x2 k1 k2 W hnk hkm hnu hum (fun i hi => by
      obtain ⟨a, h1, h2, h3⟩ := hkids i hi
      exact ⟨a, h1, h2, h3.keep h2 (fun g hg hl => hb2.block g hl) fun _ _ _ => trivial⟩) (fun i hi => by
      obtain ⟨a, h1, h2, h3⟩ := huids i hi
      exact ⟨a, h1, h2, h3.keep h2 (fun g hg hl => hb2.block g hl) fun _ _ _ => trivial⟩)
  have HEQ := Lib.hid hE
  have HW := Lib.hid hW
  clear hkids huids ih hE hW
  unfold maxLen at hkm hum
  have HSM : Hid (sameT (.node l1 ks) (.node l2 us) = (sameL l1 l2 && sameTs ks us)) := Lib.hid (by rw [sameT])
  have HSL : Hid (sameL l1 l2 = true ↔ l1.kind = l2.kind ∧ l1.name = l2.name ∧ l1.num = l2.num ∧ l1.wd = l2.wd ∧ l1.sg = l2.sg ∧ l1.op = l2.op ∧ l1.fac = l2.fac ∧ l1.pip = l2.pip ∧ l1.unr = l2.unr) := Lib.hid sameL_iff
  have hlb : ∀ (c0 : Int) (c1 : List UInt8) (c2 c3 : Int) (c4 : Bool) (c5 c6 c7 c8 c9 : Int) (x : Option Addr) (n k : Nat) (W : World), Calls Tryz.prog 50 #[.agg #[.int .i64 c0, .string (str c1), .int .u64 c2, .int .i64 c3, .bool c4, .int .i64 c5, .int .i64 c6, .int .i64 c7, .int .i64 c8, .int .i64 c9, .slice x n k]] W fun e w' => e = .returned (.agg #[.int .i64 c0, .string (str c1), .int .u64 c2, .int .i64 c3, .bool c4, .int .i64 c5, .int .i64 c6, .int .i64 c7, .int .i64 c8]) ∧ Below W.heap.size W w' := fun c0 c1 c2 c3 c4 c5 c6 c7 c8 c9 x n k W => labelOf_any ⟨c0, c1, c2, c3, c4, c5, c6, c7, c8, c9⟩ x n k W
  have HLB := Lib.hid hlb
  clear hlb
  generalize sameTs ks us = sts at *
  generalize sameT (.node l1 ks) (.node l2 us) = stt at *
  generalize sameL l1 l2 = sll at *
  generalize ks.length = N1 at *
  generalize us.length = N2 at *
  obtain ⟨a0, a1, a2, a3, a4, a5, a6, a7, a8, a9⟩ := l1
  obtain ⟨b0, b1, b2, b3, b4, b5, b6, b7, b8, b9⟩ := l2
  dsimp only at *
  have hb1 : ∀ i : Nat, ((w.alloc (.cells #[.int .i64 a0, .string (str a1), .int .u64 a2, .int .i64 a3, .bool a4, .int .i64 a5, .int .i64 a6, .int .i64 a7, .int .i64 a8, .int .i64 a9, .slice x1 N1 k1] 28)).alloc (.cells #[.int .i64 b0, .string (str b1), .int .u64 b2, .int .i64 b3, .bool b4, .int .i64 b5, .int .i64 b6, .int .i64 b7, .int .i64 b8, .int .i64 b9, .slice x2 N2 k2] 28)).cell? ⟨w.heap.size, i, none⟩ = ([.int .i64 a0, .string (str a1), .int .u64 a2, .int .i64 a3, .bool a4, .int .i64 a5, .int .i64 a6, .int .i64 a7, .int .i64 a8, .int .i64 a9, .slice x1 N1 k1] : List Value)[i]? := by
    intro i
    rw [(Blk.alloc w 28 [.int .i64 a0, .string (str a1), .int .u64 a2, .int .i64 a3, .bool a4, .int .i64 a5, .int .i64 a6, .int .i64 a7, .int .i64 a8, .int .i64 a9, .slice x1 N1 k1]).alloc_other (.cells #[.int .i64 b0, .string (str b1), .int .u64 b2, .int .i64 b3, .bool b4, .int .i64 b5, .int .i64 b6, .int .i64 b7, .int .i64 b8, .int .i64 b9, .slice x2 N2 k2] 28) |>.cell i]
  have hb2 : ∀ i : Nat, ((w.alloc (.cells #[.int .i64 a0, .string (str a1), .int .u64 a2, .int .i64 a3, .bool a4, .int .i64 a5, .int .i64 a6, .int .i64 a7, .int .i64 a8, .int .i64 a9, .slice x1 N1 k1] 28)).alloc (.cells #[.int .i64 b0, .string (str b1), .int .u64 b2, .int .i64 b3, .bool b4, .int .i64 b5, .int .i64 b6, .int .i64 b7, .int .i64 b8, .int .i64 b9, .slice x2 N2 k2] 28)).cell? ⟨w.heap.size + 1, i, none⟩ = ([.int .i64 b0, .string (str b1), .int .u64 b2, .int .i64 b3, .bool b4, .int .i64 b5, .int .i64 b6, .int .i64 b7, .int .i64 b8, .int .i64 b9, .slice x2 N2 k2] : List Value)[i]? := by
    intro i
    have hs : (w.alloc (.cells #[.int .i64 a0, .string (str a1), .int .u64 a2, .int .i64 a3, .bool a4, .int .i64 a5, .int .i64 a6, .int .i64 a7, .int .i64 a8, .int .i64 a9, .slice x1 N1 k1] 28)).heap.size = w.heap.size + 1 := by simp
    have h := (Blk.alloc (w.alloc (.cells #[.int .i64 a0, .string (str a1), .int .u64 a2, .int .i64 a3, .bool a4, .int .i64 a5, .int .i64 a6, .int .i64 a7, .int .i64 a8, .int .i64 a9, .slice x1 N1 k1] 28)) 28 [.int .i64 b0, .string (str b1), .int .u64 b2, .int .i64 b3, .bool b4, .int .i64 b5, .int .i64 b6, .int .i64 b7, .int .i64 b8, .int .i64 b9, .slice x2 N2 k2]).cell i
    rw [hs] at h
    exact h
  have hlt : w.heap.size + 1 < ((w.alloc (.cells #[.int .i64 a0, .string (str a1), .int .u64 a2, .int .i64 a3, .bool a4, .int .i64 a5, .int .i64 a6, .int .i64 a7, .int .i64 a8, .int .i64 a9, .slice x1 N1 k1] 28)).alloc (.cells #[.int .i64 b0, .string (str b1), .int .u64 b2, .int .i64 b3, .bool b4, .int .i64 b5, .int .i64 b6, .int .i64 b7, .int .i64 b8, .int .i64 b9, .slice x2 N2 k2] 28)).heap.size := by simp
  have HBa := Lib.hid hb1
  have HBb := Lib.hid hb2
  clear hb1 hb2
  cases sll with
  | true =>
    obtain ⟨rfl, rfl, rfl, rfl, rfl, rfl, rfl, rfl, rfl⟩ := HSL.out.1 rfl
    clear HSL
    go_enter Tryz.func23, Tryz.ntmps23
    go_upto_region 1 with fail
    generalize ((w.alloc (.cells #[.int .i64 a0, .string (str a1), .int .u64 a2, .int .i64 a3, .bool a4, .int .i64 a5, .int .i64 a6, .int .i64 a7, .int .i64 a8, .int .i64 a9, .slice x1 N1 k1] 28)).alloc (.cells #[.int .i64 a0, .string (str a1), .int .u64 a2, .int .i64 a3, .bool a4, .int .i64 a5, .int .i64 a6, .int .i64 a7, .int .i64 a8, .int .i64 b9, .slice x2 N2 k2] 28)) = W2 at *
    have HSO : Hid (∀ w', Below W2.heap.size W2 w' → (∀ i : Nat, w'.cell? ⟨w.heap.size, i, none⟩ = ([.int .i64 a0, .string (str a1), .int .u64 a2, .int .i64 a3, .bool a4, .int .i64 a5, .int .i64 a6, .int .i64 a7, .int .i64 a8, .int .i64 a9, .slice x1 N1 k1] : List Value)[i]?) ∧ (∀ i : Nat, w'.cell? ⟨w.heap.size + 1, i, none⟩ = ([.int .i64 a0, .string (str a1), .int .u64 a2, .int .i64 a3, .bool a4, .int .i64 a5, .int .i64 a6, .int .i64 a7, .int .i64 a8, .int .i64 b9, .slice x2 N2 k2] : List Value)[i]?) ∧ Hid (Below W2.heap.size W2 w')) := Lib.hid fun w' hb => by
      have c1 : ∀ i : Nat, w'.cell? ⟨w.heap.size, i, none⟩ = ([.int .i64 a0, .string (str a1), .int .u64 a2, .int .i64 a3, .bool a4, .int .i64 a5, .int .i64 a6, .int .i64 a7, .int .i64 a8, .int .i64 a9, .slice x1 N1 k1] : List Value)[i]? := fun i => (hb.cell (p := ⟨w.heap.size, i, none⟩) (by show w.heap.size < W2.heap.size; omega)).trans (HBa.out i)
      have c2 : ∀ i : Nat, w'.cell? ⟨w.heap.size + 1, i, none⟩ = ([.int .i64 a0, .string (str a1), .int .u64 a2, .int .i64 a3, .bool a4, .int .i64 a5, .int .i64 a6, .int .i64 a7, .int .i64 a8, .int .i64 b9, .slice x2 N2 k2] : List Value)[i]? := fun i => (hb.cell (p := ⟨w.heap.size + 1, i, none⟩) (by exact hlt)).trans (HBb.out i)
      exact ⟨c1, c2, Lib.hid hb⟩
    clear HBa HBb
    go_region_held3 (fun w' => (∀ i : Nat, w'.cell? ⟨w.heap.size, i, none⟩ = ([.int .i64 a0, .string (str a1), .int .u64 a2, .int .i64 a3, .bool a4, .int .i64 a5, .int .i64 a6, .int .i64 a7, .int .i64 a8, .int .i64 a9, .slice x1 N1 k1] : List Value)[i]?) ∧ (∀ i : Nat, w'.cell? ⟨w.heap.size + 1, i, none⟩ = ([.int .i64 a0, .string (str a1), .int .u64 a2, .int .i64 a3, .bool a4, .int .i64 a5, .int .i64 a6, .int .i64 a7, .int .i64 a8, .int .i64 b9, .slice x2 N2 k2] : List Value)[i]?) ∧ Hid (Below W2.heap.size W2 w'))
      (first
        | exact HSO.out _ (Below.refl _ _).drew
        | exact HSO.out _ (keepC (by assumption) hb6)
        | exact HSO.out _ (keepD (by assumption)))
      (first
        | (go_at_call 50; refine (HLB.out _ _ _ _ _ _ _ _ _ _ _ _ _ _).mono ?_; rintro e w6 ⟨rfl, hb6⟩)
        | (go_at_call 51; refine (HEQ.out _ (keepB (by assumption))).mono ?_; rintro e w6 ⟨rfl, hb6⟩))
    have hb := keepB (W2 := W2) (w' := w6) (by assumption)
    have HB := Lib.hid (HW.out.trans (hb.mono (by omega)))
    go_wp2
    go_ret
    exact ⟨by rw [HSM.out]; rfl, HB.out⟩
  | false =>
    have hq := fun W => lab_eq a0 a1 a2 a3 a4 a5 a6 a7 a8 b0 b1 b2 b3 b4 b5 b6 b7 b8 (fun h => by
      have := HSL.out.2 h
      cases this) W
    clear HSL
    go_enter Tryz.func23, Tryz.ntmps23
    go_upto_region 1 with fail
    generalize ((w.alloc (.cells #[.int .i64 a0, .string (str a1), .int .u64 a2, .int .i64 a3, .bool a4, .int .i64 a5, .int .i64 a6, .int .i64 a7, .int .i64 a8, .int .i64 a9, .slice x1 N1 k1] 28)).alloc (.cells #[.int .i64 b0, .string (str b1), .int .u64 b2, .int .i64 b3, .bool b4, .int .i64 b5, .int .i64 b6, .int .i64 b7, .int .i64 b8, .int .i64 b9, .slice x2 N2 k2] 28)) = W2 at *
    have HSO : Hid (∀ w', Below W2.heap.size W2 w' → (∀ i : Nat, w'.cell? ⟨w.heap.size, i, none⟩ = ([.int .i64 a0, .string (str a1), .int .u64 a2, .int .i64 a3, .bool a4, .int .i64 a5, .int .i64 a6, .int .i64 a7, .int .i64 a8, .int .i64 a9, .slice x1 N1 k1] : List Value)[i]?) ∧ (∀ i : Nat, w'.cell? ⟨w.heap.size + 1, i, none⟩ = ([.int .i64 b0, .string (str b1), .int .u64 b2, .int .i64 b3, .bool b4, .int .i64 b5, .int .i64 b6, .int .i64 b7, .int .i64 b8, .int .i64 b9, .slice x2 N2 k2] : List Value)[i]?) ∧ Hid (Below W2.heap.size W2 w')) := Lib.hid fun w' hb => by
      have c1 : ∀ i : Nat, w'.cell? ⟨w.heap.size, i, none⟩ = ([.int .i64 a0, .string (str a1), .int .u64 a2, .int .i64 a3, .bool a4, .int .i64 a5, .int .i64 a6, .int .i64 a7, .int .i64 a8, .int .i64 a9, .slice x1 N1 k1] : List Value)[i]? := fun i => (hb.cell (p := ⟨w.heap.size, i, none⟩) (by show w.heap.size < W2.heap.size; omega)).trans (HBa.out i)
      have c2 : ∀ i : Nat, w'.cell? ⟨w.heap.size + 1, i, none⟩ = ([.int .i64 b0, .string (str b1), .int .u64 b2, .int .i64 b3, .bool b4, .int .i64 b5, .int .i64 b6, .int .i64 b7, .int .i64 b8, .int .i64 b9, .slice x2 N2 k2] : List Value)[i]? := fun i => (hb.cell (p := ⟨w.heap.size + 1, i, none⟩) (by exact hlt)).trans (HBb.out i)
      exact ⟨c1, c2, Lib.hid hb⟩
    clear HBa HBb
    have hBD : Below W2.heap.size W2 W2.drew := (Below.refl _ _).drew
    have hSD := HSO.out _ hBD
    have hsa := hSD.1
    have hsb := hSD.2.1
    clear hSD
    first
    | (go_region_with (go_at_call 50; refine (HLB.out _ _ _ _ _ _ _ _ _ _ _ _ _ _).mono ?_; rintro e w6 ⟨rfl, hb6⟩; have hB6 := keepE (by assumption) hb6; have hSD := HSO.out _ hB6; have hsa := hSD.1; have hsb := hSD.2.1; clear hSD hb6))
    | fail
    all_goals
      have hb : Below W2.heap.size W2 _ := hB6
      have HB := Lib.hid (HW.out.trans (hb.mono (by omega)))
      clear hsa hsb hB6 hb
      go_wp2
      go_ret
      exact ⟨by rw [HSM.out]; rfl, HB.out⟩
theorem same_any2 : ∀ d t u, depth t ≤ d → sameOK t u := by
  intro d
  induction d with
  | zero => intro t u h; obtain ⟨lt, ks⟩ := t; rw [depth] at h; omega
  | succ d ih =>
    intro t u h
    obtain ⟨lt, ks⟩ := t
    obtain ⟨lu, us⟩ := u
    refine same_step lt lu ks us fun i hi _ => ih _ _ ?_
    have := depth_kat hi
    rw [depth] at h
    omega
end Go.Proofs.YtfnhogeocbndcaaGreatDoor
/- The rule for lists in round brackets: contract, over any rule for the items. -/
namespace Go.Proofs.YtfnhogeocbndcaaGreatDoor
open Go Go.RowKit
set_option linter.unusedVariables false

/-- What the rule for lists leaves. -/
def LP (w : World) (R g c : Nat) (ts : List Tok) (x : List Tree × Sg) (e : Ending) (w' : World) : Prop :=
  ∃ v, e = .returned v ∧ Kids w' w.heap.size v x.1 ∧ Rd w' R g c ts x.2 ∧ St w w' R
theorem infoNd2 : (Tryz.prog.info? 28).map (fun i => (i.zero, i.size, i.bytes)) = some (some (.agg #[.int .i64 0, .string ⟨#[]⟩, .int .u64 0, .int .i64 0, .bool false, .int .i64 0, .int .i64 0, .int .i64 0, .int .i64 0, .int .i64 0, .slice none 0 0]), 11, 112) := by kernel_rfl
def slen : Value → Nat
  | .slice _ n _ => n
  | _ => 0
/-- The state of the loop. -/
structure LsSt (ts : List Tok) (R g c : Nat) (item : Sg → Tree × Sg) (B : Nat) (X0 : List Tree × Sg) (w wr : World) (v : Value) (acc : List Tree) (s : Sg) : Prop where
  kd : Kids wr w.heap.size v acc
  rd : Rd wr R g c ts s
  st : St w wr R
  eq : ∃ m, rem ts s ≤ m ∧ X0 = more ts item (m + 1) acc s
  few : acc.length + rem ts s ≤ B
theorem kids_one {w : World} {base : Nat} {cs : List Value} {t : Tree} (hT : TreeAt w (base ≤ ·) cs t) (hb : base ≤ w.heap.size) : Kids (w.alloc (.cells cs.toArray 28)) base (.slice (some ⟨w.heap.size, 0, none⟩) 1 1) [t] := by
  have hl := hT.length
  refine ⟨fun _ => cs, ?_, fun i hi => ?_⟩
  · have := World.ownsRow_lit (base := base) (e := 28) (size := 11) w cs.toArray 1 hb (by unfold maxLen; omega) (by simp [hl])
    simpa [flat] using this
  · simp at hi
    subst hi
    exact hT.keep (fun g _ hg => Below.heap_alloc w _ g hg) fun k hk hlt => ⟨hk, fun e => by injection e with e; have : k = w.heap.size := e; omega⟩
theorem listM_shut {ts : List Tok} {item : Sg → Tree × Sg} {f : Nat} {s : Sg} (h : hasT ts (exc ts s [40]) [41] = true) : listM ts item f s = ([], adv (exc ts s [40])) := by unfold listM; rw [if_pos h]
theorem listM_open {ts : List Tok} {item : Sg → Tree × Sg} {f : Nat} {s : Sg} (h : hasT ts (exc ts s [40]) [41] = false) :
    listM ts item f s = ((more ts item f [(item (exc ts s [40])).1] (item (exc ts s [40])).2).1, exc ts (more ts item f [(item (exc ts s [40])).1] (item (exc ts s [40])).2).2 [41]) := by
  unfold listM; rw [if_neg (by simp [h])]

theorem St.own {w0 w w' : World} {R : Nat} {row : Option Nat} (h : St w0 w R) (hg : w.grownBy w' row) (hr : ∀ k, row = some k → w0.heap.size ≤ k) : St w0 w' R :=
  ⟨hg.os.trans h.os, hg.tape.trans h.tape, hg.output.trans h.output, Nat.le_trans h.size hg.size, fun k hk hne => (hg.block k (Nat.lt_of_lt_of_le hk (St.size h)) (fun e => by have := hr k e.symm; omega)).trans (World.grownBy.block h k hk hne)⟩
theorem Rd.own {w w' : World} {R g c : Nat} {ts : List Tok} {s : Sg} {row : Option Nat} (h : Rd w R g c ts s) (hg : g < R) (hw : w.grownBy w' row) (hr : ∀ k, row = some k → R < k) : Rd w' R g c ts s :=
  h.of_blocks (hw.block R h.lt (fun e => by have := hr R e.symm; omega)) (fun k hk => hw.block k (by have := h.lt; omega) (fun e => by have := hr k e.symm; omega)) hw.size
end Go.Proofs.YtfnhogeocbndcaaGreatDoor
