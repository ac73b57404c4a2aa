/- The code's every and exactly: contracts. -/
import Derived.Test.YthdbaligapdbeaaGreatDoorMgPsWi
import Derived.Test.YthdbaligapdbeaaGreatDoorMgPsWo
namespace Go.Proofs.YthdbaligapdbeaaGreatDoor
open Go Go.RowKit
set_option linter.unusedVariables false

theorem all_takeE {f : Tree → Bool} : ∀ (ks : List Tree) (j : Nat), j ≤ ks.length → ((ks.take j).all f = true ↔ ∀ i, i < j → f (kat ks i) = true) := by
 intro ks j hj
 rw [List.all_eq_true]
 constructor
 ·intro h i hi
  refine h _ ?_
  rw [List.mem_take_iff_getElem]
  exact ⟨i, by omega, by rw [kat_get (by omega)]⟩
 ·intro h t ht
  rw [List.mem_take_iff_getElem] at ht
  obtain ⟨i, hi, rfl⟩ := ht
  rw [← kat_get (by omega)]
  exact h i (by omega)
theorem all_trueE {f : Tree → Bool} {ks : List Tree} (h : ∀ i, i < ks.length → f (kat ks i) = true) : ks.all f = true := by
 have := (all_takeE (f := f) ks ks.length (Nat.le_refl _)).2 h
 rwa [List.take_length] at this
theorem all_falseE {f : Tree → Bool} {ks : List Tree} {i : Nat} (hi : i < ks.length) (h : f (kat ks i) = false) : ks.all f = false :=
 Bool.eq_false_iff.2 fun k => by
  have := (all_takeE (f := f) ks ks.length (Nat.le_refl _)).1 (by rw [List.take_length]; exact k) i hi
  rw [h] at this; cases this
theorem kindT_cellsE {w : World} {P : Nat → Prop} {l : Lab} {v : Value} {t : Tree} (h : TreeAt w P (lcells l v) t) : kindT t = l.kind := by
 obtain ⟨lt, ks⟩ := t
 obtain ⟨xk, kk, hcs, _⟩ := TreeAt.kids h
 rw [(lab_of hcs).1]; rfl
structure EvSt (p : Tree → Bool) (w wr : World) (ks : List Tree) (j : Nat) : Prop where
 bel : Below w.heap.size w wr
 all : ∀ i, i < j → p (kat ks i) = true
theorem EvSt.step {p : Tree → Bool} {w wr w' : World} {ks : List Tree} {j : Nat} (h : EvSt p w wr ks j) (hp : p (kat ks j) = true) (hb : Below w.heap.size w w') : EvSt p w w' ks (j + 1) :=
 ⟨hb, fun i hi => by
  by_cases e : i = j
  ·subst e; exact hp
  ·exact h.all i (by omega)⟩
set_option maxHeartbeats 1000000 in
set_option maxRecDepth 100000 in
theorem ev_index (p : Tree → Bool) (ks : List Tree) (x : Option Addr) (k : Nat) (hk : ks.length ≤ maxLen) (G : Nat) (w : World)
  (HC0 : ∀ i, i < ks.length → ∀ (l : Lab) (x : Option Addr) (n k : Nat) (W : World), Below w.heap.size w W → TreeAt W (fun _ => True) [.int .i64 l.kind, .string (str l.name), .int .u64 l.num, .int .i64 l.wd, .bool l.sg, .int .i64 l.op, .int .i64 l.fac, .int .i64 l.pip, .int .i64 l.unr, .int .i64 l.line, .slice x n k] (kat ks i) → Calls Tryz.prog 122 #[.agg #[.int .i64 l.kind, .string (str l.name), .int .u64 l.num, .int .i64 l.wd, .bool l.sg, .int .i64 l.op, .int .i64 l.fac, .int .i64 l.pip, .int .i64 l.unr, .int .i64 l.line, .slice x n k], .pointer (some ⟨G, 0, none⟩)] W fun e w' => e = .returned (.bool (!p (kat ks i))) ∧ Below W.heap.size W w')
  (hT : ∀ i (hi : i < ks.length), ∃ a, x = some a ∧ True ∧ KidAt w (fun _ => True) a i (kat ks i)) :
  Calls Tryz.prog 81 #[.slice x ks.length k, .func (Fn.func 122) #[] #[.pointer (some ⟨G, 0, none⟩)]] w fun e w' => (∃ r : Int, e = .returned (.int .i64 r) ∧ decide (0 ≤ r) = !(ks.all p)) ∧ Below w.heap.size w w' := by
 have h0 : Hid (EvSt p w w ks 0) := Hd ⟨Below.refl _ _, fun i hi => by omega⟩
 have HL2 : Hid ((∀ i, i < ks.length → p (kat ks i) = true) → ks.all p = true) := Hd all_trueE
 have HL3 : Hid (∀ i, i < ks.length → p (kat ks i) = false → ks.all p = false) := Hd fun i => all_falseE
 have HIN := Hd HC0
 have HT := Hd hT
 unfold maxLen at hk
 clear hT HC0
 generalize ks.all p = R at *
 generalize hN : ks.length = N at *
 have HN := Hd hN
 clear hN
 go_enter Tryz.func81, Tryz.ntmps81
 go_wp2
 go_loopw [8] (fun i wr => ∃ j : Nat, j ≤ N ∧ i = .int .i64 (j : Int) ∧ Hid (EvSt p w wr ks j)) (fun i _ => N - (intOf i).toNat)
 case atStart => exact ⟨0, by omega, rfl, h0⟩
 case round =>
  clear h0
  obtain ⟨j, hj, rfl, hX⟩ := hrel
  by_cases hjn : j < N
  ·obtain ⟨a, hxa, hab, hkid⟩ := HT.out j hjn
   subst hxa
   obtain ⟨l2, x2, n2, k2, ⟨e0, e1, e2, e3, e4, e5, e6, e7, e8, e9, e10⟩, hT3⟩ := hkid.keep (w' := wr) (Q := fun _ => True) hab (fun g hg hl => hX.out.bel.block g hl) fun _ hg _ => hg
   have HC := Hd (HIN.out j hjn l2 x2 n2 k2 wr hX.out.bel hT3)
   have hj0 : (0 : Int) ≤ (j : Int) := by omega
   have hj1 : (j : Int) < (N : Int) := by omega
   clear hT3 hkid
   cases hb : p (kat ks j) with
   | true =>
    rw [hb] at HC
    go_wp2_with fail
    refine HC.out.mono ?_
    rintro e w2 ⟨rfl, hbw⟩
    have HX := Hd (hX.out.step hb (hX.out.bel.trans (hbw.mono hX.out.bel.size)))
    clear hbw HC hX hb e0 e1 e2 e3 e4 e5 e6 e7 e8 e9 e10
    go_wp2
    go_roundw
    case rel => exact ⟨j + 1, by omega, by go_num, HX⟩
    case measure => simp [intOf]; omega
   | false =>
    rw [hb] at HC
    have HR := Hd (HL3.out j hjn hb)
    go_wp2_with fail
    refine HC.out.mono ?_
    rintro e w2 ⟨rfl, hbw⟩
    have HB := Hd (hX.out.bel.trans (hbw.mono hX.out.bel.size))
    clear hbw HC hX hb e0 e1 e2 e3 e4 e5 e6 e7 e8 e9 e10
    go_wp2
    go_ret
    exact ⟨⟨_, rfl, by rw [HR.out]; simp⟩, HB.out⟩
  ·obtain rfl : j = N := by omega
   have HR := Hd (HL2.out hX.out.all)
   have HB := Hd hX.out.bel
   clear hX
   go_wp2
   go_ret
   exact ⟨⟨_, rfl, by rw [HR.out]; simp⟩, HB.out⟩
set_option maxHeartbeats 1000000 in
set_option maxRecDepth 100000 in
theorem ev_contains (p : Tree → Bool) (ks : List Tree) (x : Option Addr) (k : Nat) (hk : ks.length ≤ maxLen) (G : Nat) (w : World)
  (HC0 : ∀ i, i < ks.length → ∀ (l : Lab) (x : Option Addr) (n k : Nat) (W : World), Below w.heap.size w W → TreeAt W (fun _ => True) [.int .i64 l.kind, .string (str l.name), .int .u64 l.num, .int .i64 l.wd, .bool l.sg, .int .i64 l.op, .int .i64 l.fac, .int .i64 l.pip, .int .i64 l.unr, .int .i64 l.line, .slice x n k] (kat ks i) → Calls Tryz.prog 122 #[.agg #[.int .i64 l.kind, .string (str l.name), .int .u64 l.num, .int .i64 l.wd, .bool l.sg, .int .i64 l.op, .int .i64 l.fac, .int .i64 l.pip, .int .i64 l.unr, .int .i64 l.line, .slice x n k], .pointer (some ⟨G, 0, none⟩)] W fun e w' => e = .returned (.bool (!p (kat ks i))) ∧ Below W.heap.size W w')
  (hT : ∀ i (hi : i < ks.length), ∃ a, x = some a ∧ True ∧ KidAt w (fun _ => True) a i (kat ks i)) :
  Calls Tryz.prog 50 #[.slice x ks.length k, .func (Fn.func 122) #[] #[.pointer (some ⟨G, 0, none⟩)]] w fun e w' => e = .returned (.bool (!(ks.all p))) ∧ Below w.heap.size w w' := by
 have HI := Hd (ev_index p ks x k hk G w HC0 hT)
 clear hT HC0
 generalize ks.all p = R at *
 generalize ks.length = N at *
 go_enter Tryz.func50, Tryz.ntmps50
 go_wp2_with fail
 refine HI.out.mono ?_
 rintro e w1 ⟨⟨r, rfl, hr⟩, hb⟩
 have HB := Hd hb
 have HR := Hd hr
 clear hb hr HI
 go_wp2
 go_ret
 refine ⟨?_, HB.out⟩
 show Ending.returned (.bool (decide (0 ≤ r))) = _
 rw [HR.out]
set_option maxHeartbeats 1000000 in
set_option maxRecDepth 100000 in
theorem fi_index (p : Tree → Bool) (ks : List Tree) (x : Option Addr) (k : Nat) (hk : ks.length ≤ maxLen)  (w : World)
  (HC0 : ∀ i, i < ks.length → ∀ (l : Lab) (x : Option Addr) (n k : Nat) (W : World), Below w.heap.size w W → TreeAt W (fun _ => True) [.int .i64 l.kind, .string (str l.name), .int .u64 l.num, .int .i64 l.wd, .bool l.sg, .int .i64 l.op, .int .i64 l.fac, .int .i64 l.pip, .int .i64 l.unr, .int .i64 l.line, .slice x n k] (kat ks i) → Calls Tryz.prog 56 #[.agg #[.int .i64 l.kind, .string (str l.name), .int .u64 l.num, .int .i64 l.wd, .bool l.sg, .int .i64 l.op, .int .i64 l.fac, .int .i64 l.pip, .int .i64 l.unr, .int .i64 l.line, .slice x n k]] W fun e w' => e = .returned (.bool (!p (kat ks i))) ∧ Below W.heap.size W w')
  (hT : ∀ i (hi : i < ks.length), ∃ a, x = some a ∧ True ∧ KidAt w (fun _ => True) a i (kat ks i)) :
  Calls Tryz.prog 81 #[.slice x ks.length k, .func (Fn.func 56) #[] #[]] w fun e w' => (∃ r : Int, e = .returned (.int .i64 r) ∧ decide (0 ≤ r) = !(ks.all p)) ∧ Below w.heap.size w w' := by
 have h0 : Hid (EvSt p w w ks 0) := Hd ⟨Below.refl _ _, fun i hi => by omega⟩
 have HL2 : Hid ((∀ i, i < ks.length → p (kat ks i) = true) → ks.all p = true) := Hd all_trueE
 have HL3 : Hid (∀ i, i < ks.length → p (kat ks i) = false → ks.all p = false) := Hd fun i => all_falseE
 have HIN := Hd HC0
 have HT := Hd hT
 unfold maxLen at hk
 clear hT HC0
 generalize ks.all p = R at *
 generalize hN : ks.length = N at *
 have HN := Hd hN
 clear hN
 go_enter Tryz.func81, Tryz.ntmps81
 go_wp2
 go_loopw [8] (fun i wr => ∃ j : Nat, j ≤ N ∧ i = .int .i64 (j : Int) ∧ Hid (EvSt p w wr ks j)) (fun i _ => N - (intOf i).toNat)
 case atStart => exact ⟨0, by omega, rfl, h0⟩
 case round =>
  clear h0
  obtain ⟨j, hj, rfl, hX⟩ := hrel
  by_cases hjn : j < N
  ·obtain ⟨a, hxa, hab, hkid⟩ := HT.out j hjn
   subst hxa
   obtain ⟨l2, x2, n2, k2, ⟨e0, e1, e2, e3, e4, e5, e6, e7, e8, e9, e10⟩, hT3⟩ := hkid.keep (w' := wr) (Q := fun _ => True) hab (fun g hg hl => hX.out.bel.block g hl) fun _ hg _ => hg
   have HC := Hd (HIN.out j hjn l2 x2 n2 k2 wr hX.out.bel hT3)
   have hj0 : (0 : Int) ≤ (j : Int) := by omega
   have hj1 : (j : Int) < (N : Int) := by omega
   clear hT3 hkid
   cases hb : p (kat ks j) with
   | true =>
    rw [hb] at HC
    go_wp2_with fail
    refine HC.out.mono ?_
    rintro e w2 ⟨rfl, hbw⟩
    have HX := Hd (hX.out.step hb (hX.out.bel.trans (hbw.mono hX.out.bel.size)))
    clear hbw HC hX hb e0 e1 e2 e3 e4 e5 e6 e7 e8 e9 e10
    go_wp2
    go_roundw
    case rel => exact ⟨j + 1, by omega, by go_num, HX⟩
    case measure => simp [intOf]; omega
   | false =>
    rw [hb] at HC
    have HR := Hd (HL3.out j hjn hb)
    go_wp2_with fail
    refine HC.out.mono ?_
    rintro e w2 ⟨rfl, hbw⟩
    have HB := Hd (hX.out.bel.trans (hbw.mono hX.out.bel.size))
    clear hbw HC hX hb e0 e1 e2 e3 e4 e5 e6 e7 e8 e9 e10
    go_wp2
    go_ret
    exact ⟨⟨_, rfl, by rw [HR.out]; simp⟩, HB.out⟩
  ·obtain rfl : j = N := by omega
   have HR := Hd (HL2.out hX.out.all)
   have HB := Hd hX.out.bel
   clear hX
   go_wp2
   go_ret
   exact ⟨⟨_, rfl, by rw [HR.out]; simp⟩, HB.out⟩
set_option maxHeartbeats 1000000 in
set_option maxRecDepth 100000 in
theorem fi_contains (p : Tree → Bool) (ks : List Tree) (x : Option Addr) (k : Nat) (hk : ks.length ≤ maxLen)  (w : World)
  (HC0 : ∀ i, i < ks.length → ∀ (l : Lab) (x : Option Addr) (n k : Nat) (W : World), Below w.heap.size w W → TreeAt W (fun _ => True) [.int .i64 l.kind, .string (str l.name), .int .u64 l.num, .int .i64 l.wd, .bool l.sg, .int .i64 l.op, .int .i64 l.fac, .int .i64 l.pip, .int .i64 l.unr, .int .i64 l.line, .slice x n k] (kat ks i) → Calls Tryz.prog 56 #[.agg #[.int .i64 l.kind, .string (str l.name), .int .u64 l.num, .int .i64 l.wd, .bool l.sg, .int .i64 l.op, .int .i64 l.fac, .int .i64 l.pip, .int .i64 l.unr, .int .i64 l.line, .slice x n k]] W fun e w' => e = .returned (.bool (!p (kat ks i))) ∧ Below W.heap.size W w')
  (hT : ∀ i (hi : i < ks.length), ∃ a, x = some a ∧ True ∧ KidAt w (fun _ => True) a i (kat ks i)) :
  Calls Tryz.prog 50 #[.slice x ks.length k, .func (Fn.func 56) #[] #[]] w fun e w' => e = .returned (.bool (!(ks.all p))) ∧ Below w.heap.size w w' := by
 have HI := Hd (fi_index p ks x k hk w HC0 hT)
 clear hT HC0
 generalize ks.all p = R at *
 generalize ks.length = N at *
 go_enter Tryz.func50, Tryz.ntmps50
 go_wp2_with fail
 refine HI.out.mono ?_
 rintro e w1 ⟨⟨r, rfl, hr⟩, hb⟩
 have HB := Hd hb
 have HR := Hd hr
 clear hb hr HI
 go_wp2
 go_ret
 refine ⟨?_, HB.out⟩
 show Ending.returned (.bool (decide (0 ≤ r))) = _
 rw [HR.out]
set_option maxHeartbeats 1000000 in
set_option maxRecDepth 100000 in
theorem every1_any (a b : Int) (l : Lab) (x : Option Addr) (n k G : Nat) (w : World) (hG : Blk w G 99 [.int .i64 a, .int .i64 b]) :
  Calls Tryz.prog 122 #[.agg #[.int .i64 l.kind, .string (str l.name), .int .u64 l.num, .int .i64 l.wd, .bool l.sg, .int .i64 l.op, .int .i64 l.fac, .int .i64 l.pip, .int .i64 l.unr, .int .i64 l.line, .slice x n k], .pointer (some ⟨G, 0, none⟩)] w fun e w' => e = .returned (.bool (!(inG a b l.kind))) ∧ Below w.heap.size w w' := by
 have HB := Hd ((Below.refl w.heap.size w).alloc (Nat.le_refl _) (.cells #[.int .i64 l.kind, .string (str l.name), .int .u64 l.num, .int .i64 l.wd, .bool l.sg, .int .i64 l.op, .int .i64 l.fac, .int .i64 l.pip, .int .i64 l.unr, .int .i64 l.line, .slice x n k] 27))
 have HH := Hd fun W => has_any a b l x n k W
 have hA := hG.alloc_other (.cells #[.int .i64 l.kind, .string (str l.name), .int .u64 l.num, .int .i64 l.wd, .bool l.sg, .int .i64 l.op, .int .i64 l.fac, .int .i64 l.pip, .int .i64 l.unr, .int .i64 l.line, .slice x n k] 27)
 have c0 := hA.cell
 have hlt := hG.lt
 clear hA hG
 generalize inG a b l.kind = R at *
 go_enter Tryz.func122, Tryz.ntmps122
 go_wp2_with fail
 refine (HH.out _).mono ?_
 rintro e w1 ⟨rfl, hb⟩
 have HB1 := Hd (HB.out.trans (hb.mono HB.out.size))
 clear hb
 go_wp2
 go_ret
 exact ⟨rfl, HB1.out⟩
set_option maxHeartbeats 1000000 in
set_option maxRecDepth 100000 in
theorem every_any (a b : Int) (ks : List Tree) (x : Option Addr) (k : Nat) (hk : ks.length ≤ maxLen) (w : World) (hT : ∀ i (hi : i < ks.length), ∃ ad, x = some ad ∧ True ∧ KidAt w (fun _ => True) ad i (kat ks i)) :
  Calls Tryz.prog 90 #[.slice x ks.length k, .agg #[.int .i64 a, .int .i64 b]] w fun e w' => e = .returned (.bool (ks.all (kin a b))) ∧ Below w.heap.size w w' := by
 have HB := Hd ((Below.refl w.heap.size w).alloc (Nat.le_refl _) (.cells #[.int .i64 a, .int .i64 b] 99))
 have hG := Blk.alloc w 99 [.int .i64 a, .int .i64 b]
 have HC := Hd (ev_contains (kin a b) ks x k hk w.heap.size (w.alloc (.cells #[.int .i64 a, .int .i64 b] 99)) (fun i hi l x n k W hb hTT => by
  have := every1_any a b l x n k w.heap.size W (hG.below hb hG.lt)
  have hkk : kin a b (kat ks i) = inG a b l.kind := by unfold kin; rw [kindT_cellsE hTT]
  rw [hkk]
  exact this) (fun i hi => by
  obtain ⟨ad, h1, h2, h3⟩ := hT i hi
  exact ⟨ad, h1, h2, h3.keep h2 (fun g _ hl => HB.out.block g hl) fun _ _ _ => trivial⟩))
 clear hT hG
 generalize ks.all (kin a b) = R at *
 generalize ks.length = N at *
 go_enter Tryz.func90, Tryz.ntmps90
 go_wp2_with fail
 refine HC.out.mono ?_
 rintro e w1 ⟨rfl, hb⟩
 have HB1 := Hd (HB.out.trans (hb.mono HB.out.size))
 clear hb HC
 go_wp2
 go_ret
 exact ⟨by cases R <;> rfl, HB1.out⟩
set_option maxHeartbeats 1000000 in
set_option maxRecDepth 100000 in
theorem exactly1_any (a b : Int) (l : Lab) (x : Option Addr) (n k : Nat) (w : World) :
  Calls Tryz.prog 124 #[.agg #[.int .i64 l.kind, .string (str l.name), .int .u64 l.num, .int .i64 l.wd, .bool l.sg, .int .i64 l.op, .int .i64 l.fac, .int .i64 l.pip, .int .i64 l.unr, .int .i64 l.line, .slice x n k], .agg #[.int .i64 a, .int .i64 b]] w fun e w' => e = .returned (.bool (inG a b l.kind)) ∧ Below w.heap.size w w' := by
 have HB := Hd (((Below.refl w.heap.size w).alloc (Nat.le_refl _) (.cells #[.int .i64 l.kind, .string (str l.name), .int .u64 l.num, .int .i64 l.wd, .bool l.sg, .int .i64 l.op, .int .i64 l.fac, .int .i64 l.pip, .int .i64 l.unr, .int .i64 l.line, .slice x n k] 27)).alloc (by simp) (.cells #[.int .i64 a, .int .i64 b] 99))
 have HH := Hd fun W => has_any a b l x n k W
 generalize inG a b l.kind = R at *
 go_enter Tryz.func124, Tryz.ntmps124
 go_wp2_with fail
 refine (HH.out _).mono ?_
 rintro e w1 ⟨rfl, hb⟩
 have HB1 := Hd (HB.out.trans (hb.mono (by have := HB.out.size; simpa using this)))
 clear hb
 go_wp2
 go_ret
 exact ⟨rfl, HB1.out⟩
def gat (gs : List (Int × Int)) (i : Nat) : Int × Int := gs.getD i (0, 0)
def GrAt (w : World) (g : Nat) (gs : List (Int × Int)) : Prop := ∀ i, i < gs.length → w.cell? ⟨g, i * 2, none⟩ = some (.int .i64 (gat gs i).1) ∧ w.cell? ⟨g, i * 2 + 1, none⟩ = some (.int .i64 (gat gs i).2)
theorem exB_iff : ∀ (ks : List Tree) (gs : List (Int × Int)), exB ks gs = true ↔ ks.length = gs.length ∧ ∀ i, i < gs.length → kin (gat gs i).1 (gat gs i).2 (kat ks i) = true
 | [], [] => by simp [exB]
 | [], _ :: _ => by simp [exB]
 | _ :: _, [] => by simp [exB]
 | t :: r, p :: s => by
  rw [exB, Bool.and_eq_true, exB_iff r s]
  constructor
  ·rintro ⟨h1, h2, h3⟩
   refine ⟨by simp [h2], fun i hi => ?_⟩
   cases i with
   | zero => exact h1
   | succ i => exact h3 i (by simpa using hi)
  ·rintro ⟨h1, h2⟩
   exact ⟨h2 0 (by simp), by simpa using h1, fun i hi => h2 (i + 1) (by simpa using hi)⟩
structure GqSt (w wr : World) (ks : List Tree) (gs : List (Int × Int)) (j : Nat) : Prop where
 bel : Below w.heap.size w wr
 all : ∀ i, i < gs.length → i < j → kin (gat gs i).1 (gat gs i).2 (kat ks i) = true
set_option maxHeartbeats 4000000 in
set_option maxRecDepth 100000 in
theorem eqg_any (ks : List Tree) (gs : List (Int × Int)) (x : Option Addr) (k : Nat) (y : Option Addr) (c : Nat) (hy : ∀ (_ : 0 < gs.length), ∃ g, y = some ⟨g, 0, none⟩ ∧ True) (hc : gs.length ≤ c ∧ c ≤ 1000) (w : World) (hk1 : ks.length ≤ k) (hk2 : k ≤ maxLen)
  (hG : ∀ g, y = some ⟨g, 0, none⟩ → GrAt w g gs) (hT : ∀ i (hi : i < ks.length), ∃ ad, x = some ad ∧ True ∧ KidAt w (fun _ => True) ad i (kat ks i)) :
  Calls Tryz.prog 123 #[.slice x ks.length k, .slice y gs.length c, .func (Fn.func 124) #[] #[]] w fun e w' => e = .returned (.bool (exB ks gs)) ∧ Below w.heap.size w w' := by
 have HK := Hd hT
 have HG : Hid (∀ i, i < gs.length → ∃ g, y = some ⟨g, 0, none⟩ ∧ w.cell? ⟨g, i * 2, none⟩ = some (.int .i64 (gat gs i).1) ∧ w.cell? ⟨g, i * 2 + 1, none⟩ = some (.int .i64 (gat gs i).2)) := Hd fun i h => by
  obtain ⟨g, hg, _⟩ := hy (by omega)
  exact ⟨g, hg, hG g hg i h⟩
 have HIFF := Hd (exB_iff ks gs)
 have HX1 := Hd fun a b l x n k W => exactly1_any a b l x n k W
 obtain ⟨hc1, hc2⟩ := hc
 unfold maxLen at hk2
 clear hT hG hy
 by_cases hn : ks.length = gs.length
 rotate_left
 ·have q1 : ((ks.length : Int) == (gs.length : Int)) = false := by rw [beq_eq_false_iff_ne]; omega
  have HR : Hid (exB ks gs = false) := Hd (Bool.eq_false_iff.2 fun h => hn (HIFF.out.1 h).1)
  generalize ks.length = N at *
  generalize gs.length = M at *
  go_enter Tryz.func123, Tryz.ntmps123
  go_wp2
  go_ret
  exact ⟨by rw [HR.out]; rfl, Below.refl _ _⟩
 have h0 : Hid (GqSt w w ks gs 0) := Hd ⟨Below.refl _ _, fun i _ hi => by omega⟩
 have HN := Hd hn
 generalize hNk2 : gs.length = N2 at *
 generalize hNk : ks.length = N at *
 subst hn
 have HNK := Hd hNk
 have HNG := Hd hNk2
 clear hNk hNk2
 go_enter Tryz.func123, Tryz.ntmps123
 go_wp2
 go_loopw [17] (fun i wr => ∃ j : Nat, j ≤ N ∧ i = .int .i64 (j : Int) ∧ Hid (GqSt w wr ks gs j)) (fun i _ => N - (intOf i).toNat)
 case atStart => exact ⟨0, by omega, rfl, h0⟩
 case round =>
  clear h0
  obtain ⟨j, hj, rfl, hX⟩ := hrel
  by_cases hjn : j < N
  ·obtain ⟨ad1, hxa, hab, hkid⟩ := HK.out j hjn
   obtain ⟨g, hyg, g1, g2⟩ := HG.out j hjn
   subst hxa hyg
   have hbw := hX.out.bel
   have hgl := cell_block_lt g1
   obtain ⟨l3, x3, n3, k3, ⟨e0, e1, e2, e3, e4, e5, e6, e7, e8, e9, e10⟩, hT3⟩ := hkid.keep (w' := wr) (Q := fun _ => True) hab (fun g hg hl => hbw.block g hl) fun _ hg _ => trivial
   have hkk : kindT (kat ks j) = l3.kind := kindT_cellsE hT3
   have HB1 := Hd (hbw.alloc hbw.size (.cells #[.int .i64 l3.kind, .string (str l3.name), .int .u64 l3.num, .int .i64 l3.wd, .bool l3.sg, .int .i64 l3.op, .int .i64 l3.fac, .int .i64 l3.pip, .int .i64 l3.unr, .int .i64 l3.line, .slice x3 n3 k3] 27))
   have f1 : (wr.alloc (.cells #[.int .i64 l3.kind, .string (str l3.name), .int .u64 l3.num, .int .i64 l3.wd, .bool l3.sg, .int .i64 l3.op, .int .i64 l3.fac, .int .i64 l3.pip, .int .i64 l3.unr, .int .i64 l3.line, .slice x3 n3 k3] 27)).cell? ⟨g, j * 2, none⟩ = some (.int .i64 (gat gs j).1) := (HB1.out.cell (p := ⟨g, j * 2, none⟩) hgl).trans g1
   have f2 : (wr.alloc (.cells #[.int .i64 l3.kind, .string (str l3.name), .int .u64 l3.num, .int .i64 l3.wd, .bool l3.sg, .int .i64 l3.op, .int .i64 l3.fac, .int .i64 l3.pip, .int .i64 l3.unr, .int .i64 l3.line, .slice x3 n3 k3] 27)).cell? ⟨g, j * 2 + 1, none⟩ = some (.int .i64 (gat gs j).2) := (HB1.out.cell (p := ⟨g, j * 2 + 1, none⟩) hgl).trans g2
   have HKJ : Hid (kin (gat gs j).1 (gat gs j).2 (kat ks j) = inG (gat gs j).1 (gat gs j).2 l3.kind) := Hd (by unfold kin; rw [hkk])
   have HX := Hd hX.out
   have hj0 : (0 : Int) ≤ (j : Int) := by omega
   have hj1 : (j : Int) < (N : Int) := by omega
   have HFAL : Hid (inG (gat gs j).1 (gat gs j).2 l3.kind = false → exB ks gs = false) := Hd fun h => Bool.eq_false_iff.2 fun hh => by
    have := (HIFF.out.1 hh).2 j hjn
    rw [HKJ.out, h] at this; cases this
   have HTRU : Hid (inG (gat gs j).1 (gat gs j).2 l3.kind = true → ∀ W, Below w.heap.size w W → Hid (GqSt w W ks gs (j + 1))) := Hd fun h W hb => Hd ⟨hb, fun i hi hij => by
    by_cases e : i = j
    ·subst e; rw [HKJ.out]; exact h
    ·exact HX.out.all i hi (by omega)⟩
   have HCW := Hd fun W => HX1.out (gat gs j).1 (gat gs j).2 l3 x3 n3 k3 W
   have HB2 := Hd (HB1.out.alloc HB1.out.size (.cells #[.int .i64 (gat gs j).1, .int .i64 (gat gs j).2] 99))
   clear hT3 hkid hbw hkk g1 g2 hX HX HKJ HIFF
   generalize (gat gs j).1 = ga at *
   generalize (gat gs j).2 = gb at *
   generalize inG ga gb l3.kind = bq at *
   go_wp2_with fail
   refine (HCW.out _).mono ?_
   rintro e w5 ⟨rfl, hb5⟩
   have HB5 := Hd (HB2.out.trans (hb5.mono HB2.out.size))
   clear hb5 HCW HB2 HB1 f1 f2 e0 e1 e2 e3 e4 e5 e6 e7 e8 e9 e10
   cases bq with
   | true =>
    have HX2 := HTRU.out rfl _ HB5.out
    clear HTRU HFAL
    go_wp2
    go_roundw
    case rel => exact ⟨j + 1, by omega, by go_num, HX2⟩
    case measure => simp [intOf]; omega
   | false =>
    have HR := Hd (HFAL.out rfl)
    clear HTRU HFAL
    go_wp2
    go_ret
    exact ⟨by rw [HR.out]; rfl, HB5.out⟩
  ·obtain rfl : j = N := by omega
   have HR : Hid (exB ks gs = true) := Hd (HIFF.out.2 ⟨HN.out, fun i hi => hX.out.all i (by first | exact hi | (rw [HNG.out]; exact hi)) (by first | exact hi | (rw [HNG.out] at hi; exact hi))⟩)
   have HB := Hd hX.out.bel
   clear hX
   go_wp2
   go_ret
   exact ⟨by rw [HR.out]; rfl, HB.out⟩
end Go.Proofs.YthdbaligapdbeaaGreatDoor
