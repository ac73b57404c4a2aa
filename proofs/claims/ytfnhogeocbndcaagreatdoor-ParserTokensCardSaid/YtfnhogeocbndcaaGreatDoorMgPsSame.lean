/- Count and Depth: contracts. -/
import Derived.Test.YtfnhogeocbndcaaGreatDoorMgPsKid
import Derived.Test.YtfnhogeocbndcaaGreatDoorMgPsOpen
namespace Go.Proofs.YtfnhogeocbndcaaGreatDoor
open Go Go.RowKit
set_option linter.unusedVariables false

def csum (ks : List Tree) (i : Nat) : Nat := counts (ks.take i)
def dmax (ks : List Tree) (i : Nat) : Nat := depths (ks.take i)
theorem depths_app : ∀ (a b : List Tree), depths (a ++ b) = max (depths a) (depths b)
  | [], b => by rw [List.nil_append, depths]; omega
  | t :: r, b => by rw [List.cons_append, depths, depths, depths_app r b]; omega
theorem take_kat {ks : List Tree} {i : Nat} (h : i < ks.length) : ks.take (i + 1) = ks.take i ++ [kat ks i] := by rw [kat_get h]; exact List.take_succ_eq_append_getElem h
theorem csum_succ {ks : List Tree} {i : Nat} (h : i < ks.length) : csum ks (i + 1) = csum ks i + count (kat ks i) := by
  unfold csum
  rw [take_kat h, counts_app, counts, counts]
  omega
theorem dmax_succ {ks : List Tree} {i : Nat} (h : i < ks.length) : dmax ks (i + 1) = max (dmax ks i) (depth (kat ks i)) := by
  unfold dmax
  rw [take_kat h, depths_app, depths, depths]
  omega
theorem csum_all (ks : List Tree) : csum ks ks.length = counts ks := by unfold csum; rw [List.take_length]
theorem dmax_all (ks : List Tree) : dmax ks ks.length = depths ks := by unfold dmax; rw [List.take_length]
theorem csum_le (ks : List Tree) (i : Nat) : csum ks i ≤ counts ks := by
  have := counts_app (ks.take i) (ks.drop i)
  rw [List.take_append_drop] at this
  unfold csum
  omega
theorem dmax_le (ks : List Tree) (i : Nat) : dmax ks i ≤ depths ks := by
  have := depths_app (ks.take i) (ks.drop i)
  rw [List.take_append_drop] at this
  unfold dmax
  omega
theorem depth_kat {ks : List Tree} {i : Nat} (h : i < ks.length) : depth (kat ks i) ≤ depths ks := by
  have := dmax_le ks (i + 1)
  rw [dmax_succ h] at this
  omega
theorem count_kat {ks : List Tree} {i : Nat} (h : i < ks.length) : count (kat ks i) ≤ counts ks := by
  have := csum_le ks (i + 1)
  rw [csum_succ h] at this
  omega
/-- How far a loop over the kids has come. -/
structure CnSt (w wr : World) (acc i v : Nat) : Prop where
  eq : acc = v
  bel : Below w.heap.size w wr

def CountOK (t : Tree) : Prop := ∀ (l : Lab) (x : Option Addr) (n k : Nat) (w : World), TreeAt w (fun _ => True) [.int .i64 l.kind, .string (str l.name), .int .u64 l.num, .int .i64 l.wd, .bool l.sg, .int .i64 l.op, .int .i64 l.fac, .int .i64 l.pip, .int .i64 l.unr, .int .i64 l.line, .slice x n k] t →
  Calls Tryz.prog 24 #[.agg #[.int .i64 l.kind, .string (str l.name), .int .u64 l.num, .int .i64 l.wd, .bool l.sg, .int .i64 l.op, .int .i64 l.fac, .int .i64 l.pip, .int .i64 l.unr, .int .i64 l.line, .slice x n k]] w fun e w' => e = .returned (.int .i64 (count t : Int)) ∧ Below w.heap.size w w'
set_option maxHeartbeats 1000000 in
set_option maxRecDepth 100000 in
theorem count_step (lt : Lab) (ks : List Tree) (hc : count (.node lt ks) ≤ 1000000) (ih : ∀ i, i < ks.length → CountOK (kat ks i)) : CountOK (.node lt ks) := by
  intro l x n k w hT
  obtain ⟨xk, kk, hcs, hnk, hkm, hkids⟩ := TreeAt.kids hT
  obtain ⟨rfl, rfl, rfl⟩ : x = xk ∧ n = ks.length ∧ k = kk := by
    have h10 := congrArg (fun c : List Value => c[10]?) hcs
    simp [lcells] at h10
    exact h10
  rw [count] at hc ⊢
  have HK := Lib.hid hkids
  have HIH := Lib.hid ih
  have h0 : Hid (CnSt w (w.alloc (.cells #[.int .i64 l.kind, .string (str l.name), .int .u64 l.num, .int .i64 l.wd, .bool l.sg, .int .i64 l.op, .int .i64 l.fac, .int .i64 l.pip, .int .i64 l.unr, .int .i64 l.line, .slice x ks.length k] 28)) 1 0 (1 + csum ks 0)) := Lib.hid ⟨by unfold csum; rw [List.take_zero]; rfl, (Below.refl w.heap.size w).alloc (Nat.le_refl _) _⟩
  have HALL : Hid (1 + counts ks = 1 + csum ks ks.length) := Lib.hid (by rw [csum_all])
  rw [HALL.out]
  have HLE := Lib.hid fun i => csum_le ks i
  unfold maxLen at hkm
  clear hT hcs hkids ih HALL
  generalize hN : ks.length = N at *
  have HN := Lib.hid hN
  clear hN
  go_enter Tryz.func24, Tryz.ntmps24
  go_wp2
  go_loopw [3, 9] (fun o i wr => ∃ p j : Nat, j ≤ N ∧ o = .int .i64 (p : Int) ∧ i = .int .i64 (j : Int) ∧ Hid (CnSt w wr p j (1 + csum ks j))) (fun _ i _ => N - (intOf i).toNat)
  case atStart => exact ⟨1, 0, by omega, rfl, rfl, h0⟩
  case round =>
    clear h0
    obtain ⟨p, j, hj, rfl, rfl, hX⟩ := hrel
    have hpe := hX.out.eq
    by_cases hjn : j < N
    · have hjk : j < ks.length := by rw [HN.out]; exact hjn
      obtain ⟨a, hxa, hab, hkid⟩ := HK.out j hjn
      subst hxa
      obtain ⟨l2, x2, n2, k2, ⟨e0, e1, e2, e3, e4, e5, e6, e7, e8, e9, e10⟩, hT3⟩ := hkid.keep (w' := wr) (Q := fun _ => True) hab (fun g hg hl => hX.out.bel.block g hl) fun _ hg _ => trivial
      have hB4 := hX.out.bel.alloc hX.out.bel.size (.cells #[.int .i64 l2.kind, .string (str l2.name), .int .u64 l2.num, .int .i64 l2.wd, .bool l2.sg, .int .i64 l2.op, .int .i64 l2.fac, .int .i64 l2.pip, .int .i64 l2.unr, .int .i64 l2.line, .slice x2 n2 k2] 28)
      have HC := Lib.hid (HIH.out j hjn l2 x2 n2 k2 (wr.alloc (.cells #[.int .i64 l2.kind, .string (str l2.name), .int .u64 l2.num, .int .i64 l2.wd, .bool l2.sg, .int .i64 l2.op, .int .i64 l2.fac, .int .i64 l2.pip, .int .i64 l2.unr, .int .i64 l2.line, .slice x2 n2 k2] 28)) (hT3.keep (fun k _ hl => Below.heap_alloc wr _ k hl) fun k hk _ => trivial))
      have HB4 := Lib.hid hB4
      have hs := csum_succ hjk
      have hl1 := HLE.out (j + 1)
      clear hT3 hkid hB4
      generalize count (kat ks j) = ck at *
      go_wp2_with fail
      refine HC.out.mono ?_
      rintro e w1 ⟨rfl, hb⟩
      have HX : Hid (CnSt w w1 (p + ck) (j + 1) (1 + csum ks (j + 1))) := Lib.hid ⟨by omega, HB4.out.trans (hb.mono HB4.out.size)⟩
      clear hb HC HB4
      
      go_wp2
      go_roundw
      case rel => exact ⟨_, j + 1, by omega, by go_num, by go_num, HX⟩
      case measure => simp [intOf]; omega
    · obtain rfl : j = N := by omega
      have HB := Lib.hid hX.out.bel
      have hl1 := HLE.out j
      go_wp2
      go_ret
      exact ⟨by rw [hpe]; rfl, HB.out⟩
theorem countT_any : ∀ d t, depth t ≤ d → count t ≤ 1000000 → CountOK t := by
  intro d
  induction d with
  | zero => intro t h; obtain ⟨lt, ks⟩ := t; rw [depth] at h; omega
  | succ d ih =>
    intro t h hc
    obtain ⟨lt, ks⟩ := t
    refine count_step lt ks hc fun i hi => ih _ ?_ ?_
    · have := depth_kat hi
      rw [depth] at h
      omega
    · have := count_kat hi
      rw [count] at hc
      omega

def DepthOK (t : Tree) : Prop := ∀ (l : Lab) (x : Option Addr) (n k : Nat) (w : World), TreeAt w (fun _ => True) [.int .i64 l.kind, .string (str l.name), .int .u64 l.num, .int .i64 l.wd, .bool l.sg, .int .i64 l.op, .int .i64 l.fac, .int .i64 l.pip, .int .i64 l.unr, .int .i64 l.line, .slice x n k] t →
  Calls Tryz.prog 26 #[.agg #[.int .i64 l.kind, .string (str l.name), .int .u64 l.num, .int .i64 l.wd, .bool l.sg, .int .i64 l.op, .int .i64 l.fac, .int .i64 l.pip, .int .i64 l.unr, .int .i64 l.line, .slice x n k]] w fun e w' => e = .returned (.int .i64 (depth t : Int)) ∧ Below w.heap.size w w'
set_option maxHeartbeats 1000000 in
set_option maxRecDepth 100000 in
theorem depth_step (lt : Lab) (ks : List Tree) (hc : depth (.node lt ks) ≤ 1000000) (ih : ∀ i, i < ks.length → DepthOK (kat ks i)) : DepthOK (.node lt ks) := by
  intro l x n k w hT
  obtain ⟨xk, kk, hcs, hnk, hkm, hkids⟩ := TreeAt.kids hT
  obtain ⟨rfl, rfl, rfl⟩ : x = xk ∧ n = ks.length ∧ k = kk := by
    have h10 := congrArg (fun c : List Value => c[10]?) hcs
    simp [lcells] at h10
    exact h10
  rw [depth] at hc ⊢
  have HK := Lib.hid hkids
  have HIH := Lib.hid ih
  have h0 : Hid (CnSt w (w.alloc (.cells #[.int .i64 l.kind, .string (str l.name), .int .u64 l.num, .int .i64 l.wd, .bool l.sg, .int .i64 l.op, .int .i64 l.fac, .int .i64 l.pip, .int .i64 l.unr, .int .i64 l.line, .slice x ks.length k] 28)) 0 0 (dmax ks 0)) := Lib.hid ⟨by unfold dmax; rw [List.take_zero]; rfl, (Below.refl w.heap.size w).alloc (Nat.le_refl _) _⟩
  have HALL : Hid (1 + depths ks = 1 + dmax ks ks.length) := Lib.hid (by rw [dmax_all])
  rw [HALL.out]
  have HLE := Lib.hid fun i => dmax_le ks i
  unfold maxLen at hkm
  clear hT hcs hkids ih HALL
  generalize hN : ks.length = N at *
  have HN := Lib.hid hN
  clear hN
  go_enter Tryz.func26, Tryz.ntmps26
  go_wp2
  go_loopw [3, 9] (fun o i wr => ∃ p j : Nat, j ≤ N ∧ o = .int .i64 (p : Int) ∧ i = .int .i64 (j : Int) ∧ Hid (CnSt w wr p j (dmax ks j))) (fun _ i _ => N - (intOf i).toNat)
  case atStart => exact ⟨0, 0, by omega, rfl, rfl, h0⟩
  case round =>
    clear h0
    obtain ⟨p, j, hj, rfl, rfl, hX⟩ := hrel
    have hpe := hX.out.eq
    by_cases hjn : j < N
    · have hjk : j < ks.length := by rw [HN.out]; exact hjn
      obtain ⟨a, hxa, hab, hkid⟩ := HK.out j hjn
      subst hxa
      obtain ⟨l2, x2, n2, k2, ⟨e0, e1, e2, e3, e4, e5, e6, e7, e8, e9, e10⟩, hT3⟩ := hkid.keep (w' := wr) (Q := fun _ => True) hab (fun g hg hl => hX.out.bel.block g hl) fun _ hg _ => trivial
      have hB4 := hX.out.bel.alloc hX.out.bel.size (.cells #[.int .i64 l2.kind, .string (str l2.name), .int .u64 l2.num, .int .i64 l2.wd, .bool l2.sg, .int .i64 l2.op, .int .i64 l2.fac, .int .i64 l2.pip, .int .i64 l2.unr, .int .i64 l2.line, .slice x2 n2 k2] 28)
      have HC := Lib.hid (HIH.out j hjn l2 x2 n2 k2 (wr.alloc (.cells #[.int .i64 l2.kind, .string (str l2.name), .int .u64 l2.num, .int .i64 l2.wd, .bool l2.sg, .int .i64 l2.op, .int .i64 l2.fac, .int .i64 l2.pip, .int .i64 l2.unr, .int .i64 l2.line, .slice x2 n2 k2] 28)) (hT3.keep (fun k _ hl => Below.heap_alloc wr _ k hl) fun k hk _ => trivial))
      have HB4 := Lib.hid hB4
      have hs := dmax_succ hjk
      have hl1 := HLE.out (j + 1)
      clear hT3 hkid hB4
      generalize depth (kat ks j) = ck at *
      go_wp2_with fail
      refine HC.out.mono ?_
      rintro e w1 ⟨rfl, hb⟩
      have HX : Hid (CnSt w w1 (max p ck) (j + 1) (dmax ks (j + 1))) := Lib.hid ⟨by omega, HB4.out.trans (hb.mono HB4.out.size)⟩
      clear hb HC HB4
      have hmx : max (p : Int) (ck : Int) = ((max p ck : Nat) : Int) := by omega
      go_wp2
      go_roundw
      case rel => exact ⟨_, j + 1, by omega, by rw [← hpe, hmx], by go_num, HX⟩
      case measure => simp [intOf]; omega
    · obtain rfl : j = N := by omega
      have HB := Lib.hid hX.out.bel
      have hl1 := HLE.out j
      go_wp2
      go_ret
      exact ⟨by rw [hpe]; simp, HB.out⟩
theorem depthT_any : ∀ d t, depth t ≤ d → depth t ≤ 1000000 → DepthOK t := by
  intro d
  induction d with
  | zero => intro t h; obtain ⟨lt, ks⟩ := t; rw [depth] at h; omega
  | succ d ih =>
    intro t h hc
    obtain ⟨lt, ks⟩ := t
    refine depth_step lt ks hc fun i hi => ih _ ?_ ?_
    · have := depth_kat hi
      rw [depth] at h
      omega
    · have := depth_kat hi
      rw [depth] at hc
      omega
end Go.Proofs.YtfnhogeocbndcaaGreatDoor
/- Two trees are the same: mathematics. -/
namespace Go.Proofs.YtfnhogeocbndcaaGreatDoor
open Go Go.RowKit
set_option linter.unusedVariables false

/-- Equal but for the line. -/
def sameL (a b : Lab) : Bool := decide (a.kind = b.kind) && (decide (a.name = b.name) && (decide (a.num = b.num) && (decide (a.wd = b.wd) && (decide (a.sg = b.sg) && (decide (a.op = b.op) && (decide (a.fac = b.fac) && (decide (a.pip = b.pip) && decide (a.unr = b.unr))))))))
mutual
def sameT : Tree → Tree → Bool
  | .node a ks, .node b us => sameL a b && sameTs ks us
def sameTs : List Tree → List Tree → Bool
  | [], [] => true
  | t :: r, u :: s => sameT t u && sameTs r s
  | _, _ => false
end
mutual
def lineT : Tree → Tree → Bool
  | .node a ks, .node b us => decide (a.line = b.line) && lineTs ks us
def lineTs : List Tree → List Tree → Bool
  | [], [] => true
  | t :: r, u :: s => lineT t u && lineTs r s
  | _, _ => false
end
theorem sameL_iff {a b : Lab} : sameL a b = true ↔ a.kind = b.kind ∧ a.name = b.name ∧ a.num = b.num ∧ a.wd = b.wd ∧ a.sg = b.sg ∧ a.op = b.op ∧ a.fac = b.fac ∧ a.pip = b.pip ∧ a.unr = b.unr := by
  simp [sameL]
theorem sameL_refl (a : Lab) : sameL a a = true := sameL_iff.2 ⟨rfl, rfl, rfl, rfl, rfl, rfl, rfl, rfl, rfl⟩
theorem all_pair {f : Tree → Tree → Bool} {g : List Tree → List Tree → Bool} (h0 : g [] [] = true) (h1 : ∀ t r u s, g (t :: r) (u :: s) = (f t u && g r s)) (h2 : ∀ t r, g (t :: r) [] = false) (h3 : ∀ t r, g [] (t :: r) = false) :
    ∀ (ks us : List Tree), g ks us = true ↔ ks.length = us.length ∧ ∀ i, i < ks.length → f (kat ks i) (kat us i) = true
  | [], [] => by simp [h0]
  | t :: r, [] => by simp [h2]
  | [], u :: s => by simp [h3]
  | t :: r, u :: s => by
    rw [h1, Bool.and_eq_true, all_pair h0 h1 h2 h3 r s]
    constructor
    · rintro ⟨h, hl, hr⟩
      refine ⟨by simp [hl], fun i hi => ?_⟩
      cases i with
      | zero => exact h
      | succ i => exact hr i (by simpa using hi)
    · rintro ⟨hl, hr⟩
      exact ⟨hr 0 (by simp), by simpa using hl, fun i hi => hr (i + 1) (by simpa using hi)⟩
theorem sameTs_iff (ks us : List Tree) : sameTs ks us = true ↔ ks.length = us.length ∧ ∀ i, i < ks.length → sameT (kat ks i) (kat us i) = true :=
  all_pair (by rw [sameTs]) (fun _ _ _ _ => by rw [sameTs]) (fun _ _ => by rw [sameTs]; all_goals (intros; simp_all)) (fun _ _ => by rw [sameTs]; all_goals (intros; simp_all)) ks us
theorem lineTs_iff (ks us : List Tree) : lineTs ks us = true ↔ ks.length = us.length ∧ ∀ i, i < ks.length → lineT (kat ks i) (kat us i) = true :=
  all_pair (by rw [lineTs]) (fun _ _ _ _ => by rw [lineTs]) (fun _ _ => by rw [lineTs]; all_goals (intros; simp_all)) (fun _ _ => by rw [lineTs]; all_goals (intros; simp_all)) ks us
theorem sameT_lab {a b : Lab} {ks us : List Tree} (h : sameL a b = false) : sameT (.node a ks) (.node b us) = false := by rw [sameT, h]; rfl
theorem sameT_len {a b : Lab} {ks us : List Tree} (h : ks.length ≠ us.length) : sameT (.node a ks) (.node b us) = false := by
  rw [sameT]
  have : sameTs ks us = false := Bool.eq_false_iff.2 fun k => h ((sameTs_iff ks us).1 k).1
  rw [this, Bool.and_false]
theorem sameT_kid {a b : Lab} {ks us : List Tree} {i : Nat} (hi : i < ks.length) (h : sameT (kat ks i) (kat us i) = false) : sameT (.node a ks) (.node b us) = false := by
  rw [sameT]
  have : sameTs ks us = false := Bool.eq_false_iff.2 fun k => by rw [((sameTs_iff ks us).1 k).2 i hi] at h; cases h
  rw [this, Bool.and_false]
theorem sameT_all {a b : Lab} {ks us : List Tree} (hl : sameL a b = true) (h : ks.length = us.length) (hk : ∀ i, i < ks.length → sameT (kat ks i) (kat us i) = true) : sameT (.node a ks) (.node b us) = true := by
  rw [sameT, hl, (sameTs_iff ks us).2 ⟨h, hk⟩]; rfl
theorem lineT_lab {a b : Lab} {ks us : List Tree} (h : a.line ≠ b.line) : lineT (.node a ks) (.node b us) = false := by rw [lineT, decide_eq_false h]; rfl
theorem lineT_len {a b : Lab} {ks us : List Tree} (h : ks.length ≠ us.length) : lineT (.node a ks) (.node b us) = false := by
  rw [lineT]
  have : lineTs ks us = false := Bool.eq_false_iff.2 fun k => h ((lineTs_iff ks us).1 k).1
  rw [this, Bool.and_false]
theorem lineT_kid {a b : Lab} {ks us : List Tree} {i : Nat} (hi : i < ks.length) (h : lineT (kat ks i) (kat us i) = false) : lineT (.node a ks) (.node b us) = false := by
  rw [lineT]
  have : lineTs ks us = false := Bool.eq_false_iff.2 fun k => by rw [((lineTs_iff ks us).1 k).2 i hi] at h; cases h
  rw [this, Bool.and_false]
theorem lineT_all {a b : Lab} {ks us : List Tree} (hl : a.line = b.line) (h : ks.length = us.length) (hk : ∀ i, i < ks.length → lineT (kat ks i) (kat us i) = true) : lineT (.node a ks) (.node b us) = true := by
  rw [lineT, (lineTs_iff ks us).2 ⟨h, hk⟩, decide_eq_true hl]; rfl
/-- A node's cells tell its label and its list. -/
theorem lab_of {l m : Lab} {v u : Value} (h : lcells l v = lcells m u) : l = m ∧ v = u := by
  obtain ⟨a0, a1, a2, a3, a4, a5, a6, a7, a8, a9⟩ := l
  obtain ⟨b0, b1, b2, b3, b4, b5, b6, b7, b8, b9⟩ := m
  unfold lcells at h
  simp only [List.cons.injEq, Value.int.injEq, Value.string.injEq, Value.bool.injEq, true_and, and_true] at h
  obtain ⟨h0, h1, h2, h3, h4, h5, h6, h7, h8, h9, h10⟩ := h
  rw [h0, str_inj h1, h2, h3, h4, h5, h6, h7, h8, h9]
  exact ⟨rfl, h10⟩
/-- How far a loop over two lists of kids has come. -/
structure PairSt (f : Tree → Tree → Bool) (W wr : World) (ks us : List Tree) (j : Nat) : Prop where
  all : ∀ i, i < j → f (kat ks i) (kat us i) = true
  bel : Below W.heap.size W wr
end Go.Proofs.YtfnhogeocbndcaaGreatDoor
