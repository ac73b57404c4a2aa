/- The code's Bare: contract. -/
import Derived.Test.YtfnhogeocbndcaaGreatDoorMgLxPunct
import Derived.Test.YtfnhogeocbndcaaGreatDoorMgPsLs
import Derived.Test.YtfnhogeocbndcaaGreatDoorMgPsSame
import Derived.Laws.MakeOwn
namespace Go.Proofs.YtfnhogeocbndcaaGreatDoor
open Go Go.RowKit
set_option linter.unusedVariables false

mutual
def bareT : Tree → Tree
  | .node l ks => .node (bareL l) (bareTs ks)
def bareTs : List Tree → List Tree
  | [] => []
  | t :: r => bareT t :: bareTs r
end
theorem bareTs_eq : ∀ ks : List Tree, bareTs ks = ks.map bareT
  | [] => by rw [bareTs]; rfl
  | t :: r => by rw [bareTs, bareTs_eq r]; rfl
theorem bareTs_length (ks : List Tree) : (bareTs ks).length = ks.length := by rw [bareTs_eq]; simp
theorem bareTs_kat {ks : List Tree} {i : Nat} (h : i < ks.length) : kat (bareTs ks) i = bareT (kat ks i) := by
  rw [bareTs_eq]
  simp [kat, List.getD, h]
def zN : List Value := [.int .i64 0, .string ⟨#[]⟩, .int .u64 0, .int .i64 0, .bool false, .int .i64 0, .int .i64 0, .int .i64 0, .int .i64 0, .int .i64 0, .slice none 0 0]
theorem hmake (n : Nat) (hn : n ≤ 1000000) (W : World) : (Instr.makeSlice 26 (.int .i64 (n : Int)) (.int .i64 (n : Int))).run Tryz.prog W = .ok (.slice (some ⟨W.heap.size, 0, none⟩) n n) (W.alloc (.cells (madeCells zN.toArray (n * 11)) 28)) := by
  obtain ⟨i, hi, hz⟩ := Option.map_eq_some_iff.1 infoNd2
  simp only [Prod.mk.injEq] at hz
  obtain ⟨hz, hs, hb⟩ := hz
  have h := run_make (P := Tryz.prog) W 26 28 i _ Tryz.underlying26 hi hz .i64 .i64 n n (by omega) (Int.le_refl _) (by rw [hb]; omega) (by omega)
  simp only [Int.toNat_natCast, hs] at h
  exact h
/-- A call's box and its result's block, and what lay there before the call. -/
structure BS (w0 w : World) (A : Nat) (cs : List Value) : Prop where
  a : Blk w A 28 cs
  r : Blk w (A + 1) 28 zN
  bel : Below A w0 w
theorem BS.call {w0 w w' : World} {A : Nat} {cs : List Value} (h : BS w0 w A cs) (hb : Below w.heap.size w w') : BS w0 w' A cs :=
  ⟨h.a.below hb h.a.lt, h.r.below hb h.r.lt, h.bel.trans (hb.mono (Nat.le_of_lt h.a.lt))⟩
theorem BS.set {w0 w : World} {A : Nat} {cs : List Value} (h : BS w0 w A cs) (i : Nat) (v : Value) : BS w0 (w.setCell ⟨A, i, none⟩ v) A (cs.set i v) :=
  ⟨h.a.set i v, h.r.set_other (by show A + 1 ≠ A; omega) v, h.bel.setCell (p := ⟨A, i, none⟩) (Nat.le_refl _) v⟩
theorem BS.alloc {w0 w : World} {A : Nat} {cs : List Value} (h : BS w0 w A cs) (o : Obj) : BS w0 (w.alloc o) A cs := h.call ((Below.refl _ _).alloc (Nat.le_refl _) o)
/-- The rows of a slice's nodes: the first j hold the bare trees. -/
structure BaSt (w0 wr : World) (A R N : Nat) (cs : List Value) (ks : List Tree) (j : Nat) : Prop where
  bs : BS w0 wr A cs
  row : ∃ rs : List Value, rs.length = N * 11 ∧ Blk wr R 28 rs ∧ ∀ i, i < j → TreeAt wr (fun g => R < g) ((rs.drop (i * 11)).take 11) (bareT (kat ks i))
  hR : A + 1 < R
theorem mid_old {rs vs : List Value} {i j N : Nat} (hl : rs.length = N * 11) (hv : vs.length = 11) (hj : j < N) (hi : i < j) : ((rs.take (j * 11) ++ vs ++ rs.drop (j * 11 + vs.length)).drop (i * 11)).take 11 = (rs.drop (i * 11)).take 11 := by
  rw [List.append_assoc, List.drop_append_of_le_length (by rw [List.length_take]; omega), List.take_append_of_le_length (by rw [List.length_drop, List.length_take]; omega), List.drop_take, List.take_take]
  congr 1
  omega
theorem mid_new {rs vs : List Value} {j N : Nat} (hl : rs.length = N * 11) (hv : vs.length = 11) (hj : j < N) : ((rs.take (j * 11) ++ vs ++ rs.drop (j * 11 + vs.length)).drop (j * 11)).take 11 = vs := by
  have h1 : (rs.take (j * 11)).length = j * 11 := by rw [List.length_take]; omega
  have e : (rs.take (j * 11) ++ vs ++ rs.drop (j * 11 + vs.length)).drop (j * 11) = vs ++ rs.drop (j * 11 + vs.length) := by
    rw [List.append_assoc]
    have := List.drop_left (l₁ := rs.take (j * 11)) (l₂ := vs ++ rs.drop (j * 11 + vs.length))
    rwa [h1] at this
  rw [e, ← hv, List.take_left]
theorem BaSt.step {w0 wr w7 : World} {A R N : Nat} {cs vs : List Value} {ks : List Tree} {j : Nat} (h : BaSt w0 wr A R N cs ks j) (hj : j < N) (hv : vs.length = 11) (hb : Below wr.heap.size wr w7) (hT : TreeAt w7 (fun g => wr.heap.size ≤ g) vs (bareT (kat ks j))) :
    BaSt w0 (putAt w7 R (j * 11) vs) A R N cs ks (j + 1) := by
  obtain ⟨rs, hl, hrow, hall⟩ := h.row
  have hRl := hrow.lt
  have hR := h.hR
  have hb7 := h.bs.call hb
  have hot : ∀ g, g ≠ R → (putAt w7 R (j * 11) vs).heap[g]? = w7.heap[g]? := fun g hg => put_other hg _ _ _
  have hrow7 := hrow.below hb hRl
  have h8 := blk_putAt vs w7 rs (j * 11) hrow7 (by rw [hv, hl]; omega)
  refine ⟨⟨(hot A (by omega)).trans hb7.a, (hot (A + 1) (by omega)).trans hb7.r, put_below (by omega) _ _ _ hb7.bel⟩, ⟨_, ?_, h8, fun i hi => ?_⟩, hR⟩
  · rw [List.length_append, List.length_append, List.length_take, List.length_drop, hv, hl]; omega
  · by_cases e : i = j
    · subst e
      rw [mid_new hl hv hj]
      exact hT.keep (fun g hg _ => hot g (by omega)) fun g hg _ => by omega
    · rw [mid_old hl hv hj (by omega)]
      refine (hall i (by omega)).keep (w' := putAt w7 R (j * 11) vs) (fun g hg hlt => ?_) fun g hg _ => hg
      rw [hot g (by omega)]
      exact hb.block g hlt
/-- The rows are a node's Kids. -/
theorem BaSt.tree {w0 wr w' : World} {A R N : Nat} {cs : List Value} {ks : List Tree} (h : BaSt w0 wr A R N cs ks N) (hN : ks.length = N) (hn : N ≤ 1000000) (l : Lab) (hs : ∀ g, A + 1 < g → g < wr.heap.size → w'.heap[g]? = wr.heap[g]?) :
    TreeAt w' (fun g => A ≤ g) (lcells (bareL l) (.slice (some ⟨R, 0, none⟩) N N)) (bareT (.node l ks)) := by
  obtain ⟨rs, hl, hrow, hall⟩ := h.row
  have hRl := hrow.lt
  have hR := h.hR
  rw [bareT]
  have hrow2 : Blk w' R 28 rs := (hs R hR hRl).trans hrow
  refine .mk _ _ _ N N (fun i => (rs.drop (i * 11)).take 11) _ (by rw [bareTs_length, hN]) (Nat.le_refl _) (by unfold maxLen; omega) (fun _ => by show A ≤ R; omega) (fun i hi j hj => ?_) fun i hi => ?_
  · have ha : (⟨R, 0, none⟩ : Addr).add (i * 11 + j) = ⟨R, i * 11 + j, none⟩ := by unfold Addr.add; split <;> simp_all
    rw [ha, hrow2.cell, List.getElem?_take, if_pos hj, List.getElem?_drop]
  · rw [bareTs_length, hN] at hi
    rw [← kat_get (by rw [bareTs_length, hN]; exact hi), bareTs_kat (by omega)]
    exact (hall i hi).keep (fun g hg hlt => hs g (by omega) hlt) fun g hg _ => by omega
/-- A node stored into a row of nodes. -/
def storO (w : World) (g o : Nat) (x0 x1 x2 x3 x4 x5 x6 x7 x8 x9 x10 : Value) : World := ((((((((((w.setCell ⟨g, o, none⟩ x0).setCell ⟨g, o + 1, none⟩ x1).setCell ⟨g, o + 2, none⟩ x2).setCell ⟨g, o + 3, none⟩ x3).setCell ⟨g, o + 4, none⟩ x4).setCell ⟨g, o + 5, none⟩ x5).setCell ⟨g, o + 6, none⟩ x6).setCell ⟨g, o + 7, none⟩ x7).setCell ⟨g, o + 8, none⟩ x8).setCell ⟨g, o + 9, none⟩ x9).setCell ⟨g, o + 10, none⟩ x10
theorem storO_eq (w : World) (g o : Nat) (x0 x1 x2 x3 x4 x5 x6 x7 x8 x9 x10 : Value) : storO w g o x0 x1 x2 x3 x4 x5 x6 x7 x8 x9 x10 = putAt w g o [x0, x1, x2, x3, x4, x5, x6, x7, x8, x9, x10] := rfl
def BareOK (t : Tree) : Prop := ∀ (l : Lab) (x : Option Addr) (n k : Nat) (w : World), Ex w → TreeAt w (fun _ => True) [.int .i64 l.kind, .string (str l.name), .int .u64 l.num, .int .i64 l.wd, .bool l.sg, .int .i64 l.op, .int .i64 l.fac, .int .i64 l.pip, .int .i64 l.unr, .int .i64 l.line, .slice x n k] t →
  Calls Tryz.prog 22 #[.agg #[.int .i64 l.kind, .string (str l.name), .int .u64 l.num, .int .i64 l.wd, .bool l.sg, .int .i64 l.op, .int .i64 l.fac, .int .i64 l.pip, .int .i64 l.unr, .int .i64 l.line, .slice x n k]] w fun e w' => ∃ (l2 : Lab) (x2 : Option Addr) (n2 k2 : Nat), e = .returned (.agg #[.int .i64 l2.kind, .string (str l2.name), .int .u64 l2.num, .int .i64 l2.wd, .bool l2.sg, .int .i64 l2.op, .int .i64 l2.fac, .int .i64 l2.pip, .int .i64 l2.unr, .int .i64 l2.line, .slice x2 n2 k2]) ∧ TreeAt w' (fun g => w.heap.size ≤ g) [.int .i64 l2.kind, .string (str l2.name), .int .u64 l2.num, .int .i64 l2.wd, .bool l2.sg, .int .i64 l2.op, .int .i64 l2.fac, .int .i64 l2.pip, .int .i64 l2.unr, .int .i64 l2.line, .slice x2 n2 k2] (bareT t) ∧ Below w.heap.size w w'
theorem sclone_any (s : ByteArray) (w : World) (hs : s.size ≤ 281474976710656) : Calls Tryz.prog 43 #[.string s] w fun e w' => e = .returned (.string s) ∧ Below w.heap.size w w' := by
  have HC := Lib.hid (Tryz.stringslite_Clone s w hs)
  go_enter Tryz.func43, Tryz.ntmps43
  go_wp2_with fail
  refine HC.out.mono ?_
  rintro e w1 ⟨rfl, hb⟩
  go_wp2
  go_ret
  exact ⟨rfl, hb⟩
set_option maxHeartbeats 4000000 in
set_option maxRecDepth 100000 in
theorem bare_step (lt : Lab) (ks : List Tree) (hnm : lt.name.length ≤ 281474976710656) (hks : ks.length ≤ 1000000) (ih : ∀ i, i < ks.length → BareOK (kat ks i)) : BareOK (.node lt ks) := by
  intro l x n k w hE hT
  obtain ⟨xk, kk, hcs, hnk, hkm, hkids⟩ := TreeAt.kids hT
  obtain ⟨rfl, hv⟩ := lab_of (l := l) (m := lt) hcs
  simp only [Value.slice.injEq] at hv
  obtain ⟨rfl, rfl, rfl⟩ := hv
  have HK := Lib.hid hkids
  have HIH := Lib.hid ih
  clear hT hcs hkids ih
  unfold maxLen at hkm
  have hmk := hmake ks.length hks
  have HT := Lib.hid fun (N : Nat) (wr w' : World) (A R : Nat) (cs : List Value) (h : BaSt w wr A R N cs ks N) h1 h2 h3 => BaSt.tree (w' := w') h h1 h2 l h3
  have hbt := fun (n : Nat) (W : World) h => bareType_any { l with line := 0 } x n k W h
  have hbl : bareL { l with line := 0 } = bareL l := rfl
  rw [hbl] at hbt
  dsimp only at hbt
  have HBT := Lib.hid hbt
  clear hbt
  have HBL : Hid (bareL l = { l with line := 0, wd := (bareL l).wd, sg := (bareL l).sg }) := Lib.hid rfl
  have HCL := Lib.hid fun W => sclone_any (str l.name) W (by rw [str_size]; exact hnm)
  clear hbl hnm
  generalize (bareL l).wd = bw at *
  generalize (bareL l).sg = bs at *
  generalize hN : ks.length = N at *
  have HN := Lib.hid hN
  clear hN
  have HE := Lib.hid hE
  have HS1 : Hid (BS w ((w.alloc (.cells #[.int .i64 l.kind, .string (str l.name), .int .u64 l.num, .int .i64 l.wd, .bool l.sg, .int .i64 l.op, .int .i64 l.fac, .int .i64 l.pip, .int .i64 l.unr, .int .i64 0, .slice x N k] 28)).alloc (.cells #[.int .i64 0, .string ⟨#[]⟩, .int .u64 0, .int .i64 0, .bool false, .int .i64 0, .int .i64 0, .int .i64 0, .int .i64 0, .int .i64 0, .slice none 0 0] 28)) w.heap.size [.int .i64 l.kind, .string (str l.name), .int .u64 l.num, .int .i64 l.wd, .bool l.sg, .int .i64 l.op, .int .i64 l.fac, .int .i64 l.pip, .int .i64 l.unr, .int .i64 0, .slice x N k]) := Lib.hid ⟨(Blk.alloc w 28 [.int .i64 l.kind, .string (str l.name), .int .u64 l.num, .int .i64 l.wd, .bool l.sg, .int .i64 l.op, .int .i64 l.fac, .int .i64 l.pip, .int .i64 l.unr, .int .i64 0, .slice x N k]).alloc_other _, blk_two _ 28 zN, ((Below.refl w.heap.size w).alloc (Nat.le_refl _) _).alloc (by simp) _⟩
  clear hE
  go_enter Tryz.func22, Tryz.ntmps22
  go_wp2_with fail
  refine (HCL.out _).mono ?_
  rintro e w1 ⟨rfl, hb1⟩
  have HS2 := Lib.hid (HS1.out.call hb1)
  have c0 := HS2.out.a.cell
  have f0 := HS2.out.a.frozen
  have HS3 : Hid (BS w (w1.setCell ⟨w.heap.size, 1, none⟩ (.string (str l.name))) w.heap.size [.int .i64 l.kind, .string (str l.name), .int .u64 l.num, .int .i64 l.wd, .bool l.sg, .int .i64 l.op, .int .i64 l.fac, .int .i64 l.pip, .int .i64 l.unr, .int .i64 0, .slice x N k]) := Lib.hid (HS2.out.set 1 _)
  clear hb1 HS1
  go_wp2_with fail
  refine (HBT.out _ _ (HE.out.below HS3.out.bel)).mono ?_
  rintro e w2 ⟨rfl, hb2⟩
  have HS4 := Lib.hid (HS3.out.call hb2)
  clear c0 f0
  have c0 := HS4.out.a.cell
  have f0 := HS4.out.a.frozen
  have HS5 : Hid (BS w ((w2.setCell ⟨w.heap.size, 3, none⟩ (.int .i64 bw)).setCell ⟨w.heap.size, 4, none⟩ (.bool bs)) w.heap.size [.int .i64 l.kind, .string (str l.name), .int .u64 l.num, .int .i64 bw, .bool bs, .int .i64 l.op, .int .i64 l.fac, .int .i64 l.pip, .int .i64 l.unr, .int .i64 0, .slice x N k]) := Lib.hid ((HS4.out.set 3 _).set 4 _)
  have HS6 := Lib.hid (HS5.out.alloc (.cells (madeCells zN.toArray (N * 11)) 28))
  have hsz : ((w2.setCell ⟨w.heap.size, 3, none⟩ (.int .i64 bw)).setCell ⟨w.heap.size, 4, none⟩ (.bool bs)).heap.size = w2.heap.size := by simp [World.setCell]
  have hA2 : w.heap.size + 1 < w2.heap.size := HS4.out.r.lt
  have h0 : Hid (BaSt w (((w2.setCell ⟨w.heap.size, 3, none⟩ (.int .i64 bw)).setCell ⟨w.heap.size, 4, none⟩ (.bool bs)).alloc (.cells (madeCells zN.toArray (N * 11)) 28)) w.heap.size w2.heap.size N [.int .i64 l.kind, .string (str l.name), .int .u64 l.num, .int .i64 bw, .bool bs, .int .i64 l.op, .int .i64 l.fac, .int .i64 l.pip, .int .i64 l.unr, .int .i64 0, .slice x N k] ks 0) := by
    refine Lib.hid ⟨HS6.out, ⟨(madeCells zN.toArray (N * 11)).toList, by simp [size_madeCells], ?_, fun i hi => by omega⟩, hA2⟩
    have h := heap_alloc_new ((w2.setCell ⟨w.heap.size, 3, none⟩ (.int .i64 bw)).setCell ⟨w.heap.size, 4, none⟩ (.bool bs)) (.cells (madeCells zN.toArray (N * 11)) 28)
    rw [hsz] at h
    unfold Blk
    rw [h, Array.toArray_toList]
  have c6 := HS6.out.a.cell
  clear hb2 HS2 HS3 hsz
  go_wp2
  generalize (((w2.setCell ⟨w.heap.size, 3, none⟩ (.int .i64 bw)).setCell ⟨w.heap.size, 4, none⟩ (.bool bs)).alloc (.cells (madeCells zN.toArray (N * 11)) 28)) = W6 at *
  generalize w2.heap.size = R at *
  clear c0 f0 c6 HS4 HS5 HS6 hmk
  go_loopw [21] (fun i wr => ∃ j : Nat, j ≤ N ∧ i = .int .i64 (j : Int) ∧ Hid (BaSt w wr w.heap.size R N [.int .i64 l.kind, .string (str l.name), .int .u64 l.num, .int .i64 bw, .bool bs, .int .i64 l.op, .int .i64 l.fac, .int .i64 l.pip, .int .i64 l.unr, .int .i64 0, .slice x N k] ks j)) (fun i _ => N - (intOf i).toNat)
  case atStart => exact ⟨0, by omega, rfl, h0⟩
  case round =>
    clear h0
    obtain ⟨j, hj, rfl, hX⟩ := hrel
    by_cases hjn : j < N
    · obtain ⟨a, hxa, hab, hkid⟩ := HK.out j hjn
      subst hxa
      have hbw := hX.out.bs.bel
      obtain ⟨l3, x3, n3, k3, ⟨e0, e1, e2, e3, e4, e5, e6, e7, e8, e9, e10⟩, hT3⟩ := hkid.keep (w' := wr) (Q := fun _ => True) hab (fun g hg hl => hbw.block g hl) fun _ hg _ => trivial
      have hbb := (Below.refl wr.heap.size wr).alloc (Nat.le_refl _) (.cells #[.int .i64 l3.kind, .string (str l3.name), .int .u64 l3.num, .int .i64 l3.wd, .bool l3.sg, .int .i64 l3.op, .int .i64 l3.fac, .int .i64 l3.pip, .int .i64 l3.unr, .int .i64 l3.line, .slice x3 n3 k3] 28)
      have HC := Lib.hid (HIH.out j hjn l3 x3 n3 k3 (wr.alloc (.cells #[.int .i64 l3.kind, .string (str l3.name), .int .u64 l3.num, .int .i64 l3.wd, .bool l3.sg, .int .i64 l3.op, .int .i64 l3.fac, .int .i64 l3.pip, .int .i64 l3.unr, .int .i64 l3.line, .slice x3 n3 k3] 28)) (HE.out.below (hbw.trans (hbb.mono hbw.size))) (hT3.keep (fun g _ hl => hbb.block g hl) fun _ _ _ => trivial))
      have hj0 : (0 : Int) ≤ (j : Int) := by omega
      have hj1 : (j : Int) < (N : Int) := by omega
      have HBB := Lib.hid hbb
      clear hT3 hkid hbw hbb
      go_wp2_with fail
      refine HC.out.mono ?_
      rintro e w7 ⟨l4, x4, n4, k4, rfl, hT4, hb7⟩
      have hb : Below wr.heap.size wr w7 := HBB.out.trans (hb7.mono HBB.out.size)
      have hT5 : TreeAt w7 (fun g => wr.heap.size ≤ g) [.int .i64 l4.kind, .string (str l4.name), .int .u64 l4.num, .int .i64 l4.wd, .bool l4.sg, .int .i64 l4.op, .int .i64 l4.fac, .int .i64 l4.pip, .int .i64 l4.unr, .int .i64 l4.line, .slice x4 n4 k4] (bareT (kat ks j)) := hT4.mono fun g hg _ => by simp at hg; omega
      have hst := hX.out.step hjn (vs := [.int .i64 l4.kind, .string (str l4.name), .int .u64 l4.num, .int .i64 l4.wd, .bool l4.sg, .int .i64 l4.op, .int .i64 l4.fac, .int .i64 l4.pip, .int .i64 l4.unr, .int .i64 l4.line, .slice x4 n4 k4]) rfl hb hT5
      rw [← storO_eq] at hst
      have HX2 := Lib.hid hst
      obtain ⟨rs, hl, hrow, _⟩ := hX.out.row
      have hrow7 := hrow.below hb hrow.lt
      have hz : ∀ c, c < 11 → ∃ z, w7.cell? ⟨R, j * 11 + c, none⟩ = some z := fun c hc => by
        rw [hrow7.cell]
        exact ⟨_, List.getElem?_eq_getElem (by rw [hl]; omega)⟩
      have hfr := hrow7.frozen
      obtain ⟨z0, hz0⟩ := hz 0 (by omega)
      obtain ⟨z1, hz1⟩ := hz 1 (by omega)
      obtain ⟨z2, hz2⟩ := hz 2 (by omega)
      obtain ⟨z3, hz3⟩ := hz 3 (by omega)
      obtain ⟨z4, hz4⟩ := hz 4 (by omega)
      obtain ⟨z5, hz5⟩ := hz 5 (by omega)
      obtain ⟨z6, hz6⟩ := hz 6 (by omega)
      obtain ⟨z7, hz7⟩ := hz 7 (by omega)
      obtain ⟨z8, hz8⟩ := hz 8 (by omega)
      obtain ⟨z9, hz9⟩ := hz 9 (by omega)
      obtain ⟨z10, hz10⟩ := hz 10 (by omega)
      rw [Nat.add_zero] at hz0
      clear hst hz hX HC HBB hT4 hb7 hb hT5 hl hrow hrow7 e0 e1 e2 e3 e4 e5 e6 e7 e8 e9 e10
      go_wp2
      go_roundw
      case rel => exact ⟨j + 1, by omega, by go_num, HX2⟩
      case measure => simp [intOf]; omega
    · obtain rfl : j = N := by omega
      have HF := Lib.hid (hX.out.bs.set 10 (.slice (some ⟨R, 0, none⟩) j j))
      have c0 := hX.out.bs.a.cell
      have f0 := hX.out.bs.a.frozen
      have c1 := hX.out.bs.r.cell
      have f1 := hX.out.bs.r.frozen
      unfold zN at c1
      have hTT := HT.out j wr (stor11 (wr.setCell ⟨w.heap.size, 10, none⟩ (.slice (some ⟨R, 0, none⟩) j j)) (w.heap.size + 1) (.int .i64 l.kind) (.string (str l.name)) (.int .u64 l.num) (.int .i64 bw) (.bool bs) (.int .i64 l.op) (.int .i64 l.fac) (.int .i64 l.pip) (.int .i64 l.unr) (.int .i64 0) (.slice (some ⟨R, 0, none⟩) j j)) w.heap.size R _ hX.out rfl hks (fun g hg _ => by
        rw [stor11_other _ (by omega)]
        exact Below.heap_setCell _ _ _ _ (by show g ≠ w.heap.size; omega))
      rw [HBL.out] at hTT
      have HTT := Lib.hid hTT
      have hbe : Below w.heap.size w (stor11 (wr.setCell ⟨w.heap.size, 10, none⟩ (.slice (some ⟨R, 0, none⟩) j j)) (w.heap.size + 1) (.int .i64 l.kind) (.string (str l.name)) (.int .u64 l.num) (.int .i64 bw) (.bool bs) (.int .i64 l.op) (.int .i64 l.fac) (.int .i64 l.pip) (.int .i64 l.unr) (.int .i64 0) (.slice (some ⟨R, 0, none⟩) j j)) := by
        rw [stor11_eq]
        exact put_below (by omega) _ _ _ (hX.out.bs.bel.setCell (p := ⟨w.heap.size, 10, none⟩) (Nat.le_refl _) _)
      have HBE := Lib.hid hbe
      clear hX hTT hbe
      go_wp2
      refine bodyPost_ret ((HF.out.r.stor11 rfl (.int .i64 l.kind) (.string (str l.name)) (.int .u64 l.num) (.int .i64 bw) (.bool bs) (.int .i64 l.op) (.int .i64 l.fac) (.int .i64 l.pip) (.int .i64 l.unr) (.int .i64 0) (.slice (some ⟨R, 0, none⟩) j j)).res1 Tryz.results22 Tryz.underlying28 rfl infoNd _ rfl) rfl ?_
      exact ⟨{ l with line := 0, wd := bw, sg := bs }, some ⟨R, 0, none⟩, j, j, rfl, HTT.out, HBE.out⟩
theorem bareTree_any : ∀ d t, depth t ≤ d → count t ≤ 1000000 → TreeWf 281474976710656 t → BareOK t := by
  intro d
  induction d with
  | zero => intro t h; obtain ⟨lt, ks⟩ := t; rw [depth] at h; omega
  | succ d ih =>
    intro t h hc hw
    obtain ⟨lt, ks⟩ := t
    cases hw with
    | mk _ _ hl hk =>
      have hlen : ks.length ≤ counts ks := by
        clear h hc hl hk ih
        induction ks with
        | nil => simp
        | cons t r ih =>
          obtain ⟨l2, ks2⟩ := t
          rw [counts, count, List.length_cons]
          omega
      refine bare_step lt ks hl.name (by rw [count] at hc; omega) fun i hi => ih _ ?_ ?_ ?_
      · have := depth_kat hi
        rw [depth] at h
        omega
      · have := count_kat hi
        rw [count] at hc
        omega
      · rw [kat_get hi]; exact hk i hi
end Go.Proofs.YtfnhogeocbndcaaGreatDoor
