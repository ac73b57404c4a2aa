/- The variable exprs, as it is laid. -/
import Derived.Test.YthdbaligapdbeaaGreatDoorMgLxLex
import Derived.Test.YthdbaligapdbeaaGreatDoorMgPsLaid
import Derived.Test.YthdbaligapdbeaaGreatDoorMgPsKid
import Derived.Deep.AppendLies
import Derived.Test.YthdbaligapdbeaaGreatDoorMgLxTk0
import Derived.Laws.MakeOwn
namespace Go.Proofs.YthdbaligapdbeaaGreatDoor
open Go Go.RowKit Go.Deep Go.ChangeShapes
set_option linter.unusedVariables false
set_option maxRecDepth 100000 in
theorem ex_of_laid {W : World} {r : List (String × DataW Unit)} (hL : laidMet Tryz.prog (("jacquard/parser.exprs", .agg [.lit (.int .i64 18), .lit (.int .i64 26)]) :: r) W) : Ex W := by
 obtain ⟨ps, ⟨g0, t0, cs0, f0, p0, q0, hg0, ht0, hv0, hd0, _, _⟩, _, _⟩ := hL
 have hg : Tryz.prog.globalNamed "jacquard/parser.exprs" = some 1 := by kernel_rfl
 have ht : (Tryz.prog.globals[1]?).map (·.type) = some 99 := by kernel_rfl
 obtain rfl := Option.some.inj (hg.symm.trans hg0)
 obtain rfl := Option.some.inj (ht.symm.trans ht0)
 obtain ⟨xs, n, _, hx, hl, hxl, hf⟩ := DataW.trod_struct Tryz.underlying99 hd0
 have hC : Tryz.prog.cellsOf 99 = 2 := by kernel_rfl
 have hi1 : Tryz.prog.cellsOf 3 = 1 := by kernel_rfl
 rw [hC] at hl
 have hxs : xs.map (·.1) = [.lit (.int .i64 18), .lit (.int .i64 26)] := (DataW.agg.inj (congrArg Prod.fst hx)).symm
 match xs, hxs with
 | [y0, y1], hxs =>
  simp at hxs
  obtain ⟨u0, u1, hcs⟩ : ∃ u0 u1, cs0.toList = [u0, u1] := by
   match cs0.toList, hl with
   | [u0, u1], _ => exact ⟨u0, u1, rfl⟩
  rw [hcs] at hf
  have f0' : DataW.trod _ Tryz.prog W _ _ _ n 3 (List.take (Tryz.prog.cellsOf 3) (List.drop 0 [u0, u1])) = some y0 := hf 0 _ rfl
  have f1' : DataW.trod _ Tryz.prog W _ _ _ n 3 (List.take (Tryz.prog.cellsOf 3) (List.drop 1 [u0, u1])) = some y1 := hf 1 _ rfl
  obtain ⟨z0, e0, e1, _⟩ := DataW.trod_int Tryz.underlying3 f0'
  obtain ⟨z1, e2, e3, _⟩ := DataW.trod_int Tryz.underlying3 f1'
  rw [hi1] at e0 e2
  simp at e0 e2
  have hy0 := hxs.1
  have hy1 := hxs.2
  rw [e1] at hy0
  rw [e3] at hy1
  simp at hy0 hy1
  have c0 := World.var?_cell hg hv0 0
  have c1 := World.var?_cell hg hv0 1
  refine ⟨?_, ?_⟩
  ·rw [c0, ← Array.getElem?_toList, hcs]; simp [e0, hy0]
  ·rw [c1, ← Array.getElem?_toList, hcs]; simp [e2, hy1]
end Go.Proofs.YthdbaligapdbeaaGreatDoor
/- The rule for lists in round brackets: contract, over any rule for the items. -/
namespace Go.Proofs.YthdbaligapdbeaaGreatDoor
open Go Go.RowKit
set_option linter.unusedVariables false

def LP (w : World) (R g c : Nat) (ts : List Tok) (x : List Tree × Sg) (e : Ending) (w' : World) : Prop :=
 ∃ v, e = .returned v ∧ Kids w' w.heap.size v x.1 ∧ Rd w' R g c ts x.2 ∧ St w w' R
theorem infoNd2 : (Tryz.prog.info? 27).map (fun i => (i.zero, i.size, i.bytes)) = some (some (.agg #[.int .i64 0, .string ⟨#[]⟩, .int .u64 0, .int .i64 0, .bool false, .int .i64 0, .int .i64 0, .int .i64 0, .int .i64 0, .int .i64 0, .slice none 0 0]), 11, 112) := by kernel_rfl
def slen : Value → Nat
 | .slice _ n _ => n
 | _ => 0
structure LsSt (ts : List Tok) (R g c : Nat) (item : Sg → Tree × Sg) (B : Nat) (X0 : List Tree × Sg) (w wr : World) (v : Value) (acc : List Tree) (s : Sg) : Prop where
 kd : Kids wr w.heap.size v acc
 rd : Rd wr R g c ts s
 st : St w wr R
 eq : ∃ m, rem ts s ≤ m ∧ X0 = more ts item (m + 1) acc s
 few : acc.length + rem ts s ≤ B
theorem kids_one {w : World} {base : Nat} {cs : List Value} {t : Tree} (hT : TreeAt w (base ≤ ·) cs t) (hb : base ≤ w.heap.size) : Kids (w.alloc (.cells cs.toArray 27)) base (.slice (some ⟨w.heap.size, 0, none⟩) 1 1) [t] := by
 have hl := hT.length
 refine ⟨fun _ => cs, ?_, fun i hi => ?_⟩
 ·have := World.ownsRow_lit (base := base) (e := 27) (size := 11) w cs.toArray 1 hb (by unfold maxLen; omega) (by simp [hl])
  simpa [flat] using this
 ·simp at hi
  subst hi
  exact hT.keep (fun g _ hg => Below.heap_alloc w _ g hg) fun k hk hlt => ⟨hk, fun e => by injection e with e; have : k = w.heap.size := e; omega⟩
theorem listM_shut {ts : List Tok} {item : Sg → Tree × Sg} {f : Nat} {s : Sg} (h : hasT ts (exc ts s [40]) [41] = true) : listM ts item f s = ([], adv (exc ts s [40])) := by unfold listM; rw [if_pos h]
theorem listM_open {ts : List Tok} {item : Sg → Tree × Sg} {f : Nat} {s : Sg} (h : hasT ts (exc ts s [40]) [41] = false) :
  listM ts item f s = ((more ts item f [(item (exc ts s [40])).1] (item (exc ts s [40])).2).1, exc ts (more ts item f [(item (exc ts s [40])).1] (item (exc ts s [40])).2).2 [41]) := by
 unfold listM; rw [if_neg (by simp [h])]

theorem St.own {w0 w w' : World} {R : Nat} {row : Option Nat} (h : St w0 w R) (hg : w.grownBy w' row) (hr : ∀ k, row = some k → w0.heap.size ≤ k) : St w0 w' R :=
 ⟨hg.os.trans h.os, hg.tape.trans h.tape, hg.output.trans h.output, Nat.le_trans h.size hg.size, fun k hk hne => (hg.block k (Nat.lt_of_lt_of_le hk (St.size h)) (fun e => by have := hr k e.symm; omega)).trans (World.grownBy.block h k hk hne)⟩
theorem Rd.own {w w' : World} {R g c : Nat} {ts : List Tok} {s : Sg} {row : Option Nat} (h : Rd w R g c ts s) (hg : g < R) (hw : w.grownBy w' row) (hr : ∀ k, row = some k → R < k) : Rd w' R g c ts s :=
 h.of_blocks (hw.block R h.lt (fun e => by have := hr R e.symm; omega)) (fun k hk => hw.block k (by have := h.lt; omega) (fun e => by have := hr k e.symm; omega)) hw.size
end Go.Proofs.YthdbaligapdbeaaGreatDoor
/- Count and Depth: contracts. -/
namespace Go.Proofs.YthdbaligapdbeaaGreatDoor
open Go Go.RowKit
set_option linter.unusedVariables false

def csum (ks : List Tree) (i : Nat) : Nat := counts (ks.take i)
def dmax (ks : List Tree) (i : Nat) : Nat := depths (ks.take i)
theorem depths_app : ∀ (a b : List Tree), depths (a ++ b) = max (depths a) (depths b)
 | [], b => by rw [List.nil_append, depths]; omega
 | t :: r, b => by rw [List.cons_append, depths, depths, depths_app r b]; omega
theorem take_kat {ks : List Tree} {i : Nat} (h : i < ks.length) : ks.take (i + 1) = ks.take i ++ [kat ks i] := by rw [kat_get h]; exact List.take_succ_eq_append_getElem h
theorem csum_succ {ks : List Tree} {i : Nat} (h : i < ks.length) : csum ks (i + 1) = csum ks i + count (kat ks i) := by
 unfold csum
 rw [take_kat h, counts_app, counts, counts]
 omega
theorem dmax_succ {ks : List Tree} {i : Nat} (h : i < ks.length) : dmax ks (i + 1) = max (dmax ks i) (depth (kat ks i)) := by
 unfold dmax
 rw [take_kat h, depths_app, depths, depths]
 omega
theorem csum_all (ks : List Tree) : csum ks ks.length = counts ks := by unfold csum; rw [List.take_length]
theorem dmax_all (ks : List Tree) : dmax ks ks.length = depths ks := by unfold dmax; rw [List.take_length]
theorem csum_le (ks : List Tree) (i : Nat) : csum ks i ≤ counts ks := by
 have := counts_app (ks.take i) (ks.drop i)
 rw [List.take_append_drop] at this
 unfold csum
 omega
theorem dmax_le (ks : List Tree) (i : Nat) : dmax ks i ≤ depths ks := by
 have := depths_app (ks.take i) (ks.drop i)
 rw [List.take_append_drop] at this
 unfold dmax
 omega
theorem depth_kat {ks : List Tree} {i : Nat} (h : i < ks.length) : depth (kat ks i) ≤ depths ks := by
 have := dmax_le ks (i + 1)
 rw [dmax_succ h] at this
 omega
theorem count_kat {ks : List Tree} {i : Nat} (h : i < ks.length) : count (kat ks i) ≤ counts ks := by
 have := csum_le ks (i + 1)
 rw [csum_succ h] at this
 omega
structure CnSt (w wr : World) (acc i v : Nat) : Prop where
 eq : acc = v
 bel : Below w.heap.size w wr

end Go.Proofs.YthdbaligapdbeaaGreatDoor
/- Two trees are the same: mathematics. -/
namespace Go.Proofs.YthdbaligapdbeaaGreatDoor
open Go Go.RowKit
set_option linter.unusedVariables false

def sameL (a b : Lab) : Bool := decide (a.kind = b.kind) && (decide (a.name = b.name) && (decide (a.num = b.num) && (decide (a.wd = b.wd) && (decide (a.sg = b.sg) && (decide (a.op = b.op) && (decide (a.fac = b.fac) && (decide (a.pip = b.pip) && decide (a.unr = b.unr))))))))
theorem sameL_iff {a b : Lab} : sameL a b = true ↔ a.kind = b.kind ∧ a.name = b.name ∧ a.num = b.num ∧ a.wd = b.wd ∧ a.sg = b.sg ∧ a.op = b.op ∧ a.fac = b.fac ∧ a.pip = b.pip ∧ a.unr = b.unr := by
 simp [sameL]
theorem lab_of {l m : Lab} {v u : Value} (h : lcells l v = lcells m u) : l = m ∧ v = u := by
 obtain ⟨a0, a1, a2, a3, a4, a5, a6, a7, a8, a9⟩ := l
 obtain ⟨b0, b1, b2, b3, b4, b5, b6, b7, b8, b9⟩ := m
 unfold lcells at h
 simp only [List.cons.injEq, Value.int.injEq, Value.string.injEq, Value.bool.injEq, true_and, and_true] at h
 obtain ⟨h0, h1, h2, h3, h4, h5, h6, h7, h8, h9, h10⟩ := h
 rw [h0, str_inj h1, h2, h3, h4, h5, h6, h7, h8, h9]
 exact ⟨rfl, h10⟩
structure PairSt (f : Tree → Tree → Bool) (W wr : World) (ks us : List Tree) (j : Nat) : Prop where
 all : ∀ i, i < j → f (kat ks i) (kat us i) = true
 bel : Below W.heap.size W wr
end Go.Proofs.YthdbaligapdbeaaGreatDoor
/- The code's Bare: contract. -/
namespace Go.Proofs.YthdbaligapdbeaaGreatDoor
open Go Go.RowKit
set_option linter.unusedVariables false

mutual
def bareT : Tree → Tree
 | .node l ks => .node (bareL l) (bareTs ks)
def bareTs : List Tree → List Tree
 | [] => []
 | t :: r => bareT t :: bareTs r
end
theorem bareTs_eq : ∀ ks : List Tree, bareTs ks = ks.map bareT
 | [] => by rw [bareTs]; rfl
 | t :: r => by rw [bareTs, bareTs_eq r]; rfl
theorem bareTs_length (ks : List Tree) : (bareTs ks).length = ks.length := by rw [bareTs_eq]; simp
theorem bareTs_kat {ks : List Tree} {i : Nat} (h : i < ks.length) : kat (bareTs ks) i = bareT (kat ks i) := by
 rw [bareTs_eq]
 simp [kat, List.getD, h]
def zN : List Value := [.int .i64 0, .string ⟨#[]⟩, .int .u64 0, .int .i64 0, .bool false, .int .i64 0, .int .i64 0, .int .i64 0, .int .i64 0, .int .i64 0, .slice none 0 0]
structure BS (w0 w : World) (A : Nat) (cs : List Value) : Prop where
 a : Blk w A 27 cs
 r : Blk w (A + 1) 27 zN
 bel : Below A w0 w
theorem BS.call {w0 w w' : World} {A : Nat} {cs : List Value} (h : BS w0 w A cs) (hb : Below w.heap.size w w') : BS w0 w' A cs :=
 ⟨h.a.below hb h.a.lt, h.r.below hb h.r.lt, h.bel.trans (hb.mono (Nat.le_of_lt h.a.lt))⟩
theorem BS.set {w0 w : World} {A : Nat} {cs : List Value} (h : BS w0 w A cs) (i : Nat) (v : Value) : BS w0 (w.setCell ⟨A, i, none⟩ v) A (cs.set i v) :=
 ⟨h.a.set i v, h.r.set_other (by show A + 1 ≠ A; omega) v, h.bel.setCell (p := ⟨A, i, none⟩) (Nat.le_refl _) v⟩
theorem BS.alloc {w0 w : World} {A : Nat} {cs : List Value} (h : BS w0 w A cs) (o : Obj) : BS w0 (w.alloc o) A cs := h.call ((Below.refl _ _).alloc (Nat.le_refl _) o)
structure BaSt (w0 wr : World) (A R N : Nat) (cs : List Value) (ks : List Tree) (j : Nat) : Prop where
 bs : BS w0 wr A cs
 row : ∃ rs : List Value, rs.length = N * 11 ∧ Blk wr R 27 rs ∧ ∀ i, i < j → TreeAt wr (fun g => R < g) ((rs.drop (i * 11)).take 11) (bareT (kat ks i))
 hR : A + 1 < R
theorem mid_old {rs vs : List Value} {i j N : Nat} (hl : rs.length = N * 11) (hv : vs.length = 11) (hj : j < N) (hi : i < j) : ((rs.take (j * 11) ++ vs ++ rs.drop (j * 11 + vs.length)).drop (i * 11)).take 11 = (rs.drop (i * 11)).take 11 := by
 rw [List.append_assoc, List.drop_append_of_le_length (by rw [List.length_take]; omega), List.take_append_of_le_length (by rw [List.length_drop, List.length_take]; omega), List.drop_take, List.take_take]
 congr 1
 omega
theorem mid_new {rs vs : List Value} {j N : Nat} (hl : rs.length = N * 11) (hv : vs.length = 11) (hj : j < N) : ((rs.take (j * 11) ++ vs ++ rs.drop (j * 11 + vs.length)).drop (j * 11)).take 11 = vs := by
 have h1 : (rs.take (j * 11)).length = j * 11 := by rw [List.length_take]; omega
 have e : (rs.take (j * 11) ++ vs ++ rs.drop (j * 11 + vs.length)).drop (j * 11) = vs ++ rs.drop (j * 11 + vs.length) := by
  rw [List.append_assoc]
  have := List.drop_left (l₁ := rs.take (j * 11)) (l₂ := vs ++ rs.drop (j * 11 + vs.length))
  rwa [h1] at this
 rw [e, ← hv, List.take_left]
theorem BaSt.step {w0 wr w7 : World} {A R N : Nat} {cs vs : List Value} {ks : List Tree} {j : Nat} (h : BaSt w0 wr A R N cs ks j) (hj : j < N) (hv : vs.length = 11) (hb : Below wr.heap.size wr w7) (hT : TreeAt w7 (fun g => wr.heap.size ≤ g) vs (bareT (kat ks j))) :
  BaSt w0 (putAt w7 R (j * 11) vs) A R N cs ks (j + 1) := by
 obtain ⟨rs, hl, hrow, hall⟩ := h.row
 have hRl := hrow.lt
 have hR := h.hR
 have hb7 := h.bs.call hb
 have hot : ∀ g, g ≠ R → (putAt w7 R (j * 11) vs).heap[g]? = w7.heap[g]? := fun g hg => put_other hg _ _ _
 have hrow7 := hrow.below hb hRl
 have h8 := blk_putAt vs w7 rs (j * 11) hrow7 (by rw [hv, hl]; omega)
 refine ⟨⟨(hot A (by omega)).trans hb7.a, (hot (A + 1) (by omega)).trans hb7.r, put_below (by omega) _ _ _ hb7.bel⟩, ⟨_, ?_, h8, fun i hi => ?_⟩, hR⟩
 ·rw [List.length_append, List.length_append, List.length_take, List.length_drop, hv, hl]; omega
 ·by_cases e : i = j
  ·subst e
   rw [mid_new hl hv hj]
   exact hT.keep (fun g hg _ => hot g (by omega)) fun g hg _ => by omega
  ·rw [mid_old hl hv hj (by omega)]
   refine (hall i (by omega)).keep (w' := putAt w7 R (j * 11) vs) (fun g hg hlt => ?_) fun g hg _ => hg
   rw [hot g (by omega)]
   exact hb.block g hlt
theorem BaSt.tree {w0 wr w' : World} {A R N : Nat} {cs : List Value} {ks : List Tree} (h : BaSt w0 wr A R N cs ks N) (hN : ks.length = N) (hn : N ≤ 1000000) (l : Lab) (hs : ∀ g, A + 1 < g → g < wr.heap.size → w'.heap[g]? = wr.heap[g]?) :
  TreeAt w' (fun g => A ≤ g) (lcells (bareL l) (.slice (some ⟨R, 0, none⟩) N N)) (bareT (.node l ks)) := by
 obtain ⟨rs, hl, hrow, hall⟩ := h.row
 have hRl := hrow.lt
 have hR := h.hR
 rw [bareT]
 have hrow2 : Blk w' R 27 rs := (hs R hR hRl).trans hrow
 refine .mk _ _ _ N N (fun i => (rs.drop (i * 11)).take 11) _ (by rw [bareTs_length, hN]) (Nat.le_refl _) (by unfold maxLen; omega) (fun _ => by show A ≤ R; omega) (fun i hi j hj => ?_) fun i hi => ?_
 ·have ha : (⟨R, 0, none⟩ : Addr).add (i * 11 + j) = ⟨R, i * 11 + j, none⟩ := by unfold Addr.add; split <;> simp_all
  rw [ha, hrow2.cell, List.getElem?_take, if_pos hj, List.getElem?_drop]
 ·rw [bareTs_length, hN] at hi
  rw [← kat_get (by rw [bareTs_length, hN]; exact hi), bareTs_kat (by omega)]
  exact (hall i hi).keep (fun g hg hlt => hs g (by omega) hlt) fun g hg _ => by omega
end Go.Proofs.YthdbaligapdbeaaGreatDoor
/- Which trees the grammar permits: mathematics of both sides. Nothing of the program stands here. -/
namespace Go.Proofs.YthdbaligapdbeaaGreatDoor
open Go Go.RowKit
set_option linter.unusedVariables false

def nameB (s : List UInt8) : Bool := match (lexAll s).1 with
  | [t] => decide (t.kind = 1) && decide (t.text = s)
  | _ => false
def typB (wd : Int) : Bool := decide (1 ≤ wd) && decide (wd ≤ 64)
def zerB (wd : Int) (sg : Bool) : Bool := decide (wd = 0) && !sg
def amtB (n : Int) : Bool := decide (0 ≤ n) && decide (n ≤ 1048576)
def divB (op fac : Int) : Bool := if op = 1 ∨ op = 2 then amtB fac else if op = 0 ∨ op = 3 then decide (fac = 0) else false
def kA (k : Int) : Bool := decide (k = 1 ∨ k = 8 ∨ k = 13 ∨ k = 17 ∨ k = 23)
def kB (k : Int) : Bool := decide (k = 2 ∨ k = 4 ∨ k = 6 ∨ k = 7 ∨ k = 9)
def kC (k : Int) : Bool := decide (k = 3 ∨ k = 10)
def kD (k : Int) : Bool := decide (k = 11 ∨ k = 12 ∨ k = 16 ∨ k = 19 ∨ k = 20 ∨ k = 25 ∨ k = 26)
def okB (l : Lab) : Bool :=
  if kA l.kind then true
  else if kB l.kind then nameB l.name && typB l.wd
  else if kC l.kind then nameB l.name && (zerB l.wd l.sg || typB l.wd)
  else if l.kind = 5 then nameB l.name && (typB l.wd && (decide (l.num ≤ 1048576) && divB l.op l.fac))
  else if kD l.kind then nameB l.name
  else if l.kind = 14 then nameB l.name && (typB l.wd && (amtB l.pip && amtB l.unr))
  else if l.kind = 15 then amtB l.pip && amtB l.unr
  else if l.kind = 18 then !(isTr 18 l.wd l.sg) || decide (l.num ≤ 1)
  else if l.kind = 21 then decide (19 ≤ l.op) && decide (l.op ≤ 21)
  else if l.kind = 22 then decide (1 ≤ l.op) && decide (l.op ≤ 18)
  else if l.kind = 24 then typB l.wd
  else false
def ownB (l : Lab) : Lab :=
  if kA l.kind then { lab0 with kind := l.kind }
  else if kB l.kind || kC l.kind then { lab0 with kind := l.kind, name := l.name, wd := l.wd, sg := l.sg }
  else if l.kind = 5 then { lab0 with kind := l.kind, name := l.name, wd := l.wd, sg := l.sg, num := l.num, op := l.op, fac := l.fac }
  else if kD l.kind then { lab0 with kind := l.kind, name := l.name }
  else if l.kind = 14 then { lab0 with kind := l.kind, name := l.name, wd := l.wd, sg := l.sg, pip := l.pip, unr := l.unr }
  else if l.kind = 15 then { lab0 with kind := l.kind, pip := l.pip, unr := l.unr }
  else if l.kind = 18 then { lab0 with kind := l.kind, num := l.num, wd := l.wd, sg := l.sg }
  else if l.kind = 21 ∨ l.kind = 22 then { lab0 with kind := l.kind, op := l.op }
  else if l.kind = 24 then { lab0 with kind := l.kind, wd := l.wd, sg := l.sg }
  else lab0
def kindT : Tree → Int
  | .node l _ => l.kind
def kin (a b : Int) (t : Tree) : Bool := inG a b (kindT t)
def exB : List Tree → List (Int × Int) → Bool
  | [], [] => true
  | t :: r, p :: s => kin p.1 p.2 t && exB r s
  | [], _ :: _ => false
  | _ :: _, [] => false
def headB (a b : Int) (ks : List Tree) : Bool := decide (0 < ks.length) && ((ks.take (ks.length - 1)).all (kin a b) && kin 8 8 (kat ks (ks.length - 1)))
def kE (k : Int) : Bool := decide (k = 10 ∨ k = 11 ∨ k = 16 ∨ k = 17 ∨ k = 20 ∨ k = 21 ∨ k = 24)
def kidsB (k : Int) (ks : List Tree) : Bool :=
  if k = 1 then ks.all (kin 2 3)
  else if k = 2 then headB 4 4 ks
  else if k = 3 then headB 4 7 ks
  else if k = 8 then ks.all (kin 9 17)
  else if k = 25 then ks.all (kin 18 26)
  else if k = 9 then exB ks [] || exB ks [(18, 26)]
  else if kE k then exB ks [(18, 26)]
  else if k = 12 ∨ k = 22 then exB ks [(18, 26), (18, 26)]
  else if k = 23 then exB ks [(18, 26), (18, 26), (18, 26)]
  else if k = 13 then exB ks [(18, 26), (8, 8)] || (exB ks [(18, 26), (8, 8), (8, 8)] || exB ks [(18, 26), (8, 8), (13, 13)])
  else if k = 14 then exB ks [(18, 26), (18, 26), (8, 8)]
  else if k = 15 then exB ks [(18, 26), (8, 8)]
  else exB ks []
def fitB : Nat → Tree → Bool
  | 0, _ => false
  | d + 1, .node l ks => okB (bareL l) && (sameL (ownB (bareL l)) (bareL l) && (kidsB l.kind ks && ks.all (fitB d)))

def exsW (f : Tree → Bool) (ks : List Tree) (n : Nat) : Bool := decide (n ≤ ks.length) && (ks.take n).all f
def xB : Nat → Tree → Bool
  | 0, _ => false
  | d + 1, .node l ks =>
    if l.kind = 18 then sameL { lab0 with kind := l.kind, num := l.num, wd := l.wd, sg := l.sg } l && (decide (ks.length = 0) && (zerB l.wd l.sg || decide (l.num ≤ 1)))
    else if l.kind = 19 ∨ l.kind = 26 then sameL { lab0 with kind := l.kind, name := l.name } l && (nameB l.name && decide (ks.length = 0))
    else if l.kind = 20 then sameL { lab0 with kind := l.kind, name := l.name } l && (nameB l.name && (decide (ks.length = 1) && exsW (xB d) ks 1))
    else if l.kind = 25 then sameL { lab0 with kind := l.kind, name := l.name } l && (nameB l.name && exsW (xB d) ks ks.length)
    else if l.kind = 21 then sameL { lab0 with kind := l.kind, op := l.op } l && (decide (19 ≤ l.op) && (decide (l.op ≤ 21) && (decide (ks.length = 1) && exsW (xB d) ks 1)))
    else if l.kind = 22 then sameL { lab0 with kind := l.kind, op := l.op } l && (decide (1 ≤ l.op) && (decide (l.op ≤ 18) && (decide (ks.length = 2) && exsW (xB d) ks 2)))
    else if l.kind = 23 then sameL { lab0 with kind := l.kind } l && (decide (ks.length = 3) && exsW (xB d) ks 3)
    else if l.kind = 24 then sameL { lab0 with kind := l.kind, wd := l.wd, sg := l.sg } l && (typB l.wd && (decide (ks.length = 1) && exsW (xB d) ks 1))
    else false
def dirB (l : Lab) : Bool := decide (0 ≤ l.pip) && (decide (l.pip ≤ 1048576) && (decide (0 ≤ l.unr) && decide (l.unr ≤ 1048576)))
def bodyW (f : Tree → Bool) : Tree → Bool
  | .node l ks => sameL { lab0 with kind := 8 } l && ks.all f
mutual
def bodyB : Nat → Tree → Bool
  | 0, _ => false
  | d + 1, t => bodyW (stB d) t
def stB : Nat → Tree → Bool
  | 0, _ => false
  | d + 1, .node l ks =>
    if l.kind = 9 then sameL { lab0 with kind := l.kind, name := l.name, wd := l.wd, sg := l.sg } l && (nameB l.name && (typB l.wd && (decide (ks.length ≤ 1) && exsW (xB d) ks ks.length)))
    else if l.kind = 10 then sameL { lab0 with kind := l.kind, name := l.name, wd := l.wd, sg := l.sg } l && (nameB l.name && ((typB l.wd || zerB l.wd l.sg) && (decide (ks.length = 1) && exsW (xB d) ks 1)))
    else if l.kind = 11 ∨ l.kind = 16 then sameL { lab0 with kind := l.kind, name := l.name } l && (nameB l.name && (decide (ks.length = 1) && exsW (xB d) ks 1))
    else if l.kind = 12 then sameL { lab0 with kind := l.kind, name := l.name } l && (nameB l.name && (decide (ks.length = 2) && exsW (xB d) ks 2))
    else if l.kind = 17 then sameL { lab0 with kind := l.kind } l && (decide (ks.length = 1) && exsW (xB d) ks 1)
    else if l.kind = 13 then sameL { lab0 with kind := l.kind } l && (decide (2 ≤ ks.length) && (decide (ks.length ≤ 3) && (exsW (xB d) ks 1 && (bodyB d (kat ks 1) &&
      (decide (ks.length = 2) || (bodyB d (kat ks 2) || (decide (kindT (kat ks 2) = 13) && stB d (kat ks 2))))))))
    else if l.kind = 14 then sameL { lab0 with kind := l.kind, name := l.name, wd := l.wd, sg := l.sg, pip := l.pip, unr := l.unr } l && (nameB l.name && (typB l.wd && (dirB l && (decide (ks.length = 3) && (exsW (xB d) ks 2 && bodyB d (kat ks 2))))))
    else if l.kind = 15 then sameL { lab0 with kind := l.kind, pip := l.pip, unr := l.unr } l && (dirB l && (decide (ks.length = 2) && (exsW (xB d) ks 1 && bodyB d (kat ks 1))))
    else false
end
def prmB (k : Int) : Tree → Bool
  | .node l ks => nameB l.name && (typB l.wd && (decide (ks.length = 0) && (!(decide (k = 2) && decide (l.kind ≠ 4)) &&
    (if l.kind = 4 ∨ l.kind = 6 ∨ l.kind = 7 then sameL { lab0 with kind := l.kind, name := l.name, wd := l.wd, sg := l.sg } l
     else if l.kind = 5 then sameL { lab0 with kind := l.kind, name := l.name, wd := l.wd, sg := l.sg, num := l.num, op := l.op, fac := l.fac } l &&
      (decide (l.num ≤ 1048576) && (decide (0 ≤ l.op) && (decide (l.op ≤ 3) && (decide (0 ≤ l.fac) && (decide (l.fac ≤ 1048576) && !(decide (0 < l.fac) && (decide (l.op ≠ 1) && decide (l.op ≠ 2))))))))
     else false))))
def funcB (d : Nat) : Tree → Bool
  | .node l ks => sameL { lab0 with kind := l.kind, name := l.name, wd := l.wd, sg := l.sg } l && (nameB l.name && (decide (0 < ks.length) && (bodyB d (kat ks (ks.length - 1)) &&
    ((decide (l.kind = 2) || decide (l.kind = 3)) && ((typB l.wd || (decide (l.kind ≠ 2) && zerB l.wd l.sg)) && (ks.take (ks.length - 1)).all (prmB l.kind))))))
def progB (d : Nat) : Tree → Bool
  | .node l ks => sameL { lab0 with kind := 1 } l && ks.all (funcB d)

theorem kindT_bare (t : Tree) : kindT (bareT t) = kindT t := by cases t; rw [bareT]; rfl
theorem exsW_all (f : Tree → Bool) (ks : List Tree) : exsW f ks ks.length = ks.all f := by simp [exsW]
theorem kat1 (a b : Tree) (r : List Tree) : kat (a :: b :: r) 1 = b := rfl
theorem kat2 (a b c : Tree) (r : List Tree) : kat (a :: b :: c :: r) 2 = c := rfl
theorem four (ks : List Tree) : ks = [] ∨ (∃ a, ks = [a]) ∨ (∃ a b, ks = [a, b]) ∨ (∃ a b c, ks = [a, b, c]) ∨ ∃ a b c d r, ks = a :: b :: c :: d :: r := by
  rcases ks with _ | ⟨a, _ | ⟨b, _ | ⟨c, _ | ⟨d, r⟩⟩⟩⟩ <;> simp
def bx (l : Lab) : Bool := okB (bareL l) && sameL (ownB (bareL l)) (bareL l)
theorem kin_node (a b : Int) (l : Lab) (ks : List Tree) : kin a b (.node l ks) = inG a b l.kind := rfl
theorem bare_18 (l : Lab) (h : (bareL l).kind = 18) : isTr 18 (bareL l).wd (bareL l).sg = !(zerB (bareL l).wd (bareL l).sg) := by
  have hk : l.kind = 18 := h
  have e1 : (bareL l).wd = if keepsT l then l.wd else 0 := rfl
  have e2 : (bareL l).sg = if keepsT l then l.sg else false := rfl
  have e3 : keepsT l = isTr 18 l.wd l.sg := by unfold keepsT; rw [hk]; rfl
  rw [e1, e2, e3]
  cases h1 : isTr 18 l.wd l.sg with
  | false => rfl
  | true =>
    simp only [if_pos]
    rw [h1]
    unfold isTr at h1
    simp at h1
    rw [h1.1]
    rfl
theorem all_bare {f g : Tree → Bool} (h : ∀ t, g (bareT t) = f t) : ∀ ks : List Tree, (bareTs ks).all g = ks.all f
  | [] => by rw [bareTs]; rfl
  | t :: r => by rw [bareTs, List.all_cons, List.all_cons, h, all_bare h r]
theorem take_bare (ks : List Tree) (n : Nat) : (bareTs ks).take n = bareTs (ks.take n) := by rw [bareTs_eq, bareTs_eq, List.map_take]
theorem exsW_bare {f g : Tree → Bool} (h : ∀ t, g (bareT t) = f t) (ks : List Tree) (n : Nat) : exsW g (bareTs ks) n = exsW f ks n := by
  unfold exsW
  rw [bareTs_length, take_bare, all_bare h]
theorem kat_bare {ks : List Tree} {i : Nat} (h : i < ks.length) : kat (bareTs ks) i = bareT (kat ks i) := bareTs_kat h
theorem all_and (f g : Tree → Bool) : ∀ ks : List Tree, ks.all (fun t => f t && g t) = (ks.all f && ks.all g)
  | [] => rfl
  | t :: r => by rw [List.all_cons, List.all_cons, List.all_cons, all_and f g r]; generalize f t = a; generalize g t = b; generalize r.all f = c; generalize r.all g = d; revert a b c d; decide
theorem exB_0 (ks : List Tree) : exB ks [] = decide (ks.length = 0) := by cases ks <;> simp [exB]
theorem x_eq : ∀ d t, xB d (bareT t) = (kin 18 26 t && fitB d t)
  | 0, t => by rw [xB, fitB, Bool.and_false]
  | d + 1, .node l ks => by
    have ih := x_eq d
    have h18 := bare_18 l
    have hk : l.kind = (bareL l).kind := rfl
    rw [bareT, xB, fitB, kin_node, bareTs_length, hk]
    simp only [exsW_bare ih]
    generalize bareL l = m at *
    obtain ⟨m0, m1, m2, m3, m4, m5, m6, m7, m8, m9⟩ := m
    clear hk
    dsimp only at *
    have hc : m0 = 18 ∨ m0 = 19 ∨ m0 = 20 ∨ m0 = 21 ∨ m0 = 22 ∨ m0 = 23 ∨ m0 = 24 ∨ m0 = 25 ∨ m0 = 26 ∨ (¬ m0 = 18 ∧ ¬ m0 = 19 ∧ ¬ m0 = 20 ∧ ¬ m0 = 21 ∧ ¬ m0 = 22 ∧ ¬ m0 = 23 ∧ ¬ m0 = 24 ∧ ¬ m0 = 25 ∧ ¬ m0 = 26) := by omega
    rcases hc with rfl | rfl | rfl | rfl | rfl | rfl | rfl | rfl | rfl | ⟨g1, g2, g3, g4, g5, g6, g7, g8, g9⟩
    · have h := h18 rfl
      simp [okB, ownB, kA, kB, kC, kD, kE, kidsB, inG, h, exB_0]
      cases ks with
      | nil => simp; generalize sameL _ _ = A; generalize zerB m3 m4 = B; generalize decide (m2 ≤ 1) = C; revert A B C; decide
      | cons a r => simp
    · simp [okB, ownB, kA, kB, kC, kD, kE, kidsB, inG, exB_0]
      cases ks with
      | nil => simp; generalize sameL _ _ = A; generalize nameB m1 = B; revert A B; decide
      | cons a r => simp
    all_goals
      simp [okB, ownB, kA, kB, kC, kD, kE, kidsB, inG, exB_0]
      try (rw [exsW_all, all_and]; grind)
      try (rcases four ks with rfl | ⟨a, rfl⟩ | ⟨a, b, rfl⟩ | ⟨a, b, c, rfl⟩ | ⟨a, b, c, d, r, rfl⟩ <;> simp [exB, exsW, inG, kin] <;> grind)
theorem bodyB_succ (d : Nat) (t : Tree) : bodyB (d + 1) t = bodyW (stB d) t := by rw [bodyB]
theorem s_eq : ∀ d, (∀ t, bodyB d (bareT t) = (kin 8 8 t && fitB d t)) ∧ ∀ t, stB d (bareT t) = (kin 9 17 t && fitB d t)
  | 0 => ⟨fun t => by rw [bodyB, fitB, Bool.and_false], fun t => by rw [stB, fitB, Bool.and_false]⟩
  | d + 1 => by
    obtain ⟨hb, hs⟩ := s_eq d
    have hx := x_eq d
    refine ⟨fun t => ?_, fun t => ?_⟩
    · obtain ⟨l, ks⟩ := t
      have hk : l.kind = (bareL l).kind := rfl
      rw [bareT, bodyB_succ, bodyW, fitB, kin_node, all_bare hs, all_and, hk]
      generalize bareL l = m at *
      obtain ⟨m0, m1, m2, m3, m4, m5, m6, m7, m8, m9⟩ := m
      clear hk
      dsimp only at *
      by_cases h8 : m0 = 8
      · subst h8
        simp [okB, ownB, kA, kidsB, inG]
      · have h1 : inG 8 8 m0 = false := by simp [inG]; omega
        have h2 : sameL { lab0 with kind := 8 } ⟨m0, m1, m2, m3, m4, m5, m6, m7, m8, m9⟩ = false := Bool.eq_false_iff.2 fun h => h8 (sameL_iff.1 h).1.symm
        rw [h1, h2]; rfl
    · obtain ⟨l, ks⟩ := t
      have hk : l.kind = (bareL l).kind := rfl
      have hk1 : ∀ h : 1 < ks.length, bodyB d (kat (bareTs ks) 1) = (kin 8 8 (kat ks 1) && fitB d (kat ks 1)) := fun h => by rw [kat_bare h, hb]
      have hk2 : ∀ h : 2 < ks.length, bodyB d (kat (bareTs ks) 2) = (kin 8 8 (kat ks 2) && fitB d (kat ks 2)) := fun h => by rw [kat_bare h, hb]
      have hk3 : ∀ h : 2 < ks.length, stB d (kat (bareTs ks) 2) = (kin 9 17 (kat ks 2) && fitB d (kat ks 2)) := fun h => by rw [kat_bare h, hs]
      have hk4 : ∀ h : 2 < ks.length, kindT (kat (bareTs ks) 2) = kindT (kat ks 2) := fun h => by rw [kat_bare h, kindT_bare]
      rw [bareT, stB, fitB, kin_node, bareTs_length, hk]
      simp only [exsW_bare hx]
      generalize bareL l = m at *
      obtain ⟨m0, m1, m2, m3, m4, m5, m6, m7, m8, m9⟩ := m
      clear hk
      dsimp only at *
      have hc : m0 = 9 ∨ m0 = 10 ∨ m0 = 11 ∨ m0 = 12 ∨ m0 = 13 ∨ m0 = 14 ∨ m0 = 15 ∨ m0 = 16 ∨ m0 = 17 ∨ (¬ m0 = 9 ∧ ¬ m0 = 10 ∧ ¬ m0 = 11 ∧ ¬ m0 = 12 ∧ ¬ m0 = 13 ∧ ¬ m0 = 14 ∧ ¬ m0 = 15 ∧ ¬ m0 = 16 ∧ ¬ m0 = 17) := by omega
      rcases hc with rfl | rfl | rfl | rfl | rfl | rfl | rfl | rfl | rfl | ⟨g1, g2, g3, g4, g5, g6, g7, g8, g9⟩
      all_goals
        simp [okB, ownB, kA, kB, kC, kD, kE, kidsB, inG, amtB, dirB]
        try (rcases four ks with rfl | ⟨a, rfl⟩ | ⟨a, b, rfl⟩ | ⟨a, b, c, rfl⟩ | ⟨a, b, c, d, r, rfl⟩ <;> simp [exB, exsW] <;> first | done | (simp [kat1, kat2] at hk1 hk2 hk3 hk4; simp [hk1, hk2, hk3, hk4]; grind [kin, inG]) | grind)
theorem p_eq (d : Nat) (t : Tree) : prmB 3 (bareT t) = (kin 4 7 t && fitB (d + 1) t) ∧ prmB 2 (bareT t) = (kin 4 4 t && fitB (d + 1) t) := by
  obtain ⟨l, ks⟩ := t
  have hk : l.kind = (bareL l).kind := rfl
  rw [bareT, prmB, prmB, fitB, kin_node, kin_node, bareTs_length, hk]
  generalize bareL l = m at *
  obtain ⟨m0, m1, m2, m3, m4, m5, m6, m7, m8, m9⟩ := m
  clear hk
  dsimp only at *
  have hc : m0 = 4 ∨ m0 = 5 ∨ m0 = 6 ∨ m0 = 7 ∨ (¬ m0 = 4 ∧ ¬ m0 = 5 ∧ ¬ m0 = 6 ∧ ¬ m0 = 7) := by omega
  have hdv : divB m5 m6 = (decide (0 ≤ m5) && (decide (m5 ≤ 3) && (decide (0 ≤ m6) && (decide (m6 ≤ 1048576) && !(decide (0 < m6) && (decide (m5 ≠ 1) && decide (m5 ≠ 2))))))) := by
    rw [Bool.eq_iff_iff]
    unfold divB amtB
    by_cases h : m5 = 1 ∨ m5 = 2
    · rw [if_pos h]; simp; omega
    · rw [if_neg h]
      by_cases h2 : m5 = 0 ∨ m5 = 3
      · rw [if_pos h2]; simp; omega
      · rw [if_neg h2]; simp; omega
  rcases hc with rfl | rfl | rfl | rfl | ⟨g1, g2, g3, g4⟩
  all_goals
    constructor <;> simp [okB, ownB, kA, kB, kC, kD, kE, kidsB, inG, exB_0, hdv] <;> cases ks <;> simp <;> grind
theorem kat_last {ks : List Tree} (h : 0 < ks.length) : kat (bareTs ks) (ks.length - 1) = bareT (kat ks (ks.length - 1)) := kat_bare (by omega)
theorem all_last (f : Tree → Bool) (ks : List Tree) (h : 0 < ks.length) : ks.all f = ((ks.take (ks.length - 1)).all f && f (kat ks (ks.length - 1))) := by
  have e : ks = ks.take (ks.length - 1) ++ [kat ks (ks.length - 1)] := by
    conv => lhs; rw [← List.take_append_drop (ks.length - 1) ks]
    rw [drop_kat (by omega), List.drop_of_length_le (by omega)]
  conv => lhs; rw [e]
  rw [List.all_append]
  simp
theorem f_eq (d : Nat) (t : Tree) : funcB d (bareT t) = (kin 2 3 t && fitB (d + 1) t) := by
  have hb := (s_eq d).1
  obtain ⟨l, ks⟩ := t
  have hk : l.kind = (bareL l).kind := rfl
  rw [bareT, funcB, fitB, kin_node, bareTs_length, hk]
  by_cases h0 : 0 < ks.length
  · rw [kat_last h0, hb, all_last (fitB d) ks h0, take_bare]
    cases d with
    | zero => simp [fitB]
    | succ d =>
      have hp3 := all_bare (fun t => (p_eq d t).1) (ks.take (ks.length - 1))
      have hp2 := all_bare (fun t => (p_eq d t).2) (ks.take (ks.length - 1))
      rw [all_and] at hp2 hp3
      generalize bareL l = m at *
      obtain ⟨m0, m1, m2, m3, m4, m5, m6, m7, m8, m9⟩ := m
      clear hk hb
      dsimp only at *
      have hc : m0 = 2 ∨ m0 = 3 ∨ (¬ m0 = 2 ∧ ¬ m0 = 3) := by omega
      rcases hc with rfl | rfl | ⟨g1, g2⟩
      · rw [hp2]
        simp [okB, ownB, kA, kB, kC, kidsB, inG, headB, h0]
        grind
      · rw [hp3]
        simp [okB, ownB, kA, kB, kC, kidsB, inG, headB, h0]
        grind
      · simp [inG, g1, g2]
        grind
  · have hn : ks = [] := List.eq_nil_of_length_eq_zero (by omega)
    subst hn
    simp [kidsB, headB, inG, exB]
    grind
theorem g_eq (d : Nat) (t : Tree) : progB d (bareT t) = (kin 1 1 t && fitB (d + 2) t) := by
  obtain ⟨l, ks⟩ := t
  have hk : l.kind = (bareL l).kind := rfl
  rw [bareT, progB, fitB, kin_node, all_bare (f_eq d), all_and, hk]
  generalize bareL l = m at *
  obtain ⟨m0, m1, m2, m3, m4, m5, m6, m7, m8, m9⟩ := m
  clear hk
  dsimp only at *
  by_cases h8 : m0 = 1
  · subst h8
    simp [okB, ownB, kA, kidsB, inG]
  · have h1 : inG 1 1 m0 = false := by simp [inG]; omega
    have h2 : sameL { lab0 with kind := 1 } ⟨m0, m1, m2, m3, m4, m5, m6, m7, m8, m9⟩ = false := Bool.eq_false_iff.2 fun h => h8 (sameL_iff.1 h).1.symm
    rw [h1, h2]; rfl
end Go.Proofs.YthdbaligapdbeaaGreatDoor
/- within: contract. -/
namespace Go.Proofs.YthdbaligapdbeaaGreatDoor
open Go Go.RowKit
set_option linter.unusedVariables false

theorem wIns_nil (left lv : Nat) : wIns left lv [] = (true, left) := by rw [wIns]
theorem wIns_cons (left lv : Nat) (t : Tree) (r : List Tree) : wIns left lv (t :: r) = if (wIn left lv t).1 then wIns (wIn left lv t).2 lv r else (false, (wIn left lv t).2) := by rw [wIns]
theorem wIn_node (left lv : Nat) (l : Lab) (ks : List Tree) : wIn left lv (.node l ks) = if left = 0 ∨ lv = 0 then (false, left) else wIns (left - 1) (lv - 1) ks := by rw [wIn]
mutual
theorem wIn_le (left lv : Nat) : ∀ t, (wIn left lv t).2 ≤ left
 | .node l ks => by
  rw [wIn_node]
  split
  ·exact Nat.le_refl _
  ·exact Nat.le_trans (wIns_le (left - 1) (lv - 1) ks) (Nat.sub_le _ _)
theorem wIns_le (left lv : Nat) : ∀ ks, (wIns left lv ks).2 ≤ left
 | [] => by rw [wIns_nil]; exact Nat.le_refl _
 | t :: r => by
  rw [wIns_cons]
  split
  ·exact Nat.le_trans (wIns_le _ lv r) (wIn_le left lv t)
  ·exact wIn_le left lv t
end
mutual
theorem wIn_iff (left lv : Nat) : ∀ t, ((wIn left lv t).1 = true ↔ count t ≤ left ∧ depth t ≤ lv) ∧ ((wIn left lv t).1 = true → (wIn left lv t).2 + count t = left)
 | .node l ks => by
  rw [wIn_node, count, depth]
  by_cases h : left = 0 ∨ lv = 0
  ·rw [if_pos h]
   simp
   omega
  ·rw [if_neg h]
   obtain ⟨h1, h2⟩ := wIns_iff (left - 1) (lv - 1) ks
   refine ⟨?_, fun ht => by have := h2 ht; omega⟩
   rw [h1]
   omega
theorem wIns_iff (left lv : Nat) : ∀ ks, ((wIns left lv ks).1 = true ↔ counts ks ≤ left ∧ depths ks ≤ lv) ∧ ((wIns left lv ks).1 = true → (wIns left lv ks).2 + counts ks = left)
 | [] => by rw [wIns_nil, counts, depths]; simp
 | t :: r => by
  rw [wIns_cons, counts, depths]
  obtain ⟨h1, h2⟩ := wIn_iff left lv t
  by_cases ht : (wIn left lv t).1 = true
  ·rw [if_pos ht]
   obtain ⟨h3, h4⟩ := wIns_iff (wIn left lv t).2 lv r
   have h5 := h2 ht
   have h6 := h1.1 ht
   refine ⟨?_, fun hr => by have := h4 hr; omega⟩
   rw [h3]
   omega
  ·rw [if_neg ht]
   refine ⟨⟨fun h => by simp at h, fun h => absurd (h1.2 ⟨by omega, by omega⟩) ht⟩, fun h => by simp at h⟩
end

structure WS (w : World) (Lf Lw left : Nat) : Prop where
 cf : w.cell? ⟨Lf, 0, none⟩ = some (.int .i64 (left : Int))
 ff : w.frozen? ⟨Lf, 0, none⟩ = false
 cw : w.cell? ⟨Lw, 0, none⟩ = some (.func (Fn.func 49) #[] #[.pointer (some ⟨Lf, 0, none⟩), .pointer (some ⟨Lw, 0, none⟩)])
 lf : Lf < w.heap.size
 lw : Lw < w.heap.size
theorem WS.alloc {w : World} {Lf Lw left : Nat} (h : WS w Lf Lw left) (o : Obj) : WS (w.alloc o) Lf Lw left := by
 have hb := (Below.refl w.heap.size w).alloc (Nat.le_refl _) o
 exact ⟨by rw [hb.cell (p := ⟨Lf, 0, none⟩) h.lf]; exact h.cf, by rw [hb.frozen (p := ⟨Lf, 0, none⟩) h.lf]; exact h.ff, by rw [hb.cell (p := ⟨Lw, 0, none⟩) h.lw]; exact h.cw, Nat.lt_of_lt_of_le h.lf hb.size, Nat.lt_of_lt_of_le h.lw hb.size⟩
theorem WS.dec {w : World} {Lf Lw left : Nat} (h : WS w Lf Lw left) (hne : Lf ≠ Lw) (v : Nat) : WS (w.setCell ⟨Lf, 0, none⟩ (.int .i64 (v : Int))) Lf Lw v := by
 have hob : (w.setCell ⟨Lf, 0, none⟩ (.int .i64 (v : Int))).heap[Lw]? = w.heap[Lw]? := Below.heap_setCell _ _ _ _ (fun e => hne e.symm)
 exact ⟨World.cell?_setCell_same' _ _ _ (by rw [h.cf]; rfl), (World.frozen?_setCell _ _ _ _).trans h.ff, by rw [cell_same (a := ⟨Lw, 0, none⟩) hob]; exact h.cw, by rw [size_setCell]; exact h.lf, by rw [size_setCell]; exact h.lw⟩
def TW (w : World) (Lf : Nat) (cs : List Value) (t : Tree) : Prop := TreeAt w (· < Lf) cs t
theorem TW.st {w w' : World} {Lf : Nat} {cs : List Value} {t : Tree} (h : TW w Lf cs t) (hs : St w w' Lf) : TW w' Lf cs t :=
 h.keep (fun k hk hl => World.grownBy.block hs k hl (fun e => by injection e with e; omega)) fun _ hk _ => hk
def WalkOK (Lf Lw lv : Nat) : Prop := ∀ (left : Nat) (t : Tree) (l : Lab) (x : Option Addr) (n k : Nat) (w : World), left ≤ 20000 → TW w Lf [.int .i64 l.kind, .string (str l.name), .int .u64 l.num, .int .i64 l.wd, .bool l.sg, .int .i64 l.op, .int .i64 l.fac, .int .i64 l.pip, .int .i64 l.unr, .int .i64 l.line, .slice x n k] t → WS w Lf Lw left →
 Calls Tryz.prog 49 #[.agg #[.int .i64 l.kind, .string (str l.name), .int .u64 l.num, .int .i64 l.wd, .bool l.sg, .int .i64 l.op, .int .i64 l.fac, .int .i64 l.pip, .int .i64 l.unr, .int .i64 l.line, .slice x n k], .int .i64 (lv : Int), .pointer (some ⟨Lf, 0, none⟩), .pointer (some ⟨Lw, 0, none⟩)] w fun e w' => e = .returned (.bool (wIn left lv t).1) ∧ WS w' Lf Lw (wIn left lv t).2 ∧ St w w' Lf

set_option maxHeartbeats 1000000 in
set_option maxRecDepth 100000 in
theorem inner_any {Lf Lw lv : Nat} (H : WalkOK Lf Lw lv) (hlv : lv < 200) (left : Nat) (hleft : left ≤ 20000) (t : Tree) (l : Lab) (x : Option Addr) (n k : Nat) (L5 : Nat) (w : World) (hT : TW w Lf [.int .i64 l.kind, .string (str l.name), .int .u64 l.num, .int .i64 l.wd, .bool l.sg, .int .i64 l.op, .int .i64 l.fac, .int .i64 l.pip, .int .i64 l.unr, .int .i64 l.line, .slice x n k] t) (hS : WS w Lf Lw left) (h5 : w.cell? ⟨L5, 0, none⟩ = some (.int .i64 ((lv : Int) + 1))) (hl5 : L5 < w.heap.size) :
  Calls Tryz.prog 51 #[.agg #[.int .i64 l.kind, .string (str l.name), .int .u64 l.num, .int .i64 l.wd, .bool l.sg, .int .i64 l.op, .int .i64 l.fac, .int .i64 l.pip, .int .i64 l.unr, .int .i64 l.line, .slice x n k], .pointer (some ⟨Lw, 0, none⟩), .pointer (some ⟨L5, 0, none⟩)] w fun e w' => e = .returned (.bool !(wIn left lv t).1) ∧ WS w' Lf Lw (wIn left lv t).2 ∧ St w w' Lf := by
 have hcw := hS.cw
 have hlw := hS.lw
 have HS := Hd (hS.alloc (.cells #[.int .i64 l.kind, .string (str l.name), .int .u64 l.num, .int .i64 l.wd, .bool l.sg, .int .i64 l.op, .int .i64 l.fac, .int .i64 l.pip, .int .i64 l.unr, .int .i64 l.line, .slice x n k] 27))
 have HT : Hid (TW (w.alloc (.cells #[.int .i64 l.kind, .string (str l.name), .int .u64 l.num, .int .i64 l.wd, .bool l.sg, .int .i64 l.op, .int .i64 l.fac, .int .i64 l.pip, .int .i64 l.unr, .int .i64 l.line, .slice x n k] 27)) Lf [.int .i64 l.kind, .string (str l.name), .int .u64 l.num, .int .i64 l.wd, .bool l.sg, .int .i64 l.op, .int .i64 l.fac, .int .i64 l.pip, .int .i64 l.unr, .int .i64 l.line, .slice x n k] t) := Hd (hT.st ((St.refl w Lf).alloc _))
 have HC := Hd H
 have hc5 := h5
 have HST := Hd ((St.refl w Lf).alloc (.cells #[.int .i64 l.kind, .string (str l.name), .int .u64 l.num, .int .i64 l.wd, .bool l.sg, .int .i64 l.op, .int .i64 l.fac, .int .i64 l.pip, .int .i64 l.unr, .int .i64 l.line, .slice x n k] 27))
 have HC2 := Hd (HC.out left t l x n k _ hleft HT.out HS.out)
 clear hS hT H h5 HC HT HS
 generalize wIn left lv t = W2 at *
 obtain ⟨b, l3⟩ := W2
 go_enter Tryz.func51, Tryz.ntmps51
 go_wp2_with fail
 refine HC2.out.mono ?_
 rintro e w1 ⟨rfl, hs, hst⟩
 have H1 := Hd (And.intro hs (St.trans HST.out hst))
 clear hs hst
 go_wp2
 go_ret
 exact ⟨rfl, H1.out.1, H1.out.2⟩

structure IxSt (Lf Lw lv L5 : Nat) (ks : List Tree) (Z : Bool × Nat) (w wr : World) (i left : Nat) : Prop where
 ws : WS wr Lf Lw left
 st : St w wr Lf
 le : left ≤ 20000
 eq : Z = wIns left lv (ks.drop i)

set_option maxHeartbeats 1000000 in
set_option maxRecDepth 100000 in
theorem index_any {Lf Lw lv : Nat} (H : WalkOK Lf Lw lv) (hlv : lv < 200) (left : Nat) (hleft : left ≤ 20000) (ks : List Tree) (x : Option Addr) (k : Nat) (hk : ks.length ≤ maxLen) (L5 : Nat) (w : World)
  (hT : ∀ i (hi : i < ks.length), ∃ a, x = some a ∧ a.block < Lf ∧ KidAt w (· < Lf) a i (kat ks i)) (hS : WS w Lf Lw left) (h5 : w.cell? ⟨L5, 0, none⟩ = some (.int .i64 ((lv : Int) + 1))) (hl5 : Lf < L5 ∧ L5 < w.heap.size) :
  Calls Tryz.prog 81 #[.slice x ks.length k, .func (Fn.func 51) #[] #[.pointer (some ⟨Lw, 0, none⟩), .pointer (some ⟨L5, 0, none⟩)]] w fun e w' => (∃ r : Int, e = .returned (.int .i64 r) ∧ decide (0 ≤ r) = !(wIns left lv ks).1) ∧ WS w' Lf Lw (wIns left lv ks).2 ∧ St w w' Lf := by
 have h0 : Hid (IxSt Lf Lw lv L5 ks (wIns left lv ks) w w 0 left) := ⟨hS, St.refl _ _, hleft, rfl⟩
 obtain ⟨Z, hZ⟩ : ∃ Z, Z = wIns left lv ks := ⟨_, rfl⟩
 rw [← hZ] at h0 ⊢
 have HIN := Hd fun left hleft t l x n k W hT hS h5 hl5 => inner_any H hlv left hleft t l x n k L5 W hT hS h5 hl5
 have HT := Hd hT
 have H5 := Hd h5
 unfold maxLen at hk
 clear hS hT h5 H hZ hleft
 generalize hN : ks.length = N at *
 have HN := Hd hN
 clear hN
 go_enter Tryz.func81, Tryz.ntmps81
 go_wp2
 go_loopw [8] (fun i wr => ∃ j left : Nat, j ≤ N ∧ i = .int .i64 (j : Int) ∧ Hid (IxSt Lf Lw lv L5 ks Z w wr j left)) (fun i _ => N - (intOf i).toNat)
 case atStart => exact ⟨0, left, by omega, rfl, h0⟩
 case round =>
  clear h0
  obtain ⟨j, lf, hj, rfl, hX⟩ := hrel
  by_cases hjn : j < N
  ·have hjk : j < ks.length := by rw [HN.out]; exact hjn
   obtain ⟨a, hxa, hab, hkid⟩ := HT.out j hjn
   subst hxa
   obtain ⟨l2, x2, n2, k2, ⟨e0, e1, e2, e3, e4, e5, e6, e7, e8, e9, e10⟩, hT3⟩ := hkid.keep (w' := wr) (Q := (· < Lf)) hab (fun g hg hl => World.grownBy.block hX.out.st g hl (fun e => by injection e with e; omega)) fun _ hg _ => hg
   have h5r : wr.cell? ⟨L5, 0, none⟩ = some (.int .i64 ((lv : Int) + 1)) := (cell_same (w := w) (w' := wr) (a := ⟨L5, 0, none⟩) (World.grownBy.block hX.out.st L5 hl5.2 (fun e => by injection e with e; omega))).trans H5.out
   have HC := Hd (HIN.out lf hX.out.le (kat ks j) l2 x2 n2 k2 wr hT3 hX.out.ws h5r (Nat.lt_of_lt_of_le hl5.2 (St.size hX.out.st)))
   have hdr : ks.drop j = (kat ks j) :: ks.drop (j + 1) := drop_kat hjk
   have HZ : Hid (Z = if (wIn lf lv (kat ks j)).1 then wIns (wIn lf lv (kat ks j)).2 lv (ks.drop (j + 1)) else (false, (wIn lf lv (kat ks j)).2)) := Hd (by rw [hX.out.eq, hdr, wIns_cons])
   have HLE := Hd (Nat.le_trans (wIn_le lf lv (kat ks j)) hX.out.le)
   clear hT3 h5r hdr hkid
   generalize hW : wIn lf lv (kat ks j) = W2 at *
   obtain ⟨b, l3⟩ := W2
   clear hW
   cases b with
   | true =>
    go_wp2_with fail
    refine HC.out.mono ?_
    rintro e w2 ⟨rfl, hs, hst⟩
    have HX : Hid (IxSt Lf Lw lv L5 ks Z w w2 (j + 1) l3) := ⟨hs, St.trans hX.out.st hst, HLE.out, HZ.out⟩
    clear hs hst HC e0 e1 e2 e3 e4 e5 e6 e7 e8 e9 e10
    go_wp2
    go_roundw
    case rel => exact ⟨j + 1, l3, by omega, by go_num, HX⟩
    case measure => simp [intOf]; omega
   | false =>
    go_wp2_with fail
    refine HC.out.mono ?_
    rintro e w2 ⟨rfl, hs, hst⟩
    have HX := Hd (And.intro hs (St.trans hX.out.st hst))
    have hz : Z = (false, l3) := HZ.out
    subst hz
    clear hs hst HC e0 e1 e2 e3 e4 e5 e6 e7 e8 e9 e10
    go_wp2
    go_ret
    exact ⟨⟨_, rfl, by simp⟩, HX.out.1, HX.out.2⟩
  ·have hz : Z = (true, lf) := by rw [hX.out.eq, List.drop_of_length_le (by rw [HN.out]; omega), wIns_nil]
   subst hz
   go_wp2
   go_ret
   exact ⟨⟨_, rfl, by simp⟩, hX.out.ws, hX.out.st⟩
end Go.Proofs.YthdbaligapdbeaaGreatDoor
