/- The reader in memory: its block, the tokens, what a store into it and a new block leave. -/
import Derived.Test.YthdbaligapdbeaaGreatDoorMgPsTree
import Derived.Test.YthdbaligapdbeaaGreatDoorMgLxTk0
import Derived.Test.YthdbaligapdbeaaGreatDoorMgTabKit
import Derived.Deep.QuietTactic
import Derived.Laws.ResultCell
namespace Go.Proofs.YthdbaligapdbeaaGreatDoor
open Go Go.RowKit
set_option linter.unusedVariables false

structure Ctx (ts : List Tok) (R g c : Nat) : Prop where
 ne : ts ≠ []
 lt : g < R
 len : ts.length ≤ 65536
 cap : ts.length ≤ c ∧ c ≤ maxLen
 line : ∀ t ∈ ts, 0 < t.line ∧ t.line ≤ 1000000
 num : ∀ t ∈ ts, t.num < 18446744073709551616
 text : ∀ t ∈ ts, t.text ≠ [] ∧ t.text.length ≤ 65536
def LvAt (w : World) (v : Value) (ops : List (List UInt8 × Nat)) : Prop := ∃ (a : Addr) (c : Nat), v = .slice (some a) ops.length c ∧ ∀ j (h : j < ops.length), w.cell? (a.add (j * 2)) = some (.string (str ops[j].1)) ∧ w.cell? (a.add (j * 2 + 1)) = some (.int .i64 (ops[j].2 : Int))
def Lv (w : World) : Prop := ∀ l, l < 11 → ∃ v, w.cell? ⟨9, l, none⟩ = some v ∧ LvAt w v (levelOps l)
def Env (w : World) (g : Nat) : Prop := ∃ w0 : World, Vs w0 ∧ Lv w0 ∧ w0.heap.size ≤ g ∧ w0.heap.size ≤ w.heap.size ∧ ∀ k, k < w0.heap.size → w.heap[k]? = w0.heap[k]?
theorem Env.lv {w : World} {g : Nat} (h : Env w g) : Lv w := by
 obtain ⟨w0, _, h2, _, _, h5⟩ := h
 intro l hl
 obtain ⟨v, hv, a, c, he, hc⟩ := h2 l hl
 refine ⟨v, by rw [cell_same (h5 _ (cell_block_lt hv))]; exact hv, a, c, he, fun j hj => ?_⟩
 obtain ⟨c1, c2⟩ := hc j hj
 exact ⟨by rw [cell_same (h5 _ (cell_block_lt c1))]; exact c1, by rw [cell_same (h5 _ (cell_block_lt c2))]; exact c2⟩
theorem Env.vs {w : World} {g : Nat} (h : Env w g) : Vs w := by
 obtain ⟨w0, ⟨⟨t, p, h1⟩, ⟨u, q, h2⟩⟩, _, _, _, h5⟩ := h
 exact ⟨⟨t, p, by rw [cell_same (h5 _ (cell_block_lt h1))]; exact h1⟩, ⟨u, q, by rw [cell_same (h5 _ (cell_block_lt h2))]; exact h2⟩⟩
theorem Env.of_blocks {w w' : World} {g : Nat} (h : Env w g) (h1 : ∀ k, k ≤ g → w'.heap[k]? = w.heap[k]?) (hs : w.heap.size ≤ w'.heap.size) : Env w' g := by
 obtain ⟨w0, a, b, c, d, e⟩ := h
 exact ⟨w0, a, b, c, by omega, fun k hk => (h1 k (by omega)).trans (e k hk)⟩
def atOf (ts : List Tok) (s : Sg) : Nat := if s.bad then ts.length else s.i
def badOf (ts : List Tok) (s : Sg) : Nat := if s.bad then (tat ts (min s.i (ts.length - 1))).line else 0
structure Rd (w : World) (R g c : Nat) (ts : List Tok) (s : Sg) : Prop where
 blk : Blk w R 65 [.slice (some ⟨g, 0, none⟩) ts.length c, .int .i64 (atOf ts s : Int), .int .i64 (badOf ts s : Int)]
 tk : TkIn w g ts
 hi : s.i ≤ ts.length
 env : Env w g
theorem Rd.lt {w : World} {R g c : Nat} {ts : List Tok} {s : Sg} (h : Rd w R g c ts s) : R < w.heap.size := h.blk.lt
theorem Rd.cells {w : World} {R g c : Nat} {ts : List Tok} {s : Sg} (h : Rd w R g c ts s) : w.cell? ⟨R, 0, none⟩ = some (.slice (some ⟨g, 0, none⟩) ts.length c) ∧ w.cell? ⟨R, 1, none⟩ = some (.int .i64 (atOf ts s : Int)) ∧ w.cell? ⟨R, 2, none⟩ = some (.int .i64 (badOf ts s : Int)) ∧
  w.frozen? ⟨R, 1, none⟩ = false ∧ w.frozen? ⟨R, 2, none⟩ = false := ⟨h.blk.cell 0, h.blk.cell 1, h.blk.cell 2, h.blk.frozen 1, h.blk.frozen 2⟩
theorem TkIn.of_block {w w' : World} {g : Nat} {ts : List Tok} (h : TkIn w g ts) (hb : w'.heap[g]? = w.heap[g]?) : TkIn w' g ts := by
 have hlt : g < w'.heap.size := by
  have h1 := Array.getElem?_eq_getElem h.1
  rw [h1] at hb
  exact (Array.getElem?_eq_some_iff.1 hb).1
 refine ⟨hlt, fun i hi => ?_⟩
 have := h.2 i hi
 rw [cell_same (a := ⟨g, i * 5, none⟩) hb, cell_same (a := ⟨g, i * 5 + 1, none⟩) hb, cell_same (a := ⟨g, i * 5 + 2, none⟩) hb, cell_same (a := ⟨g, i * 5 + 3, none⟩) hb, cell_same (a := ⟨g, i * 5 + 4, none⟩) hb]
 exact this
theorem Rd.of_blocks {w w' : World} {R g c : Nat} {ts : List Tok} {s : Sg} (h : Rd w R g c ts s) (h1 : w'.heap[R]? = w.heap[R]?) (h2 : ∀ k, k ≤ g → w'.heap[k]? = w.heap[k]?) (hs : w.heap.size ≤ w'.heap.size) : Rd w' R g c ts s :=
 ⟨h1.trans h.blk, h.tk.of_block (h2 g (Nat.le_refl _)), h.hi, h.env.of_blocks h2 hs⟩
theorem Rd.below {w w' : World} {R g c B : Nat} {ts : List Tok} {s : Sg} (h : Rd w R g c ts s) (hg : g < R) (hb : Below B w w') (hR : R < B) : Rd w' R g c ts s :=
 h.of_blocks (hb.block R hR) (fun k hk => hb.block k (by omega)) hb.size
theorem Rd.alloc {w : World} {R g c : Nat} {ts : List Tok} {s : Sg} (h : Rd w R g c ts s) (hg : g < R) (o : Obj) : Rd (w.alloc o) R g c ts s :=
 h.below hg ((Below.refl w.heap.size w).alloc (Nat.le_refl _) o) h.lt
theorem size_setCell (w : World) (a : Addr) (v : Value) : (w.setCell a v).heap.size = w.heap.size := by simp [World.setCell]
theorem Rd.set_other {w : World} {R g c : Nat} {ts : List Tok} {s : Sg} (h : Rd w R g c ts s) (hg : g < R) {a : Addr} (ha : R < a.block) (v : Value) : Rd (w.setCell a v) R g c ts s :=
 h.of_blocks (Below.heap_setCell _ _ _ _ (by omega)) (fun k hk => Below.heap_setCell _ _ _ _ (by omega)) (by rw [size_setCell]; exact Nat.le_refl _)
def St (w w' : World) (R : Nat) : Prop := w.grownBy w' (some R)
theorem St.refl (w : World) (R : Nat) : St w w R := World.grownBy.refl _ _
theorem St.trans {a b c : World} {R : Nat} (h : St a b R) (k : St b c R) : St a c R := grown_trans h k
theorem St.size {w w' : World} {R : Nat} (h : St w w' R) : w.heap.size ≤ w'.heap.size := World.grownBy.size h
theorem St.blk {w w' : World} {R : Nat} (h : St w w' R) {L : Nat} {t : TypeId} {cs : List Value} (hL : Blk w L t cs) (hne : L ≠ R) : Blk w' L t cs :=
 (World.grownBy.block h L hL.lt (fun e => by injection e with e; exact hne e)).trans hL
theorem St.alloc {w w' : World} {R : Nat} (h : St w w' R) (o : Obj) : St w (w'.alloc o) R := grown_trans h (World.grownBy_alloc _ _ _)
theorem St.setCell {w w' : World} {R : Nat} (h : St w w' R) {a : Addr} (ha : w.heap.size ≤ a.block) (v : Value) : St w (w'.setCell a v) R :=
 ⟨h.os, h.tape, h.output, by simp [World.setCell]; exact h.size, fun k hk hne => (Below.heap_setCell _ _ _ _ (by omega)).trans (World.grownBy.block h k hk hne)⟩
theorem St.setR {w w' : World} {R : Nat} (h : St w w' R) {a : Addr} (ha : a.block = R) (v : Value) : St w (w'.setCell a v) R :=
 ⟨h.os, h.tape, h.output, by simp [World.setCell]; exact h.size, fun k hk hne => (Below.heap_setCell _ _ _ _ (by intro e; apply hne; rw [← ha, e])).trans (World.grownBy.block h k hk hne)⟩
theorem St.drew {w w' : World} {R : Nat} (h : St w w' R) : St w w'.drew R := ⟨h.os, h.tape, h.output, h.size, h.block⟩
theorem St.drewN {w w' : World} {R : Nat} (h : St w w' R) (n : Nat) : St w (w'.drewN n) R := ⟨h.os, h.tape, h.output, h.size, h.block⟩
theorem St.of_below {w w' : World} {R : Nat} (h : Below w.heap.size w w') : St w w' R := ⟨h.os, h.tape, h.output, h.size, fun k hk _ => h.block k hk⟩
theorem St.tree {w0 w w' : World} {R : Nat} (h : St w w' R) {cs : List Value} {t : Tree} (ht : TreeAt w (w0.heap.size ≤ ·) cs t) (hR : R < w0.heap.size) : TreeAt w' (w0.heap.size ≤ ·) cs t :=
 ht.keep (fun g hg hl => World.grownBy.block h g hl (fun e => by injection e with e; omega)) fun _ hg _ => hg
theorem St.kids {w w' : World} {R base : Nat} (h : St w w' R) {v : Value} {ks : List Tree} (hk : Kids w base v ks) (hR : R < base) : Kids w' base v ks :=
 hk.keep fun g hg hl => World.grownBy.block h g hl (fun e => by injection e with e; omega)
end Go.Proofs.YthdbaligapdbeaaGreatDoor
/- Cells of a block that are stored one after another; a result that lies in a block. Nothing of the program stands here. -/
namespace Go.Proofs.YthdbaligapdbeaaGreatDoor
open Go Go.RowKit
set_option linter.unusedVariables false

def putAt (w : World) (g : Nat) : Nat → List Value → World
 | _, [] => w
 | i, v :: vs => putAt (w.setCell ⟨g, i, none⟩ v) g (i + 1) vs
theorem blk_putAt {g : Nat} {t : TypeId} : ∀ (vs : List Value) (w : World) (cs : List Value) (i : Nat), Blk w g t cs → i + vs.length ≤ cs.length → Blk (putAt w g i vs) g t (cs.take i ++ vs ++ cs.drop (i + vs.length)) := by
 intro vs
 induction vs with
 | nil => intro w cs i h hl; simpa [putAt] using h
 | cons v vs ih =>
  intro w cs i h hl
  rw [List.length_cons] at hl
  have h1 := ih _ _ (i + 1) (h.set i v) (by rw [List.length_set]; omega)
  have e : (cs.set i v).take (i + 1) ++ vs ++ (cs.set i v).drop (i + 1 + vs.length) = cs.take i ++ (v :: vs) ++ cs.drop (i + (v :: vs).length) := by
   have e1 : (cs.set i v).take (i + 1) = cs.take i ++ [v] := by
    rw [List.take_succ_eq_append_getElem (by rw [List.length_set]; omega), List.getElem_set_self, List.take_set]
    congr 1
    rw [List.set_eq_of_length_le]
    rw [List.length_take]; omega
   have e2 : (cs.set i v).drop (i + 1 + vs.length) = cs.drop (i + (v :: vs).length) := by
    rw [List.drop_set_of_lt (by omega)]
    congr 1
    rw [List.length_cons]; omega
   rw [e1, e2]
   simp
  rw [e] at h1
  exact h1
theorem Blk.put {g : Nat} {t : TypeId} {vs : List Value} {w : World} {cs : List Value} (h : Blk w g t cs) (hl : cs.length = vs.length) : Blk (putAt w g 0 vs) g t vs := by
 have := blk_putAt vs w cs 0 h (by omega)
 rw [List.take_zero, List.nil_append, Nat.zero_add, ← hl, List.drop_length, List.append_nil] at this
 exact this
theorem put_size {g : Nat} : ∀ (vs : List Value) (w : World) (i : Nat), (putAt w g i vs).heap.size = w.heap.size := by
 intro vs
 induction vs with
 | nil => intro w i; rfl
 | cons v vs ih => intro w i; rw [putAt, ih]; simp [World.setCell]
theorem put_below {B : Nat} {a : World} {g : Nat} (hg : B ≤ g) : ∀ (vs : List Value) (w : World) (i : Nat), Below B a w → Below B a (putAt w g i vs) := by
 intro vs
 induction vs with
 | nil => intro w i h; exact h
 | cons v vs ih => intro w i h; exact ih _ _ (h.setCell (p := ⟨g, i, none⟩) hg _)
theorem put_st {R : Nat} {a : World} {g : Nat} (hg : a.heap.size ≤ g) : ∀ (vs : List Value) (w : World) (i : Nat), St a w R → St a (putAt w g i vs) R := by
 intro vs
 induction vs with
 | nil => intro w i h; exact h
 | cons v vs ih => intro w i h; exact ih _ _ (St.setCell h (a := ⟨g, i, none⟩) hg v)
theorem put_other {g k : Nat} (hk : k ≠ g) : ∀ (vs : List Value) (w : World) (i : Nat), (putAt w g i vs).heap[k]? = w.heap[k]? := by
 intro vs
 induction vs with
 | nil => intro w i; rfl
 | cons v vs ih => intro w i; rw [putAt, ih]; exact Below.heap_setCell _ _ _ _ hk
def stor2 (w : World) (g : Nat) (x0 x1 : Value) : World := (w.setCell ⟨g, 0, none⟩ x0).setCell ⟨g, 1, none⟩ x1
theorem stor2_eq (w : World) (g : Nat) (x0 x1 : Value) : stor2 w g x0 x1 = putAt w g 0 [x0, x1] := rfl
theorem Blk.stor2 {w : World} {g : Nat} {t : TypeId} {cs : List Value} (h : Blk w g t cs) (hl : cs.length = 2) (x0 x1 : Value) : Blk (stor2 w g x0 x1) g t [x0, x1] := by rw [stor2_eq]; exact Blk.put h hl
theorem St.stor2 {R : Nat} {a w : World} (h : St a w R) {g : Nat} (hg : a.heap.size ≤ g) (x0 x1 : Value) : St a (stor2 w g x0 x1) R := by rw [stor2_eq]; exact put_st hg _ _ _ h
theorem stor2_other (w : World) {g k : Nat} (hk : k ≠ g) (x0 x1 : Value) : (stor2 w g x0 x1).heap[k]? = w.heap[k]? := by rw [stor2_eq]; exact put_other hk _ _ _
theorem stor2_size (w : World) (g : Nat) (x0 x1 : Value) : (stor2 w g x0 x1).heap.size = w.heap.size := by rw [stor2_eq]; exact put_size _ _ _
def stor5 (w : World) (g : Nat) (x0 x1 x2 x3 x4 : Value) : World := ((((w.setCell ⟨g, 0, none⟩ x0).setCell ⟨g, 1, none⟩ x1).setCell ⟨g, 2, none⟩ x2).setCell ⟨g, 3, none⟩ x3).setCell ⟨g, 4, none⟩ x4
theorem stor5_eq (w : World) (g : Nat) (x0 x1 x2 x3 x4 : Value) : stor5 w g x0 x1 x2 x3 x4 = putAt w g 0 [x0, x1, x2, x3, x4] := rfl
theorem Blk.stor5 {w : World} {g : Nat} {t : TypeId} {cs : List Value} (h : Blk w g t cs) (hl : cs.length = 5) (x0 x1 x2 x3 x4 : Value) : Blk (stor5 w g x0 x1 x2 x3 x4) g t [x0, x1, x2, x3, x4] := by rw [stor5_eq]; exact Blk.put h hl
theorem below_stor5 {B : Nat} {a w : World} (h : Below B a w) {g : Nat} (hg : B ≤ g) (x0 x1 x2 x3 x4 : Value) : Below B a (stor5 w g x0 x1 x2 x3 x4) := by rw [stor5_eq]; exact put_below hg _ _ _ h
theorem St.stor5 {R : Nat} {a w : World} (h : St a w R) {g : Nat} (hg : a.heap.size ≤ g) (x0 x1 x2 x3 x4 : Value) : St a (stor5 w g x0 x1 x2 x3 x4) R := by rw [stor5_eq]; exact put_st hg _ _ _ h
theorem stor5_other (w : World) {g k : Nat} (hk : k ≠ g) (x0 x1 x2 x3 x4 : Value) : (stor5 w g x0 x1 x2 x3 x4).heap[k]? = w.heap[k]? := by rw [stor5_eq]; exact put_other hk _ _ _
theorem stor5_size (w : World) (g : Nat) (x0 x1 x2 x3 x4 : Value) : (stor5 w g x0 x1 x2 x3 x4).heap.size = w.heap.size := by rw [stor5_eq]; exact put_size _ _ _
def stor11 (w : World) (g : Nat) (x0 x1 x2 x3 x4 x5 x6 x7 x8 x9 x10 : Value) : World := ((((((((((w.setCell ⟨g, 0, none⟩ x0).setCell ⟨g, 1, none⟩ x1).setCell ⟨g, 2, none⟩ x2).setCell ⟨g, 3, none⟩ x3).setCell ⟨g, 4, none⟩ x4).setCell ⟨g, 5, none⟩ x5).setCell ⟨g, 6, none⟩ x6).setCell ⟨g, 7, none⟩ x7).setCell ⟨g, 8, none⟩ x8).setCell ⟨g, 9, none⟩ x9).setCell ⟨g, 10, none⟩ x10
theorem stor11_eq (w : World) (g : Nat) (x0 x1 x2 x3 x4 x5 x6 x7 x8 x9 x10 : Value) : stor11 w g x0 x1 x2 x3 x4 x5 x6 x7 x8 x9 x10 = putAt w g 0 [x0, x1, x2, x3, x4, x5, x6, x7, x8, x9, x10] := rfl
theorem Blk.stor11 {w : World} {g : Nat} {t : TypeId} {cs : List Value} (h : Blk w g t cs) (hl : cs.length = 11) (x0 x1 x2 x3 x4 x5 x6 x7 x8 x9 x10 : Value) : Blk (stor11 w g x0 x1 x2 x3 x4 x5 x6 x7 x8 x9 x10) g t [x0, x1, x2, x3, x4, x5, x6, x7, x8, x9, x10] := by rw [stor11_eq]; exact Blk.put h hl
theorem below_stor11 {B : Nat} {a w : World} (h : Below B a w) {g : Nat} (hg : B ≤ g) (x0 x1 x2 x3 x4 x5 x6 x7 x8 x9 x10 : Value) : Below B a (stor11 w g x0 x1 x2 x3 x4 x5 x6 x7 x8 x9 x10) := by rw [stor11_eq]; exact put_below hg _ _ _ h
theorem St.stor11 {R : Nat} {a w : World} (h : St a w R) {g : Nat} (hg : a.heap.size ≤ g) (x0 x1 x2 x3 x4 x5 x6 x7 x8 x9 x10 : Value) : St a (stor11 w g x0 x1 x2 x3 x4 x5 x6 x7 x8 x9 x10) R := by rw [stor11_eq]; exact put_st hg _ _ _ h
theorem stor11_other (w : World) {g k : Nat} (hk : k ≠ g) (x0 x1 x2 x3 x4 x5 x6 x7 x8 x9 x10 : Value) : (stor11 w g x0 x1 x2 x3 x4 x5 x6 x7 x8 x9 x10).heap[k]? = w.heap[k]? := by rw [stor11_eq]; exact put_other hk _ _ _
theorem stor11_size (w : World) (g : Nat) (x0 x1 x2 x3 x4 x5 x6 x7 x8 x9 x10 : Value) : (stor11 w g x0 x1 x2 x3 x4 x5 x6 x7 x8 x9 x10).heap.size = w.heap.size := by rw [stor11_eq]; exact put_size _ _ _
theorem Rd.stor2 {w : World} {R g c : Nat} {ts : List Tok} {s : Sg} (h : Rd w R g c ts s) (hg : g < R) {L : Nat} (hL : R < L) (x0 x1 : Value) : Rd (stor2 w L x0 x1) R g c ts s :=
 h.of_blocks (stor2_other _ (by omega) x0 x1) (fun k hk => stor2_other _ (by omega) x0 x1) (by rw [stor2_size]; exact Nat.le_refl _)
theorem Rd.stor5 {w : World} {R g c : Nat} {ts : List Tok} {s : Sg} (h : Rd w R g c ts s) (hg : g < R) {L : Nat} (hL : R < L) (x0 x1 x2 x3 x4 : Value) : Rd (stor5 w L x0 x1 x2 x3 x4) R g c ts s :=
 h.of_blocks (stor5_other _ (by omega) x0 x1 x2 x3 x4) (fun k hk => stor5_other _ (by omega) x0 x1 x2 x3 x4) (by rw [stor5_size]; exact Nat.le_refl _)
theorem Rd.stor11 {w : World} {R g c : Nat} {ts : List Tok} {s : Sg} (h : Rd w R g c ts s) (hg : g < R) {L : Nat} (hL : R < L) (x0 x1 x2 x3 x4 x5 x6 x7 x8 x9 x10 : Value) : Rd (stor11 w L x0 x1 x2 x3 x4 x5 x6 x7 x8 x9 x10) R g c ts s :=
 h.of_blocks (stor11_other _ (by omega) x0 x1 x2 x3 x4 x5 x6 x7 x8 x9 x10) (fun k hk => stor11_other _ (by omega) x0 x1 x2 x3 x4 x5 x6 x7 x8 x9 x10) (by rw [stor11_size]; exact Nat.le_refl _)
theorem results_cell1 {fn : Func} {p : Tmp} {ty : TypeId} (h : fn.results = #[.cell p ty]) (tmps : Array Value) (P : Program) (w : World) :
  (results fn tmps).run P w = ((asAddr (tmps.getD p undef)).run P w).andThen fun a w₁ => ((loadVar ty a).run P w₁).andThen fun v w₂ => .ok v w₂ := by
 simp only [results, h]
 simp [Sem.run_bind, Result.andThen]
 split
 ·split <;> assumption
 ·rfl
theorem Blk.res1 {P : Program} {fn : Func} {p : Tmp} {ty : TypeId} (hr : fn.results = #[.cell p ty]) {w : World} {g : Nat} {cs : List Value} {d : TypeDesc} (h : Blk w g ty cs)
  (hu : P.underlying ty = some d) (hd : (match d with | .struct _ | .array _ _ => true | _ => false) = true) (hi : (P.info? ty).map (·.size) = some cs.length)
  (tmps : Array Value) (hp : tmps.getD p undef = .pointer (some ⟨g, 0, none⟩)) :
  (results fn tmps).run P w = .ok (.agg cs.toArray) w := by
 rw [results_cell1 hr, hp]
 simp [asAddr, Result.andThen, run_loadVar_row w g ty ty cs.toArray (0, 0) d h hu hd (by simpa using hi)]
end Go.Proofs.YthdbaligapdbeaaGreatDoor
