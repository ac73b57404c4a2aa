/- The interpreter's table of operators as laid; an argument that is two types. -/
import Derived.Test.YtcodfkeidbeooaaDoorRefBinary2
import Derived.Below
import Derived.Deep.Slices
import Derived.Lib.LaidTab
import Derived.OpenShut
namespace Go.Proofs.YtcodfkeidbeooaaDoor
open Go Go.RowKit Go.ChangeShapes
set_option linter.unusedVariables false
set_option linter.unusedSimpArgs false

/-- The binary operators of layer 1 in the table's rows, without and with a sign. -/
def opU (i : Nat) : Int := [0, 2, 3, 4, 5, 6, 9, 10, 11, 12, 13, 15, 16, 17, 18, 17, 18, 9, 10].getD i 0
def opS (i : Nat) : Int := [0, 2, 3, 4, 7, 8, 9, 10, 11, 12, 14, 15, 16, 19, 20, 19, 20, 9, 10].getD i 0
def rowO (i : Nat) : DataW Unit := .agg [.lit (.int .i64 (opU i)), .lit (.int .i64 (opS i))]
/-- The table lies in its variable. -/
def Ot (w : World) : Prop := ∀ i, i < 19 → w.cell? ⟨0, i * 2, none⟩ = some (.int .i64 (opU i)) ∧ w.cell? ⟨0, i * 2 + 1, none⟩ = some (.int .i64 (opS i))
set_option maxRecDepth 100000 in
theorem ot_of_laid {W : World} {r : List (String × DataW Unit)} (hL : laidMet Tryd.prog (("jacquard/interp.operators", .agg ((List.range 19).map rowO)) :: r) W) : Ot W := by
  obtain ⟨ps, ⟨g0, t0, cs0, f0, p0, q0, hg0, ht0, hv0, hd0, _, _⟩, _, _⟩ := hL
  have hg : Tryd.prog.globalNamed "jacquard/interp.operators" = some 0 := by kernel_rfl
  have ht : (Tryd.prog.globals[0]?).map (·.type) = some 33 := by kernel_rfl
  obtain rfl := Option.some.inj (hg.symm.trans hg0)
  obtain rfl := Option.some.inj (ht.symm.trans ht0)
  obtain ⟨ys, m, _, hx, hl, hlen, hget⟩ := DataW.trod_array Tryd.underlying33 hd0
  have hce : Tryd.prog.cellsOf 32 = 2 := by kernel_rfl
  have hi1 : Tryd.prog.cellsOf 3 = 1 := by kernel_rfl
  intro i hi
  have h1 := hget i hi
  rw [hce] at h1
  have hys : ys[i]? = some (ys[i]'(by omega)) := List.getElem?_eq_getElem (by omega)
  rw [hys] at h1
  have hx1 : (List.range 19).map rowO = ys.map (·.1) := DataW.agg.inj (congrArg Prod.fst hx)
  have hy : (ys[i]'(by omega)).1 = rowO i := by
    have := congrArg (fun q : List (DataW Unit) => q[i]?) hx1
    simp [hi, hys] at this
    exact this.symm
  obtain ⟨y, hyy⟩ : ∃ y, y = ys[i]'(by omega) := ⟨_, rfl⟩
  rw [← hyy] at h1 hy
  obtain ⟨d, pl⟩ := y
  simp only at hy
  subst hy
  obtain ⟨xs, n', _, hx5, hl5, hlx, hf⟩ := DataW.trod_struct Tryd.underlying32 h1
  rw [hce] at hl5
  have hxs : xs.map (·.1) = [.lit (.int .i64 (opU i)), .lit (.int .i64 (opS i))] := by
    have h2 : rowO i = .agg (xs.map (·.1)) := congrArg Prod.fst hx5
    exact (DataW.agg.inj h2).symm
  match xs, hxs with
  | [y0, y1], hxs =>
    simp at hxs
    obtain ⟨cl, hcl⟩ : ∃ cl, cl = (cs0.toList.drop (i * 2)).take 2 := ⟨_, rfl⟩
    rw [← hcl] at hf hl5
    match cl, hl5 with
    | [u0, u1], _ =>
      have f0 : DataW.trod _ Tryd.prog W _ _ _ n' 3 (List.take (Tryd.prog.cellsOf 3) (List.drop 0 [u0, u1])) = some y0 := hf 0 _ rfl
      have f1 : DataW.trod _ Tryd.prog W _ _ _ n' 3 (List.take (Tryd.prog.cellsOf 3) (List.drop 1 [u0, u1])) = some y1 := hf 1 _ rfl
      obtain ⟨z0, e1, e2, _⟩ := DataW.trod_int Tryd.underlying3 f0
      obtain ⟨z1, e3, e4, _⟩ := DataW.trod_int Tryd.underlying3 f1
      rw [hi1] at e1 e3
      simp at e1 e3
      have hy0 := hxs.1
      have hy1 := hxs.2
      rw [e2] at hy0
      rw [e4] at hy1
      simp at hy0 hy1
      have c0 : cs0.toList[i * 2]? = some u0 := by
        have := congrArg (fun q : List Value => q[0]?) hcl
        simp [List.getElem?_take, List.getElem?_drop] at this
        simpa using this.symm
      have c1 : cs0.toList[i * 2 + 1]? = some u1 := by
        have := congrArg (fun q : List Value => q[1]?) hcl
        simp [List.getElem?_take, List.getElem?_drop] at this
        simpa using this.symm
      have a0 := World.var?_cell hg hv0 (i * 2)
      have a1 := World.var?_cell hg hv0 (i * 2 + 1)
      rw [a0, a1]
      rw [← Array.getElem?_toList, c0, ← Array.getElem?_toList, c1, e1, e3, hy0, hy1]
      exact ⟨rfl, rfl⟩
theorem ot_lt {w : World} {a : Addr} {v : Value} (h : w.cell? a = some v) : a.block < w.heap.size := by
  unfold World.cell? at h
  rcases hb : w.heap[a.block]? with _ | o
  · rw [hb] at h; simp at h
  · exact (Array.getElem?_eq_some_iff.1 hb).1
theorem Ot.alloc {w : World} (h : Ot w) (o : Obj) : Ot (w.alloc o) := by
  intro i hi
  obtain ⟨h1, h2⟩ := h i hi
  have hb : Below w.heap.size w (w.alloc o) := (Below.refl _ _).alloc (Nat.le_refl _) _
  have b1 := ot_lt h1
  have b2 := ot_lt h2
  exact ⟨(hb.cell b1).trans h1, (hb.cell b2).trans h2⟩

/-- An argument that is two types by value. -/
theorem open_types2 {H : Type} {enc : TypeId × Value → H} {w : World} {base : Nat} {spare : Nat → Bool} {held : Bool} {r : Reach} {b0 : Nat} {v : Value} {d : DataW H} {p : List MemPlace}
    (hv : Value.okWide Tryd.prog w r b0 24 v) (h : DataW.Trod enc Tryd.prog w base spare held 24 v d p) :
    ∃ (a : Int) (s : Bool) (b : Int) (t : Bool), v = .agg #[.int .i64 a, .bool s, .int .i64 b, .bool t] := by
  simp only [Value.okWide, Tryd.underlying24] at hv
  obtain ⟨cs, rfl, hsz, _⟩ := hv
  obtain ⟨fuel, hf⟩ := h
  have hc4 : Tryd.prog.cellsOf 24 = 4 := by kernel_rfl
  have hc2 : Tryd.prog.cellsOf 23 = 2 := by kernel_rfl
  have hi1 : Tryd.prog.cellsOf 3 = 1 := by kernel_rfl
  have hb1 : Tryd.prog.cellsOf 4 = 1 := by kernel_rfl
  rw [hc4] at hsz
  obtain ⟨ys, m, _, _, _, hl, hg⟩ := DataW.trod_array Tryd.underlying24 hf
  have hsz' : cs.toList.length = 4 := hsz
  have hcs : (Value.agg cs).cells.toList = cs.toList := rfl
  rw [hcs] at hg
  obtain ⟨l, hl0⟩ : ∃ l, l = cs.toList := ⟨_, rfl⟩
  have hcs2 : cs = l.toArray := by rw [hl0]
  rw [← hl0] at hg hsz'
  subst hcs2
  match l, hsz' with
  | [u0, u1, u2, u3], _ =>
    have g0 := hg 0 (by omega)
    have g1 := hg 1 (by omega)
    rw [hc2] at g0 g1
    have e0 : ys[0]? = some (ys[0]'(by omega)) := List.getElem?_eq_getElem (by omega)
    have e1 : ys[1]? = some (ys[1]'(by omega)) := List.getElem?_eq_getElem (by omega)
    rw [e0] at g0
    rw [e1] at g1
    obtain ⟨xs, n', _, _, _, hlx, hf0⟩ := DataW.trod_struct Tryd.underlying23 g0
    obtain ⟨xs', n'', _, _, _, hlx', hf1⟩ := DataW.trod_struct Tryd.underlying23 g1
    have hx2 : xs.length = 2 := hlx
    have hx2' : xs'.length = 2 := hlx'
    match xs, hx2, xs', hx2' with
    | [y0, y1], _, [y2, y3], _ =>
      have f0 : DataW.trod enc Tryd.prog w base spare held n' 3 (List.take (Tryd.prog.cellsOf 3) (List.drop 0 [u0, u1])) = some y0 := hf0 0 _ rfl
      have f1 : DataW.trod enc Tryd.prog w base spare held n' 4 (List.take (Tryd.prog.cellsOf 4) (List.drop 1 [u0, u1])) = some y1 := hf0 1 _ rfl
      have f2 : DataW.trod enc Tryd.prog w base spare held n'' 3 (List.take (Tryd.prog.cellsOf 3) (List.drop 0 [u2, u3])) = some y2 := hf1 0 _ rfl
      have f3 : DataW.trod enc Tryd.prog w base spare held n'' 4 (List.take (Tryd.prog.cellsOf 4) (List.drop 1 [u2, u3])) = some y3 := hf1 1 _ rfl
      obtain ⟨a, q0, _, _⟩ := DataW.trod_int Tryd.underlying3 f0
      obtain ⟨s, q1, _⟩ := DataW.trod_bool Tryd.underlying4 f1
      obtain ⟨b, q2, _, _⟩ := DataW.trod_int Tryd.underlying3 f2
      obtain ⟨t, q3, _⟩ := DataW.trod_bool Tryd.underlying4 f3
      rw [hi1] at q0 q2
      rw [hb1] at q1 q3
      simp at q0 q1 q2 q3
      exact ⟨a, s, b, t, by rw [q0, q1, q2, q3]⟩
end Go.Proofs.YtcodfkeidbeooaaDoor
