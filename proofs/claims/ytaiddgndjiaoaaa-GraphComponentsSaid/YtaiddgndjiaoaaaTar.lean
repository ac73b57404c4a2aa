/- Package graph's Components: the state of the search in memory. -/
import Derived.Test.YtaiddgndjiaoaaaTarMath
import Derived.Test.YtaiddgndjiaoaaaCycWalk
import Derived.Test.YtaiddgndjiaoaaaGMin
namespace Go.Proofs.Ytaiddgndjiaoaaa
open Go.RowKit
set_option linter.unusedVariables false

/-- What row least holds: a done node's component. -/
def lst (E : Nat → Nat → Bool) (n : Nat) (T O : List Nat) (u : Nat) : Int := if u ∈ T ∧ u ∉ O then (compB (wars E n) u : Int) else -1
theorem lst_enter {E : Nat → Nat → Bool} {n : Nat} {T O : List Nat} {v : Nat} (hv : v ∉ T) (u : Nat) : lst E n (T ++ [v]) (O ++ [v]) u = lst E n T O u := by
  unfold lst
  by_cases e : u = v
  · subst e; simp [hv]
  · simp [e]
theorem lst_open {E : Nat → Nat → Bool} {n : Nat} {T O : List Nat} {u : Nat} (h : u ∈ O) : lst E n T O u = -1 := if_neg (fun k => k.2 h)
theorem lst_done {E : Nat → Nat → Bool} {n : Nat} {T O : List Nat} {u : Nat} (h : u ∈ T) (k : u ∉ O) : lst E n T O u = (compB (wars E n) u : Int) := if_pos ⟨h, k⟩

/-- Where the search's blocks lie. -/
structure TarLay (h0 b2 po pv pn px pw pl Bn Bl : Nat) : Prop where
  lpo : po < b2
  lpv : pv < b2
  lpn : pn < b2
  lpx : px < b2
  lpw : pw < b2
  lpl : pl < b2
  lBn : Bn < b2
  lBl : Bl < b2
  gpo : h0 ≤ po
  gpv : h0 ≤ pv
  gBn : h0 ≤ Bn
  gBl : h0 ≤ Bl
  d1 : po ≠ pv ∧ po ≠ Bn ∧ po ≠ Bl ∧ pv ≠ Bn ∧ pv ≠ Bl ∧ Bn ≠ Bl
  en : pn ≠ po ∧ pn ≠ pv ∧ pn ≠ Bn ∧ pn ≠ Bl
  ex : px ≠ po ∧ px ≠ pv ∧ px ≠ Bn ∧ px ≠ Bl
  ew : pw ≠ po ∧ pw ≠ pv ∧ pw ≠ Bn ∧ pw ≠ Bl
  el : pl ≠ po ∧ pl ≠ pv ∧ pl ≠ Bn ∧ pl ≠ Bl

structure TarMem (w0 w : World) (B b2 po pv pn px pw pl Bn Bl n : Nat) (f : Nat → Int) (T O : List Nat) : Prop where
  bel : Below w0.heap.size w0 w
  sz : b2 ≤ w.heap.size
  cn : w.cell? ⟨pn, 0, none⟩ = some (.slice (some ⟨Bn, 0, none⟩) n n)
  cl : w.cell? ⟨pl, 0, none⟩ = some (.slice (some ⟨Bl, 0, none⟩) n n)
  cx : w.cell? ⟨px, 0, none⟩ = some (.slice (some ⟨B, 0, none⟩) n n)
  cw : w.cell? ⟨pw, 0, none⟩ = some (.func (Fn.func 35) #[] #[.pointer (some ⟨po, 0, none⟩), .pointer (some ⟨pv, 0, none⟩), .pointer (some ⟨pn, 0, none⟩), .pointer (some ⟨px, 0, none⟩), .pointer (some ⟨pw, 0, none⟩), .pointer (some ⟨pl, 0, none⟩)])
  rv : w.rowIs pv 3 1 (fun _ => .int .i64 (T.length : Int))
  rn : w.rowIs Bn 3 n (fun u => .int .i64 (plc T u))
  rl : w.rowIs Bl 3 n (fun u => .int .i64 (f u))
  open' : ∃ vp, w.rowIs po 31 1 (fun _ => vp) ∧ w.ownsRow b2 3 1 vp O.length (nums O)

theorem TarMem.congr {w0 w : World} {B b2 po pv pn px pw pl Bn Bl n : Nat} {f g : Nat → Int} {T O : List Nat} (h : TarMem w0 w B b2 po pv pn px pw pl Bn Bl n f T O) (e : ∀ u, u < n → f u = g u) : TarMem w0 w B b2 po pv pn px pw pl Bn Bl n g T O :=
  ⟨h.bel, h.sz, h.cn, h.cl, h.cx, h.cw, h.rv, h.rn, h.rl.congr fun u hu => by rw [e u hu], h.open'⟩
theorem TarMem.drewN {w0 w : World} {B b2 po pv pn px pw pl Bn Bl n : Nat} {f : Nat → Int} {T O : List Nat} (h : TarMem w0 w B b2 po pv pn px pw pl Bn Bl n f T O) (q : Nat) : TarMem w0 (w.drewN q) B b2 po pv pn px pw pl Bn Bl n f T O := by
  have hb : Below w.heap.size w (w.drewN q) := ⟨rfl, rfl, rfl, Nat.le_refl _, fun _ _ => rfl⟩
  obtain ⟨vp, h1, h2⟩ := h.open'
  refine ⟨h.bel.trans (hb.mono h.bel.size), h.sz, h.cn, h.cl, h.cx, h.cw, row_below h.rv hb h.rv.lt, row_below h.rn hb h.rn.lt, row_below h.rl hb h.rl.lt, vp, row_below h1 hb h1.lt, own_below h2 hb (Nat.le_refl _)⟩

/-- A node is entered: it is open, and has the next number. -/
theorem tar_enter {w0 w w3 : World} {B b2 po pv pn px pw pl Bn Bl n : Nat} {f : Nat → Int} {T O : List Nat} {v : Nat} {v' : Value} (L : TarLay w0.heap.size b2 po pv pn px pw pl Bn Bl) (h : TarMem w0 w B b2 po pv pn px pw pl Bn Bl n f T O) (hv : v ∉ T)
    (ho : w3.ownsRow b2 3 1 v' (O.length + 1) (nums O ++ [.int .i64 (v : Int)])) (hb : Below b2 w w3) :
    TarMem w0 (((w3.setCell ⟨po, 0, none⟩ v').setCell ⟨Bn, v, none⟩ (.int .i64 (T.length : Int))).setCell ⟨pv, 0, none⟩ (.int .i64 ((T.length : Int) + 1))) B b2 po pv pn px pw pl Bn Bl n f (T ++ [v]) (O ++ [v]) := by
  obtain ⟨d1, d2, d3, d4, d5, d6⟩ := L.d1
  have g1 := grown_setCell w3 po 0 v'
  have g2 := grown_setCell (w3.setCell ⟨po, 0, none⟩ v') Bn v (.int .i64 (T.length : Int))
  have g3 := grown_setCell ((w3.setCell ⟨po, 0, none⟩ v').setCell ⟨Bn, v, none⟩ (.int .i64 (T.length : Int))) pv 0 (.int .i64 ((T.length : Int) + 1))
  have hc : ∀ (p : Nat) (x : Value), p < b2 → (p ≠ po ∧ p ≠ pv ∧ p ≠ Bn ∧ p ≠ Bl) → w.cell? ⟨p, 0, none⟩ = some x → (((w3.setCell ⟨po, 0, none⟩ v').setCell ⟨Bn, v, none⟩ (.int .i64 (T.length : Int))).setCell ⟨pv, 0, none⟩ (.int .i64 ((T.length : Int) + 1))).cell? ⟨p, 0, none⟩ = some x := by
    intro p x q1 ⟨q2, q3, q4, _⟩ hx
    refine cell_grown g3 (cell_grown g2 (cell_grown g1 ?_ (some_ne q2)) (some_ne q4)) (some_ne q3)
    rw [hb.cell (by exact q1)]
    exact hx
  obtain ⟨vp, hp1, hp2⟩ := h.open'
  have hsz := hb.size
  have hs0 := h.sz
  have hl : w0.heap.size ≤ b2 := by have := L.gBn; have := L.lBn; omega
  refine ⟨?_, ?_, hc _ _ L.lpn L.en h.cn, hc _ _ L.lpl L.el h.cl, hc _ _ L.lpx L.ex h.cx, hc _ _ L.lpw L.ew h.cw, ?_, ?_, ?_, ?_⟩
  · exact (((h.bel.trans (hb.mono hl)).setCell (p := ⟨po, 0, none⟩) L.gpo _).setCell (p := ⟨Bn, v, none⟩) L.gBn _).setCell (p := ⟨pv, 0, none⟩) L.gpv _
  · simp [World.setCell]; omega
  · have k := row_grown (row_grown (row_below h.rv hb L.lpv) g1 (some_ne d1.symm)) g2 (some_ne d4)
    exact (k.set 0 _).congr fun u hu => by
      have : u = 0 := by omega
      subst this; simp
  · refine row_grown ?_ g3 (some_ne d4.symm)
    have k := row_grown (row_below h.rn hb L.lBn) g1 (some_ne d2.symm)
    exact (k.set v _).congr fun u _ => by rw [plc_push hv]; by_cases e : u = v <;> simp [e]
  · exact row_grown (row_grown (row_grown (row_below h.rl hb L.lBl) g1 (some_ne d3.symm)) g2 (some_ne d6.symm)) g3 (some_ne d5.symm)
  · refine ⟨v', ?_, ?_⟩
    · refine row_grown (row_grown ?_ g2 (some_ne d2)) g3 (some_ne d1)
      have k := row_below hp1 hb L.lpo
      exact (k.set 0 v').congr fun u hu => by
        have : u = 0 := by omega
        subst this; simp
    · rw [List.length_append, List.length_singleton, ← nums_append]
      exact own_set_other (own_set_other (own_set_other ho (own_far ho L.lpo) _ _) (own_far ho L.lBn) _ _) (own_far ho L.lpv) _ _
/-- A node's component is stored. -/
theorem tar_store {w0 w : World} {B b2 po pv pn px pw pl Bn Bl n : Nat} {f : Nat → Int} {T O : List Nat} (L : TarLay w0.heap.size b2 po pv pn px pw pl Bn Bl) (h : TarMem w0 w B b2 po pv pn px pw pl Bn Bl n f T O) (u : Nat) (m : Int) :
    TarMem w0 (w.setCell ⟨Bl, u, none⟩ (.int .i64 m)) B b2 po pv pn px pw pl Bn Bl n (fun y => if y = u then m else f y) T O := by
  obtain ⟨d1, d2, d3, d4, d5, d6⟩ := L.d1
  have g1 := grown_setCell w Bl u (.int .i64 m)
  have hc : ∀ (p : Nat) (x : Value), (p ≠ po ∧ p ≠ pv ∧ p ≠ Bn ∧ p ≠ Bl) → w.cell? ⟨p, 0, none⟩ = some x → (w.setCell ⟨Bl, u, none⟩ (.int .i64 m)).cell? ⟨p, 0, none⟩ = some x :=
    fun p x q hx => cell_grown g1 hx (some_ne q.2.2.2)
  obtain ⟨vp, hp1, hp2⟩ := h.open'
  refine ⟨h.bel.setCell (p := ⟨Bl, u, none⟩) L.gBl _, ?_, hc _ _ L.en h.cn, hc _ _ L.el h.cl, hc _ _ L.ex h.cx, hc _ _ L.ew h.cw, row_grown h.rv g1 (some_ne d5), row_grown h.rn g1 (some_ne d6), ?_, vp, row_grown hp1 g1 (some_ne d3), own_set_other hp2 (own_far hp2 L.lBl) _ _⟩
  · have := h.sz; simp [World.setCell]; omega
  · exact (h.rl.set u _).congr fun y _ => by by_cases e : y = u <;> simp [e]
/-- The component's nodes leave the list. -/
theorem tar_leave {w0 w : World} {B b2 po pv pn px pw pl Bn Bl n : Nat} {f : Nat → Int} {T O X : List Nat} {g c m : Nat} (L : TarLay w0.heap.size b2 po pv pn px pw pl Bn Bl) (h : TarMem w0 w B b2 po pv pn px pw pl Bn Bl n f T (O ++ X))
    (hp1 : w.rowIs po 31 1 (fun _ => .slice (some ⟨g, 0, none⟩) m c)) (hp2 : w.ownsRow b2 3 1 (.slice (some ⟨g, 0, none⟩) m c) m (nums (O ++ X))) (hm : O.length ≤ m) :
    TarMem w0 (w.setCell ⟨po, 0, none⟩ (.slice (some ⟨g, 0, none⟩) O.length c)) B b2 po pv pn px pw pl Bn Bl n f T O := by
  obtain ⟨d1, d2, d3, d4, d5, d6⟩ := L.d1
  have g1 := grown_setCell w po 0 (.slice (some ⟨g, 0, none⟩) O.length c)
  have hc : ∀ (p : Nat) (x : Value), (p ≠ po ∧ p ≠ pv ∧ p ≠ Bn ∧ p ≠ Bl) → w.cell? ⟨p, 0, none⟩ = some x → (w.setCell ⟨po, 0, none⟩ (.slice (some ⟨g, 0, none⟩) O.length c)).cell? ⟨p, 0, none⟩ = some x :=
    fun p x q hx => cell_grown g1 hx (some_ne q.1)
  refine ⟨h.bel.setCell (p := ⟨po, 0, none⟩) L.gpo _, ?_, hc _ _ L.en h.cn, hc _ _ L.el h.cl, hc _ _ L.ex h.cx, hc _ _ L.ew h.cw, row_grown h.rv g1 (some_ne d1.symm), row_grown h.rn g1 (some_ne d2.symm), row_grown h.rl g1 (some_ne d3.symm), .slice (some ⟨g, 0, none⟩) O.length c, ?_, ?_⟩
  · have := h.sz; simp [World.setCell]; omega
  · exact (hp1.set 0 _).congr fun u hu => by
      have : u = 0 := by omega
      subst this; simp
  · have k := own_take (m := O.length) hp2 (by omega)
    rw [List.take_left] at k
    exact own_set_other k (own_far k L.lpo) _ _
end Go.Proofs.Ytaiddgndjiaoaaa
