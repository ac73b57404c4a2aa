/- Package graph's Cycle: the state of the search in memory. -/
import Derived.Test.YtaiddgndjiaoaaaCyMath
import Derived.Test.YtaiddgndjiaoaaaGReach
import Derived.Test.YtaiddgndjiaoaaaGRepeat
import Derived.Test.YtaiddgndjiaoaaaSliceKit
import Derived.Test.YtaiddgndjiaoaaaGRev
namespace Go.Proofs.Ytaiddgndjiaoaaa
open Go.RowKit
set_option linter.unusedVariables false

def plc (P : List Nat) (u : Nat) : Int := if u ∈ P then (P.idxOf u : Int) else -1
def seenB (P F : List Nat) (u : Nat) : Bool := decide (u ∈ P) || decide (u ∈ F)
theorem plc_push {P : List Nat} {v : Nat} (hv : v ∉ P) (u : Nat) : plc (P ++ [v]) u = if u = v then (P.length : Int) else plc P u := by
  unfold plc
  by_cases e : u = v
  · subst e; rw [if_pos (by simp), if_pos rfl, List.idxOf_append, if_neg hv]; simp
  · rw [if_neg e]
    by_cases h : u ∈ P
    · rw [if_pos (List.mem_append_left _ h), if_pos h, List.idxOf_append, if_pos h]
    · rw [if_neg (by simp [h, e]), if_neg h]
theorem plc_pop {P : List Nat} {v : Nat} (hv : v ∉ P) (u : Nat) : plc P u = if u = v then -1 else plc (P ++ [v]) u := by
  rw [plc_push hv]
  by_cases e : u = v
  · subst e; rw [if_pos rfl]; unfold plc; rw [if_neg hv]
  · rw [if_neg e, if_neg e]
theorem seenB_push (P F : List Nat) (v u : Nat) : seenB (P ++ [v]) F u = if u = v then true else seenB P F u := by
  unfold seenB
  by_cases e : u = v <;> simp [e]
theorem seenB_pop (P F : List Nat) (v u : Nat) : seenB P (F ++ [v]) u = seenB (P ++ [v]) F u := by
  unfold seenB
  rw [Bool.eq_iff_iff]
  simp only [Bool.or_eq_true, decide_eq_true_eq, List.mem_append, List.mem_singleton]
  constructor
  · rintro (h | h | h)
    · exact .inl (.inl h)
    · exact .inr h
    · exact .inl (.inr h)
  · rintro ((h | h) | h)
    · exact .inl h
    · exact .inr (.inr h)
    · exact .inr (.inl h)

/-- Where the search's blocks lie. -/
structure CycLay (h0 b2 ps pp pl pn pw Bs Bl : Nat) : Prop where
  lps : ps < b2
  lpp : pp < b2
  lpl : pl < b2
  lpn : pn < b2
  lpw : pw < b2
  lBs : Bs < b2
  lBl : Bl < b2
  s1 : ps ≠ Bs
  s2 : pp ≠ Bs
  s3 : pl ≠ Bs
  s4 : pn ≠ Bs
  s5 : pw ≠ Bs
  s6 : Bl ≠ Bs
  t1 : ps ≠ Bl
  t2 : pp ≠ Bl
  t3 : pl ≠ Bl
  t4 : pn ≠ Bl
  t5 : pw ≠ Bl
  u1 : ps ≠ pp
  u2 : pl ≠ pp
  u3 : pn ≠ pp
  u4 : pw ≠ pp
  gBs : h0 ≤ Bs
  gBl : h0 ≤ Bl
  gpp : h0 ≤ pp

structure CycAt (w0 w : World) (B b2 ps pp pl pn pw Bs Bl n : Nat) (P F : List Nat) : Prop where
  bel : Below w0.heap.size w0 w
  sz : b2 ≤ w.heap.size
  cs : w.cell? ⟨ps, 0, none⟩ = some (.slice (some ⟨Bs, 0, none⟩) n n)
  cl : w.cell? ⟨pl, 0, none⟩ = some (.slice (some ⟨Bl, 0, none⟩) n n)
  cn : w.cell? ⟨pn, 0, none⟩ = some (.slice (some ⟨B, 0, none⟩) n n)
  cw : w.cell? ⟨pw, 0, none⟩ = some (.func (Fn.func 33) #[] #[.pointer (some ⟨ps, 0, none⟩), .pointer (some ⟨pp, 0, none⟩), .pointer (some ⟨pl, 0, none⟩), .pointer (some ⟨pn, 0, none⟩), .pointer (some ⟨pw, 0, none⟩)])
  rs : w.rowIs Bs 4 n (fun u => .bool (seenB P F u))
  rl : w.rowIs Bl 3 n (fun u => .int .i64 (plc P u))
  path : ∃ vp, w.rowIs pp 31 1 (fun _ => vp) ∧ w.ownsRow b2 3 1 vp P.length (nums P)

theorem own_far {w : World} {b2 p : Nat} {e : TypeId} {s n : Nat} {v : Value} {xs : List Value} (h : w.ownsRow b2 e s v n xs) (hp : p < b2) : some p ≠ v.ownBlock := fun e => by have := (h.lt _ e.symm).1; omega
theorem some_ne {a b : Nat} (h : a ≠ b) : some a ≠ some b := fun e => h (by injection e)

/-- A store into one of the rows. -/
theorem cyc_rows {w0 w : World} {B b2 ps pp pl pn pw Bs Bl n : Nat} {P F : List Nat} (L : CycLay w0.heap.size b2 ps pp pl pn pw Bs Bl) (h : CycAt w0 w B b2 ps pp pl pn pw Bs Bl n P F) (v : Nat) (x y : Value) :
    Below w0.heap.size w0 ((w.setCell ⟨Bs, v, none⟩ x).setCell ⟨Bl, v, none⟩ y) := (h.bel.setCell (p := ⟨Bs, v, none⟩) L.gBs x).setCell (p := ⟨Bl, v, none⟩) L.gBl y

theorem cyc_enter {w0 w w3 : World} {B b2 ps pp pl pn pw Bs Bl n : Nat} {P F : List Nat} {v : Nat} {v' : Value} (L : CycLay w0.heap.size b2 ps pp pl pn pw Bs Bl) (h : CycAt w0 w B b2 ps pp pl pn pw Bs Bl n P F) (hP : v ∉ P)
    (ho : w3.ownsRow b2 3 1 v' (P.length + 1) (nums P ++ [.int .i64 (v : Int)])) (hb : Below b2 ((w.setCell ⟨Bs, v, none⟩ (.bool true)).setCell ⟨Bl, v, none⟩ (.int .i64 (P.length : Int))) w3) :
    CycAt w0 (w3.setCell ⟨pp, 0, none⟩ v') B b2 ps pp pl pn pw Bs Bl n (P ++ [v]) F := by
  have g1 := grown_setCell w Bs v (.bool true)
  have g2 := grown_setCell (w.setCell ⟨Bs, v, none⟩ (.bool true)) Bl v (.int .i64 (P.length : Int))
  have g3 := grown_setCell w3 pp 0 v'
  have hc : ∀ (p : Nat) (x : Value), p < b2 → p ≠ Bs → p ≠ Bl → p ≠ pp → w.cell? ⟨p, 0, none⟩ = some x → (w3.setCell ⟨pp, 0, none⟩ v').cell? ⟨p, 0, none⟩ = some x := by
    intro p x q1 q2 q3 q4 hx
    refine cell_grown g3 ?_ (some_ne q4)
    rw [hb.cell (by exact q1)]
    exact cell_grown g2 (cell_grown g1 hx (some_ne q2)) (some_ne q3)
  obtain ⟨vp, hp1, hp2⟩ := h.path
  have hsz := hb.size
  have hs0 := h.sz
  have hl : w0.heap.size ≤ b2 := by have := L.gBs; have := L.lBs; omega
  refine ⟨?_, ?_, hc _ _ L.lps L.s1 L.t1 L.u1 h.cs, hc _ _ L.lpl L.s3 L.t3 L.u2 h.cl, hc _ _ L.lpn L.s4 L.t4 L.u3 h.cn, hc _ _ L.lpw L.s5 L.t5 L.u4 h.cw, ?_, ?_, ?_⟩
  · exact ((cyc_rows L h v _ _).trans (hb.mono hl)).setCell (p := ⟨pp, 0, none⟩) L.gpp v'
  · simp [World.setCell] at hsz ⊢; omega
  · refine row_grown ?_ g3 (some_ne L.s2.symm)
    refine row_below ?_ hb L.lBs
    refine row_grown ?_ g2 (some_ne L.s6.symm)
    exact (h.rs.set v (.bool true)).congr fun u _ => by rw [seenB_push]; by_cases e : u = v <;> simp [e]
  · refine row_grown ?_ g3 (some_ne L.t2.symm)
    refine row_below ?_ hb L.lBl
    exact ((row_grown h.rl g1 (some_ne L.s6)).set v (.int .i64 (P.length : Int))).congr fun u _ => by rw [plc_push hP]; by_cases e : u = v <;> simp [e]
  · refine ⟨v', ?_, ?_⟩
    · have k := row_below (row_grown (row_grown hp1 g1 (some_ne L.s2)) g2 (some_ne L.t2)) hb L.lpp
      exact (k.set 0 v').congr fun u hu => by have : u = 0 := by omega
                                              subst this; simp
    · rw [List.length_append, List.length_singleton, ← nums_append]
      exact own_set_other ho (own_far ho L.lpp) _ _
theorem cyc_leave {w0 w : World} {B b2 ps pp pl pn pw Bs Bl n : Nat} {P F : List Nat} {v g c : Nat} (L : CycLay w0.heap.size b2 ps pp pl pn pw Bs Bl) (h : CycAt w0 w B b2 ps pp pl pn pw Bs Bl n (P ++ [v]) F) (hP : v ∉ P)
    (hp1 : w.rowIs pp 31 1 (fun _ => .slice (some ⟨g, 0, none⟩) (P.length + 1) c)) (hp2 : w.ownsRow b2 3 1 (.slice (some ⟨g, 0, none⟩) (P.length + 1) c) (P.length + 1) (nums (P ++ [v]))) :
    CycAt w0 ((w.setCell ⟨Bl, v, none⟩ (.int .i64 (-1))).setCell ⟨pp, 0, none⟩ (.slice (some ⟨g, 0, none⟩) P.length c)) B b2 ps pp pl pn pw Bs Bl n P (F ++ [v]) := by
  have g1 := grown_setCell w Bl v (.int .i64 (-1))
  have g3 := grown_setCell (w.setCell ⟨Bl, v, none⟩ (.int .i64 (-1))) pp 0 (.slice (some ⟨g, 0, none⟩) P.length c)
  have hc : ∀ (p : Nat) (x : Value), p ≠ Bl → p ≠ pp → w.cell? ⟨p, 0, none⟩ = some x → ((w.setCell ⟨Bl, v, none⟩ (.int .i64 (-1))).setCell ⟨pp, 0, none⟩ (.slice (some ⟨g, 0, none⟩) P.length c)).cell? ⟨p, 0, none⟩ = some x :=
    fun p x q2 q3 hx => cell_grown g3 (cell_grown g1 hx (some_ne q2)) (some_ne q3)
  have hs0 := h.sz
  refine ⟨?_, ?_, hc _ _ L.t1 L.u1 h.cs, hc _ _ L.t3 L.u2 h.cl, hc _ _ L.t4 L.u3 h.cn, hc _ _ L.t5 L.u4 h.cw, ?_, ?_, ?_⟩
  · exact (h.bel.setCell (p := ⟨Bl, v, none⟩) L.gBl _).setCell (p := ⟨pp, 0, none⟩) L.gpp _
  · simp [World.setCell]; omega
  · exact (row_grown (row_grown h.rs g1 (some_ne L.s6.symm)) g3 (some_ne L.s2.symm)).congr fun u _ => by rw [seenB_pop]
  · exact (row_grown ((h.rl.set v (.int .i64 (-1))).congr (g := fun u => .int .i64 (plc P u)) fun u _ => by rw [plc_pop hP]; by_cases e : u = v <;> simp [e]) g3 (some_ne L.t2.symm))
  · have k1 := (row_grown hp1 g1 (some_ne L.t2)).set 0 (.slice (some ⟨g, 0, none⟩) P.length c)
    have k2 := k1.congr (g := fun _ => .slice (some ⟨g, 0, none⟩) P.length c) (fun u hu => by
      have : u = 0 := by omega
      subst this
      simp)
    refine ⟨_, k2, ?_⟩
    have k := own_take (m := P.length) hp2 (by omega)
    rw [List.take_left] at k
    exact own_set_other (own_set_other k (own_far k L.lBl) _ _) (own_far k L.lpp) _ _
end Go.Proofs.Ytaiddgndjiaoaaa
