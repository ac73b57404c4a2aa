/- A local node whose Kids grow, in a walk of the reference's reader. -/
import Derived.Test.YtkliclihpobmiaaGreatDoorMgPsBi
import Derived.Test.YtkliclihpobmiaaGreatDoorMgPsFk
import Derived.Test.YtkliclihpobmiaaGreatDoorMgPqPr
import Derived.Test.YtkliclihpobmiaaGreatDoorMgLxKit
import Derived.Test.YtkliclihpobmiaaGreatDoorMgLxType
import Derived.Deep.RegionWith
import Derived.IntWalk
namespace Go.Proofs.YtkliclihpobmiaaGreatDoor
namespace Q
open Go Go.RowKit
set_option linter.unusedVariables false
set_option linter.unusedSimpArgs false

structure FK (w0 w : World) (R g c : Nat) (ts : List Tok) (s : Sg) (Ls : List (Nat × List Value)) (base : Nat) (v : Value) (ks : List Tree) : Prop where
 fr : Fr w0 w R g c ts s Ls []
 kd : Kids w base v ks
 hb : ∀ L cs, (L, cs) ∈ Ls → L < base
 hw : base ≤ w.heap.size
 hw0 : w0.heap.size ≤ base
 few : ks.length ≤ 100000
section
variable {w0 w : World} {R g c : Nat} {ts : List Tok} {s : Sg} {Ls : List (Nat × List Value)} {base : Nat} {v : Value} {ks : List Tree}
theorem FK.hR (F : FK w0 w R g c ts s Ls base v ks) : R < base := Nat.lt_of_lt_of_le F.fr.hR F.hw0
theorem FK.shape (F : FK w0 w R g c ts s Ls base v ks) : ∃ x k, v = .slice x ks.length k := F.kd.shape
theorem FK.call (F : FK w0 w R g c ts s Ls base v ks) {w' : World} {s' : Sg} (hr : Rd w' R g c ts s') (hs : St w w' R) : FK w0 w' R g c ts s' Ls base v ks :=
 ⟨F.fr.call hr hs, St.kids hs F.kd F.hR, F.hb, Nat.le_trans F.hw (St.size hs), F.hw0, F.few⟩
theorem FK.quiet (F : FK w0 w R g c ts s Ls base v ks) (hg : g < R) {w' : World} (hb : Below w.heap.size w w') : FK w0 w' R g c ts s Ls base v ks := F.call (F.fr.rd.below hg hb F.fr.rd.lt) (St.of_below hb)
theorem FK.drewN (F : FK w0 w R g c ts s Ls base v ks) (n : Nat) : FK w0 (w.drewN n) R g c ts s Ls base v ks := F.call (F.fr.rd.drewN n) ((St.refl w R).drewN n)
theorem FK.drew (F : FK w0 w R g c ts s Ls base v ks) : FK w0 w.drew R g c ts s Ls base v ks := F.drewN 1
theorem FK.tree (F : FK w0 w R g c ts s Ls base v ks) (l : Lab) : Fr w0 w R g c ts s Ls [(lcells l v, .node l ks)] := by
 refine ⟨F.fr.rd, F.fr.st, F.fr.bl, fun xs t h => ?_, F.fr.hR, F.fr.nd⟩
 simp at h
 obtain ⟨rfl, rfl⟩ := h
 exact (F.kd.tree l).mono fun k hk _ => ⟨Nat.le_trans F.hw0 hk, fun L ys hL => by have := F.hb L ys hL; omega⟩
theorem FK.set0 {L : Nat} {cs : List Value} (F : FK w0 w R g c ts s ((L, cs) :: Ls) base v ks) (hg : g < R) (i : Nat) (u : Value) (cs' : List Value) (h : cs' = cs.set i u) : FK w0 (w.setCell ⟨L, i, none⟩ u) R g c ts s ((L, cs') :: Ls) base v ks := by
 have hL := F.hb L cs (by simp)
 refine ⟨F.fr.set0 hg i u cs' h, F.kd.keep fun k hk _ => Below.heap_setCell _ _ _ _ (by show k ≠ L; omega), fun M xs hm => ?_, by rw [size_setCell]; exact F.hw, F.hw0, F.few⟩
 rcases List.mem_cons.1 hm with hm | hm
 ·injection hm with h1 h2
  omega
 ·exact F.hb M xs (by simp [hm])
theorem Fr.fk (F : Fr w0 w R g c ts s Ls []) : FK w0 w R g c ts s Ls w.heap.size (.slice none 0 0) [] :=
 ⟨F, kids_nil _ _, fun L cs h => F.lt h, Nat.le_refl _, F.size, by simp⟩
theorem Fr.fkL (F : Fr w0 w R g c ts s Ls []) {w' : World} {s' : Sg} {u : Value} {us : List Tree} (hk : Kids w' w.heap.size u us) (hr : Rd w' R g c ts s') (hs : St w w' R) (hf : us.length ≤ 100000) : FK w0 w' R g c ts s' Ls w.heap.size u us :=
 ⟨F.call hr hs, hk, fun L cs h => F.lt h, St.size hs, F.size, hf⟩
structure FT (w0 wa w : World) (R g c : Nat) (ts : List Tok) (s : Sg) (Ls : List (Nat × List Value)) (base : Nat) (v : Value) (ks : List Tree) (cs : List Value) (t : Tree) : Prop where
 fr : Fr w0 w R g c ts s Ls []
 kd : Kids wa base v ks
 st : St wa w R
 ht : TreeAt w (wa.heap.size ≤ ·) cs t
 hb : ∀ L cs, (L, cs) ∈ Ls → L < base
 hw : base ≤ wa.heap.size
 hw0 : w0.heap.size ≤ base
 few : ks.length ≤ 99999
theorem FK.callT (F : FK w0 w R g c ts s Ls base v ks) (hf : ks.length ≤ 99999) {w' : World} {s' : Sg} {cs : List Value} {t : Tree} (ht : TreeAt w' (w.heap.size ≤ ·) cs t) (hr : Rd w' R g c ts s') (hs : St w w' R) : FT w0 w w' R g c ts s' Ls base v ks cs t :=
 ⟨F.fr.call hr hs, F.kd, hs, ht, F.hb, F.hw, F.hw0, hf⟩
theorem fk_append {P : Program} {ops : Array Oper} {o : Oper} {a : Act} {K : Act → World → Prop} {Q : Exit → Act → World → Prop} {E : Prop} {wa : World} {cs : List Value} {t : Tree} (T : FT w0 wa w R g c ts s Ls base v ks cs t) (hg : g < R) (hgd : o.guard = none) (sl x : Operand) (ty : TypeId)
  (ho : o.op = .call { callee := .builtin .append, args := #[sl, x], argTypes := #[ty, ty] }) (hty : P.underlying ty = some (.slice 28))
  (hinfo : (P.info? 28).map (fun i => (i.zero, i.size, i.bytes)) = some (some (.agg #[.int .i64 0, .string ⟨#[]⟩, .int .u64 0, .int .i64 0, .bool false, .int .i64 0, .int .i64 0, .int .i64 0, .int .i64 0, .int .i64 0, .slice none 0 0]), 11, 112))
  (hs : a.eval sl = v) (hx : a.eval x = .slice (some ⟨w.heap.size, 0, none⟩) 1 1)
  (h : ∀ (g3 c3 : Nat) (w' : World), FK w0 w' R g c ts s Ls base (.slice (some ⟨g3, 0, none⟩) (ks.length + 1) c3) (ks ++ [t]) → K (a.put o.dst (.slice (some ⟨g3, 0, none⟩) (ks.length + 1) c3)) w') :
  if Region.wanted o (yielded ops a.tmps) = true then Oper.wp P o a (w.alloc (.cells cs.toArray 28)) K Q else E := by
 obtain ⟨C, o1, o2⟩ := T.kd
 have hR := Nat.lt_of_lt_of_le T.fr.hR T.hw0
 have o5 : w.ownsRow base 28 11 v ks.length (flat C ks.length) := o1.kept T.st (by
  right
  intro e
  have := (o1.lt R e).1
  omega)
 have hown := o5.alloc (.cells cs.toArray 28)
 have hsz := St.size T.st
 have hl := T.ht.length
 have hw := T.hw
 have hf := T.few
 obtain ⟨i0, hi0, hz0, hz1, hz2⟩ := info_parts hinfo
 have hza : (w.alloc (.cells cs.toArray 28)).heap.size = w.heap.size + 1 := by simp
 refine step_append_lies (w := w.alloc (.cells cs.toArray 28)) hgd sl x ty ho base 28 i0 _ 11 112 hty hi0 hz0 hz1 hz2 (by rfl) (by decide) v ks.length (flat C ks.length) hs hown ⟨w.heap.size, 0, none⟩ 1 1 cs hx (by omega)
  (World.news_of_block (cs := cs.toArray) (t := 28) (fr := (0, 0)) (heap_alloc_new w _)) ?_ (by decide) (by unfold maxLen; omega) (by omega) (by omega) (w.heap.size + 1) hza ?_
 ·obtain ⟨l, xx, n, k, rfl⟩ := T.ht.form
  intro z hz
  simp at hz
  rcases hz with rfl | rfl | rfl | rfl | rfl | rfl | rfl | rfl | rfl | rfl | rfl <;> rfl
 ·intro g3 c3 w6 ho3 hg3 hat3 hlt3
  have hgo : ∀ k, v.ownBlock = some k → base ≤ k ∧ k < wa.heap.size := fun k hk => o1.lt k hk
  have hFa := T.fr.alloc hg (.cells cs.toArray 28)
  have hst6 : St w0 w6 R := St.own hFa.st hg3 fun k hk => by have := (hgo k hk).1; have := T.hw0; omega
  refine h g3 c3 w6 ⟨⟨hFa.rd.own hg hg3 fun k hk => by have := (hgo k hk).1; omega, hst6, fun L xs hL => ?_, fun xs u hu => by simp at hu, T.fr.hR, T.fr.nd⟩, ?_, T.hb, ?_, T.hw0, by rw [List.length_append]; simp; omega⟩
  ·have h1 := hFa.bl L xs hL
   refine ⟨(hg3.block L h1.1.lt (fun e => ?_)).trans h1.1, h1.2⟩
   have := (hgo L e.symm).1
   have := T.hb L xs hL
   omega
  ·refine kids_push (w0 := wa) (C := C) (w := w.alloc (.cells cs.toArray 28)) o1 o2 (fun k hk hlt => ?_) (by omega) hw (T.ht.keep (fun k _ hk => Below.heap_alloc w _ k hk) fun k hk _ => hk) hg3 ?_ ho3
   ·exact (Below.heap_alloc w _ k (by omega)).trans (World.grownBy.block T.st k hlt (fun e => by injection e with e; omega))
   ·rcases hat3 with hl2 | hl2
    ·exact .inl hl2
    ·exact .inr (by omega)
  ·have := hg3.size
   omega
structure FB (w0 w : World) (R g c : Nat) (ts : List Tok) (s : Sg) (Ls : List (Nat × List Value)) (base : Nat) (Tb : List (List Value × Tree)) : Prop where
 fr : Fr w0 w R g c ts s Ls []
 tb : ∀ cs t, (cs, t) ∈ Tb → TreeAt w (base ≤ ·) cs t
 hb : ∀ L cs, (L, cs) ∈ Ls → L < base
 hw : base ≤ w.heap.size
 hw0 : w0.heap.size ≤ base
theorem Fr.fb (F : Fr w0 w R g c ts s Ls []) : FB w0 w R g c ts s Ls w.heap.size [] := ⟨F, fun cs t h => by simp at h, fun L cs h => F.lt h, Nat.le_refl _, F.size⟩
section
variable {Tb : List (List Value × Tree)}
theorem FB.call (F : FB w0 w R g c ts s Ls base Tb) {w' : World} {s' : Sg} (hr : Rd w' R g c ts s') (hs : St w w' R) : FB w0 w' R g c ts s' Ls base Tb :=
 ⟨F.fr.call hr hs, fun cs t h => (F.tb cs t h).keep (fun k hk hl => World.grownBy.block hs k hl (fun e => by injection e with e; have := F.fr.hR; have := F.hw0; omega)) fun _ hk _ => hk, F.hb, Nat.le_trans F.hw (St.size hs), F.hw0⟩
theorem FB.tree (F : FB w0 w R g c ts s Ls base Tb) {w' : World} {s' : Sg} {cs : List Value} {t : Tree} (ht : TreeAt w' (w.heap.size ≤ ·) cs t) (hr : Rd w' R g c ts s') (hs : St w w' R) : FB w0 w' R g c ts s' Ls base ((cs, t) :: Tb) := by
 have F1 := F.call hr hs
 refine ⟨F1.fr, fun xs u h => ?_, F1.hb, F1.hw, F1.hw0⟩
 rcases List.mem_cons.1 h with h | h
 ·injection h with h1 h2
  subst h1 h2
  exact ht.mono fun q hq _ => Nat.le_trans F.hw hq
 ·exact F1.tb xs u h
theorem FB.set0 {L : Nat} {cs : List Value} (F : FB w0 w R g c ts s ((L, cs) :: Ls) base Tb) (hg : g < R) (i : Nat) (u : Value) (cs' : List Value) (h : cs' = cs.set i u) : FB w0 (w.setCell ⟨L, i, none⟩ u) R g c ts s ((L, cs') :: Ls) base Tb := by
 have hL := F.hb L cs (by simp)
 refine ⟨F.fr.set0 hg i u cs' h, fun xs t ht => (F.tb xs t ht).keep (fun k hk _ => Below.heap_setCell _ _ _ _ (by show k ≠ L; omega)) fun _ hk _ => hk, fun M xs hm => ?_, by rw [size_setCell]; exact F.hw, F.hw0⟩
 rcases List.mem_cons.1 hm with hm | hm
 ·injection hm with h1 h2
  omega
 ·exact F.hb M xs (by simp [hm])
theorem FB.two (F : FB w0 w R g c ts s Ls base Tb) (hg : g < R) {c1 c2 : List Value} {t1 t2 : Tree} (h1 : (c1, t1) ∈ Tb) (h2 : (c2, t2) ∈ Tb) (cs : List Value) (hcs : cs = c1 ++ c2) (H : Nat) (hH : w.heap.size = H) : FK w0 (w.alloc (.cells cs.toArray 28)) R g c ts s Ls base (.slice (some ⟨H, 0, none⟩) 2 2) [t1, t2] := by
 subst hH
 have T1 := F.tb _ _ h1
 have T2 := F.tb _ _ h2
 have hl1 := T1.length
 have hl2 := T2.length
 refine ⟨F.fr.alloc hg _, ⟨fun i => if i = 0 then c1 else c2, ?_, fun i hi => ?_⟩, F.hb, Nat.le_trans F.hw (by simp), F.hw0, by simp⟩
 ·have := World.ownsRow_lit (base := base) (e := 28) (size := 11) w cs.toArray 2 F.hw (by unfold maxLen; omega) (by rw [hcs]; simp; omega)
  have e : flat (fun i => if i = 0 then c1 else c2) 2 = cs := by rw [hcs]; simp [flat, List.range_succ]
  show (w.alloc _).ownsRow base 28 11 _ 2 (flat _ 2)
  rw [e]
  exact this
 ·have hk : ∀ {xs t}, TreeAt w (base ≤ ·) xs t → TreeAt (w.alloc (.cells cs.toArray 28)) (fun k => base ≤ k ∧ some k ≠ (Value.slice (some ⟨w.heap.size, 0, none⟩) 2 2).ownBlock) xs t := fun h => h.keep (fun g _ hg => Below.heap_alloc w _ g hg) fun k hk hlt => ⟨hk, fun e => by injection e with e; have : k = w.heap.size := e; omega⟩
  simp at hi
  match i, hi with
  | 0, _ => exact hk T1
  | 1, _ => exact hk T2
end
end
theorem FK.s0 {w0 w : World} {R g c : Nat} {ts : List Tok} {s : Sg} {Ls : List (Nat × List Value)} {base : Nat} {u : Value} {ks : List Tree} {L : Nat} {x0 x1 x2 x3 x4 x5 x6 x7 x8 x9 x10 : Value} (F : FK w0 w R g c ts s ((L, [x0, x1, x2, x3, x4, x5, x6, x7, x8, x9, x10]) :: Ls) base u ks) (hg : g < R) (v : Value) : FK w0 (w.setCell ⟨L, 0, none⟩ v) R g c ts s ((L, [v, x1, x2, x3, x4, x5, x6, x7, x8, x9, x10]) :: Ls) base u ks := F.set0 hg 0 v _ rfl
theorem FK.s1 {w0 w : World} {R g c : Nat} {ts : List Tok} {s : Sg} {Ls : List (Nat × List Value)} {base : Nat} {u : Value} {ks : List Tree} {L : Nat} {x0 x1 x2 x3 x4 x5 x6 x7 x8 x9 x10 : Value} (F : FK w0 w R g c ts s ((L, [x0, x1, x2, x3, x4, x5, x6, x7, x8, x9, x10]) :: Ls) base u ks) (hg : g < R) (v : Value) : FK w0 (w.setCell ⟨L, 1, none⟩ v) R g c ts s ((L, [x0, v, x2, x3, x4, x5, x6, x7, x8, x9, x10]) :: Ls) base u ks := F.set0 hg 1 v _ rfl
theorem FK.s2 {w0 w : World} {R g c : Nat} {ts : List Tok} {s : Sg} {Ls : List (Nat × List Value)} {base : Nat} {u : Value} {ks : List Tree} {L : Nat} {x0 x1 x2 x3 x4 x5 x6 x7 x8 x9 x10 : Value} (F : FK w0 w R g c ts s ((L, [x0, x1, x2, x3, x4, x5, x6, x7, x8, x9, x10]) :: Ls) base u ks) (hg : g < R) (v : Value) : FK w0 (w.setCell ⟨L, 2, none⟩ v) R g c ts s ((L, [x0, x1, v, x3, x4, x5, x6, x7, x8, x9, x10]) :: Ls) base u ks := F.set0 hg 2 v _ rfl
theorem FK.s3 {w0 w : World} {R g c : Nat} {ts : List Tok} {s : Sg} {Ls : List (Nat × List Value)} {base : Nat} {u : Value} {ks : List Tree} {L : Nat} {x0 x1 x2 x3 x4 x5 x6 x7 x8 x9 x10 : Value} (F : FK w0 w R g c ts s ((L, [x0, x1, x2, x3, x4, x5, x6, x7, x8, x9, x10]) :: Ls) base u ks) (hg : g < R) (v : Value) : FK w0 (w.setCell ⟨L, 3, none⟩ v) R g c ts s ((L, [x0, x1, x2, v, x4, x5, x6, x7, x8, x9, x10]) :: Ls) base u ks := F.set0 hg 3 v _ rfl
theorem FK.s4 {w0 w : World} {R g c : Nat} {ts : List Tok} {s : Sg} {Ls : List (Nat × List Value)} {base : Nat} {u : Value} {ks : List Tree} {L : Nat} {x0 x1 x2 x3 x4 x5 x6 x7 x8 x9 x10 : Value} (F : FK w0 w R g c ts s ((L, [x0, x1, x2, x3, x4, x5, x6, x7, x8, x9, x10]) :: Ls) base u ks) (hg : g < R) (v : Value) : FK w0 (w.setCell ⟨L, 4, none⟩ v) R g c ts s ((L, [x0, x1, x2, x3, v, x5, x6, x7, x8, x9, x10]) :: Ls) base u ks := F.set0 hg 4 v _ rfl
theorem FK.s5 {w0 w : World} {R g c : Nat} {ts : List Tok} {s : Sg} {Ls : List (Nat × List Value)} {base : Nat} {u : Value} {ks : List Tree} {L : Nat} {x0 x1 x2 x3 x4 x5 x6 x7 x8 x9 x10 : Value} (F : FK w0 w R g c ts s ((L, [x0, x1, x2, x3, x4, x5, x6, x7, x8, x9, x10]) :: Ls) base u ks) (hg : g < R) (v : Value) : FK w0 (w.setCell ⟨L, 5, none⟩ v) R g c ts s ((L, [x0, x1, x2, x3, x4, v, x6, x7, x8, x9, x10]) :: Ls) base u ks := F.set0 hg 5 v _ rfl
theorem FK.s6 {w0 w : World} {R g c : Nat} {ts : List Tok} {s : Sg} {Ls : List (Nat × List Value)} {base : Nat} {u : Value} {ks : List Tree} {L : Nat} {x0 x1 x2 x3 x4 x5 x6 x7 x8 x9 x10 : Value} (F : FK w0 w R g c ts s ((L, [x0, x1, x2, x3, x4, x5, x6, x7, x8, x9, x10]) :: Ls) base u ks) (hg : g < R) (v : Value) : FK w0 (w.setCell ⟨L, 6, none⟩ v) R g c ts s ((L, [x0, x1, x2, x3, x4, x5, v, x7, x8, x9, x10]) :: Ls) base u ks := F.set0 hg 6 v _ rfl
theorem FK.s7 {w0 w : World} {R g c : Nat} {ts : List Tok} {s : Sg} {Ls : List (Nat × List Value)} {base : Nat} {u : Value} {ks : List Tree} {L : Nat} {x0 x1 x2 x3 x4 x5 x6 x7 x8 x9 x10 : Value} (F : FK w0 w R g c ts s ((L, [x0, x1, x2, x3, x4, x5, x6, x7, x8, x9, x10]) :: Ls) base u ks) (hg : g < R) (v : Value) : FK w0 (w.setCell ⟨L, 7, none⟩ v) R g c ts s ((L, [x0, x1, x2, x3, x4, x5, x6, v, x8, x9, x10]) :: Ls) base u ks := F.set0 hg 7 v _ rfl
theorem FK.s8 {w0 w : World} {R g c : Nat} {ts : List Tok} {s : Sg} {Ls : List (Nat × List Value)} {base : Nat} {u : Value} {ks : List Tree} {L : Nat} {x0 x1 x2 x3 x4 x5 x6 x7 x8 x9 x10 : Value} (F : FK w0 w R g c ts s ((L, [x0, x1, x2, x3, x4, x5, x6, x7, x8, x9, x10]) :: Ls) base u ks) (hg : g < R) (v : Value) : FK w0 (w.setCell ⟨L, 8, none⟩ v) R g c ts s ((L, [x0, x1, x2, x3, x4, x5, x6, x7, v, x9, x10]) :: Ls) base u ks := F.set0 hg 8 v _ rfl
theorem FK.s10 {w0 w : World} {R g c : Nat} {ts : List Tok} {s : Sg} {Ls : List (Nat × List Value)} {base : Nat} {u : Value} {ks : List Tree} {L : Nat} {x0 x1 x2 x3 x4 x5 x6 x7 x8 x9 x10 : Value} (F : FK w0 w R g c ts s ((L, [x0, x1, x2, x3, x4, x5, x6, x7, x8, x9, x10]) :: Ls) base u ks) (hg : g < R) (v : Value) : FK w0 (w.setCell ⟨L, 10, none⟩ v) R g c ts s ((L, [x0, x1, x2, x3, x4, x5, x6, x7, x8, x9, v]) :: Ls) base u ks := F.set0 hg 10 v _ rfl
end Q
end Go.Proofs.YtkliclihpobmiaaGreatDoor
/- The reference's reader: take, need, name: contracts. -/
namespace Go.Proofs.YtkliclihpobmiaaGreatDoor
namespace Q
open Go Go.RowKit
set_option linter.unusedVariables false
set_option linter.unusedSimpArgs false

theorem str_bytes (ts : List Tok) (s : Sg) (t : List UInt8) : ((str (tx ts s)).toList == (str t).toList) = hasT ts s t := hasT_bytes ts s t
set_option maxHeartbeats 1000000 in
set_option maxRecDepth 100000 in
theorem take_any {ts : List Tok} {R g c : Nat} (X : Ctx ts R g c) {s : Sg} (t : List UInt8) (ht : t ≠ []) (w : World) (hR : Rd w R g c ts s) :
  Calls Tryz.prog 107 #[.pointer (some ⟨R, 0, none⟩), .string (str t)] w fun e w' => e = .returned (.bool (hasT ts s t)) ∧ Rd w' R g c ts (skp ts s t) ∧ St w w' R := by
 have HK := Hd (text_any X w hR)
 have hq := str_bytes ts s t
 have hq2 : ((str (tx ts s)).toList != (str t).toList) = !hasT ts s t := by rw [← hq]; rfl
 have he : (str t).toList.isEmpty = false := by rw [str_toList]; cases t with
  | nil => exact absurd rfl ht
  | cons a r => rfl
 have he2 : ((str t).toList == ([] : List UInt8)) = false := by rw [str_toList]; cases t with
  | nil => exact absurd rfl ht
  | cons a r => rfl
 have hXl := X.lt
 have hltR := hR.lt
 have HR := Hd hR
 have hlen := X.len
 unfold skp
 cases hh : hasT ts s t with
 | true =>
  have hin : s.bad = false ∧ s.i < ts.length := by
   cases t with
   | nil => exact absurd rfl ht
   | cons a r => exact hasT_in hh
  have HA := Hd fun W (h : Rd W R g c ts s) (v : Int) (hv : v = (s.i : Int) + 1) => rd_adv' h X.lt hin hv
  have hil : s.i < 65536 := by omega
  rw [hh] at hq hq2
  clear hR hh hin ht
  generalize str t = S1 at *
  generalize str (tx ts s) = S2 at *
  go_enter Tryz.func107, Tryz.ntmps107
  go_wp2_with fail
  refine HK.out.mono ?_
  rintro e w1 ⟨rfl, hb⟩
  have hR1 := HR.out.below hXl hb hltR
  obtain ⟨c0, c1, c2, f1, f2⟩ := hR1.cells
  have hlt1 := hR1.lt
  have HS1 : Hid (St w w1 R) := St.of_below hb
  have HR1 := Hd (HA.out _ hR1)
  clear hR1 hb HA c0 c2 f2 HR HK
  generalize s.i = I at *
  go_wp2
  go_ret
  exact ⟨rfl, HR1.out _ rfl, St.setR HS1.out rfl _⟩
 | false =>
  rw [hh] at hq hq2
  clear hR hh ht
  generalize str t = S1 at *
  generalize str (tx ts s) = S2 at *
  go_enter Tryz.func107, Tryz.ntmps107
  go_wp2_with fail
  refine HK.out.mono ?_
  rintro e w1 ⟨rfl, hb⟩
  have HR1 := Hd (HR.out.below hXl hb hltR)
  have HS1 : Hid (St w w1 R) := St.of_below hb
  clear hb HR HK
  go_wp2
  go_ret
  exact ⟨rfl, HR1.out, HS1.out⟩

set_option maxHeartbeats 1000000 in
set_option maxRecDepth 100000 in
theorem need_any {ts : List Tok} {R g c : Nat} (X : Ctx ts R g c) {s : Sg} (t : List UInt8) (ht : t ≠ []) (w : World) (hR : Rd w R g c ts s) :
  Calls Tryz.prog 106 #[.pointer (some ⟨R, 0, none⟩), .string (str t)] w fun e w' => e = .returned (.tuple #[]) ∧ Rd w' R g c ts (exc ts s t) ∧ St w w' R := by
 have HK := Hd (take_any X t ht w hR)
 have hXl := X.lt
 clear hR
 unfold exc
 unfold skp at HK
 generalize str t = S1 at *
 cases hh : hasT ts s t with
 | true =>
  rw [hh] at HK
  clear hh
  go_enter Tryz.func106, Tryz.ntmps106
  go_wp2_with fail
  refine HK.out.mono ?_
  rintro e w1 ⟨rfl, hR1, hS1⟩
  have HR1 := Hd (And.intro hR1 hS1)
  clear hR1 hS1 HK
  go_wp2
  go_end0
  exact ⟨rfl, HR1.out.1, HR1.out.2⟩
 | false =>
  rw [hh] at HK
  clear hh
  go_enter Tryz.func106, Tryz.ntmps106
  go_wp2_with fail
  refine HK.out.mono ?_
  rintro e w1 ⟨rfl, hR1, hS1⟩
  have hR2 : Rd w1 R g c ts s := hR1
  obtain ⟨c0, c1, c2, f1, f2⟩ := hR2.cells
  have hlt1 := hR2.lt
  have HR1 := Hd (hR2.failed hXl)
  have HS1 := Hd hS1
  clear hR1 hS1 HK hR2 c0 c1 f1
  go_wp2
  go_end0
  exact ⟨rfl, HR1.out, St.setR HS1.out rfl _⟩

set_option maxHeartbeats 1000000 in
set_option maxRecDepth 100000 in
theorem name_any {ts : List Tok} {R g c : Nat} (X : Ctx ts R g c) {s : Sg} (w : World) (hR : Rd w R g c ts s) :
  Calls Tryz.prog 105 #[.pointer (some ⟨R, 0, none⟩)] w fun e w' => e = .returned (.string (str (nmV ts s))) ∧ Rd w' R g c ts (nmS ts s) ∧ St w w' R := by
 have HT := Hd (text_any X w hR)
 have HK := Hd fun W (h : Rd W R g c ts s) => kind_any X W h
 have hXl := X.lt
 have hltR := hR.lt
 have HR := Hd hR
 have hlen := X.len
 unfold nmV nmS
 by_cases hk : kd ts s = 1
 ·have hin := kd_in hk (by decide)
  rw [if_pos hk, if_pos hk]
  have HA := Hd fun W (h : Rd W R g c ts s) (v : Int) (hv : v = (s.i : Int) + 1) => rd_adv' h X.lt hin hv
  have hil : s.i < 65536 := by omega
  rw [hk] at HK
  clear hR hk hin
  generalize str (tx ts s) = S2 at *
  go_enter Tryz.func105, Tryz.ntmps105
  go_wp2_with fail
  refine HT.out.mono ?_
  rintro e w1 ⟨rfl, hb⟩
  have HR1 := Hd (HR.out.below hXl hb hltR)
  have HS1 : Hid (St w w1 R) := St.of_below hb
  clear hb HR HT
  go_wp2_with fail
  refine (HK.out _ HR1.out).mono ?_
  rintro e w2 ⟨rfl, hb⟩
  have hR2 := HR1.out.below hXl hb HR1.out.lt
  obtain ⟨c0, c1, c2, f1, f2⟩ := hR2.cells
  have hlt1 := hR2.lt
  have HS2 : Hid (St w w2 R) := Hd (HS1.out.trans (St.of_below hb))
  have HR2 := Hd (HA.out _ hR2)
  clear hR2 hb HA c0 c2 f2 HR1 HS1 HK
  generalize s.i = I at *
  go_wp2
  go_ret
  exact ⟨rfl, HR2.out _ rfl, St.setR HS2.out rfl _⟩
 ·rw [if_neg hk, if_neg hk]
  have q : ((kd ts s : Int) == 1) = false := by simp; omega
  have q' : ((kd ts s : Int) != 1) = true := by simp; omega
  have HF := Hd fun W (h : Rd W R g c ts s) => h.failed hXl
  clear hR hk
  generalize str (tx ts s) = S2 at *
  generalize (kd ts s : Int) = n1 at *
  go_enter Tryz.func105, Tryz.ntmps105
  go_wp2_with fail
  refine HT.out.mono ?_
  rintro e w1 ⟨rfl, hb⟩
  have HR1 := Hd (HR.out.below hXl hb hltR)
  have HS1 : Hid (St w w1 R) := St.of_below hb
  clear hb HR HT
  go_wp2_with fail
  refine (HK.out _ HR1.out).mono ?_
  rintro e w2 ⟨rfl, hb⟩
  have hR2 := HR1.out.below hXl hb HR1.out.lt
  obtain ⟨c0, c1, c2, f1, f2⟩ := hR2.cells
  have hlt1 := hR2.lt
  have HS2 : Hid (St w w2 R) := Hd (HS1.out.trans (St.of_below hb))
  have HR2 := Hd (HF.out _ hR2)
  clear hR2 hb HF c0 c1 f1 HR1 HS1 HK
  go_wp2
  go_ret
  exact ⟨rfl, HR2.out, St.setR HS2.out rfl _⟩
end Q
end Go.Proofs.YtkliclihpobmiaaGreatDoor
/- The reference's bytes: letters, digits, blanks; its blanks and comments: contracts. -/
namespace Go.Proofs.YtkliclihpobmiaaGreatDoor
open Go Go.RowKit
set_option linter.unusedVariables false

theorem ret_bool {a b : Bool} (h : a = b) : Ending.returned (.bool a) = .returned (.bool b) := by rw [h]

set_option maxRecDepth 100000 in
theorem rBlank_any (b : UInt8) (w : World) : Calls Tryz.prog 102 #[.int .u8 (b.toNat : Int)] w fun e w' => e = .returned (.bool (isBlank b)) ∧ w = w' := by
 obtain ⟨r, hr⟩ : ∃ r, r = isBlank b := ⟨_, rfl⟩
 have H := Hd hr
 rw [← hr]
 clear hr
 go_enter Tryz.func102, Tryz.ntmps102
 go_wp2
 all_goals
  go_ret
  refine ⟨ret_bool ?_, rfl⟩
  have h := H.out
  clear H
  subst h
  unfold isBlank
  rw [Bool.eq_iff_iff]
  simp
  try omega

set_option maxRecDepth 100000 in
theorem rLetter_any (b : UInt8) (w : World) : Calls Tryz.prog 63 #[.int .u8 (b.toNat : Int)] w fun e w' => e = .returned (.bool (isLetter b)) ∧ w = w' := by
 obtain ⟨r, hr⟩ : ∃ r, r = isLetter b := ⟨_, rfl⟩
 have H := Hd hr
 rw [← hr]
 clear hr
 go_enter Tryz.func63, Tryz.ntmps63
 go_wp2
 all_goals
  go_ret
  refine ⟨ret_bool ?_, rfl⟩
  have h := H.out
  clear H
  subst h
  unfold isLetter
  rw [Bool.eq_iff_iff]
  simp
  try omega

def rd (base : Nat) (b : UInt8) : Int := if dv b < base then (dv b : Int) else -1
set_option maxHeartbeats 1000000 in
set_option maxRecDepth 100000 in
theorem rDigit_any (b : UInt8) (base : Nat) (hb : 1 ≤ base ∧ base ≤ 16) (w : World) : Calls Tryz.prog 66 #[.int .u8 (b.toNat : Int), .int .i64 (base : Int)] w fun e w' => e = .returned (.int .i64 (rd base b)) ∧ w = w' := by
 obtain ⟨r, hr⟩ : ∃ r, r = rd base b := ⟨_, rfl⟩
 have H := Hd hr
 rw [← hr]
 clear hr
 have h256 := b.toNat_lt
 by_cases h1 : 48 ≤ b.toNat ∧ b.toNat ≤ 57
 all_goals by_cases h2 : 97 ≤ b.toNat ∧ b.toNat ≤ 102
 all_goals by_cases h3 : 65 ≤ b.toNat ∧ b.toNat ≤ 70
 all_goals try omega
 all_goals
  have hdv : Hid (dv b = if 48 ≤ b.toNat ∧ b.toNat ≤ 57 then b.toNat - 48 else if 97 ≤ b.toNat ∧ b.toNat ≤ 102 then b.toNat - 87 else if 65 ≤ b.toNat ∧ b.toNat ≤ 70 then b.toNat - 55 else 99) := rfl
  go_enter Tryz.func66, Tryz.ntmps66
  go_wp2
  all_goals
   go_ret
   refine ⟨ret_int ?_, rfl⟩
   have h := H.out
   have hd := hdv.out
   clear H hdv
   subst h
   unfold rd
   first | rw [if_pos h1] at hd | rw [if_neg h1, if_pos h2] at hd | rw [if_neg h1, if_neg h2, if_pos h3] at hd | rw [if_neg h1, if_neg h2, if_neg h3] at hd
   first | rw [if_pos (by omega)] | rw [if_neg (by omega)]
   try omega
end Go.Proofs.YtkliclihpobmiaaGreatDoor
/- Keywords, words and punctuation: contracts of the code. -/
namespace Go.Proofs.YtkliclihpobmiaaGreatDoor
open Go Go.RowKit
set_option linter.unusedVariables false

def has (zs : List (List UInt8)) (x : ByteArray) : Bool := zs.contains x.data.toList
theorem strs_getD (zs : List (List UInt8)) (j : Nat) (h : j < zs.length) : (zs.map str).getD j ByteArray.empty = str zs[j] := by
 rw [List.getD, List.getElem?_map, List.getElem?_eq_getElem h]
 rfl
theorem contains_any (zs : List (List UInt8)) (g n : Nat) (t : TypeId) (x : ByteArray) (w : World) (hn : n = zs.length) (hb : n ≤ 1000) (hB : Blk w g t (zs.map fun l => .string (str l))) :
  Calls Tryz.prog 124 #[.slice (some ⟨g, 0, none⟩) n n, .string x] w fun e w' => e = .returned (.bool (has zs x)) ∧ w = w' := by
 subst hn
 refine (Tryz.slices_Contains_string g 0 zs.length zs.length (zs.map str) x w (by simp) (by omega) (fun j hj => ?_)).mono ?_
 ·rw [List.length_map] at hj
  rw [Nat.zero_add, hB.cell j, List.getElem?_map, List.getElem?_eq_getElem hj, strs_getD zs j hj]
  rfl
 ·rintro e w' ⟨rfl, rfl⟩
  refine ⟨?_, rfl⟩
  have : Lib.containsS ((zs.map str).take zs.length) x = has zs x := by
   rw [Bool.eq_iff_iff, Lib.containsS_iff]
   have e1 : (zs.map str).take zs.length = zs.map str := List.take_of_length_le (by simp)
   rw [e1, has, List.contains_iff_mem, List.mem_map]
   constructor
   ·rintro ⟨a, ha, rfl⟩; exact ha
   ·intro h; exact ⟨_, h, str_of x⟩
  rw [this]

set_option maxHeartbeats 2000000 in
set_option maxRecDepth 100000 in
theorem keyword_any (s : ByteArray) (hs : s.size ≤ 281474976710656) (w : World) (V : Vs w) : Calls Tryz.prog 126 #[.string s] w fun e w' =>
  e = .returned (.bool (isKey s.data.toList)) ∧ Below w.heap.size w w' := by
 have hK := Blk.alloc w 9 (keywords.map fun l => .string (str l))
 have hb := (Below.refl w.heap.size w).alloc (Nat.le_refl _) (.cells (keywords.map fun l => .string (str l)).toArray 9)
 have HT := Hd fun W V => type_any s hs W V
 have HV := Hd V
 have hik : isKey s.data.toList = (tyB s.data.toList || has keywords s) := by unfold isKey tyB has; rw [Bool.or_comm]
 rw [hik]
 clear V hik
 have HK := Hd hK
 have HB := Hd hb
 have hw : (w.alloc (.cells (keywords.map fun l => Value.string (str l)).toArray 9)).heap.size = w.heap.size + 1 := by simp
 have HW := Hd hw
 clear hK hb hw
 obtain ⟨ty1, hty1⟩ : ∃ ty1, ty1 = (typeOf s.data.toList).1 := ⟨_, rfl⟩
 obtain ⟨ty2, hty2⟩ : ∃ ty2, ty2 = (typeOf s.data.toList).2 := ⟨_, rfl⟩
 rcases htb : tyB s.data.toList with _ | _
 all_goals
  go_enter Tryz.func126, Tryz.ntmps126
  go_wp2_with fail
  refine (HT.out _ (HV.out.below HB.out)).mono ?_
  rintro e w1 ⟨rfl, hb1⟩
  rw [htb]
  unfold tyV
  rw [← hty1, ← hty2]
  have hb1' : Below (w.heap.size + 1) (w.alloc (.cells (keywords.map fun l => Value.string (str l)).toArray 9)) w1 := by rw [← HW.out]; exact hb1
  have hK1 := HK.out.below hb1' (by omega)
  have hbb := HB.out.trans (hb1'.mono (by omega))
  have HK1 := Hd hK1
  have HBB := Hd hbb
  have hs1 := hK1.lt
  clear hb1 hb1' hK1 hbb HT HV hty1 hty2
 ·have HC := Hd fun W (h : Blk W w.heap.size 9 (keywords.map fun l => .string (str l))) => contains_any keywords w.heap.size 19 9 s W rfl (by omega) h
  go_wp2_with (go_at_call 124; refine (HC.out _ (HK1.out.alloc_other _)).mono ?_; rintro e w' ⟨rfl, rfl⟩)
  go_ret
  exact ⟨by simp, HBB.out.alloc (by omega) _⟩
 ·go_wp2
  go_ret
  exact ⟨by simp, HBB.out.alloc (by omega) _⟩
end Go.Proofs.YtkliclihpobmiaaGreatDoor
/- The reference's blanks and comments, lists of words, names of types: contracts. -/
namespace Go.Proofs.YtkliclihpobmiaaGreatDoor
open Go Go.RowKit
set_option linter.unusedVariables false

theorem rInside_any (b : UInt8) (w : World) : Calls Tryz.prog 64 #[.int .u8 (b.toNat : Int)] w fun e w' => e = .returned (.bool (inW b)) ∧ w = w' := by
  have HL := Hd fun W => rLetter_any b W
  have HD := Hd fun W => rDigit_any b 10 (by omega) W
  have hrd : rd 10 b = if isDec b = true then (dv b : Int) else -1 := by
    unfold rd
    rw [isDec_dig]
    by_cases h : dv b < 10
    · rw [if_pos h, if_pos (by simp [isDig, h])]
    · rw [if_neg h, if_neg (by simp [isDig, h])]
  unfold inW
  generalize isLetter b = a at *
  generalize isDec b = d at *
  cases a
  all_goals cases d
  all_goals first
   | skip
  all_goals
    rw [hrd] at HD
    clear hrd
    go_enter Tryz.func64, Tryz.ntmps64
    go_wp2_with (first | (go_at_call 63; refine (HL.out _).mono ?_; rintro e w' ⟨rfl, rfl⟩) | (go_at_call 66; refine (HD.out _).mono ?_; rintro e w' ⟨rfl, rfl⟩))
    go_ret
    exact ⟨by simp, rfl⟩

set_option maxHeartbeats 1000000 in
set_option maxRecDepth 100000 in
theorem rSkip_any (l : List UInt8) (i0 : Nat) (w : World) (hs : l.length ≤ maxLen) (hi0 : i0 ≤ l.length) :
    Calls Tryz.prog 62 #[.string (str l), .int .i64 (i0 : Int)] w fun e w' => e = .returned (.int .i64 ((i0 + skipM false (l.drop i0) : Nat) : Int)) ∧ w = w' := by
  unfold maxLen at hs
  have hsz : (str l).size = l.length := str_size l
  obtain ⟨r, hr⟩ : ∃ r, r = i0 + skipM false (l.drop i0) := ⟨_, rfl⟩
  have R := Hd hr
  rw [← hr]
  clear hr
  have HAT : Hid (∀ k (h : k < l.length), (str l)[k]'(by rw [hsz]; exact h) = l[k]) := fun k h => rfl
  go_enter Tryz.func62, Tryz.ntmps62
  go_wp2
  go_loop [1] (fun i => ∃ k : Nat, k ≤ l.length ∧ i = .int .i64 (k : Int) ∧ Hid (r = k + skipM false (l.drop k))) (fun i => l.length - (intOf i).toNat)
  case atStart => exact ⟨i0, hi0, rfl, R⟩
  case round =>
    obtain ⟨k, hk, rfl, hR⟩ := hrel
    by_cases hlt : k < l.length
    · obtain ⟨c, hcc⟩ : ∃ c, c = l[k] := ⟨_, rfl⟩
      have hb : l[k]? = some c := by rw [hcc]; exact List.getElem?_eq_getElem hlt
      have hat : ∀ h : k < (str l).size, (str l)[k]'h = c := fun _ => (HAT.out k hlt).trans hcc.symm
      obtain ⟨c1, hc1⟩ : ∃ c1, c1 = (l[k + 1]?).getD 0 := ⟨_, rfl⟩
      have hat1 : ∀ h : k + 1 < (str l).size, (str l)[k + 1]'h = c1 := fun h => by
        have h2 : k + 1 < l.length := by rw [← hsz]; exact h
        rw [HAT.out (k + 1) h2, hc1, List.getElem?_eq_getElem h2]; rfl
      have hhd : (l.drop (k + 1)).head? = l[k + 1]? := by rw [List.head?_drop]
      clear hcc
      have HB := Hd fun W => rBlank_any c W
      rcases hbl : isBlank c with _ | _
      · rw [hbl] at HB
        have hnext : Hid (l[k + 1]? = none ↔ l.length ≤ k + 1) := List.getElem?_eq_none_iff
        by_cases hc : c = 47 ∧ l[k + 1]? = some 47
        · have hR2 := Hd (hR.out.trans (by rw [skip_comment hb hbl (by rw [hhd]; exact hc)]))
          have h1 : ((c.toNat : Nat) : Int) = 47 := by rw [hc.1]; rfl
          rw [h1] at HB
          have hk1 : k + 1 < l.length := (List.getElem?_eq_some_iff.1 hc.2).1
          have h2 : ((c1.toNat : Nat) : Int) = 47 := by rw [hc1, hc.2]; rfl
          have HK : Hid (∀ j, l[j]? = some 10 → j ≠ k) := fun j h e => by
            subst e
            rw [hb, hc.1] at h
            exact absurd h (by decide)
          clear hb hbl hc hR hhd hnext hc1
          go_wp2_with (go_at_call 102; refine (HB.out _).mono ?_; rintro e w' ⟨rfl, rfl⟩)
          clear h1 h2 hat hat1 HB
          go_loop [1] (fun i => ∃ j : Nat, k ≤ j ∧ j ≤ l.length ∧ i = .int .i64 (j : Int) ∧ Hid (r = j + skipM true (l.drop j))) (fun i => l.length - (intOf i).toNat)
          case atStart => exact ⟨k, by omega, hk, rfl, hR2⟩
          case round =>
            clear hR2
            obtain ⟨j, hj0, hj, rfl, hR⟩ := hrel
            by_cases hjl : j < l.length
            · obtain ⟨d, hdd⟩ : ∃ d, d = l[j] := ⟨_, rfl⟩
              have hb : l[j]? = some d := by rw [hdd]; exact List.getElem?_eq_getElem hjl
              have hat : ∀ h : j < (str l).size, (str l)[j]'h = d := fun _ => (HAT.out j hjl).trans hdd.symm
              clear hdd
              by_cases hlf : d.toNat = 10
              · have hR2 := Hd (hR.out.trans (by rw [skip_true_lf hb hlf]))
                have hne : ((d.toNat : Nat) : Int) = 10 := by omega
                have hjk := HK.out j (by rw [hb]; congr 1; exact UInt8.toNat_inj.1 hlf)
                clear hb hR hlf
                go_wp2
                go_round
                case rel => exact ⟨j, by omega, by go_num, hR2⟩
                case measure => simp [intOf]; omega
              · have hR2 := Hd (hR.out.trans (skip_true_step hb hlf))
                have hne : ¬ ((d.toNat : Nat) : Int) = 10 := by omega
                clear hb hR hlf
                go_wp2
                go_round
                case rel => exact ⟨j + 1, by omega, by omega, by go_num, hR2⟩
                case measure => simp [intOf]; omega
            · have hR2 := Hd (hR.out.trans (by rw [skip_nil (l := l) true (by omega), ← skip_nil (l := l) (i := j) false (by omega)]))
              clear hR
              go_wp2
              go_round
              case rel => exact ⟨j, by omega, by go_num, hR2⟩
              case measure => simp [intOf]; omega
        · have hR2 := Hd (hR.out.trans (by rw [skip_stop hb hbl (by rw [hhd]; exact hc)]))
          by_cases h47 : c = 47
          · have h1 : ((c.toNat : Nat) : Int) = 47 := by rw [h47]; rfl
            rw [h1] at HB
            by_cases hk1 : k + 1 < l.length
            · have h2 : ¬ ((c1.toNat : Nat) : Int) = 47 := fun h => hc ⟨h47, by
                rw [List.getElem?_eq_getElem hk1] at hc1 ⊢
                have h3 : c1.toNat = 47 := by omega
                have h4 : c1 = 47 := UInt8.toNat_inj.1 h3
                rw [← h4, hc1]; rfl⟩
              have h3 : (((c1.toNat : Nat) : Int) != 47) = true := by simp; omega
              clear hb hbl hc hR hhd hnext hc1 h47
              go_wp2_with (go_at_call 102; refine (HB.out _).mono ?_; rintro e w' ⟨rfl, rfl⟩)
              go_ret
              exact ⟨ret_int (by rw [hR2.out]; rfl), rfl⟩
            · clear hb hbl hc hR hhd hnext hc1 h47 hat1
              go_wp2_with (go_at_call 102; refine (HB.out _).mono ?_; rintro e w' ⟨rfl, rfl⟩)
              go_ret
              exact ⟨ret_int (by rw [hR2.out]; rfl), rfl⟩
          · have h1 : ¬ ((c.toNat : Nat) : Int) = 47 := fun h => h47 (UInt8.toNat_inj.1 (by show c.toNat = 47; omega))
            clear hb hbl hc hR hhd hnext hc1 h47 hat1
            go_wp2_with (go_at_call 102; refine (HB.out _).mono ?_; rintro e w' ⟨rfl, rfl⟩)
            go_ret
            exact ⟨ret_int (by rw [hR2.out]; rfl), rfl⟩
      · rw [hbl] at HB
        have hR2 := Hd (hR.out.trans (skip_blank hb hbl))
        clear hb hbl hR hhd hat1 hc1
        go_wp2_with (go_at_call 102; refine (HB.out _).mono ?_; rintro e w' ⟨rfl, rfl⟩)
        go_round
        case rel => exact ⟨k + 1, by omega, by go_num, hR2⟩
        case measure => simp [intOf]; omega
    · have hR2 := Hd (hR.out.trans (by rw [skip_nil (l := l) _ (by omega)]))
      clear hR
      go_wp2
      go_ret
      exact ⟨ret_int (by rw [hR2.out]; rfl), rfl⟩
end Go.Proofs.YtkliclihpobmiaaGreatDoor
/- The reference's lists of words and names of types: contracts. -/
namespace Go.Proofs.YtkliclihpobmiaaGreatDoor
open Go Go.RowKit
set_option linter.unusedVariables false

theorem has_step {zs : List (List UInt8)} {x : List UInt8} {k : Nat} (h : k < zs.length) (hn : zs[k] ≠ x) : (zs.drop k).contains x = (zs.drop (k + 1)).contains x := by
 rw [List.drop_eq_getElem_cons h, List.contains_cons]
 have : (x == zs[k]) = false := beq_eq_false_iff_ne.2 (Ne.symm hn)
 rw [this, Bool.false_or]
theorem has_here {zs : List (List UInt8)} {x : List UInt8} {k : Nat} (h : k < zs.length) (hn : zs[k] = x) : (zs.drop k).contains x = true := by
 rw [List.drop_eq_getElem_cons h, List.contains_cons, hn]
 simp
theorem has_end {zs : List (List UInt8)} {x : List UInt8} {k : Nat} (h : zs.length ≤ k) : (zs.drop k).contains x = false := by
 rw [List.drop_eq_nil_of_le h]; rfl

set_option maxHeartbeats 1000000 in
set_option maxRecDepth 100000 in
theorem rOne_any (zs : List (List UInt8)) (g n : Nat) (t : TypeId) (x : List UInt8) (w : World) (hn : n = zs.length) (hb : n ≤ 1000) (hB : Blk w g t (zs.map fun l => .string (str l))) :
  Calls Tryz.prog 68 #[.string (str x), .slice (some ⟨g, 0, none⟩) n n] w fun e w' => e = .returned (.bool (zs.contains x)) ∧ w = w' := by
 have hC : Hid (∀ k (h : k < zs.length), w.cell? ⟨g, k, none⟩ = some (.string (str zs[k]))) := fun k h => by rw [hB.cell k, List.getElem?_map, List.getElem?_eq_getElem h]; rfl
 obtain ⟨r, hr⟩ : ∃ r, r = zs.contains x := ⟨_, rfl⟩
 have H : Hid (r = (zs.drop 0).contains x) := hr
 rw [← hr]
 clear hr hB
 go_enter Tryz.func68, Tryz.ntmps68
 go_wp2
 go_loop [5] (fun i => ∃ k : Nat, k ≤ n ∧ i = .int .i64 (k : Int) ∧ Hid (r = (zs.drop k).contains x)) (fun i => n - (intOf i).toNat)
 case atStart => exact ⟨0, by omega, rfl, H⟩
 case round =>
  obtain ⟨k, hk, rfl, hR⟩ := hrel
  by_cases hlt : k < n
  ·have hkz : k < zs.length := by omega
   have hc := hC.out k hkz
   by_cases he : zs[k] = x
   ·have hq : ((str zs[k]).toList == (str x).toList) = true := by rw [str_eq, he]; simp
    have hR2 := Hd (hR.out.trans (has_here hkz he))
    clear he hR
    generalize str zs[k] = z at *
    go_wp2
    go_ret
    exact ⟨ret_bool hR2.out.symm, rfl⟩
   ·have hq : ((str zs[k]).toList == (str x).toList) = false := by rw [str_eq]; exact decide_eq_false fun h => he (str_inj h)
    have hR2 := Hd (hR.out.trans (has_step hkz he))
    clear he hR
    generalize str zs[k] = z at *
    go_wp2
    go_round
    case rel => exact ⟨k + 1, by omega, by go_num, hR2⟩
    case measure => simp [intOf]; omega
  ·have hR2 := Hd (hR.out.trans (has_end (by omega)))
   clear hR
   go_wp2
   go_ret
   exact ⟨ret_bool hR2.out.symm, rfl⟩

set_option maxRecDepth 100000 in
theorem rKeywords_any (w : World) : Calls Tryz.prog 103 #[] w fun e w' => e = .returned (.slice (some ⟨w.heap.size, 0, none⟩) 19 19) ∧ Blk w' w.heap.size 9 (keywords.map fun l => .string (str l)) ∧ Below w.heap.size w w' := by
 have hK := Blk.alloc w 9 (keywords.map fun l => .string (str l))
 have hb := (Below.refl w.heap.size w).alloc (Nat.le_refl _) (.cells (keywords.map fun l => .string (str l)).toArray 9)
 go_enter Tryz.func103, Tryz.ntmps103
 go_wp2
 go_ret
 exact ⟨rfl, hK, hb⟩

theorem digit_at' : ∀ d : Fin 10, (([48, 49, 50, 51, 52, 53, 54, 55, 56, 57] : List UInt8).drop d.val).take 1 = [UInt8.ofNat (48 + d.val)] := by decide +kernel
theorem digit_at {d : Nat} (h : d < 10) : (⟨#[48, 49, 50, 51, 52, 53, 54, 55, 56, 57]⟩ : ByteArray).extract d (d + 1) = str [UInt8.ofNat (48 + d)] := by
 rw [extract_mid, Nat.add_sub_cancel_left]
 exact congrArg str (digit_at' ⟨d, h⟩)
theorem str_append (a b : List UInt8) : str a ++ str b = str (a ++ b) := by
 refine bytes_ext ?_
 simp [str]

set_option maxHeartbeats 1000000 in
set_option maxRecDepth 100000 in
theorem rDecimal_any (n : Nat) (hn : n < 100) (w : World) : Calls Tryz.prog 38 #[.int .u64 (n : Int)] w fun e w' => e = .returned (.string (str (dec2 n))) ∧ w = w' := by
 obtain ⟨R, hR⟩ : ∃ R, R = str (dec2 n) := ⟨_, rfl⟩
 have HR := Hd hR
 rw [← hR]
 clear hR
 go_enter Tryz.func38, Tryz.ntmps38
 go_wp2
 go_loop [0, 3] (fun a s => ∃ (m : Nat) (S : ByteArray), a = .int .u64 (m : Int) ∧ s = .string S ∧ m < 100 ∧ Hid ((m = n ∧ S = ⟨#[]⟩) ∨ (10 ≤ n ∧ m = n / 10 ∧ S = str [UInt8.ofNat (48 + n % 10)]))) (fun a _ => (intOf a).toNat)
 case atStart => exact ⟨n, _, rfl, rfl, hn, .inl ⟨rfl, rfl⟩⟩
 case round =>
  obtain ⟨m, S, rfl, rfl, hm, hS⟩ := hrel
  rcases hS.out with ⟨rfl, rfl⟩ | ⟨h10, rfl, rfl⟩
  ·by_cases h10 : m < 10
   ·have h1 := digit_at h10
    have hl : (str [UInt8.ofNat (48 + m)]).size = 1 := by rw [str_size]; rfl
    have E : Hid (str [UInt8.ofNat (48 + m)] ++ ⟨#[]⟩ = R) := by
     show _ = _
     have : (⟨#[]⟩ : ByteArray) = str [] := rfl
     rw [this, str_append, HR.out, dec2, if_pos h10]
     rfl
    clear hS
    generalize str [UInt8.ofNat (48 + m)] = D at *
    go_wp2
    go_ret
    exact ⟨ret_s E.out, rfl⟩
   ·have hmod : m % 10 < 10 := Nat.mod_lt _ (by omega)
    have h1 := digit_at hmod
    have hl : (str [UInt8.ofNat (48 + m % 10)]).size = 1 := by rw [str_size]; rfl
    have E : Hid (str [UInt8.ofNat (48 + m % 10)] ++ ⟨#[]⟩ = str [UInt8.ofNat (48 + m % 10)]) := by
     show _ = _
     have : (⟨#[]⟩ : ByteArray) = str [] := rfl
     rw [this, str_append]
     rfl
    have hq1 : (m : Int) % 10 = ((m % 10 : Nat) : Int) := by omega
    have hq2 : (m : Int) / 10 = ((m / 10 : Nat) : Int) := by omega
    have h10' : 10 ≤ m := by omega
    have hdl : m / 10 < m := by omega
    obtain ⟨q, hq⟩ : ∃ q, q = m % 10 := ⟨_, rfl⟩
    obtain ⟨p, hp⟩ : ∃ p, p = m / 10 := ⟨_, rfl⟩
    have HP := Hd hp
    have HQ := Hd hq
    rw [← hq] at h1 hl E hq1 hmod
    rw [← hp] at hq2 hdl
    clear hS hp hq h10
    generalize hD : str [UInt8.ofNat (48 + q)] = D at *
    have HD := Hd hD
    clear hD
    go_wp2
    go_round
    case rel => exact ⟨p, _, by go_num, rfl, by omega, .inr ⟨h10', HP.out, by rw [E.out, ← HD.out, HQ.out]⟩⟩
    case measure => simp [intOf]; omega
  ·have hm10 : n / 10 < 10 := by omega
   have h1 := digit_at hm10
   have hl : (str [UInt8.ofNat (48 + n / 10)]).size = 1 := by rw [str_size]; rfl
   have hl2 : (str [UInt8.ofNat (48 + n % 10)]).size = 1 := by rw [str_size]; rfl
   have E : Hid (str [UInt8.ofNat (48 + n / 10)] ++ str [UInt8.ofNat (48 + n % 10)] = R) := by
    show _ = _
    rw [str_append, HR.out, dec2, if_neg (by omega)]
    rfl
   clear hS
   generalize str [UInt8.ofNat (48 + n / 10)] = D at *
   generalize str [UInt8.ofNat (48 + n % 10)] = D2 at *
   generalize n / 10 = p at *
   go_wp2
   go_ret
   exact ⟨ret_s E.out, rfl⟩
end Go.Proofs.YtkliclihpobmiaaGreatDoor
/- The reference's names of types and keywords: contracts. -/
namespace Go.Proofs.YtkliclihpobmiaaGreatDoor
open Go Go.RowKit
set_option linter.unusedVariables false

set_option maxHeartbeats 1000000 in
set_option maxRecDepth 100000 in
theorem rTypeName_any (W : Int) (sg : Bool) (w : World) : Calls Tryz.prog 41 #[.agg #[.int .i64 W, .bool sg]] w fun e w' => e = .returned (.string (tn W sg)) ∧ Below w.heap.size w w' := by
 have hb := (Below.refl w.heap.size w).alloc (Nat.le_refl _) (.cells #[.int .i64 W, .bool sg] 25)
 by_cases h : 1 ≤ W ∧ W ≤ 64
 ·obtain ⟨n, rfl⟩ : ∃ n : Nat, W = (n : Int) := ⟨W.toNat, by omega⟩
  have hn : 1 ≤ n ∧ n ≤ 64 := by omega
  have hu := Hd (tn_u hn)
  have hs := Hd (tn_s hn)
  have h1 := hn.1
  have h2 := hn.2
  have hl := dec2_len n
  have HD := Hd fun W => rDecimal_any n (by omega) W
  clear h hn
  cases sg
  all_goals
   go_enter Tryz.func41, Tryz.ntmps41
   go_wp2_with (go_at_call 38; refine (HD.out _).mono ?_; rintro e w' ⟨rfl, rfl⟩)
   go_ret
  ·exact ⟨ret_s hu.out, hb⟩
  ·exact ⟨ret_s hs.out, hb⟩
 ·have he := Hd (tn_no (sg := sg) h)
  by_cases h1 : 1 ≤ W
  all_goals
   go_enter Tryz.func41, Tryz.ntmps41
   go_wp2
   go_ret
   exact ⟨ret_s he.out.symm, hb⟩

theorem Blk.resR {P : Program} {fn : Func} {p : Tmp} {ty : TypeId} (hr : fn.results = #[.cell p ty]) {w : World} {g : Nat} {cs : List Value} {d : TypeDesc} (h : Blk w g ty cs)
  (hu : P.underlying ty = some d) (hd : (match d with | .struct _ | .array _ _ => true | _ => false) = true) (hi : (P.info? ty).map (·.size) = some cs.length)
  (tmps : Array Value) (hp : tmps.getD p undef = .pointer (some ⟨g, 0, none⟩)) :
  (results fn tmps).run P w = .ok (.agg cs.toArray) w :=
 results_cell_row hr tmps w g ty cs.toArray (0, 0) d hp h hu hd (by simpa using hi)
def NoName (l : List UInt8) (n k : Nat) : Prop := ∀ v a, 1 ≤ v → v ≤ 64 → (v < n ∨ (v = n ∧ (if a = true then 1 else 0) < k)) → nameOf v a ≠ l
theorem noName_none {l : List UInt8} (hb : l ≠ boolName) (h : NoName l 65 0) : typeOf l = (0, false) := by
 rcases typeOf_cases l with h1 | ⟨h1, _⟩ | ⟨w, a, hw, h1, _⟩
 ·exact h1
 ·exact absurd h1 hb
 ·exact absurd h1.symm (h w a hw.1 hw.2 (.inl (by omega)))
theorem noName_one {l : List UInt8} {n : Nat} (h : NoName l n 0) (h0 : nameOf n false ≠ l) : NoName l n 1 := by
 intro v a h1 h2 h3
 rcases h3 with h3 | ⟨rfl, h3⟩
 ·exact h v a h1 h2 (.inl h3)
 ·cases a
  ·exact h0
  ·simp at h3
theorem noName_two {l : List UInt8} {n : Nat} (h : NoName l n 1) (h0 : nameOf n true ≠ l) : NoName l n 2 := by
 intro v a h1 h2 h3
 rcases h3 with h3 | ⟨rfl, h3⟩
 ·exact h v a h1 h2 (.inl h3)
 ·cases a
  ·exact h v false h1 h2 (.inr ⟨rfl, by simp⟩)
  ·exact h0
theorem noName_next {l : List UInt8} {n : Nat} (h : NoName l n 2) : NoName l (n + 1) 0 := by
 intro v a h1 h2 h3
 rcases h3 with h3 | ⟨_, h3⟩
 ·by_cases hv : v = n
  ·subst hv; exact h v a h1 h2 (.inr ⟨rfl, by cases a <;> simp⟩)
  ·exact h v a h1 h2 (.inl (by omega))
 ·omega

set_option maxHeartbeats 2000000 in
set_option maxRecDepth 100000 in
theorem rType_any (l : List UInt8) (w : World) : Calls Tryz.prog 104 #[.string (str l)] w fun e w' => e = .returned (tyV l) ∧ Below w.heap.size w w' := by
 by_cases hbo : l = boolName
 ·have q1 : ((str l).toList == [98, 111, 111, 108]) = true := by rw [str_toList, hbo]; rfl
  have E : Hid (typeOf l = (1, false)) := by rw [hbo]; exact type_bool
  clear hbo
  go_enter Tryz.func104, Tryz.ntmps104
  go_wp2
  refine bodyPost_ret ((Blk.alloc w 25 [.int .i64 1, .bool false]).resR Tryz.results104 Tryz.underlying25 rfl (by kernel_rfl) _ rfl) rfl ?_
  exact ⟨by simp only [tyV, E.out]; rfl, (Below.refl w.heap.size w).alloc (Nat.le_refl _) _⟩
 ·have q1 : ((str l).toList == [98, 111, 111, 108]) = false := by rw [str_toList]; exact beq_eq_false_iff_ne.2 hbo
  have hb := (Below.refl w.heap.size w).alloc (Nat.le_refl _) (.cells #[.int .i64 0, .bool false] 25)
  have hK := Blk.alloc w 25 [.int .i64 0, .bool false]
  have h0 : Hid (NoName l 1 0 ∧ Blk (w.alloc (.cells #[.int .i64 0, .bool false] 25)) w.heap.size 25 [.int .i64 0, .bool false] ∧ Below w.heap.size w (w.alloc (.cells #[.int .i64 0, .bool false] 25))) := ⟨fun v a h1 h2 h3 => by rcases h3 with h3 | ⟨_, h3⟩ <;> omega, hK, hb⟩
  have HBO := Hd hbo
  have HN := Hd fun W sg (w : World) => rTypeName_any W sg w
  clear hb hK hbo
  go_enter Tryz.func104, Tryz.ntmps104
  go_wp2
  go_loopw [3] (fun i wr => ∃ n : Nat, 1 ≤ n ∧ n ≤ 65 ∧ i = .int .i64 (n : Int) ∧ Hid (NoName l n 0 ∧ Blk wr w.heap.size 25 [.int .i64 0, .bool false] ∧ Below w.heap.size w wr)) (fun i _ => 65 - (intOf i).toNat)
  case atStart => exact ⟨1, by omega, by omega, rfl, h0⟩
  case round =>
   clear h0
   obtain ⟨n, hn1, hn, rfl, hR⟩ := hrel
   obtain ⟨wo, rfl⟩ : ∃ wo : World, wo = wr := ⟨_, rfl⟩
   by_cases hlt : n ≤ 64
   ·have htn : ∀ a, tn (n : Int) a = str (nameOf n a) := fun a => tn_yes ⟨hn1, hlt⟩
    have HTN := Hd htn
    have HTY := Hd fun a => typeOf_name (w := n) (a := a) ⟨hn1, hlt⟩
    have hd : decide ((n : Int) ≤ 64) = true := decide_eq_true (by omega)
    have HLT := Hd hlt
    clear htn hlt
    go_wp2
    go_loopw [4] (fun i wr => ∃ k : Nat, k ≤ 2 ∧ i = .int .i64 (k : Int) ∧ Hid (NoName l n k ∧ Blk wr w.heap.size 25 [.int .i64 0, .bool false] ∧ Below w.heap.size w wr)) (fun i _ => 2 - (intOf i).toNat)
    case atStart => exact ⟨0, by omega, rfl, hR⟩
    case round =>
     clear hR
     obtain ⟨k, hk, rfl, hR⟩ := hrel
     rcases (show k = 0 ∨ k = 1 ∨ k = 2 by omega) with hk0 | hk0 | hk0
     ·have hkb : ((k : Int) == 1) = false := by rw [hk0]; rfl
      have hk2 : k < 2 := by omega
      have HKK := Hd hk0
      rw [hk0] at hR
      clear hk0
      have htn := HTN.out false
      obtain ⟨hN, hB, hbb⟩ := hR.out
      have hwl := hB.lt
      have HB := Hd hB
      have HNO := Hd hN
      clear hB hN hR
      have HT := Hd fun W => rTypeName_any (n : Int) false W
      rw [htn] at HT
      by_cases he : nameOf n false = l
      ·have hq : ((str (nameOf n false)).toList == (str l).toList) = true := by rw [str_eq, he]; simp
       have E : Hid (typeOf l = (n, false)) := by rw [← he]; exact HTY.out false
       clear he htn HTY HTN HNO
       generalize str (nameOf n false) = S at *
       go_wp2_with fail
       refine (HT.out _).mono ?_
       rintro e w2 ⟨rfl, hb2⟩
       have hsz1 : (wr.alloc (.cells #[.int .i64 (n : Int), .bool false] 25)).heap.size = wr.heap.size + 1 := by simp
       rw [hsz1] at hb2
       have hB2 := (HB.out.alloc_other (.cells #[.int .i64 (n : Int), .bool false] 25)).below hb2 (by omega)
       have hT2 := (Blk.alloc wr 25 [.int .i64 (n : Int), .bool false]).below hb2 (by omega)
       have hbb2 := (hbb.alloc (by omega) (.cells #[.int .i64 (n : Int), .bool false] 25)).trans (hb2.mono (by omega))
       have c0 := hB2.cell 0
       have c1 := hB2.cell 1
       have f0 := hB2.frozen 0
       have f1 := hB2.frozen 1
       have d0 := hT2.cell 0
       have d1 := hT2.cell 1
       have HB := Hd hB2
       clear hb2 hB2 hT2 hsz1
       go_wp2
       refine bodyPost_ret (((HB.out.set 0 _).set 1 _).resR Tryz.results104 Tryz.underlying25 rfl (by kernel_rfl) _ rfl) rfl ?_
       exact ⟨by simp only [tyV, E.out]; rfl, (hbb2.setCell (p := ⟨w.heap.size, 0, none⟩) (Nat.le_refl _) _).setCell (p := ⟨w.heap.size, 1, none⟩) (Nat.le_refl _) _⟩
      ·have hq : ((str (nameOf n false)).toList == (str l).toList) = false := by rw [str_eq]; exact decide_eq_false fun h => he (str_inj h)
       have HN2 := Hd (noName_one HNO.out he)
       clear he htn HTY HTN HNO
       generalize str (nameOf n false) = S at *
       go_wp2_with fail
       refine (HT.out _).mono ?_
       rintro e w2 ⟨rfl, hb2⟩
       have hsz1 : (wr.alloc (.cells #[.int .i64 (n : Int), .bool false] 25)).heap.size = wr.heap.size + 1 := by simp
       rw [hsz1] at hb2
       have hB2 := (HB.out.alloc_other (.cells #[.int .i64 (n : Int), .bool false] 25)).below hb2 (by omega)
       have hbb2 := (hbb.alloc (by omega) (.cells #[.int .i64 (n : Int), .bool false] 25)).trans (hb2.mono (by omega))
       have hR2 : Hid (NoName l n 1 ∧ Blk w2 w.heap.size 25 [.int .i64 0, .bool false] ∧ Below w.heap.size w w2) := ⟨HN2.out, hB2, hbb2⟩
       clear hb2 hB2 hsz1 hbb2
       go_wp2
       go_roundw
       case rel => exact ⟨k + 1, by omega, by go_num, by rw [HKK.out]; exact hR2⟩
       case measure => simp [intOf]; omega
     ·have hkb : ((k : Int) == 1) = true := by rw [hk0]; rfl
      have hk2 : k < 2 := by omega
      have HKK := Hd hk0
      rw [hk0] at hR
      clear hk0
      have htn := HTN.out true
      obtain ⟨hN, hB, hbb⟩ := hR.out
      have hwl := hB.lt
      have HB := Hd hB
      have HNO := Hd hN
      clear hB hN hR
      have HT := Hd fun W => rTypeName_any (n : Int) true W
      rw [htn] at HT
      by_cases he : nameOf n true = l
      ·have hq : ((str (nameOf n true)).toList == (str l).toList) = true := by rw [str_eq, he]; simp
       have E : Hid (typeOf l = (n, true)) := by rw [← he]; exact HTY.out true
       clear he htn HTY HTN HNO
       generalize str (nameOf n true) = S at *
       go_wp2_with fail
       refine (HT.out _).mono ?_
       rintro e w2 ⟨rfl, hb2⟩
       have hsz1 : (wr.alloc (.cells #[.int .i64 (n : Int), .bool true] 25)).heap.size = wr.heap.size + 1 := by simp
       rw [hsz1] at hb2
       have hB2 := (HB.out.alloc_other (.cells #[.int .i64 (n : Int), .bool true] 25)).below hb2 (by omega)
       have hT2 := (Blk.alloc wr 25 [.int .i64 (n : Int), .bool true]).below hb2 (by omega)
       have hbb2 := (hbb.alloc (by omega) (.cells #[.int .i64 (n : Int), .bool true] 25)).trans (hb2.mono (by omega))
       have c0 := hB2.cell 0
       have c1 := hB2.cell 1
       have f0 := hB2.frozen 0
       have f1 := hB2.frozen 1
       have d0 := hT2.cell 0
       have d1 := hT2.cell 1
       have HB := Hd hB2
       clear hb2 hB2 hT2 hsz1
       go_wp2
       refine bodyPost_ret (((HB.out.set 0 _).set 1 _).resR Tryz.results104 Tryz.underlying25 rfl (by kernel_rfl) _ rfl) rfl ?_
       exact ⟨by simp only [tyV, E.out]; rfl, (hbb2.setCell (p := ⟨w.heap.size, 0, none⟩) (Nat.le_refl _) _).setCell (p := ⟨w.heap.size, 1, none⟩) (Nat.le_refl _) _⟩
      ·have hq : ((str (nameOf n true)).toList == (str l).toList) = false := by rw [str_eq]; exact decide_eq_false fun h => he (str_inj h)
       have HN2 := Hd (noName_two HNO.out he)
       clear he htn HTY HTN HNO
       generalize str (nameOf n true) = S at *
       go_wp2_with fail
       refine (HT.out _).mono ?_
       rintro e w2 ⟨rfl, hb2⟩
       have hsz1 : (wr.alloc (.cells #[.int .i64 (n : Int), .bool true] 25)).heap.size = wr.heap.size + 1 := by simp
       rw [hsz1] at hb2
       have hB2 := (HB.out.alloc_other (.cells #[.int .i64 (n : Int), .bool true] 25)).below hb2 (by omega)
       have hbb2 := (hbb.alloc (by omega) (.cells #[.int .i64 (n : Int), .bool true] 25)).trans (hb2.mono (by omega))
       have hR2 : Hid (NoName l n 2 ∧ Blk w2 w.heap.size 25 [.int .i64 0, .bool false] ∧ Below w.heap.size w w2) := ⟨HN2.out, hB2, hbb2⟩
       clear hb2 hB2 hsz1 hbb2
       go_wp2
       go_roundw
       case rel => exact ⟨k + 1, by omega, by go_num, by rw [HKK.out]; exact hR2⟩
       case measure => simp [intOf]; omega
     ·have hR2 : Hid (NoName l (n + 1) 0 ∧ Blk wr w.heap.size 25 [.int .i64 0, .bool false] ∧ Below w.heap.size w wr) := ⟨noName_next (by rw [← hk0]; exact hR.out.1), hR.out.2⟩
      have hk2 : ¬ k < 2 := by omega
      clear hR hk0
      go_wp2
      go_roundw
      case rel => exact ⟨n + 1, by omega, by have := HLT.out; omega, by go_num, hR2⟩
      case measure => have := HLT.out; simp [intOf]; omega
   ·obtain rfl : n = 65 := by omega
    obtain ⟨hN, hB, hbb⟩ := hR.out
    have E := Hd (noName_none HBO.out hN)
    have c0 := hB.cell 0
    have c1 := hB.cell 1
    have f0 := hB.frozen 0
    have f1 := hB.frozen 1
    have HB := Hd hB
    clear hN hB hR
    go_wp2
    refine bodyPost_ret (((HB.out.set 0 _).set 1 _).resR Tryz.results104 Tryz.underlying25 rfl (by kernel_rfl) _ rfl) rfl ?_
    exact ⟨by simp only [tyV, E.out]; rfl, (hbb.setCell (p := ⟨w.heap.size, 0, none⟩) (Nat.le_refl _) _).setCell (p := ⟨w.heap.size, 1, none⟩) (Nat.le_refl _) _⟩

theorem fldW (x : Nat) (y : Bool) (W : World) : Sem.run Tryz.prog (Instr.field 25 (Value.agg #[Value.int IntKind.i64 (x : Int), Value.bool y]) 0) W = Result.ok (Value.int IntKind.i64 (x : Int)) W := by kernel_rfl
set_option maxHeartbeats 1000000 in
set_option maxRecDepth 100000 in
theorem rKeyword_any (l : List UInt8) (w : World) : Calls Tryz.prog 65 #[.string (str l)] w fun e w' => e = .returned (.bool (isKey l)) ∧ Below w.heap.size w w' := by
 have HK := Hd fun W => rKeywords_any W
 have HO := Hd fun (W : World) g h => rOne_any keywords g 19 9 l W rfl (by omega) h
 have HT := Hd fun W => rType_any l W
 have hik : isKey l = (keywords.contains l || decide (0 < (typeOf l).1)) := rfl
 rw [hik]
 unfold tyV at HT
 clear hik
 generalize (typeOf l).2 = y at *
 generalize (typeOf l).1 = x at *
 cases hc : keywords.contains l
 all_goals first | rw [Bool.true_or] | rw [Bool.false_or]
 all_goals
  rw [hc] at HO
  go_enter Tryz.func65, Tryz.ntmps65
  go_wp2_with fail
  refine (HK.out _).mono ?_
  rintro e w1 ⟨rfl, hB, hb⟩
  have HO1 := Hd (HO.out w1 _ hB)
  clear HO HK hB
  go_wp2_with fail
  refine HO1.out.mono ?_
  rintro e w' ⟨rfl, rfl⟩
 ·go_wp2_with fail
  refine (HT.out _).mono ?_
  rintro e w2 ⟨rfl, hb2⟩
  have hbb := hb.trans (hb2.mono hb.size)
  have hfw := fldW x y w2
  clear hb2
  go_wp2
  go_ret
  exact ⟨by simp, hbb⟩
 ·go_wp2
  go_ret
  exact ⟨by simp, hb⟩
end Go.Proofs.YtkliclihpobmiaaGreatDoor
/- The reference's reader: typ and number: contracts. -/
namespace Go.Proofs.YtkliclihpobmiaaGreatDoor
namespace Q
open Go Go.RowKit
set_option linter.unusedVariables false
set_option linter.unusedSimpArgs false

structure TS (w W : World) (R g c : Nat) (ts : List Tok) (s : Sg) (v0 v1 : Value) : Prop where
 rd : Rd W R g c ts s
 st : St w W R
 b0 : Blk W w.heap.size 25 [.int .i64 0, .bool false]
 b1 : Blk W (w.heap.size + 1) 25 [v0, v1]
 lt : R < w.heap.size
theorem TS.start {w : World} {R g c : Nat} {ts : List Tok} {s : Sg} (h : Rd w R g c ts s) (hg : g < R) : TS w ((w.alloc (.cells #[.int .i64 0, .bool false] 25)).alloc (.cells #[.int .i64 0, .bool false] 25)) R g c ts s (.int .i64 0) (.bool false) := by
 have z : (w.alloc (.cells #[.int .i64 0, .bool false] 25)).heap.size = w.heap.size + 1 := by simp
 have b1 := Blk.alloc (w.alloc (.cells #[.int .i64 0, .bool false] 25)) 25 [.int .i64 0, .bool false]
 rw [z] at b1
 exact ⟨(h.alloc hg _).alloc hg _, ((St.refl _ _).alloc _).alloc _, (Blk.alloc w 25 [.int .i64 0, .bool false]).alloc_other _, b1, h.lt⟩
theorem TS.put {w W : World} {R g c : Nat} {ts : List Tok} {s : Sg} {v0 v1 : Value} (h : TS w W R g c ts s v0 v1) (hg : g < R) (x0 x1 : Value) : TS w (stor2 W (w.heap.size + 1) x0 x1) R g c ts s x0 x1 := by
 have := h.lt
 exact ⟨h.rd.stor2 hg (by omega) _ _, h.st.stor2 (by omega) _ _, (h.b0.set_other (by show w.heap.size ≠ w.heap.size + 1; omega) _).set_other (by show w.heap.size ≠ w.heap.size + 1; omega) _, h.b1.stor2 rfl _ _, h.lt⟩
theorem TS.call {w W W' : World} {R g c : Nat} {ts : List Tok} {s : Sg} {v0 v1 : Value} (h : TS w W R g c ts s v0 v1) (hg : g < R) (hb : Below W.heap.size W W') : TS w W' R g c ts s v0 v1 :=
 ⟨h.rd.below hg hb h.rd.lt, h.st.trans (St.of_below hb), h.b0.below hb h.b0.lt, h.b1.below hb h.b1.lt, h.lt⟩
theorem TS.adv {w W : World} {R g c : Nat} {ts : List Tok} {s : Sg} {v0 v1 : Value} (h : TS w W R g c ts s v0 v1) (hg : g < R) (h0 : s.bad = false ∧ s.i < ts.length) {v : Int} (hv : v = (s.i : Int) + 1) : TS w (W.setCell ⟨R, 1, none⟩ (.int .i64 v)) R g c ts (Proofs.YtkliclihpobmiaaGreatDoor.adv s) v0 v1 := by
 have := h.lt
 exact ⟨rd_adv' h.rd hg h0 hv, St.setR h.st rfl _, h.b0.set_other (by show w.heap.size ≠ R; omega) _, h.b1.set_other (by show w.heap.size + 1 ≠ R; omega) _, h.lt⟩
theorem TS.fail {w W : World} {R g c : Nat} {ts : List Tok} {s : Sg} {v0 v1 : Value} (h : TS w W R g c ts s v0 v1) (hg : g < R) : TS w (W.setCell ⟨R, 2, none⟩ (.bool true)) R g c ts (stop s) v0 v1 := by
 have := h.lt
 exact ⟨h.rd.failed hg, St.setR h.st rfl _, h.b0.set_other (by show w.heap.size ≠ R; omega) _, h.b1.set_other (by show w.heap.size + 1 ≠ R; omega) _, h.lt⟩
theorem TS.out {w W : World} {R g c : Nat} {ts : List Tok} {s : Sg} {v0 v1 : Value} (h : TS w W R g c ts s v0 v1) (hg : g < R) : Blk (stor2 W w.heap.size v0 v1) w.heap.size 25 [v0, v1] ∧ Rd (stor2 W w.heap.size v0 v1) R g c ts s ∧ St w (stor2 W w.heap.size v0 v1) R :=
 ⟨h.b0.stor2 rfl _ _, h.rd.stor2 hg h.lt _ _, h.st.stor2 (Nat.le_refl _) _ _⟩

set_option maxHeartbeats 2000000 in
set_option maxRecDepth 100000 in
theorem typ_any {ts : List Tok} {R g c : Nat} (X : QC ts R g c) {s : Sg} (w : World) (hR : Rd w R g c ts s) :
  Calls Tryz.prog 109 #[.pointer (some ⟨R, 0, none⟩)] w fun e w' => e = .returned (.agg #[.int .i64 ((tyV' ts s).1 : Int), .bool (tyV' ts s).2]) ∧ Rd w' R g c ts (tyS ts s) ∧ St w w' R := by
 have hXl := X.x.lt
 have T0 := Hd (TS.start hR hXl)
 have HK := Hd fun W (h : Rd W R g c ts s) => kind_any X.x W h
 have HT := Hd fun W (h : Rd W R g c ts s) => text_any X.x W h
 have HY := Hd fun W => rType_any (tx ts s) W
 have hlen := X.x.len
 have hltR := hR.lt
 unfold tyS tyV'
 have hle := typeOf_le (tx ts s)
 have HI : Hid (0 < (typeOf (tx ts s)).1 → (s.bad = false ∧ s.i < ts.length) ∧ kd ts s = 2) := Hd fun h => ⟨tx_in (ts := ts) (fun he => by rw [he, typeOf_nil] at h; omega), X.k2 s h⟩
 have HZ : Hid (¬ 0 < (typeOf (tx ts s)).1 → typeOf (tx ts s) = (0, false)) := Hd fun h => typeOf_zero h
 unfold tyV at HY
 clear hR
 generalize str (tx ts s) = S2 at *
 generalize typeOf (tx ts s) = ty at *
 obtain ⟨x, y⟩ := ty
 by_cases hx : 0 < x
 ·obtain ⟨hin, hk⟩ := HI.out hx
  rw [if_pos hx]
  rw [hk] at HK
  have HIN := Hd hin
  have hil : s.i < 65536 := by omega
  have q : ((x : Int) == 0) = false := by simp; omega
  clear HI HZ hin hk
  go_enter Tryz.func109, Tryz.ntmps109
  go_wp2_with fail
  refine (HK.out _ T0.out.rd).mono ?_
  rintro e w1 ⟨rfl, hb⟩
  have T1 := Hd (T0.out.call hXl hb)
  clear hb T0 HK
  go_wp2_with fail
  refine (HT.out _ T1.out.rd).mono ?_
  rintro e w2 ⟨rfl, hb⟩
  have T2 := Hd (T1.out.call hXl hb)
  clear hb T1 HT
  go_wp2_with fail
  refine (HY.out _).mono ?_
  rintro e w3 ⟨rfl, hb⟩
  have T3 := Hd (T2.out.call hXl hb)
  clear hb T2 HY
  have hs3 := T3.out.st.size
  have T4 := Hd (T3.out.put hXl (.int .i64 (x : Int)) (.bool y))
  obtain ⟨hc, hf⟩ := T3.out.b1.all
  have hl1 := T3.out.b1.lt
  obtain ⟨c0, c1, c2, f1, f2⟩ := T4.out.rd.cells
  have T5 := Hd (T4.out.adv hXl HIN.out (v := (s.i : Int) + 1) rfl)
  obtain ⟨hd, hg⟩ := T5.out.b0.all
  have hl0 := T5.out.b0.lt
  obtain ⟨he, hh⟩ := T5.out.b1.all
  obtain ⟨hc4, hf4⟩ := T4.out.b1.all
  have hl4 := T4.out.rd.lt
  clear c0 c2 f2 T3 T4
  generalize s.i = I at *
  unfold stor2 at c1 f1 hd hg he hh hc4 hf4
  go_wp2
  obtain ⟨o1, o2, o3⟩ := T5.out.out hXl
  refine bodyPost_ret (o1.res1 Tryz.results109 Tryz.underlying25 rfl infoTy _ rfl) rfl ?_
  exact ⟨rfl, o2, o3⟩
 ·have hz := HZ.out hx
  injection hz with h1 h2
  subst h1 h2
  rw [if_neg (by omega)]
  by_cases hk : kd ts s = 2
  ·rw [hk] at HK
   clear HI HZ hk hx
   go_enter Tryz.func109, Tryz.ntmps109
   go_wp2_with fail
   refine (HK.out _ T0.out.rd).mono ?_
   rintro e w1 ⟨rfl, hb⟩
   have T1 := Hd (T0.out.call hXl hb)
   clear hb T0 HK
   go_wp2_with fail
   refine (HT.out _ T1.out.rd).mono ?_
   rintro e w2 ⟨rfl, hb⟩
   have T2 := Hd (T1.out.call hXl hb)
   clear hb T1 HT
   go_wp2_with fail
   refine (HY.out _).mono ?_
   rintro e w3 ⟨rfl, hb⟩
   have T3 := Hd (T2.out.call hXl hb)
   clear hb T2 HY
   have hs3 := T3.out.st.size
   have T4 := Hd (T3.out.put hXl (.int .i64 0) (.bool false))
   obtain ⟨hc, hf⟩ := T3.out.b1.all
   have hl1 := T3.out.b1.lt
   obtain ⟨c0, c1, c2, f1, f2⟩ := T4.out.rd.cells
   have T5 := Hd (T4.out.fail hXl)
   obtain ⟨hd, hg⟩ := T5.out.b0.all
   have hl0 := T5.out.b0.lt
   obtain ⟨he, hh⟩ := T5.out.b1.all
   obtain ⟨hc4, hf4⟩ := T4.out.b1.all
   have hl4 := T4.out.rd.lt
   clear c0 c1 f1 T3 T4
   unfold stor2 at c2 f2 hd hg he hh hc4 hf4
   go_wp2
   obtain ⟨o1, o2, o3⟩ := T5.out.out hXl
   refine bodyPost_ret (o1.res1 Tryz.results109 Tryz.underlying25 rfl infoTy _ rfl) rfl ?_
   exact ⟨rfl, o2, o3⟩
  ·have q : ((kd ts s : Int) == 2) = false := by simp; omega
   clear HI HZ hk hx HY HT
   go_enter Tryz.func109, Tryz.ntmps109
   go_wp2_with fail
   refine (HK.out _ T0.out.rd).mono ?_
   rintro e w1 ⟨rfl, hb⟩
   have T4 := Hd (T0.out.call hXl hb)
   have hs3 := T4.out.st.size
   clear hb T0 HK
   obtain ⟨c0, c1, c2, f1, f2⟩ := T4.out.rd.cells
   have T5 := Hd (T4.out.fail hXl)
   obtain ⟨hd, hg⟩ := T5.out.b0.all
   have hl0 := T5.out.b0.lt
   obtain ⟨he, hh⟩ := T5.out.b1.all
   obtain ⟨hc4, hf4⟩ := T4.out.b1.all
   have hl4 := T4.out.rd.lt
   clear c0 c1 f1 T4
   generalize (kd ts s : Int) = n1 at *
   go_wp2
   obtain ⟨o1, o2, o3⟩ := T5.out.out hXl
   refine bodyPost_ret (o1.res1 Tryz.results109 Tryz.underlying25 rfl infoTy _ rfl) rfl ?_
   exact ⟨rfl, o2, o3⟩
end Q
end Go.Proofs.YtkliclihpobmiaaGreatDoor
/- The reference's reader: number: contract. -/
namespace Go.Proofs.YtkliclihpobmiaaGreatDoor
namespace Q
open Go Go.RowKit
set_option linter.unusedVariables false
set_option linter.unusedSimpArgs false

theorem Rd.facts {w : World} {R g c : Nat} {ts : List Tok} {s : Sg} (h : Rd w R g c ts s) (hg : g < R) (hi : s.i < ts.length) : ∀ W, Below w.heap.size w W → W.cell? ⟨R, 0, none⟩ = some (.slice (some ⟨g, 0, none⟩) ts.length c) ∧ W.cell? ⟨R, 1, none⟩ = some (.int .i64 (s.i : Int)) ∧ W.cell? ⟨g, s.i * 5 + 2, none⟩ = some (.int .u64 ((tat ts s.i).num : Int)) ∧ R < W.heap.size ∧ g < W.heap.size ∧ W.frozen? ⟨R, 1, none⟩ = false ∧ W.frozen? ⟨R, 2, none⟩ = false ∧ W.cell? ⟨R, 2, none⟩ = some (.bool s.bad) := by
 intro W hb
 have h1 := h.below hg hb h.lt
 obtain ⟨c0, c1, c2, f1, f2⟩ := h1.cells
 exact ⟨c0, c1, (h1.tk.2 s.i hi).2.2.1, h1.lt, h1.tk.1, f1, f2, c2⟩
set_option maxHeartbeats 2000000 in
set_option maxRecDepth 100000 in
theorem numb_any {ts : List Tok} {R g c : Nat} (X : Ctx ts R g c) {s : Sg} (least : Nat) (hleast : least < 1000) (w : World) (hR : Rd w R g c ts s) :
  Calls Tryz.prog 137 #[.pointer (some ⟨R, 0, none⟩), .int .u64 (least : Int)] w fun e w' => e = .returned (.int .u64 (nuV ts s least : Int)) ∧ Rd w' R g c ts (nuS ts s least) ∧ St w w' R := by
 have HK := Hd (fun n => kind_quiet X (w.drewN n) (hR.drewN n))
 have HF := Hd fun W (h : Below w.heap.size w W) => (hR.below X.lt h hR.lt).failed X.lt
 have hlen := X.len
 have hcap := X.cap
 have hltR := hR.lt
 have HR := Hd hR
 have hXl := X.lt
 have hnum := nxt_num X s
 unfold nuV nuS
 have HOK : Hid (okN ts s least = (decide (kd ts s = 3) && (decide (least ≤ (nxt ts s).num) && decide ((nxt ts s).num ≤ 1048576)))) := Hd rfl
 by_cases hk : okN ts s least = true
 ·have hk' := HOK.out
  rw [hk] at hk'
  have hk3 : kd ts s = 3 ∧ least ≤ (nxt ts s).num ∧ (nxt ts s).num ≤ 1048576 := by simpa using hk'.symm
  have hin := kd_in hk3.1 (by decide)
  rw [if_pos hk, if_pos hk]
  rw [hk3.1] at HK
  have hn := tx_at (ts := ts) hin.1
  have HC := Hd (hR.facts hXl hin.2)
  rw [← hn] at HC
  have HA := Hd fun W (h : Below w.heap.size w W) (v : Int) (hv : v = (s.i : Int) + 1) => rd_adv' (hR.below X.lt h hR.lt) X.lt hin hv
  have hil : s.i < 65536 := by omega
  have hA : (s.i : Int) < (ts.length : Int) := by omega
  have hA2 := hin.2
  have hIw : IntKind.i64.wrap ((s.i : Int) + 1 - 1) = (s.i : Int) := by rw [IntWalk.i64_in _ (by omega)]; omega
  have q1 : ¬ ((nxt ts s).num : Int) < (least : Int) := by omega
  have q2 : ((nxt ts s).num : Int) ≤ 1048576 := by omega
  have q3 : decide ((nxt ts s).num < least) = false := by simp; omega
  have q4 : decide (((nxt ts s).num : Int) < (least : Int)) = false := by simp; omega
  have q5 : decide ((1048576 : Int) < ((nxt ts s).num : Int)) = false := by simp; omega
  clear hk hk' hk3 hin HF HOK hR hn HR
  generalize (nxt ts s).num = n2 at *
  generalize hI : s.i = I at HC hil hA hA2 hIw
  rw [hI] at HA
  generalize ts.length = N at *
  go_enter Tryz.func137, Tryz.ntmps137
  go_wp2
  obtain ⟨c0, c1, d2, l1, l2, f1, f2, c2⟩ := HC.out w (Below.refl _ _)
  have HC2 := Hd fun n => HC.out (w.drewN n) (drewN_below w n)
  go_quiet ((go_at_call 136; exact Calls.quiet_of (HK.out _)))
  have HB1 := Hd (drewN_below w nq)
  obtain ⟨c0', c1', d2', l1', l2', f1', f2', c2'⟩ := HC2.out nq
  have HS1 : Hid (St w (w.drewN nq) R) := Hd (St.of_below HB1.out)
  have HR1 := Hd (HA.out _ HB1.out)
  clear HA HK HC HB1 HC2
  go_wp2
  go_quiet (fail)
  go_wp2
  go_ret
  exact ⟨rfl, (HR1.out _ rfl).drewN _, (St.setR HS1.out rfl _).drewN _⟩
 ·rw [if_neg hk, if_neg hk]
  have hk' : kd ts s ≠ 3 ∨ (kd ts s = 3 ∧ (nxt ts s).num < least) ∨ (kd ts s = 3 ∧ ¬ (nxt ts s).num < least ∧ 1048576 < (nxt ts s).num) := by
   rw [HOK.out] at hk
   simp at hk
   by_cases h3 : kd ts s = 3
   ·right
    by_cases h4 : (nxt ts s).num < least
    ·exact .inl ⟨h3, h4⟩
    ·exact .inr ⟨h3, h4, hk h3 (by omega)⟩
   ·exact .inl h3
  clear hk HOK
  rcases hk' with q | ⟨q, q1⟩ | ⟨q, q1, q2⟩
  ·have q' : ((kd ts s : Int) != 3) = true := by simp; omega
   have HC : Hid (∀ W, Below w.heap.size w W → R < W.heap.size ∧ W.frozen? ⟨R, 2, none⟩ = false ∧ W.cell? ⟨R, 2, none⟩ = some (.bool s.bad)) := Hd fun W hb => ⟨(hR.below hXl hb hR.lt).lt, (hR.below hXl hb hR.lt).cells.2.2.2.2, (hR.below hXl hb hR.lt).cells.2.2.1⟩
   clear q hR HR
   generalize (kd ts s : Int) = n1 at *
   go_enter Tryz.func137, Tryz.ntmps137
   go_wp2
   obtain ⟨l1, f2, c2⟩ := HC.out w (Below.refl _ _)
   have HC2 := Hd fun n => HC.out (w.drewN n) (drewN_below w n)
   go_quiet ((go_at_call 136; exact Calls.quiet_of (HK.out _)))
   have HB1 := Hd (drewN_below w nq)
   have hc2 := HC2.out nq
   have HS1 : Hid (St w (w.drewN nq) R) := Hd (St.of_below HB1.out)
   have HR1 := Hd (HF.out _ HB1.out)
   clear HF HK HC HB1 HC2
   go_wp2
   go_ret
   exact ⟨rfl, HR1.out, St.setR HS1.out rfl _⟩
  ·have hin := kd_in q (by decide)
   rw [q] at HK
   have hn := tx_at (ts := ts) hin.1
   have HC := Hd (hR.facts hXl hin.2)
   rw [← hn] at HC
   have hA : (s.i : Int) < (ts.length : Int) := by omega
   have hA2 := hin.2
   have q4 : decide (((nxt ts s).num : Int) < (least : Int)) = true := by simp; omega
   clear q hin hR hn HR
   generalize (nxt ts s).num = n2 at *
   generalize hI : s.i = I at HC hA hA2
   generalize ts.length = N at *
   go_enter Tryz.func137, Tryz.ntmps137
   go_wp2
   obtain ⟨c0, c1, d2, l1, l2, f1, f2, c2⟩ := HC.out w (Below.refl _ _)
   have HC2 := Hd fun n => HC.out (w.drewN n) (drewN_below w n)
   go_quiet ((go_at_call 136; exact Calls.quiet_of (HK.out _)))
   have HB1 := Hd (drewN_below w nq)
   obtain ⟨c0', c1', d2', l1', l2', f1', f2', c2'⟩ := HC2.out nq
   have HS1 : Hid (St w (w.drewN nq) R) := Hd (St.of_below HB1.out)
   have HR1 := Hd (HF.out _ HB1.out)
   clear HF HK HC HB1 HC2
   go_wp2
   go_ret
   exact ⟨rfl, HR1.out, St.setR HS1.out rfl _⟩
  ·have hin := kd_in q (by decide)
   rw [q] at HK
   have hn := tx_at (ts := ts) hin.1
   have HC := Hd (hR.facts hXl hin.2)
   rw [← hn] at HC
   have hA : (s.i : Int) < (ts.length : Int) := by omega
   have hA2 := hin.2
   have q4 : decide (((nxt ts s).num : Int) < (least : Int)) = false := by simp; omega
   have q5 : decide ((1048576 : Int) < ((nxt ts s).num : Int)) = true := by simp; omega
   have q6 : (1048576 : Int) < ((nxt ts s).num : Int) := by omega
   clear q hin hR hn HR
   generalize (nxt ts s).num = n2 at *
   generalize hI : s.i = I at HC hA hA2
   generalize ts.length = N at *
   go_enter Tryz.func137, Tryz.ntmps137
   go_wp2
   obtain ⟨c0, c1, d2, l1, l2, f1, f2, c2⟩ := HC.out w (Below.refl _ _)
   have HC2 := Hd fun n => HC.out (w.drewN n) (drewN_below w n)
   go_quiet ((go_at_call 136; exact Calls.quiet_of (HK.out _)))
   have HB1 := Hd (drewN_below w nq)
   obtain ⟨c0', c1', d2', l1', l2', f1', f2', c2'⟩ := HC2.out nq
   have HS1 : Hid (St w (w.drewN nq) R) := Hd (St.of_below HB1.out)
   have HR1 := Hd (HF.out _ HB1.out)
   clear HF HK HC HB1 HC2
   go_wp2
   go_ret
   exact ⟨rfl, HR1.out, St.setR HS1.out rfl _⟩
end Q
end Go.Proofs.YtkliclihpobmiaaGreatDoor
/- The reference's tables of operators: contracts. -/
namespace Go.Proofs.YtkliclihpobmiaaGreatDoor
namespace Q
open Go Go.RowKit
set_option linter.unusedVariables false
set_option linter.unusedSimpArgs false
set_option maxRecDepth 100000

theorem size_alloc (w : World) (o : Obj) : (w.alloc o).heap.size = w.heap.size + 1 := by simp
def lv0 (w : World) : World := w.alloc (.cells #[.string ⟨#[124, 124]⟩] 9)
theorem lv0_size (w : World) : (lv0 w).heap.size = w.heap.size + 1 := by unfold lv0; rw [size_alloc]
def lv1 (w : World) : World := (lv0 w).alloc (.cells #[.string ⟨#[38, 38]⟩] 9)
theorem lv1_size (w : World) : (lv1 w).heap.size = w.heap.size + 1 + 1 := by unfold lv1; rw [size_alloc]; rw [lv0_size]
def lv2 (w : World) : World := (lv1 w).alloc (.cells #[.string ⟨#[61, 61]⟩, .string ⟨#[33, 61]⟩, .string ⟨#[60]⟩, .string ⟨#[60, 61]⟩, .string ⟨#[62]⟩, .string ⟨#[62, 61]⟩] 9)
theorem lv2_size (w : World) : (lv2 w).heap.size = w.heap.size + 1 + 1 + 1 := by unfold lv2; rw [size_alloc]; rw [lv1_size]
def lv3 (w : World) : World := (lv2 w).alloc (.cells #[.string ⟨#[124]⟩] 9)
theorem lv3_size (w : World) : (lv3 w).heap.size = w.heap.size + 1 + 1 + 1 + 1 := by unfold lv3; rw [size_alloc]; rw [lv2_size]
def lv4 (w : World) : World := (lv3 w).alloc (.cells #[.string ⟨#[94]⟩] 9)
theorem lv4_size (w : World) : (lv4 w).heap.size = w.heap.size + 1 + 1 + 1 + 1 + 1 := by unfold lv4; rw [size_alloc]; rw [lv3_size]
def lv5 (w : World) : World := (lv4 w).alloc (.cells #[.string ⟨#[38]⟩] 9)
theorem lv5_size (w : World) : (lv5 w).heap.size = w.heap.size + 1 + 1 + 1 + 1 + 1 + 1 := by unfold lv5; rw [size_alloc]; rw [lv4_size]
def lv6 (w : World) : World := (lv5 w).alloc (.cells #[.string ⟨#[60, 60]⟩, .string ⟨#[62, 62]⟩] 9)
theorem lv6_size (w : World) : (lv6 w).heap.size = w.heap.size + 1 + 1 + 1 + 1 + 1 + 1 + 1 := by unfold lv6; rw [size_alloc]; rw [lv5_size]
def lv7 (w : World) : World := (lv6 w).alloc (.cells #[.string ⟨#[43]⟩, .string ⟨#[45]⟩] 9)
theorem lv7_size (w : World) : (lv7 w).heap.size = w.heap.size + 1 + 1 + 1 + 1 + 1 + 1 + 1 + 1 := by unfold lv7; rw [size_alloc]; rw [lv6_size]
def lv8 (w : World) : World := (lv7 w).alloc (.cells #[.string ⟨#[42]⟩, .string ⟨#[47]⟩, .string ⟨#[37]⟩] 9)
theorem lv8_size (w : World) : (lv8 w).heap.size = w.heap.size + 1 + 1 + 1 + 1 + 1 + 1 + 1 + 1 + 1 := by unfold lv8; rw [size_alloc]; rw [lv7_size]
def lvW (w : World) : World := (lv8 w).alloc (.cells #[.slice (some ⟨w.heap.size, 0, none⟩) 1 1, .slice (some ⟨w.heap.size + 1, 0, none⟩) 1 1, .slice (some ⟨w.heap.size + 1 + 1, 0, none⟩) 6 6, .slice (some ⟨w.heap.size + 1 + 1 + 1, 0, none⟩) 1 1, .slice (some ⟨w.heap.size + 1 + 1 + 1 + 1, 0, none⟩) 1 1, .slice (some ⟨w.heap.size + 1 + 1 + 1 + 1 + 1, 0, none⟩) 1 1, .slice (some ⟨w.heap.size + 1 + 1 + 1 + 1 + 1 + 1, 0, none⟩) 2 2, .slice (some ⟨w.heap.size + 1 + 1 + 1 + 1 + 1 + 1 + 1, 0, none⟩) 2 2, .slice (some ⟨w.heap.size + 1 + 1 + 1 + 1 + 1 + 1 + 1 + 1, 0, none⟩) 3 3] 43)
theorem lvW_below (w : World) : Below w.heap.size w (lvW w) := by
 have h0 := Below.refl w.heap.size w
 have h1 : Below w.heap.size w (lv0 w) := h0.alloc h0.size _
 have h2 : Below w.heap.size w (lv1 w) := h1.alloc h1.size _
 have h3 : Below w.heap.size w (lv2 w) := h2.alloc h2.size _
 have h4 : Below w.heap.size w (lv3 w) := h3.alloc h3.size _
 have h5 : Below w.heap.size w (lv4 w) := h4.alloc h4.size _
 have h6 : Below w.heap.size w (lv5 w) := h5.alloc h5.size _
 have h7 : Below w.heap.size w (lv6 w) := h6.alloc h6.size _
 have h8 : Below w.heap.size w (lv7 w) := h7.alloc h7.size _
 have h9 : Below w.heap.size w (lv8 w) := h8.alloc h8.size _
 exact h9.alloc h9.size _
theorem lvW_outer (w : World) : Blk (lvW w) (w.heap.size + 1 + 1 + 1 + 1 + 1 + 1 + 1 + 1 + 1) 43 [.slice (some ⟨w.heap.size, 0, none⟩) 1 1, .slice (some ⟨w.heap.size + 1, 0, none⟩) 1 1, .slice (some ⟨w.heap.size + 1 + 1, 0, none⟩) 6 6, .slice (some ⟨w.heap.size + 1 + 1 + 1, 0, none⟩) 1 1, .slice (some ⟨w.heap.size + 1 + 1 + 1 + 1, 0, none⟩) 1 1, .slice (some ⟨w.heap.size + 1 + 1 + 1 + 1 + 1, 0, none⟩) 1 1, .slice (some ⟨w.heap.size + 1 + 1 + 1 + 1 + 1 + 1, 0, none⟩) 2 2, .slice (some ⟨w.heap.size + 1 + 1 + 1 + 1 + 1 + 1 + 1, 0, none⟩) 2 2, .slice (some ⟨w.heap.size + 1 + 1 + 1 + 1 + 1 + 1 + 1 + 1, 0, none⟩) 3 3] := by
 have h := Blk.alloc (lv8 w) 43 [.slice (some ⟨w.heap.size, 0, none⟩) 1 1, .slice (some ⟨w.heap.size + 1, 0, none⟩) 1 1, .slice (some ⟨w.heap.size + 1 + 1, 0, none⟩) 6 6, .slice (some ⟨w.heap.size + 1 + 1 + 1, 0, none⟩) 1 1, .slice (some ⟨w.heap.size + 1 + 1 + 1 + 1, 0, none⟩) 1 1, .slice (some ⟨w.heap.size + 1 + 1 + 1 + 1 + 1, 0, none⟩) 1 1, .slice (some ⟨w.heap.size + 1 + 1 + 1 + 1 + 1 + 1, 0, none⟩) 2 2, .slice (some ⟨w.heap.size + 1 + 1 + 1 + 1 + 1 + 1 + 1, 0, none⟩) 2 2, .slice (some ⟨w.heap.size + 1 + 1 + 1 + 1 + 1 + 1 + 1 + 1, 0, none⟩) 3 3]
 rw [lv8_size] at h
 exact h
theorem lvW_0 (w : World) : Blk (lvW w) (w.heap.size) 9 [.string ⟨#[124, 124]⟩] := by
 have h := Blk.alloc w 9 [.string ⟨#[124, 124]⟩]
 have h1 : Blk (lv1 w) (w.heap.size) 9 [.string ⟨#[124, 124]⟩] := h.alloc_other _
 have h2 : Blk (lv2 w) (w.heap.size) 9 [.string ⟨#[124, 124]⟩] := h1.alloc_other _
 have h3 : Blk (lv3 w) (w.heap.size) 9 [.string ⟨#[124, 124]⟩] := h2.alloc_other _
 have h4 : Blk (lv4 w) (w.heap.size) 9 [.string ⟨#[124, 124]⟩] := h3.alloc_other _
 have h5 : Blk (lv5 w) (w.heap.size) 9 [.string ⟨#[124, 124]⟩] := h4.alloc_other _
 have h6 : Blk (lv6 w) (w.heap.size) 9 [.string ⟨#[124, 124]⟩] := h5.alloc_other _
 have h7 : Blk (lv7 w) (w.heap.size) 9 [.string ⟨#[124, 124]⟩] := h6.alloc_other _
 have h8 : Blk (lv8 w) (w.heap.size) 9 [.string ⟨#[124, 124]⟩] := h7.alloc_other _
 exact h8.alloc_other _
theorem lvW_1 (w : World) : Blk (lvW w) (w.heap.size + 1) 9 [.string ⟨#[38, 38]⟩] := by
 have h := Blk.alloc (lv0 w) 9 [.string ⟨#[38, 38]⟩]
 rw [lv0_size] at h
 have h2 : Blk (lv2 w) (w.heap.size + 1) 9 [.string ⟨#[38, 38]⟩] := h.alloc_other _
 have h3 : Blk (lv3 w) (w.heap.size + 1) 9 [.string ⟨#[38, 38]⟩] := h2.alloc_other _
 have h4 : Blk (lv4 w) (w.heap.size + 1) 9 [.string ⟨#[38, 38]⟩] := h3.alloc_other _
 have h5 : Blk (lv5 w) (w.heap.size + 1) 9 [.string ⟨#[38, 38]⟩] := h4.alloc_other _
 have h6 : Blk (lv6 w) (w.heap.size + 1) 9 [.string ⟨#[38, 38]⟩] := h5.alloc_other _
 have h7 : Blk (lv7 w) (w.heap.size + 1) 9 [.string ⟨#[38, 38]⟩] := h6.alloc_other _
 have h8 : Blk (lv8 w) (w.heap.size + 1) 9 [.string ⟨#[38, 38]⟩] := h7.alloc_other _
 exact h8.alloc_other _
theorem lvW_2 (w : World) : Blk (lvW w) (w.heap.size + 1 + 1) 9 [.string ⟨#[61, 61]⟩, .string ⟨#[33, 61]⟩, .string ⟨#[60]⟩, .string ⟨#[60, 61]⟩, .string ⟨#[62]⟩, .string ⟨#[62, 61]⟩] := by
 have h := Blk.alloc (lv1 w) 9 [.string ⟨#[61, 61]⟩, .string ⟨#[33, 61]⟩, .string ⟨#[60]⟩, .string ⟨#[60, 61]⟩, .string ⟨#[62]⟩, .string ⟨#[62, 61]⟩]
 rw [lv1_size] at h
 have h3 : Blk (lv3 w) (w.heap.size + 1 + 1) 9 [.string ⟨#[61, 61]⟩, .string ⟨#[33, 61]⟩, .string ⟨#[60]⟩, .string ⟨#[60, 61]⟩, .string ⟨#[62]⟩, .string ⟨#[62, 61]⟩] := h.alloc_other _
 have h4 : Blk (lv4 w) (w.heap.size + 1 + 1) 9 [.string ⟨#[61, 61]⟩, .string ⟨#[33, 61]⟩, .string ⟨#[60]⟩, .string ⟨#[60, 61]⟩, .string ⟨#[62]⟩, .string ⟨#[62, 61]⟩] := h3.alloc_other _
 have h5 : Blk (lv5 w) (w.heap.size + 1 + 1) 9 [.string ⟨#[61, 61]⟩, .string ⟨#[33, 61]⟩, .string ⟨#[60]⟩, .string ⟨#[60, 61]⟩, .string ⟨#[62]⟩, .string ⟨#[62, 61]⟩] := h4.alloc_other _
 have h6 : Blk (lv6 w) (w.heap.size + 1 + 1) 9 [.string ⟨#[61, 61]⟩, .string ⟨#[33, 61]⟩, .string ⟨#[60]⟩, .string ⟨#[60, 61]⟩, .string ⟨#[62]⟩, .string ⟨#[62, 61]⟩] := h5.alloc_other _
 have h7 : Blk (lv7 w) (w.heap.size + 1 + 1) 9 [.string ⟨#[61, 61]⟩, .string ⟨#[33, 61]⟩, .string ⟨#[60]⟩, .string ⟨#[60, 61]⟩, .string ⟨#[62]⟩, .string ⟨#[62, 61]⟩] := h6.alloc_other _
 have h8 : Blk (lv8 w) (w.heap.size + 1 + 1) 9 [.string ⟨#[61, 61]⟩, .string ⟨#[33, 61]⟩, .string ⟨#[60]⟩, .string ⟨#[60, 61]⟩, .string ⟨#[62]⟩, .string ⟨#[62, 61]⟩] := h7.alloc_other _
 exact h8.alloc_other _
theorem lvW_3 (w : World) : Blk (lvW w) (w.heap.size + 1 + 1 + 1) 9 [.string ⟨#[124]⟩] := by
 have h := Blk.alloc (lv2 w) 9 [.string ⟨#[124]⟩]
 rw [lv2_size] at h
 have h4 : Blk (lv4 w) (w.heap.size + 1 + 1 + 1) 9 [.string ⟨#[124]⟩] := h.alloc_other _
 have h5 : Blk (lv5 w) (w.heap.size + 1 + 1 + 1) 9 [.string ⟨#[124]⟩] := h4.alloc_other _
 have h6 : Blk (lv6 w) (w.heap.size + 1 + 1 + 1) 9 [.string ⟨#[124]⟩] := h5.alloc_other _
 have h7 : Blk (lv7 w) (w.heap.size + 1 + 1 + 1) 9 [.string ⟨#[124]⟩] := h6.alloc_other _
 have h8 : Blk (lv8 w) (w.heap.size + 1 + 1 + 1) 9 [.string ⟨#[124]⟩] := h7.alloc_other _
 exact h8.alloc_other _
theorem lvW_4 (w : World) : Blk (lvW w) (w.heap.size + 1 + 1 + 1 + 1) 9 [.string ⟨#[94]⟩] := by
 have h := Blk.alloc (lv3 w) 9 [.string ⟨#[94]⟩]
 rw [lv3_size] at h
 have h5 : Blk (lv5 w) (w.heap.size + 1 + 1 + 1 + 1) 9 [.string ⟨#[94]⟩] := h.alloc_other _
 have h6 : Blk (lv6 w) (w.heap.size + 1 + 1 + 1 + 1) 9 [.string ⟨#[94]⟩] := h5.alloc_other _
 have h7 : Blk (lv7 w) (w.heap.size + 1 + 1 + 1 + 1) 9 [.string ⟨#[94]⟩] := h6.alloc_other _
 have h8 : Blk (lv8 w) (w.heap.size + 1 + 1 + 1 + 1) 9 [.string ⟨#[94]⟩] := h7.alloc_other _
 exact h8.alloc_other _
theorem lvW_5 (w : World) : Blk (lvW w) (w.heap.size + 1 + 1 + 1 + 1 + 1) 9 [.string ⟨#[38]⟩] := by
 have h := Blk.alloc (lv4 w) 9 [.string ⟨#[38]⟩]
 rw [lv4_size] at h
 have h6 : Blk (lv6 w) (w.heap.size + 1 + 1 + 1 + 1 + 1) 9 [.string ⟨#[38]⟩] := h.alloc_other _
 have h7 : Blk (lv7 w) (w.heap.size + 1 + 1 + 1 + 1 + 1) 9 [.string ⟨#[38]⟩] := h6.alloc_other _
 have h8 : Blk (lv8 w) (w.heap.size + 1 + 1 + 1 + 1 + 1) 9 [.string ⟨#[38]⟩] := h7.alloc_other _
 exact h8.alloc_other _
theorem lvW_6 (w : World) : Blk (lvW w) (w.heap.size + 1 + 1 + 1 + 1 + 1 + 1) 9 [.string ⟨#[60, 60]⟩, .string ⟨#[62, 62]⟩] := by
 have h := Blk.alloc (lv5 w) 9 [.string ⟨#[60, 60]⟩, .string ⟨#[62, 62]⟩]
 rw [lv5_size] at h
 have h7 : Blk (lv7 w) (w.heap.size + 1 + 1 + 1 + 1 + 1 + 1) 9 [.string ⟨#[60, 60]⟩, .string ⟨#[62, 62]⟩] := h.alloc_other _
 have h8 : Blk (lv8 w) (w.heap.size + 1 + 1 + 1 + 1 + 1 + 1) 9 [.string ⟨#[60, 60]⟩, .string ⟨#[62, 62]⟩] := h7.alloc_other _
 exact h8.alloc_other _
theorem lvW_7 (w : World) : Blk (lvW w) (w.heap.size + 1 + 1 + 1 + 1 + 1 + 1 + 1) 9 [.string ⟨#[43]⟩, .string ⟨#[45]⟩] := by
 have h := Blk.alloc (lv6 w) 9 [.string ⟨#[43]⟩, .string ⟨#[45]⟩]
 rw [lv6_size] at h
 have h8 : Blk (lv8 w) (w.heap.size + 1 + 1 + 1 + 1 + 1 + 1 + 1) 9 [.string ⟨#[43]⟩, .string ⟨#[45]⟩] := h.alloc_other _
 exact h8.alloc_other _
theorem lvW_8 (w : World) : Blk (lvW w) (w.heap.size + 1 + 1 + 1 + 1 + 1 + 1 + 1 + 1) 9 [.string ⟨#[42]⟩, .string ⟨#[47]⟩, .string ⟨#[37]⟩] := by
 have h := Blk.alloc (lv7 w) 9 [.string ⟨#[42]⟩, .string ⟨#[47]⟩, .string ⟨#[37]⟩]
 rw [lv7_size] at h
 exact h.alloc_other _
def oq0 (w : World) : World := w.alloc (.cells #[.int .i64 18] 3)
theorem oq0_size (w : World) : (oq0 w).heap.size = w.heap.size + 1 := by unfold oq0; rw [size_alloc]
def oq1 (w : World) : World := (oq0 w).alloc (.cells #[.int .i64 17] 3)
theorem oq1_size (w : World) : (oq1 w).heap.size = w.heap.size + 1 + 1 := by unfold oq1; rw [size_alloc]; rw [oq0_size]
def oq2 (w : World) : World := (oq1 w).alloc (.cells #[.int .i64 11, .int .i64 12, .int .i64 13, .int .i64 14, .int .i64 15, .int .i64 16] 3)
theorem oq2_size (w : World) : (oq2 w).heap.size = w.heap.size + 1 + 1 + 1 := by unfold oq2; rw [size_alloc]; rw [oq1_size]
def oq3 (w : World) : World := (oq2 w).alloc (.cells #[.int .i64 7] 3)
theorem oq3_size (w : World) : (oq3 w).heap.size = w.heap.size + 1 + 1 + 1 + 1 := by unfold oq3; rw [size_alloc]; rw [oq2_size]
def oq4 (w : World) : World := (oq3 w).alloc (.cells #[.int .i64 8] 3)
theorem oq4_size (w : World) : (oq4 w).heap.size = w.heap.size + 1 + 1 + 1 + 1 + 1 := by unfold oq4; rw [size_alloc]; rw [oq3_size]
def oq5 (w : World) : World := (oq4 w).alloc (.cells #[.int .i64 6] 3)
theorem oq5_size (w : World) : (oq5 w).heap.size = w.heap.size + 1 + 1 + 1 + 1 + 1 + 1 := by unfold oq5; rw [size_alloc]; rw [oq4_size]
def oq6 (w : World) : World := (oq5 w).alloc (.cells #[.int .i64 9, .int .i64 10] 3)
theorem oq6_size (w : World) : (oq6 w).heap.size = w.heap.size + 1 + 1 + 1 + 1 + 1 + 1 + 1 := by unfold oq6; rw [size_alloc]; rw [oq5_size]
def oq7 (w : World) : World := (oq6 w).alloc (.cells #[.int .i64 1, .int .i64 2] 3)
theorem oq7_size (w : World) : (oq7 w).heap.size = w.heap.size + 1 + 1 + 1 + 1 + 1 + 1 + 1 + 1 := by unfold oq7; rw [size_alloc]; rw [oq6_size]
def oq8 (w : World) : World := (oq7 w).alloc (.cells #[.int .i64 3, .int .i64 4, .int .i64 5] 3)
theorem oq8_size (w : World) : (oq8 w).heap.size = w.heap.size + 1 + 1 + 1 + 1 + 1 + 1 + 1 + 1 + 1 := by unfold oq8; rw [size_alloc]; rw [oq7_size]
def oqW (w : World) : World := (oq8 w).alloc (.cells #[.slice (some ⟨w.heap.size, 0, none⟩) 1 1, .slice (some ⟨w.heap.size + 1, 0, none⟩) 1 1, .slice (some ⟨w.heap.size + 1 + 1, 0, none⟩) 6 6, .slice (some ⟨w.heap.size + 1 + 1 + 1, 0, none⟩) 1 1, .slice (some ⟨w.heap.size + 1 + 1 + 1 + 1, 0, none⟩) 1 1, .slice (some ⟨w.heap.size + 1 + 1 + 1 + 1 + 1, 0, none⟩) 1 1, .slice (some ⟨w.heap.size + 1 + 1 + 1 + 1 + 1 + 1, 0, none⟩) 2 2, .slice (some ⟨w.heap.size + 1 + 1 + 1 + 1 + 1 + 1 + 1, 0, none⟩) 2 2, .slice (some ⟨w.heap.size + 1 + 1 + 1 + 1 + 1 + 1 + 1 + 1, 0, none⟩) 3 3] 95)
theorem oqW_below (w : World) : Below w.heap.size w (oqW w) := by
 have h0 := Below.refl w.heap.size w
 have h1 : Below w.heap.size w (oq0 w) := h0.alloc h0.size _
 have h2 : Below w.heap.size w (oq1 w) := h1.alloc h1.size _
 have h3 : Below w.heap.size w (oq2 w) := h2.alloc h2.size _
 have h4 : Below w.heap.size w (oq3 w) := h3.alloc h3.size _
 have h5 : Below w.heap.size w (oq4 w) := h4.alloc h4.size _
 have h6 : Below w.heap.size w (oq5 w) := h5.alloc h5.size _
 have h7 : Below w.heap.size w (oq6 w) := h6.alloc h6.size _
 have h8 : Below w.heap.size w (oq7 w) := h7.alloc h7.size _
 have h9 : Below w.heap.size w (oq8 w) := h8.alloc h8.size _
 exact h9.alloc h9.size _
theorem oqW_outer (w : World) : Blk (oqW w) (w.heap.size + 1 + 1 + 1 + 1 + 1 + 1 + 1 + 1 + 1) 95 [.slice (some ⟨w.heap.size, 0, none⟩) 1 1, .slice (some ⟨w.heap.size + 1, 0, none⟩) 1 1, .slice (some ⟨w.heap.size + 1 + 1, 0, none⟩) 6 6, .slice (some ⟨w.heap.size + 1 + 1 + 1, 0, none⟩) 1 1, .slice (some ⟨w.heap.size + 1 + 1 + 1 + 1, 0, none⟩) 1 1, .slice (some ⟨w.heap.size + 1 + 1 + 1 + 1 + 1, 0, none⟩) 1 1, .slice (some ⟨w.heap.size + 1 + 1 + 1 + 1 + 1 + 1, 0, none⟩) 2 2, .slice (some ⟨w.heap.size + 1 + 1 + 1 + 1 + 1 + 1 + 1, 0, none⟩) 2 2, .slice (some ⟨w.heap.size + 1 + 1 + 1 + 1 + 1 + 1 + 1 + 1, 0, none⟩) 3 3] := by
 have h := Blk.alloc (oq8 w) 95 [.slice (some ⟨w.heap.size, 0, none⟩) 1 1, .slice (some ⟨w.heap.size + 1, 0, none⟩) 1 1, .slice (some ⟨w.heap.size + 1 + 1, 0, none⟩) 6 6, .slice (some ⟨w.heap.size + 1 + 1 + 1, 0, none⟩) 1 1, .slice (some ⟨w.heap.size + 1 + 1 + 1 + 1, 0, none⟩) 1 1, .slice (some ⟨w.heap.size + 1 + 1 + 1 + 1 + 1, 0, none⟩) 1 1, .slice (some ⟨w.heap.size + 1 + 1 + 1 + 1 + 1 + 1, 0, none⟩) 2 2, .slice (some ⟨w.heap.size + 1 + 1 + 1 + 1 + 1 + 1 + 1, 0, none⟩) 2 2, .slice (some ⟨w.heap.size + 1 + 1 + 1 + 1 + 1 + 1 + 1 + 1, 0, none⟩) 3 3]
 rw [oq8_size] at h
 exact h
theorem oqW_0 (w : World) : Blk (oqW w) (w.heap.size) 3 [.int .i64 18] := by
 have h := Blk.alloc w 3 [.int .i64 18]
 have h1 : Blk (oq1 w) (w.heap.size) 3 [.int .i64 18] := h.alloc_other _
 have h2 : Blk (oq2 w) (w.heap.size) 3 [.int .i64 18] := h1.alloc_other _
 have h3 : Blk (oq3 w) (w.heap.size) 3 [.int .i64 18] := h2.alloc_other _
 have h4 : Blk (oq4 w) (w.heap.size) 3 [.int .i64 18] := h3.alloc_other _
 have h5 : Blk (oq5 w) (w.heap.size) 3 [.int .i64 18] := h4.alloc_other _
 have h6 : Blk (oq6 w) (w.heap.size) 3 [.int .i64 18] := h5.alloc_other _
 have h7 : Blk (oq7 w) (w.heap.size) 3 [.int .i64 18] := h6.alloc_other _
 have h8 : Blk (oq8 w) (w.heap.size) 3 [.int .i64 18] := h7.alloc_other _
 exact h8.alloc_other _
theorem oqW_1 (w : World) : Blk (oqW w) (w.heap.size + 1) 3 [.int .i64 17] := by
 have h := Blk.alloc (oq0 w) 3 [.int .i64 17]
 rw [oq0_size] at h
 have h2 : Blk (oq2 w) (w.heap.size + 1) 3 [.int .i64 17] := h.alloc_other _
 have h3 : Blk (oq3 w) (w.heap.size + 1) 3 [.int .i64 17] := h2.alloc_other _
 have h4 : Blk (oq4 w) (w.heap.size + 1) 3 [.int .i64 17] := h3.alloc_other _
 have h5 : Blk (oq5 w) (w.heap.size + 1) 3 [.int .i64 17] := h4.alloc_other _
 have h6 : Blk (oq6 w) (w.heap.size + 1) 3 [.int .i64 17] := h5.alloc_other _
 have h7 : Blk (oq7 w) (w.heap.size + 1) 3 [.int .i64 17] := h6.alloc_other _
 have h8 : Blk (oq8 w) (w.heap.size + 1) 3 [.int .i64 17] := h7.alloc_other _
 exact h8.alloc_other _
theorem oqW_2 (w : World) : Blk (oqW w) (w.heap.size + 1 + 1) 3 [.int .i64 11, .int .i64 12, .int .i64 13, .int .i64 14, .int .i64 15, .int .i64 16] := by
 have h := Blk.alloc (oq1 w) 3 [.int .i64 11, .int .i64 12, .int .i64 13, .int .i64 14, .int .i64 15, .int .i64 16]
 rw [oq1_size] at h
 have h3 : Blk (oq3 w) (w.heap.size + 1 + 1) 3 [.int .i64 11, .int .i64 12, .int .i64 13, .int .i64 14, .int .i64 15, .int .i64 16] := h.alloc_other _
 have h4 : Blk (oq4 w) (w.heap.size + 1 + 1) 3 [.int .i64 11, .int .i64 12, .int .i64 13, .int .i64 14, .int .i64 15, .int .i64 16] := h3.alloc_other _
 have h5 : Blk (oq5 w) (w.heap.size + 1 + 1) 3 [.int .i64 11, .int .i64 12, .int .i64 13, .int .i64 14, .int .i64 15, .int .i64 16] := h4.alloc_other _
 have h6 : Blk (oq6 w) (w.heap.size + 1 + 1) 3 [.int .i64 11, .int .i64 12, .int .i64 13, .int .i64 14, .int .i64 15, .int .i64 16] := h5.alloc_other _
 have h7 : Blk (oq7 w) (w.heap.size + 1 + 1) 3 [.int .i64 11, .int .i64 12, .int .i64 13, .int .i64 14, .int .i64 15, .int .i64 16] := h6.alloc_other _
 have h8 : Blk (oq8 w) (w.heap.size + 1 + 1) 3 [.int .i64 11, .int .i64 12, .int .i64 13, .int .i64 14, .int .i64 15, .int .i64 16] := h7.alloc_other _
 exact h8.alloc_other _
theorem oqW_3 (w : World) : Blk (oqW w) (w.heap.size + 1 + 1 + 1) 3 [.int .i64 7] := by
 have h := Blk.alloc (oq2 w) 3 [.int .i64 7]
 rw [oq2_size] at h
 have h4 : Blk (oq4 w) (w.heap.size + 1 + 1 + 1) 3 [.int .i64 7] := h.alloc_other _
 have h5 : Blk (oq5 w) (w.heap.size + 1 + 1 + 1) 3 [.int .i64 7] := h4.alloc_other _
 have h6 : Blk (oq6 w) (w.heap.size + 1 + 1 + 1) 3 [.int .i64 7] := h5.alloc_other _
 have h7 : Blk (oq7 w) (w.heap.size + 1 + 1 + 1) 3 [.int .i64 7] := h6.alloc_other _
 have h8 : Blk (oq8 w) (w.heap.size + 1 + 1 + 1) 3 [.int .i64 7] := h7.alloc_other _
 exact h8.alloc_other _
theorem oqW_4 (w : World) : Blk (oqW w) (w.heap.size + 1 + 1 + 1 + 1) 3 [.int .i64 8] := by
 have h := Blk.alloc (oq3 w) 3 [.int .i64 8]
 rw [oq3_size] at h
 have h5 : Blk (oq5 w) (w.heap.size + 1 + 1 + 1 + 1) 3 [.int .i64 8] := h.alloc_other _
 have h6 : Blk (oq6 w) (w.heap.size + 1 + 1 + 1 + 1) 3 [.int .i64 8] := h5.alloc_other _
 have h7 : Blk (oq7 w) (w.heap.size + 1 + 1 + 1 + 1) 3 [.int .i64 8] := h6.alloc_other _
 have h8 : Blk (oq8 w) (w.heap.size + 1 + 1 + 1 + 1) 3 [.int .i64 8] := h7.alloc_other _
 exact h8.alloc_other _
theorem oqW_5 (w : World) : Blk (oqW w) (w.heap.size + 1 + 1 + 1 + 1 + 1) 3 [.int .i64 6] := by
 have h := Blk.alloc (oq4 w) 3 [.int .i64 6]
 rw [oq4_size] at h
 have h6 : Blk (oq6 w) (w.heap.size + 1 + 1 + 1 + 1 + 1) 3 [.int .i64 6] := h.alloc_other _
 have h7 : Blk (oq7 w) (w.heap.size + 1 + 1 + 1 + 1 + 1) 3 [.int .i64 6] := h6.alloc_other _
 have h8 : Blk (oq8 w) (w.heap.size + 1 + 1 + 1 + 1 + 1) 3 [.int .i64 6] := h7.alloc_other _
 exact h8.alloc_other _
theorem oqW_6 (w : World) : Blk (oqW w) (w.heap.size + 1 + 1 + 1 + 1 + 1 + 1) 3 [.int .i64 9, .int .i64 10] := by
 have h := Blk.alloc (oq5 w) 3 [.int .i64 9, .int .i64 10]
 rw [oq5_size] at h
 have h7 : Blk (oq7 w) (w.heap.size + 1 + 1 + 1 + 1 + 1 + 1) 3 [.int .i64 9, .int .i64 10] := h.alloc_other _
 have h8 : Blk (oq8 w) (w.heap.size + 1 + 1 + 1 + 1 + 1 + 1) 3 [.int .i64 9, .int .i64 10] := h7.alloc_other _
 exact h8.alloc_other _
theorem oqW_7 (w : World) : Blk (oqW w) (w.heap.size + 1 + 1 + 1 + 1 + 1 + 1 + 1) 3 [.int .i64 1, .int .i64 2] := by
 have h := Blk.alloc (oq6 w) 3 [.int .i64 1, .int .i64 2]
 rw [oq6_size] at h
 have h8 : Blk (oq8 w) (w.heap.size + 1 + 1 + 1 + 1 + 1 + 1 + 1) 3 [.int .i64 1, .int .i64 2] := h.alloc_other _
 exact h8.alloc_other _
theorem oqW_8 (w : World) : Blk (oqW w) (w.heap.size + 1 + 1 + 1 + 1 + 1 + 1 + 1 + 1) 3 [.int .i64 3, .int .i64 4, .int .i64 5] := by
 have h := Blk.alloc (oq7 w) 3 [.int .i64 3, .int .i64 4, .int .i64 5]
 rw [oq7_size] at h
 exact h.alloc_other _
set_option maxHeartbeats 2000000 in
theorem Levels_raw (w : World) : Calls Tryz.prog 79 #[] w fun e w' => e = .returned (.slice (some ⟨w.heap.size + 1 + 1 + 1 + 1 + 1 + 1 + 1 + 1 + 1, 0, none⟩) 9 9) ∧ w' = lvW w := by
 go_enter Tryz.func79, Tryz.ntmps79
 go_wp2
 go_ret
 exact ⟨rfl, rfl⟩
theorem Levels_any (w : World) : Calls Tryz.prog 79 #[] w fun e w' => ∃ g : Nat, e = .returned (.slice (some ⟨g, 0, none⟩) 9 9) ∧ Below w.heap.size w w' ∧ g < w'.heap.size ∧ ∀ l, l < 9 → ∃ b : Nat, w'.cell? ⟨g, l, none⟩ = some (.slice (some ⟨b, 0, none⟩) (levelOps l).length (levelOps l).length) ∧ b < w'.heap.size ∧ ∀ k, k < (levelOps l).length → w'.cell? ⟨b, k, none⟩ = some (.string (str (opT l k))) := by
 refine (Levels_raw w).mono ?_
 rintro e w' ⟨rfl, rfl⟩
 refine ⟨_, rfl, lvW_below w, (lvW_outer w).lt, fun l hl => ?_⟩
 rcases (show l = 0 ∨ l = 1 ∨ l = 2 ∨ l = 3 ∨ l = 4 ∨ l = 5 ∨ l = 6 ∨ l = 7 ∨ l = 8 by omega) with rfl | rfl | rfl | rfl | rfl | rfl | rfl | rfl | rfl
 ·refine ⟨_, (lvW_outer w).cell 0, (lvW_0 w).lt, fun k hk => ?_⟩
  have hk2 : k < 1 := hk
  obtain rfl : k = 0 := by omega
  exact (lvW_0 w).cell 0
 ·refine ⟨_, (lvW_outer w).cell 1, (lvW_1 w).lt, fun k hk => ?_⟩
  have hk2 : k < 1 := hk
  obtain rfl : k = 0 := by omega
  exact (lvW_1 w).cell 0
 ·refine ⟨_, (lvW_outer w).cell 2, (lvW_2 w).lt, fun k hk => ?_⟩
  have hk2 : k < 6 := hk
  rcases (show k = 0 ∨ k = 1 ∨ k = 2 ∨ k = 3 ∨ k = 4 ∨ k = 5 by omega) with rfl | rfl | rfl | rfl | rfl | rfl
  ·exact (lvW_2 w).cell 0
  ·exact (lvW_2 w).cell 1
  ·exact (lvW_2 w).cell 2
  ·exact (lvW_2 w).cell 3
  ·exact (lvW_2 w).cell 4
  ·exact (lvW_2 w).cell 5
 ·refine ⟨_, (lvW_outer w).cell 3, (lvW_3 w).lt, fun k hk => ?_⟩
  have hk2 : k < 1 := hk
  obtain rfl : k = 0 := by omega
  exact (lvW_3 w).cell 0
 ·refine ⟨_, (lvW_outer w).cell 4, (lvW_4 w).lt, fun k hk => ?_⟩
  have hk2 : k < 1 := hk
  obtain rfl : k = 0 := by omega
  exact (lvW_4 w).cell 0
 ·refine ⟨_, (lvW_outer w).cell 5, (lvW_5 w).lt, fun k hk => ?_⟩
  have hk2 : k < 1 := hk
  obtain rfl : k = 0 := by omega
  exact (lvW_5 w).cell 0
 ·refine ⟨_, (lvW_outer w).cell 6, (lvW_6 w).lt, fun k hk => ?_⟩
  have hk2 : k < 2 := hk
  rcases (show k = 0 ∨ k = 1 by omega) with rfl | rfl
  ·exact (lvW_6 w).cell 0
  ·exact (lvW_6 w).cell 1
 ·refine ⟨_, (lvW_outer w).cell 7, (lvW_7 w).lt, fun k hk => ?_⟩
  have hk2 : k < 2 := hk
  rcases (show k = 0 ∨ k = 1 by omega) with rfl | rfl
  ·exact (lvW_7 w).cell 0
  ·exact (lvW_7 w).cell 1
 ·refine ⟨_, (lvW_outer w).cell 8, (lvW_8 w).lt, fun k hk => ?_⟩
  have hk2 : k < 3 := hk
  rcases (show k = 0 ∨ k = 1 ∨ k = 2 by omega) with rfl | rfl | rfl
  ·exact (lvW_8 w).cell 0
  ·exact (lvW_8 w).cell 1
  ·exact (lvW_8 w).cell 2
set_option maxHeartbeats 2000000 in
theorem Ops_raw (w : World) : Calls Tryz.prog 78 #[] w fun e w' => e = .returned (.slice (some ⟨w.heap.size + 1 + 1 + 1 + 1 + 1 + 1 + 1 + 1 + 1, 0, none⟩) 9 9) ∧ w' = oqW w := by
 go_enter Tryz.func78, Tryz.ntmps78
 go_wp2
 go_ret
 exact ⟨rfl, rfl⟩
theorem Ops_any (w : World) : Calls Tryz.prog 78 #[] w fun e w' => ∃ g : Nat, e = .returned (.slice (some ⟨g, 0, none⟩) 9 9) ∧ Below w.heap.size w w' ∧ g < w'.heap.size ∧ ∀ l, l < 9 → ∃ b : Nat, w'.cell? ⟨g, l, none⟩ = some (.slice (some ⟨b, 0, none⟩) (levelOps l).length (levelOps l).length) ∧ b < w'.heap.size ∧ ∀ k, k < (levelOps l).length → w'.cell? ⟨b, k, none⟩ = some (.int .i64 (opN l k : Int)) := by
 refine (Ops_raw w).mono ?_
 rintro e w' ⟨rfl, rfl⟩
 refine ⟨_, rfl, oqW_below w, (oqW_outer w).lt, fun l hl => ?_⟩
 rcases (show l = 0 ∨ l = 1 ∨ l = 2 ∨ l = 3 ∨ l = 4 ∨ l = 5 ∨ l = 6 ∨ l = 7 ∨ l = 8 by omega) with rfl | rfl | rfl | rfl | rfl | rfl | rfl | rfl | rfl
 ·refine ⟨_, (oqW_outer w).cell 0, (oqW_0 w).lt, fun k hk => ?_⟩
  have hk2 : k < 1 := hk
  obtain rfl : k = 0 := by omega
  exact (oqW_0 w).cell 0
 ·refine ⟨_, (oqW_outer w).cell 1, (oqW_1 w).lt, fun k hk => ?_⟩
  have hk2 : k < 1 := hk
  obtain rfl : k = 0 := by omega
  exact (oqW_1 w).cell 0
 ·refine ⟨_, (oqW_outer w).cell 2, (oqW_2 w).lt, fun k hk => ?_⟩
  have hk2 : k < 6 := hk
  rcases (show k = 0 ∨ k = 1 ∨ k = 2 ∨ k = 3 ∨ k = 4 ∨ k = 5 by omega) with rfl | rfl | rfl | rfl | rfl | rfl
  ·exact (oqW_2 w).cell 0
  ·exact (oqW_2 w).cell 1
  ·exact (oqW_2 w).cell 2
  ·exact (oqW_2 w).cell 3
  ·exact (oqW_2 w).cell 4
  ·exact (oqW_2 w).cell 5
 ·refine ⟨_, (oqW_outer w).cell 3, (oqW_3 w).lt, fun k hk => ?_⟩
  have hk2 : k < 1 := hk
  obtain rfl : k = 0 := by omega
  exact (oqW_3 w).cell 0
 ·refine ⟨_, (oqW_outer w).cell 4, (oqW_4 w).lt, fun k hk => ?_⟩
  have hk2 : k < 1 := hk
  obtain rfl : k = 0 := by omega
  exact (oqW_4 w).cell 0
 ·refine ⟨_, (oqW_outer w).cell 5, (oqW_5 w).lt, fun k hk => ?_⟩
  have hk2 : k < 1 := hk
  obtain rfl : k = 0 := by omega
  exact (oqW_5 w).cell 0
 ·refine ⟨_, (oqW_outer w).cell 6, (oqW_6 w).lt, fun k hk => ?_⟩
  have hk2 : k < 2 := hk
  rcases (show k = 0 ∨ k = 1 by omega) with rfl | rfl
  ·exact (oqW_6 w).cell 0
  ·exact (oqW_6 w).cell 1
 ·refine ⟨_, (oqW_outer w).cell 7, (oqW_7 w).lt, fun k hk => ?_⟩
  have hk2 : k < 2 := hk
  rcases (show k = 0 ∨ k = 1 by omega) with rfl | rfl
  ·exact (oqW_7 w).cell 0
  ·exact (oqW_7 w).cell 1
 ·refine ⟨_, (oqW_outer w).cell 8, (oqW_8 w).lt, fun k hk => ?_⟩
  have hk2 : k < 3 := hk
  rcases (show k = 0 ∨ k = 1 ∨ k = 2 by omega) with rfl | rfl | rfl
  ·exact (oqW_8 w).cell 0
  ·exact (oqW_8 w).cell 1
  ·exact (oqW_8 w).cell 2
end Q
end Go.Proofs.YtkliclihpobmiaaGreatDoor
