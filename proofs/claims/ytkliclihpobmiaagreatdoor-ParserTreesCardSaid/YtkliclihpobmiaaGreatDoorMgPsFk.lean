/- All rules of expressions: the contract of expr. -/
import Derived.Test.YtkliclihpobmiaaGreatDoorMgPsBi
import Derived.Deep.AppendLies
import Derived.Deep.RegionLaw
namespace Go.Proofs.YtkliclihpobmiaaGreatDoor
open Go Go.RowKit
set_option linter.unusedVariables false

theorem ec_all {ts : List Tok} {R g c : Nat} (X : Ctx ts R g c) : ∀ f f1, f1 ≤ f → EC ts R g c f1 := by
 intro f
 induction f with
 | zero =>
  intro f1 h1
  obtain rfl : f1 = 0 := by omega
  exact ⟨fun s w _ h => by omega, fun l s w hl _ h => by omega, fun s w _ h => by omega, fun s w _ h => by omega, fun s w _ h => by omega, fun s w _ h => by omega⟩
 | succ f ih =>
  intro f1 h1
  by_cases hle : f1 ≤ f
  ·exact ih f1 hle
  ·obtain rfl : f1 = f + 1 := by omega
   have H := ih f (Nat.le_refl _)
   exact ⟨fun s w hR h => expr_step X f H s w hR h, fun l s w hl hR h => binary_step X f ih l hl s w hR h, fun s w hR h => cast_step X f H s w hR h, fun s w hR h => unary_step X f H s w hR h, fun s w hR h => primary_step X f H s w hR h, fun s w hR h => use_step X f H s w hR h⟩
theorem rem_le {ts : List Tok} {s : Sg} : rem ts s ≤ ts.length := by
 unfold rem
 split
 ·omega
 ·omega
theorem xpr_any {ts : List Tok} {R g c : Nat} (X : Ctx ts R g c) (s : Sg) (w : World) (hR : Rd w R g c ts s) : Calls Tryz.prog 176 #[.pointer (some ⟨R, 0, none⟩)] w (TP w R g c ts (xpr ts s)) := by
 have h := (ec_all X (big ts) (big ts) (Nat.le_refl _)).ex s w hR (by have := rem_le (ts := ts) (s := s); unfold big; omega)
 unfold xpr
 exact h
theorem exc_has {ts : List Tok} {s : Sg} {t : List UInt8} (h : hasT ts s t = true) : exc ts s t = adv s := by unfold exc; rw [if_pos h]
end Go.Proofs.YtkliclihpobmiaaGreatDoor
/- A frame whose first local node owns its Kids, to which nodes are appended. -/
namespace Go.Proofs.YtkliclihpobmiaaGreatDoor
open Go Go.RowKit
set_option linter.unusedVariables false

structure FK (w0 w : World) (R g c : Nat) (ts : List Tok) (s : Sg) (Ls : List (Nat × List Value)) (base : Nat) (v : Value) (ks : List Tree) : Prop where
 fr : Fr w0 w R g c ts s Ls []
 kd : Kids w base v ks
 hb : ∀ L cs, (L, cs) ∈ Ls → L < base
 hw : base ≤ w.heap.size
 hw0 : w0.heap.size ≤ base
 few : ks.length ≤ 100000
section
variable {w0 w : World} {R g c : Nat} {ts : List Tok} {s : Sg} {Ls : List (Nat × List Value)} {base : Nat} {v : Value} {ks : List Tree}
theorem FK.hR (F : FK w0 w R g c ts s Ls base v ks) : R < base := Nat.lt_of_lt_of_le F.fr.hR F.hw0
theorem FK.shape (F : FK w0 w R g c ts s Ls base v ks) : ∃ x k, v = .slice x ks.length k := F.kd.shape
theorem FK.call (F : FK w0 w R g c ts s Ls base v ks) {w' : World} {s' : Sg} (hr : Rd w' R g c ts s') (hs : St w w' R) : FK w0 w' R g c ts s' Ls base v ks :=
 ⟨F.fr.call hr hs, St.kids hs F.kd F.hR, F.hb, Nat.le_trans F.hw (St.size hs), F.hw0, F.few⟩
theorem FK.quiet (F : FK w0 w R g c ts s Ls base v ks) (hg : g < R) {w' : World} (hb : Below w.heap.size w w') : FK w0 w' R g c ts s Ls base v ks := F.call (F.fr.rd.below hg hb F.fr.rd.lt) (St.of_below hb)
theorem FK.drewN (F : FK w0 w R g c ts s Ls base v ks) (n : Nat) : FK w0 (w.drewN n) R g c ts s Ls base v ks := F.call (F.fr.rd.drewN n) ((St.refl w R).drewN n)
theorem FK.drew (F : FK w0 w R g c ts s Ls base v ks) : FK w0 w.drew R g c ts s Ls base v ks := F.drewN 1
theorem FK.tree (F : FK w0 w R g c ts s Ls base v ks) (l : Lab) : Fr w0 w R g c ts s Ls [(lcells l v, .node l ks)] := by
 refine ⟨F.fr.rd, F.fr.st, F.fr.bl, fun xs t h => ?_, F.fr.hR, F.fr.nd⟩
 simp at h
 obtain ⟨rfl, rfl⟩ := h
 exact (F.kd.tree l).mono fun k hk _ => ⟨Nat.le_trans F.hw0 hk, fun L ys hL => by have := F.hb L ys hL; omega⟩
theorem FK.set0 {L : Nat} {cs : List Value} (F : FK w0 w R g c ts s ((L, cs) :: Ls) base v ks) (hg : g < R) (i : Nat) (u : Value) (cs' : List Value) (h : cs' = cs.set i u) : FK w0 (w.setCell ⟨L, i, none⟩ u) R g c ts s ((L, cs') :: Ls) base v ks := by
 have hL := F.hb L cs (by simp)
 refine ⟨F.fr.set0 hg i u cs' h, F.kd.keep fun k hk _ => Below.heap_setCell _ _ _ _ (by show k ≠ L; omega), fun M xs hm => ?_, by rw [size_setCell]; exact F.hw, F.hw0, F.few⟩
 rcases List.mem_cons.1 hm with hm | hm
 ·injection hm with h1 h2
  omega
 ·exact F.hb M xs (by simp [hm])
theorem Fr.fk (F : Fr w0 w R g c ts s Ls []) : FK w0 w R g c ts s Ls w.heap.size (.slice none 0 0) [] :=
 ⟨F, kids_nil _ _, fun L cs h => F.lt h, Nat.le_refl _, F.size, by simp⟩
theorem Fr.fkL (F : Fr w0 w R g c ts s Ls []) {w' : World} {s' : Sg} {u : Value} {us : List Tree} (hk : Kids w' w.heap.size u us) (hr : Rd w' R g c ts s') (hs : St w w' R) (hf : us.length ≤ 100000) : FK w0 w' R g c ts s' Ls w.heap.size u us :=
 ⟨F.call hr hs, hk, fun L cs h => F.lt h, St.size hs, F.size, hf⟩
structure FT (w0 wa w : World) (R g c : Nat) (ts : List Tok) (s : Sg) (Ls : List (Nat × List Value)) (base : Nat) (v : Value) (ks : List Tree) (cs : List Value) (t : Tree) : Prop where
 fr : Fr w0 w R g c ts s Ls []
 kd : Kids wa base v ks
 st : St wa w R
 ht : TreeAt w (wa.heap.size ≤ ·) cs t
 hb : ∀ L cs, (L, cs) ∈ Ls → L < base
 hw : base ≤ wa.heap.size
 hw0 : w0.heap.size ≤ base
 few : ks.length ≤ 99999
theorem FK.callT (F : FK w0 w R g c ts s Ls base v ks) (hf : ks.length ≤ 99999) {w' : World} {s' : Sg} {cs : List Value} {t : Tree} (ht : TreeAt w' (w.heap.size ≤ ·) cs t) (hr : Rd w' R g c ts s') (hs : St w w' R) : FT w0 w w' R g c ts s' Ls base v ks cs t :=
 ⟨F.fr.call hr hs, F.kd, hs, ht, F.hb, F.hw, F.hw0, hf⟩
theorem fk_append {P : Program} {ops : Array Oper} {o : Oper} {a : Act} {K : Act → World → Prop} {Q : Exit → Act → World → Prop} {E : Prop} {wa : World} {cs : List Value} {t : Tree} (T : FT w0 wa w R g c ts s Ls base v ks cs t) (hg : g < R) (hgd : o.guard = none) (sl x : Operand) (ty : TypeId)
  (ho : o.op = .call { callee := .builtin .append, args := #[sl, x], argTypes := #[ty, ty] }) (hty : P.underlying ty = some (.slice 28))
  (hinfo : (P.info? 28).map (fun i => (i.zero, i.size, i.bytes)) = some (some (.agg #[.int .i64 0, .string ⟨#[]⟩, .int .u64 0, .int .i64 0, .bool false, .int .i64 0, .int .i64 0, .int .i64 0, .int .i64 0, .int .i64 0, .slice none 0 0]), 11, 112))
  (hs : a.eval sl = v) (hx : a.eval x = .slice (some ⟨w.heap.size, 0, none⟩) 1 1)
  (h : ∀ (g3 c3 : Nat) (w' : World), FK w0 w' R g c ts s Ls base (.slice (some ⟨g3, 0, none⟩) (ks.length + 1) c3) (ks ++ [t]) → K (a.put o.dst (.slice (some ⟨g3, 0, none⟩) (ks.length + 1) c3)) w') :
  if Region.wanted o (yielded ops a.tmps) = true then Oper.wp P o a (w.alloc (.cells cs.toArray 28)) K Q else E := by
 obtain ⟨C, o1, o2⟩ := T.kd
 have hR := Nat.lt_of_lt_of_le T.fr.hR T.hw0
 have o5 : w.ownsRow base 28 11 v ks.length (flat C ks.length) := o1.kept T.st (by
  right
  intro e
  have := (o1.lt R e).1
  omega)
 have hown := o5.alloc (.cells cs.toArray 28)
 have hsz := St.size T.st
 have hl := T.ht.length
 have hw := T.hw
 have hf := T.few
 obtain ⟨i0, hi0, hz0, hz1, hz2⟩ := info_parts hinfo
 have hza : (w.alloc (.cells cs.toArray 28)).heap.size = w.heap.size + 1 := by simp
 refine step_append_lies (w := w.alloc (.cells cs.toArray 28)) hgd sl x ty ho base 28 i0 _ 11 112 hty hi0 hz0 hz1 hz2 (by rfl) (by decide) v ks.length (flat C ks.length) hs hown ⟨w.heap.size, 0, none⟩ 1 1 cs hx (by omega)
  (World.news_of_block (cs := cs.toArray) (t := 28) (fr := (0, 0)) (heap_alloc_new w _)) ?_ (by decide) (by unfold maxLen; omega) (by omega) (by omega) (w.heap.size + 1) hza ?_
 ·obtain ⟨l, xx, n, k, rfl⟩ := T.ht.form
  intro z hz
  simp at hz
  rcases hz with rfl | rfl | rfl | rfl | rfl | rfl | rfl | rfl | rfl | rfl | rfl <;> rfl
 ·intro g3 c3 w6 ho3 hg3 hat3 hlt3
  have hgo : ∀ k, v.ownBlock = some k → base ≤ k ∧ k < wa.heap.size := fun k hk => o1.lt k hk
  have hFa := T.fr.alloc hg (.cells cs.toArray 28)
  have hst6 : St w0 w6 R := St.own hFa.st hg3 fun k hk => by have := (hgo k hk).1; have := T.hw0; omega
  refine h g3 c3 w6 ⟨⟨hFa.rd.own hg hg3 fun k hk => by have := (hgo k hk).1; omega, hst6, fun L xs hL => ?_, fun xs u hu => by simp at hu, T.fr.hR, T.fr.nd⟩, ?_, T.hb, ?_, T.hw0, by rw [List.length_append]; simp; omega⟩
  ·have h1 := hFa.bl L xs hL
   refine ⟨(hg3.block L h1.1.lt (fun e => ?_)).trans h1.1, h1.2⟩
   have := (hgo L e.symm).1
   have := T.hb L xs hL
   omega
  ·refine kids_push (w0 := wa) (C := C) (w := w.alloc (.cells cs.toArray 28)) o1 o2 (fun k hk hlt => ?_) (by omega) hw (T.ht.keep (fun k _ hk => Below.heap_alloc w _ k hk) fun k hk _ => hk) hg3 ?_ ho3
   ·exact (Below.heap_alloc w _ k (by omega)).trans (World.grownBy.block T.st k hlt (fun e => by injection e with e; omega))
   ·rcases hat3 with hl2 | hl2
    ·exact .inl hl2
    ·exact .inr (by omega)
  ·have := hg3.size
   omega
structure FB (w0 w : World) (R g c : Nat) (ts : List Tok) (s : Sg) (Ls : List (Nat × List Value)) (base : Nat) (Tb : List (List Value × Tree)) : Prop where
 fr : Fr w0 w R g c ts s Ls []
 tb : ∀ cs t, (cs, t) ∈ Tb → TreeAt w (base ≤ ·) cs t
 hb : ∀ L cs, (L, cs) ∈ Ls → L < base
 hw : base ≤ w.heap.size
 hw0 : w0.heap.size ≤ base
theorem Fr.fb (F : Fr w0 w R g c ts s Ls []) : FB w0 w R g c ts s Ls w.heap.size [] := ⟨F, fun cs t h => by simp at h, fun L cs h => F.lt h, Nat.le_refl _, F.size⟩
section
variable {Tb : List (List Value × Tree)}
theorem FB.call (F : FB w0 w R g c ts s Ls base Tb) {w' : World} {s' : Sg} (hr : Rd w' R g c ts s') (hs : St w w' R) : FB w0 w' R g c ts s' Ls base Tb :=
 ⟨F.fr.call hr hs, fun cs t h => (F.tb cs t h).keep (fun k hk hl => World.grownBy.block hs k hl (fun e => by injection e with e; have := F.fr.hR; have := F.hw0; omega)) fun _ hk _ => hk, F.hb, Nat.le_trans F.hw (St.size hs), F.hw0⟩
theorem FB.tree (F : FB w0 w R g c ts s Ls base Tb) {w' : World} {s' : Sg} {cs : List Value} {t : Tree} (ht : TreeAt w' (w.heap.size ≤ ·) cs t) (hr : Rd w' R g c ts s') (hs : St w w' R) : FB w0 w' R g c ts s' Ls base ((cs, t) :: Tb) := by
 have F1 := F.call hr hs
 refine ⟨F1.fr, fun xs u h => ?_, F1.hb, F1.hw, F1.hw0⟩
 rcases List.mem_cons.1 h with h | h
 ·injection h with h1 h2
  subst h1 h2
  exact ht.mono fun q hq _ => Nat.le_trans F.hw hq
 ·exact F1.tb xs u h
theorem FB.set0 {L : Nat} {cs : List Value} (F : FB w0 w R g c ts s ((L, cs) :: Ls) base Tb) (hg : g < R) (i : Nat) (u : Value) (cs' : List Value) (h : cs' = cs.set i u) : FB w0 (w.setCell ⟨L, i, none⟩ u) R g c ts s ((L, cs') :: Ls) base Tb := by
 have hL := F.hb L cs (by simp)
 refine ⟨F.fr.set0 hg i u cs' h, fun xs t ht => (F.tb xs t ht).keep (fun k hk _ => Below.heap_setCell _ _ _ _ (by show k ≠ L; omega)) fun _ hk _ => hk, fun M xs hm => ?_, by rw [size_setCell]; exact F.hw, F.hw0⟩
 rcases List.mem_cons.1 hm with hm | hm
 ·injection hm with h1 h2
  omega
 ·exact F.hb M xs (by simp [hm])
theorem FB.two (F : FB w0 w R g c ts s Ls base Tb) (hg : g < R) {c1 c2 : List Value} {t1 t2 : Tree} (h1 : (c1, t1) ∈ Tb) (h2 : (c2, t2) ∈ Tb) (cs : List Value) (hcs : cs = c1 ++ c2) (H : Nat) (hH : w.heap.size = H) : FK w0 (w.alloc (.cells cs.toArray 28)) R g c ts s Ls base (.slice (some ⟨H, 0, none⟩) 2 2) [t1, t2] := by
 subst hH
 have T1 := F.tb _ _ h1
 have T2 := F.tb _ _ h2
 have hl1 := T1.length
 have hl2 := T2.length
 refine ⟨F.fr.alloc hg _, ⟨fun i => if i = 0 then c1 else c2, ?_, fun i hi => ?_⟩, F.hb, Nat.le_trans F.hw (by simp), F.hw0, by simp⟩
 ·have := World.ownsRow_lit (base := base) (e := 28) (size := 11) w cs.toArray 2 F.hw (by unfold maxLen; omega) (by rw [hcs]; simp; omega)
  have e : flat (fun i => if i = 0 then c1 else c2) 2 = cs := by rw [hcs]; simp [flat, List.range_succ]
  show (w.alloc _).ownsRow base 28 11 _ 2 (flat _ 2)
  rw [e]
  exact this
 ·have hk : ∀ {xs t}, TreeAt w (base ≤ ·) xs t → TreeAt (w.alloc (.cells cs.toArray 28)) (fun k => base ≤ k ∧ some k ≠ (Value.slice (some ⟨w.heap.size, 0, none⟩) 2 2).ownBlock) xs t := fun h => h.keep (fun g _ hg => Below.heap_alloc w _ g hg) fun k hk hlt => ⟨hk, fun e => by injection e with e; have : k = w.heap.size := e; omega⟩
  simp at hi
  match i, hi with
  | 0, _ => exact hk T1
  | 1, _ => exact hk T2
end
end
theorem FK.s0 {w0 w : World} {R g c : Nat} {ts : List Tok} {s : Sg} {Ls : List (Nat × List Value)} {base : Nat} {u : Value} {ks : List Tree} {L : Nat} {x0 x1 x2 x3 x4 x5 x6 x7 x8 x9 x10 : Value} (F : FK w0 w R g c ts s ((L, [x0, x1, x2, x3, x4, x5, x6, x7, x8, x9, x10]) :: Ls) base u ks) (hg : g < R) (v : Value) : FK w0 (w.setCell ⟨L, 0, none⟩ v) R g c ts s ((L, [v, x1, x2, x3, x4, x5, x6, x7, x8, x9, x10]) :: Ls) base u ks := F.set0 hg 0 v _ rfl
theorem FK.s1 {w0 w : World} {R g c : Nat} {ts : List Tok} {s : Sg} {Ls : List (Nat × List Value)} {base : Nat} {u : Value} {ks : List Tree} {L : Nat} {x0 x1 x2 x3 x4 x5 x6 x7 x8 x9 x10 : Value} (F : FK w0 w R g c ts s ((L, [x0, x1, x2, x3, x4, x5, x6, x7, x8, x9, x10]) :: Ls) base u ks) (hg : g < R) (v : Value) : FK w0 (w.setCell ⟨L, 1, none⟩ v) R g c ts s ((L, [x0, v, x2, x3, x4, x5, x6, x7, x8, x9, x10]) :: Ls) base u ks := F.set0 hg 1 v _ rfl
theorem FK.s2 {w0 w : World} {R g c : Nat} {ts : List Tok} {s : Sg} {Ls : List (Nat × List Value)} {base : Nat} {u : Value} {ks : List Tree} {L : Nat} {x0 x1 x2 x3 x4 x5 x6 x7 x8 x9 x10 : Value} (F : FK w0 w R g c ts s ((L, [x0, x1, x2, x3, x4, x5, x6, x7, x8, x9, x10]) :: Ls) base u ks) (hg : g < R) (v : Value) : FK w0 (w.setCell ⟨L, 2, none⟩ v) R g c ts s ((L, [x0, x1, v, x3, x4, x5, x6, x7, x8, x9, x10]) :: Ls) base u ks := F.set0 hg 2 v _ rfl
theorem FK.s3 {w0 w : World} {R g c : Nat} {ts : List Tok} {s : Sg} {Ls : List (Nat × List Value)} {base : Nat} {u : Value} {ks : List Tree} {L : Nat} {x0 x1 x2 x3 x4 x5 x6 x7 x8 x9 x10 : Value} (F : FK w0 w R g c ts s ((L, [x0, x1, x2, x3, x4, x5, x6, x7, x8, x9, x10]) :: Ls) base u ks) (hg : g < R) (v : Value) : FK w0 (w.setCell ⟨L, 3, none⟩ v) R g c ts s ((L, [x0, x1, x2, v, x4, x5, x6, x7, x8, x9, x10]) :: Ls) base u ks := F.set0 hg 3 v _ rfl
theorem FK.s4 {w0 w : World} {R g c : Nat} {ts : List Tok} {s : Sg} {Ls : List (Nat × List Value)} {base : Nat} {u : Value} {ks : List Tree} {L : Nat} {x0 x1 x2 x3 x4 x5 x6 x7 x8 x9 x10 : Value} (F : FK w0 w R g c ts s ((L, [x0, x1, x2, x3, x4, x5, x6, x7, x8, x9, x10]) :: Ls) base u ks) (hg : g < R) (v : Value) : FK w0 (w.setCell ⟨L, 4, none⟩ v) R g c ts s ((L, [x0, x1, x2, x3, v, x5, x6, x7, x8, x9, x10]) :: Ls) base u ks := F.set0 hg 4 v _ rfl
theorem FK.s5 {w0 w : World} {R g c : Nat} {ts : List Tok} {s : Sg} {Ls : List (Nat × List Value)} {base : Nat} {u : Value} {ks : List Tree} {L : Nat} {x0 x1 x2 x3 x4 x5 x6 x7 x8 x9 x10 : Value} (F : FK w0 w R g c ts s ((L, [x0, x1, x2, x3, x4, x5, x6, x7, x8, x9, x10]) :: Ls) base u ks) (hg : g < R) (v : Value) : FK w0 (w.setCell ⟨L, 5, none⟩ v) R g c ts s ((L, [x0, x1, x2, x3, x4, v, x6, x7, x8, x9, x10]) :: Ls) base u ks := F.set0 hg 5 v _ rfl
theorem FK.s6 {w0 w : World} {R g c : Nat} {ts : List Tok} {s : Sg} {Ls : List (Nat × List Value)} {base : Nat} {u : Value} {ks : List Tree} {L : Nat} {x0 x1 x2 x3 x4 x5 x6 x7 x8 x9 x10 : Value} (F : FK w0 w R g c ts s ((L, [x0, x1, x2, x3, x4, x5, x6, x7, x8, x9, x10]) :: Ls) base u ks) (hg : g < R) (v : Value) : FK w0 (w.setCell ⟨L, 6, none⟩ v) R g c ts s ((L, [x0, x1, x2, x3, x4, x5, v, x7, x8, x9, x10]) :: Ls) base u ks := F.set0 hg 6 v _ rfl
theorem FK.s7 {w0 w : World} {R g c : Nat} {ts : List Tok} {s : Sg} {Ls : List (Nat × List Value)} {base : Nat} {u : Value} {ks : List Tree} {L : Nat} {x0 x1 x2 x3 x4 x5 x6 x7 x8 x9 x10 : Value} (F : FK w0 w R g c ts s ((L, [x0, x1, x2, x3, x4, x5, x6, x7, x8, x9, x10]) :: Ls) base u ks) (hg : g < R) (v : Value) : FK w0 (w.setCell ⟨L, 7, none⟩ v) R g c ts s ((L, [x0, x1, x2, x3, x4, x5, x6, v, x8, x9, x10]) :: Ls) base u ks := F.set0 hg 7 v _ rfl
theorem FK.s8 {w0 w : World} {R g c : Nat} {ts : List Tok} {s : Sg} {Ls : List (Nat × List Value)} {base : Nat} {u : Value} {ks : List Tree} {L : Nat} {x0 x1 x2 x3 x4 x5 x6 x7 x8 x9 x10 : Value} (F : FK w0 w R g c ts s ((L, [x0, x1, x2, x3, x4, x5, x6, x7, x8, x9, x10]) :: Ls) base u ks) (hg : g < R) (v : Value) : FK w0 (w.setCell ⟨L, 8, none⟩ v) R g c ts s ((L, [x0, x1, x2, x3, x4, x5, x6, x7, v, x9, x10]) :: Ls) base u ks := F.set0 hg 8 v _ rfl
theorem FK.s10 {w0 w : World} {R g c : Nat} {ts : List Tok} {s : Sg} {Ls : List (Nat × List Value)} {base : Nat} {u : Value} {ks : List Tree} {L : Nat} {x0 x1 x2 x3 x4 x5 x6 x7 x8 x9 x10 : Value} (F : FK w0 w R g c ts s ((L, [x0, x1, x2, x3, x4, x5, x6, x7, x8, x9, x10]) :: Ls) base u ks) (hg : g < R) (v : Value) : FK w0 (w.setCell ⟨L, 10, none⟩ v) R g c ts s ((L, [x0, x1, x2, x3, x4, x5, x6, x7, x8, x9, v]) :: Ls) base u ks := F.set0 hg 10 v _ rfl
end Go.Proofs.YtkliclihpobmiaaGreatDoor
