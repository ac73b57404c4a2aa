/- A frame whose first local node owns its Kids, to which nodes are appended. -/
import Derived.Test.YtfnhogeocbndcaaGreatDoorMgPsSt1
import Derived.Test.YtfnhogeocbndcaaGreatDoorMgPsLsExpr
import Derived.Deep.AppendLies
import Derived.Deep.RegionLaw
namespace Go.Proofs.YtfnhogeocbndcaaGreatDoor
open Go Go.RowKit
set_option linter.unusedVariables false

/-- A frame, and a list of nodes that the walk owns: above all local nodes. -/
structure FK (w0 w : World) (R g c : Nat) (ts : List Tok) (s : Sg) (Ls : List (Nat × List Value)) (base : Nat) (v : Value) (ks : List Tree) : Prop where
  fr : Fr w0 w R g c ts s Ls []
  kd : Kids w base v ks
  hb : ∀ L cs, (L, cs) ∈ Ls → L < base
  hw : base ≤ w.heap.size
  hw0 : w0.heap.size ≤ base
  few : ks.length ≤ 100000
section
variable {w0 w : World} {R g c : Nat} {ts : List Tok} {s : Sg} {Ls : List (Nat × List Value)} {base : Nat} {v : Value} {ks : List Tree}
theorem FK.hR (F : FK w0 w R g c ts s Ls base v ks) : R < base := Nat.lt_of_lt_of_le F.fr.hR F.hw0
theorem FK.shape (F : FK w0 w R g c ts s Ls base v ks) : ∃ x k, v = .slice x ks.length k := F.kd.shape
theorem FK.call (F : FK w0 w R g c ts s Ls base v ks) {w' : World} {s' : Sg} (hr : Rd w' R g c ts s') (hs : St w w' R) : FK w0 w' R g c ts s' Ls base v ks :=
  ⟨F.fr.call hr hs, St.kids hs F.kd F.hR, F.hb, Nat.le_trans F.hw (St.size hs), F.hw0, F.few⟩
theorem FK.quiet (F : FK w0 w R g c ts s Ls base v ks) (hg : g < R) {w' : World} (hb : Below w.heap.size w w') : FK w0 w' R g c ts s Ls base v ks := F.call (F.fr.rd.below hg hb F.fr.rd.lt) (St.of_below hb)
theorem FK.drewN (F : FK w0 w R g c ts s Ls base v ks) (n : Nat) : FK w0 (w.drewN n) R g c ts s Ls base v ks := F.call (F.fr.rd.drewN n) ((St.refl w R).drewN n)
theorem FK.drew (F : FK w0 w R g c ts s Ls base v ks) : FK w0 w.drew R g c ts s Ls base v ks := F.drewN 1
/-- The list is a node's Kids. -/
theorem FK.tree (F : FK w0 w R g c ts s Ls base v ks) (l : Lab) : Fr w0 w R g c ts s Ls [(lcells l v, .node l ks)] := by
  refine ⟨F.fr.rd, F.fr.st, F.fr.bl, fun xs t h => ?_, F.fr.hR, F.fr.nd⟩
  simp at h
  obtain ⟨rfl, rfl⟩ := h
  exact (F.kd.tree l).mono fun k hk _ => ⟨Nat.le_trans F.hw0 hk, fun L ys hL => by have := F.hb L ys hL; omega⟩
/-- A field of the first local node is stored. -/
theorem FK.set0 {L : Nat} {cs : List Value} (F : FK w0 w R g c ts s ((L, cs) :: Ls) base v ks) (hg : g < R) (i : Nat) (u : Value) (cs' : List Value) (h : cs' = cs.set i u) : FK w0 (w.setCell ⟨L, i, none⟩ u) R g c ts s ((L, cs') :: Ls) base v ks := by
  have hL := F.hb L cs (by simp)
  refine ⟨F.fr.set0 hg i u cs' h, F.kd.keep fun k hk _ => Below.heap_setCell _ _ _ _ (by show k ≠ L; omega), fun M xs hm => ?_, by rw [size_setCell]; exact F.hw, F.hw0, F.few⟩
  rcases List.mem_cons.1 hm with hm | hm
  · injection hm with h1 h2
    omega
  · exact F.hb M xs (by simp [hm])
/-- No nodes yet. -/
theorem Fr.fk (F : Fr w0 w R g c ts s Ls []) : FK w0 w R g c ts s Ls w.heap.size (.slice none 0 0) [] :=
  ⟨F, kids_nil _ _, fun L cs h => F.lt h, Nat.le_refl _, F.size, by simp⟩
/-- The list that the rule for lists has made. -/
theorem Fr.fkL (F : Fr w0 w R g c ts s Ls []) {w' : World} {s' : Sg} {u : Value} {us : List Tree} (hk : Kids w' w.heap.size u us) (hr : Rd w' R g c ts s') (hs : St w w' R) (hf : us.length ≤ 100000) : FK w0 w' R g c ts s' Ls w.heap.size u us :=
  ⟨F.call hr hs, hk, fun L cs h => F.lt h, St.size hs, F.size, hf⟩
/-- Behind the call of the rule whose node is appended: wa, where the list lies, and w, where the new tree lies. -/
structure FT (w0 wa w : World) (R g c : Nat) (ts : List Tok) (s : Sg) (Ls : List (Nat × List Value)) (base : Nat) (v : Value) (ks : List Tree) (cs : List Value) (t : Tree) : Prop where
  fr : Fr w0 w R g c ts s Ls []
  kd : Kids wa base v ks
  st : St wa w R
  ht : TreeAt w (wa.heap.size ≤ ·) cs t
  hb : ∀ L cs, (L, cs) ∈ Ls → L < base
  hw : base ≤ wa.heap.size
  hw0 : w0.heap.size ≤ base
  few : ks.length ≤ 99999
theorem FK.callT (F : FK w0 w R g c ts s Ls base v ks) (hf : ks.length ≤ 99999) {w' : World} {s' : Sg} {cs : List Value} {t : Tree} (ht : TreeAt w' (w.heap.size ≤ ·) cs t) (hr : Rd w' R g c ts s') (hs : St w w' R) : FT w0 w w' R g c ts s' Ls base v ks cs t :=
  ⟨F.fr.call hr hs, F.kd, hs, ht, F.hb, F.hw, F.hw0, hf⟩
/-- The append inside a region that draws its order. -/
theorem fk_append {P : Program} {ops : Array Oper} {o : Oper} {a : Act} {K : Act → World → Prop} {Q : Exit → Act → World → Prop} {E : Prop} {wa : World} {cs : List Value} {t : Tree} (T : FT w0 wa w R g c ts s Ls base v ks cs t) (hg : g < R) (hgd : o.guard = none) (sl x : Operand) (ty : TypeId)
    (ho : o.op = .call { callee := .builtin .append, args := #[sl, x], argTypes := #[ty, ty] }) (hty : P.underlying ty = some (.slice 28))
    (hinfo : (P.info? 28).map (fun i => (i.zero, i.size, i.bytes)) = some (some (.agg #[.int .i64 0, .string ⟨#[]⟩, .int .u64 0, .int .i64 0, .bool false, .int .i64 0, .int .i64 0, .int .i64 0, .int .i64 0, .int .i64 0, .slice none 0 0]), 11, 112))
    (hs : a.eval sl = v) (hx : a.eval x = .slice (some ⟨w.heap.size, 0, none⟩) 1 1)
    (h : ∀ (g3 c3 : Nat) (w' : World), FK w0 w' R g c ts s Ls base (.slice (some ⟨g3, 0, none⟩) (ks.length + 1) c3) (ks ++ [t]) → K (a.put o.dst (.slice (some ⟨g3, 0, none⟩) (ks.length + 1) c3)) w') :
    if Region.wanted o (yielded ops a.tmps) = true then Oper.wp P o a (w.alloc (.cells cs.toArray 28)) K Q else E := by
  obtain ⟨C, o1, o2⟩ := T.kd
  have hR := Nat.lt_of_lt_of_le T.fr.hR T.hw0
  have o5 : w.ownsRow base 28 11 v ks.length (flat C ks.length) := o1.kept T.st (by
    right
    intro e
    have := (o1.lt R e).1
    omega)
  have hown := o5.alloc (.cells cs.toArray 28)
  have hsz := St.size T.st
  have hl := T.ht.length
  have hw := T.hw
  have hf := T.few
  obtain ⟨i0, hi0, hz0, hz1, hz2⟩ := info_parts hinfo
  have hza : (w.alloc (.cells cs.toArray 28)).heap.size = w.heap.size + 1 := by simp
  refine step_append_lies (w := w.alloc (.cells cs.toArray 28)) hgd sl x ty ho base 28 i0 _ 11 112 hty hi0 hz0 hz1 hz2 (by rfl) (by decide) v ks.length (flat C ks.length) hs hown ⟨w.heap.size, 0, none⟩ 1 1 cs hx (by omega)
    (World.news_of_block (cs := cs.toArray) (t := 28) (fr := (0, 0)) (heap_alloc_new w _)) ?_ (by decide) (by unfold maxLen; omega) (by omega) (by omega) (w.heap.size + 1) hza ?_
  · obtain ⟨l, xx, n, k, rfl⟩ := T.ht.form
    intro z hz
    simp at hz
    rcases hz with rfl | rfl | rfl | rfl | rfl | rfl | rfl | rfl | rfl | rfl | rfl <;> rfl
  · intro g3 c3 w6 ho3 hg3 hat3 hlt3
    have hgo : ∀ k, v.ownBlock = some k → base ≤ k ∧ k < wa.heap.size := fun k hk => o1.lt k hk
    have hFa := T.fr.alloc hg (.cells cs.toArray 28)
    have hst6 : St w0 w6 R := St.own hFa.st hg3 fun k hk => by have := (hgo k hk).1; have := T.hw0; omega
    refine h g3 c3 w6 ⟨⟨hFa.rd.own hg hg3 fun k hk => by have := (hgo k hk).1; omega, hst6, fun L xs hL => ?_, fun xs u hu => by simp at hu, T.fr.hR, T.fr.nd⟩, ?_, T.hb, ?_, T.hw0, by rw [List.length_append]; simp; omega⟩
    · have h1 := hFa.bl L xs hL
      refine ⟨(hg3.block L h1.1.lt (fun e => ?_)).trans h1.1, h1.2⟩
      have := (hgo L e.symm).1
      have := T.hb L xs hL
      omega
    · refine kids_push (w0 := wa) (C := C) (w := w.alloc (.cells cs.toArray 28)) o1 o2 (fun k hk hlt => ?_) (by omega) hw (T.ht.keep (fun k _ hk => Below.heap_alloc w _ k hk) fun k hk _ => hk) hg3 ?_ ho3
      · exact (Below.heap_alloc w _ k (by omega)).trans (World.grownBy.block T.st k hlt (fun e => by injection e with e; omega))
      · rcases hat3 with hl2 | hl2
        · exact .inl hl2
        · exact .inr (by omega)
    · have := hg3.size
      omega
/-- A frame with trees that lie above all local nodes. -/
structure FB (w0 w : World) (R g c : Nat) (ts : List Tok) (s : Sg) (Ls : List (Nat × List Value)) (base : Nat) (Tb : List (List Value × Tree)) : Prop where
  fr : Fr w0 w R g c ts s Ls []
  tb : ∀ cs t, (cs, t) ∈ Tb → TreeAt w (base ≤ ·) cs t
  hb : ∀ L cs, (L, cs) ∈ Ls → L < base
  hw : base ≤ w.heap.size
  hw0 : w0.heap.size ≤ base
theorem Fr.fb (F : Fr w0 w R g c ts s Ls []) : FB w0 w R g c ts s Ls w.heap.size [] := ⟨F, fun cs t h => by simp at h, fun L cs h => F.lt h, Nat.le_refl _, F.size⟩
section
variable {Tb : List (List Value × Tree)}
theorem FB.call (F : FB w0 w R g c ts s Ls base Tb) {w' : World} {s' : Sg} (hr : Rd w' R g c ts s') (hs : St w w' R) : FB w0 w' R g c ts s' Ls base Tb :=
  ⟨F.fr.call hr hs, fun cs t h => (F.tb cs t h).keep (fun k hk hl => World.grownBy.block hs k hl (fun e => by injection e with e; have := F.fr.hR; have := F.hw0; omega)) fun _ hk _ => hk, F.hb, Nat.le_trans F.hw (St.size hs), F.hw0⟩
theorem FB.tree (F : FB w0 w R g c ts s Ls base Tb) {w' : World} {s' : Sg} {cs : List Value} {t : Tree} (ht : TreeAt w' (w.heap.size ≤ ·) cs t) (hr : Rd w' R g c ts s') (hs : St w w' R) : FB w0 w' R g c ts s' Ls base ((cs, t) :: Tb) := by
  have F1 := F.call hr hs
  refine ⟨F1.fr, fun xs u h => ?_, F1.hb, F1.hw, F1.hw0⟩
  rcases List.mem_cons.1 h with h | h
  · injection h with h1 h2
    subst h1 h2
    exact ht.mono fun q hq _ => Nat.le_trans F.hw hq
  · exact F1.tb xs u h
theorem FB.set0 {L : Nat} {cs : List Value} (F : FB w0 w R g c ts s ((L, cs) :: Ls) base Tb) (hg : g < R) (i : Nat) (u : Value) (cs' : List Value) (h : cs' = cs.set i u) : FB w0 (w.setCell ⟨L, i, none⟩ u) R g c ts s ((L, cs') :: Ls) base Tb := by
  have hL := F.hb L cs (by simp)
  refine ⟨F.fr.set0 hg i u cs' h, fun xs t ht => (F.tb xs t ht).keep (fun k hk _ => Below.heap_setCell _ _ _ _ (by show k ≠ L; omega)) fun _ hk _ => hk, fun M xs hm => ?_, by rw [size_setCell]; exact F.hw, F.hw0⟩
  rcases List.mem_cons.1 hm with hm | hm
  · injection hm with h1 h2
    omega
  · exact F.hb M xs (by simp [hm])
/-- Two trees become the nodes of a list that the walk owns. -/
theorem FB.two (F : FB w0 w R g c ts s Ls base Tb) (hg : g < R) {c1 c2 : List Value} {t1 t2 : Tree} (h1 : (c1, t1) ∈ Tb) (h2 : (c2, t2) ∈ Tb) (cs : List Value) (hcs : cs = c1 ++ c2) (H : Nat) (hH : w.heap.size = H) : FK w0 (w.alloc (.cells cs.toArray 28)) R g c ts s Ls base (.slice (some ⟨H, 0, none⟩) 2 2) [t1, t2] := by
  subst hH
  have T1 := F.tb _ _ h1
  have T2 := F.tb _ _ h2
  have hl1 := T1.length
  have hl2 := T2.length
  refine ⟨F.fr.alloc hg _, ⟨fun i => if i = 0 then c1 else c2, ?_, fun i hi => ?_⟩, F.hb, Nat.le_trans F.hw (by simp), F.hw0, by simp⟩
  · have := World.ownsRow_lit (base := base) (e := 28) (size := 11) w cs.toArray 2 F.hw (by unfold maxLen; omega) (by rw [hcs]; simp; omega)
    have e : flat (fun i => if i = 0 then c1 else c2) 2 = cs := by rw [hcs]; simp [flat, List.range_succ]
    show (w.alloc _).ownsRow base 28 11 _ 2 (flat _ 2)
    rw [e]
    exact this
  · have hk : ∀ {xs t}, TreeAt w (base ≤ ·) xs t → TreeAt (w.alloc (.cells cs.toArray 28)) (fun k => base ≤ k ∧ some k ≠ (Value.slice (some ⟨w.heap.size, 0, none⟩) 2 2).ownBlock) xs t := fun h => h.keep (fun g _ hg => Below.heap_alloc w _ g hg) fun k hk hlt => ⟨hk, fun e => by injection e with e; have : k = w.heap.size := e; omega⟩
    simp at hi
    match i, hi with
    | 0, _ => exact hk T1
    | 1, _ => exact hk T2
end
end
end Go.Proofs.YtfnhogeocbndcaaGreatDoor
/- The rule change: contract. -/
namespace Go.Proofs.YtfnhogeocbndcaaGreatDoor
open Go Go.RowKit
set_option linter.unusedVariables false
set_option linter.unusedSimpArgs false

set_option maxHeartbeats 2000000 in
set_option maxRecDepth 100000 in
theorem change_any {ts : List Tok} {R g c : Nat} (X : Ctx ts R g c) (s : Sg) (w : World) (hR : Rd w R g c ts s) : Calls Tryz.prog 160 #[.pointer (some ⟨R, 0, none⟩)] w (TP w R g c ts (change ts s)) := by
  have hXl := X.lt
  have F0 := Lib.hid ((Fr.start hR).node hXl ncz)
  have HN := Lib.hid fun W (h : Rd W R g c ts s) => node_any X 11 W h
  have HX := Lib.hid fun q W (h : Rd W R g c ts q) => xpr_any X q W h
  have HNM := Lib.hid fun q W (h : Rd W R g c ts q) => name_any X (s := q) W h
  have HSK := Lib.hid fun W (h : Rd W R g c ts (nmS ts s)) => skip_any' X [91] (by simp) W h
  unfold skp at HSK
  have HEB := Lib.hid fun q W (h : Rd W R g c ts q) => expect_any X (s := q) [93] (by simp) W h
  have HEQ := Lib.hid fun q W (h : Rd W R g c ts q) => expect_any X (s := q) [61] (by simp) W h
  have HEC := Lib.hid fun q W (h : Rd W R g c ts q) => expect_any X (s := q) [59] (by simp) W h
  have HL : Hid (nc (labK 11 (ln ts s)) = [.int .i64 11, .string ⟨#[]⟩, .int .u64 0, .int .i64 0, .bool false, .int .i64 0, .int .i64 0, .int .i64 0, .int .i64 0, .int .i64 ((ln ts s : Nat) : Int), .slice none 0 0]) := Lib.hid rfl
  rw [HL.out] at HN
  cases h1 : hasT ts (nmS ts s) [91] with
  | true =>
    have HM : Hid (change ts s = (.node { labK 12 (ln ts s) with name := nmV ts s } [(xpr ts (adv (nmS ts s))).1, (xpr ts (exc ts (exc ts (xpr ts (adv (nmS ts s))).2 [93]) [61])).1], exc ts (xpr ts (exc ts (exc ts (xpr ts (adv (nmS ts s))).2 [93]) [61])).2 [59])) := Lib.hid (by unfold change; simp only [h1]; rfl)
    rw [HM.out]
    rw [h1] at HSK
    clear HM hR HL h1
    go_enter Tryz.func160, Tryz.ntmps160
    go_wp2_with fail
    refine (HN.out _ F0.out.rd).mono ?_
    rintro e v1 ⟨rfl, hb⟩
    have G1 := Lib.hid (F0.out.quiet hXl hb)
    clear hb
    obtain ⟨hc0, hf0⟩ := G1.out.b0.all
    have hz0 := G1.out.b0.lt
    unfold ncz at hc0
    have hq10 := G1.out.b0.lt
    have G2 := Lib.hid (G1.out.node hXl [.int .i64 11, .string ⟨#[]⟩, .int .u64 0, .int .i64 0, .bool false, .int .i64 0, .int .i64 0, .int .i64 0, .int .i64 0, .int .i64 ((ln ts s : Nat) : Int), .slice none 0 0])
    go_wp2_with fail
    refine (HNM.out _ _ G2.out.rd).mono ?_
    rintro e v2 ⟨rfl, hr, hs⟩
    clear hc0 hf0 hz0
    have G3 := Lib.hid (G2.out.call hr hs)
    clear hr hs
    obtain ⟨hc0, hf0⟩ := G3.out.b0.all
    have hz0 := G3.out.b0.lt
    obtain ⟨hc1, hf1⟩ := G3.out.b1.all
    have hz1 := G3.out.b1.lt
    unfold ncz at hc1
    have G4 := Lib.hid (G3.out.set0 hXl 1 (.string (str (nmV ts s))) [.int .i64 11, .string (str (nmV ts s)), .int .u64 0, .int .i64 0, .bool false, .int .i64 0, .int .i64 0, .int .i64 0, .int .i64 0, .int .i64 ((ln ts s : Nat) : Int), .slice none 0 0] rfl)
    go_wp2_with fail
    refine (HSK.out _ G4.out.rd).mono ?_
    rintro e v3 ⟨rfl, hr, hs⟩
    clear hc0 hf0 hz0 hc1 hf1 hz1
    have G5 := Lib.hid (G4.out.call hr hs)
    clear hr hs
    obtain ⟨hc0, hf0⟩ := G5.out.b0.all
    have hz0 := G5.out.b0.lt
    obtain ⟨hc1, hf1⟩ := G5.out.b1.all
    have hz1 := G5.out.b1.lt
    unfold ncz at hc1
    have G6 := Lib.hid (G5.out.fk)
    have G7 := Lib.hid (G6.out.set0 hXl 0 (.int .i64 12) [.int .i64 12, .string (str (nmV ts s)), .int .u64 0, .int .i64 0, .bool false, .int .i64 0, .int .i64 0, .int .i64 0, .int .i64 0, .int .i64 ((ln ts s : Nat) : Int), .slice none 0 0] rfl)
    go_wp2
    have G8 := Lib.hid (G7.out.drew)
    go_region_law (first | (refine fk_append KT1.out hXl (by rfl) _ _ _ (by rfl) Tryz.underlying26 infoNd2 (by rfl) (by simp [Act.eval]) ?_; intro g1 c1 u1 hk6; have KX1 := Lib.hid hk6; clear hk6; obtain ⟨hd10, he10⟩ := KX1.out.fr.b0.all; have hy10 := KX1.out.fr.b0.lt; obtain ⟨hd11, he11⟩ := KX1.out.fr.b1.all; have hy11 := KX1.out.fr.b1.lt; unfold ncz at hd11) | (go_simp; go_at_call 176; refine (HX.out _ _ G8.out.fr.rd).mono ?_; rintro e y1 ⟨l1, x1, n1, k1, rfl, hT, hr, hs⟩; have KT1 := Lib.hid (G8.out.callT (by simp) hT hr hs); clear hT hr hs; obtain ⟨hu10, hv10⟩ := KT1.out.fr.b0.all; have hw10 := KT1.out.fr.b0.lt; obtain ⟨hu11, hv11⟩ := KT1.out.fr.b1.all; have hw11 := KT1.out.fr.b1.lt; unfold ncz at hu11))
    all_goals
      clear hu10 hv10 hw10 hu11 hv11 hw11
      clear hc0 hf0 hz0 hc1 hf1 hz1
      have G9 := Lib.hid (KX1.out.set0 hXl 10 (.slice (some ⟨g1, 0, none⟩) 1 c1) [.int .i64 12, .string (str (nmV ts s)), .int .u64 0, .int .i64 0, .bool false, .int .i64 0, .int .i64 0, .int .i64 0, .int .i64 0, .int .i64 ((ln ts s : Nat) : Int), .slice (some ⟨g1, 0, none⟩) 1 c1] rfl)
      go_wp2_with fail
      refine (HEB.out _ _ G9.out.fr.rd).mono ?_
      rintro e v4 ⟨rfl, hr, hs⟩
      have G10 := Lib.hid (G9.out.call hr hs)
      clear hr hs
      obtain ⟨hc0, hf0⟩ := G10.out.fr.b0.all
      have hz0 := G10.out.fr.b0.lt
      obtain ⟨hc1, hf1⟩ := G10.out.fr.b1.all
      have hz1 := G10.out.fr.b1.lt
      unfold ncz at hc1
      go_wp2_with fail
      refine (HEQ.out _ _ G10.out.fr.rd).mono ?_
      rintro e v5 ⟨rfl, hr, hs⟩
      clear hc0 hf0 hz0 hc1 hf1 hz1
      have G11 := Lib.hid (G10.out.call hr hs)
      clear hr hs
      obtain ⟨hc0, hf0⟩ := G11.out.fr.b0.all
      have hz0 := G11.out.fr.b0.lt
      obtain ⟨hc1, hf1⟩ := G11.out.fr.b1.all
      have hz1 := G11.out.fr.b1.lt
      unfold ncz at hc1
      go_wp2
      have G12 := Lib.hid (G11.out.drew)
      go_region_law (first | (refine fk_append KT2.out hXl (by rfl) _ _ _ (by rfl) Tryz.underlying26 infoNd2 (by rfl) (by simp [Act.eval]) ?_; intro g2 c2 u2 hk6; have KX2 := Lib.hid hk6; clear hk6; obtain ⟨hd20, he20⟩ := KX2.out.fr.b0.all; have hy20 := KX2.out.fr.b0.lt; obtain ⟨hd21, he21⟩ := KX2.out.fr.b1.all; have hy21 := KX2.out.fr.b1.lt; unfold ncz at hd21) | (go_simp; go_at_call 176; refine (HX.out _ _ G12.out.fr.rd).mono ?_; rintro e y2 ⟨l2, x2, n2, k2, rfl, hT, hr, hs⟩; have KT2 := Lib.hid (G12.out.callT (by simp) hT hr hs); clear hT hr hs; obtain ⟨hu20, hv20⟩ := KT2.out.fr.b0.all; have hw20 := KT2.out.fr.b0.lt; obtain ⟨hu21, hv21⟩ := KT2.out.fr.b1.all; have hw21 := KT2.out.fr.b1.lt; unfold ncz at hu21))
      all_goals
        clear hu20 hv20 hw20 hu21 hv21 hw21
        clear hc0 hf0 hz0 hc1 hf1 hz1
        have G13 := Lib.hid (KX2.out.set0 hXl 10 (.slice (some ⟨g2, 0, none⟩) 2 c2) [.int .i64 12, .string (str (nmV ts s)), .int .u64 0, .int .i64 0, .bool false, .int .i64 0, .int .i64 0, .int .i64 0, .int .i64 0, .int .i64 ((ln ts s : Nat) : Int), .slice (some ⟨g2, 0, none⟩) 2 c2] rfl)
        go_wp2_with fail
        refine (HEC.out _ _ G13.out.fr.rd).mono ?_
        rintro e v6 ⟨rfl, hr, hs⟩
        have G14 := Lib.hid (G13.out.call hr hs)
        clear hr hs
        obtain ⟨hc0, hf0⟩ := G14.out.fr.b0.all
        have hz0 := G14.out.fr.b0.lt
        obtain ⟨hc1, hf1⟩ := G14.out.fr.b1.all
        have hz1 := G14.out.fr.b1.lt
        unfold ncz at hc1
        have G15 := Lib.hid (G14.out.tree { labK 12 (ln ts s) with name := nmV ts s })
        go_wp2
        have G16 := Lib.hid (G15.out.stoR hXl (List.Mem.tail _ (List.Mem.head _)) rfl (.int .i64 12) (.string (str (nmV ts s))) (.int .u64 0) (.int .i64 0) (.bool false) (.int .i64 0) (.int .i64 0) (.int .i64 0) (.int .i64 0) (.int .i64 ((ln ts s : Nat) : Int)) (.slice (some ⟨g2, 0, none⟩) 2 c2))
        refine bodyPost_ret (G16.out.b0.res1 Tryz.results160 Tryz.underlying28 rfl infoNd _ rfl) rfl ?_
        exact G16.out.outT (rfl)
  | false =>
    have HM : Hid (change ts s = (.node { labK 11 (ln ts s) with name := nmV ts s } [(xpr ts (exc ts (nmS ts s) [61])).1], exc ts (xpr ts (exc ts (nmS ts s) [61])).2 [59])) := Lib.hid (by unfold change; simp only [h1]; rfl)
    rw [HM.out]
    rw [h1] at HSK
    clear HM hR HL h1
    go_enter Tryz.func160, Tryz.ntmps160
    go_wp2_with fail
    refine (HN.out _ F0.out.rd).mono ?_
    rintro e v1 ⟨rfl, hb⟩
    have G1 := Lib.hid (F0.out.quiet hXl hb)
    clear hb
    obtain ⟨hc0, hf0⟩ := G1.out.b0.all
    have hz0 := G1.out.b0.lt
    unfold ncz at hc0
    have hq10 := G1.out.b0.lt
    have G2 := Lib.hid (G1.out.node hXl [.int .i64 11, .string ⟨#[]⟩, .int .u64 0, .int .i64 0, .bool false, .int .i64 0, .int .i64 0, .int .i64 0, .int .i64 0, .int .i64 ((ln ts s : Nat) : Int), .slice none 0 0])
    go_wp2_with fail
    refine (HNM.out _ _ G2.out.rd).mono ?_
    rintro e v2 ⟨rfl, hr, hs⟩
    clear hc0 hf0 hz0
    have G3 := Lib.hid (G2.out.call hr hs)
    clear hr hs
    obtain ⟨hc0, hf0⟩ := G3.out.b0.all
    have hz0 := G3.out.b0.lt
    obtain ⟨hc1, hf1⟩ := G3.out.b1.all
    have hz1 := G3.out.b1.lt
    unfold ncz at hc1
    have G4 := Lib.hid (G3.out.set0 hXl 1 (.string (str (nmV ts s))) [.int .i64 11, .string (str (nmV ts s)), .int .u64 0, .int .i64 0, .bool false, .int .i64 0, .int .i64 0, .int .i64 0, .int .i64 0, .int .i64 ((ln ts s : Nat) : Int), .slice none 0 0] rfl)
    go_wp2_with fail
    refine (HSK.out _ G4.out.rd).mono ?_
    rintro e v3 ⟨rfl, hr, hs⟩
    clear hc0 hf0 hz0 hc1 hf1 hz1
    have G5 := Lib.hid (G4.out.call hr hs)
    clear hr hs
    obtain ⟨hc0, hf0⟩ := G5.out.b0.all
    have hz0 := G5.out.b0.lt
    obtain ⟨hc1, hf1⟩ := G5.out.b1.all
    have hz1 := G5.out.b1.lt
    unfold ncz at hc1
    have G6 := Lib.hid (G5.out.fk)
    go_wp2_with fail
    refine (HEQ.out _ _ G6.out.fr.rd).mono ?_
    rintro e v4 ⟨rfl, hr, hs⟩
    clear hc0 hf0 hz0 hc1 hf1 hz1
    have G7 := Lib.hid (G6.out.call hr hs)
    clear hr hs
    obtain ⟨hc0, hf0⟩ := G7.out.fr.b0.all
    have hz0 := G7.out.fr.b0.lt
    obtain ⟨hc1, hf1⟩ := G7.out.fr.b1.all
    have hz1 := G7.out.fr.b1.lt
    unfold ncz at hc1
    go_wp2
    have G8 := Lib.hid (G7.out.drew)
    go_region_law (first | (refine fk_append KT1.out hXl (by rfl) _ _ _ (by rfl) Tryz.underlying26 infoNd2 (by rfl) (by simp [Act.eval]) ?_; intro g1 c1 u1 hk6; have KX1 := Lib.hid hk6; clear hk6; obtain ⟨hd10, he10⟩ := KX1.out.fr.b0.all; have hy10 := KX1.out.fr.b0.lt; obtain ⟨hd11, he11⟩ := KX1.out.fr.b1.all; have hy11 := KX1.out.fr.b1.lt; unfold ncz at hd11) | (go_simp; go_at_call 176; refine (HX.out _ _ G8.out.fr.rd).mono ?_; rintro e y1 ⟨l1, x1, n1, k1, rfl, hT, hr, hs⟩; have KT1 := Lib.hid (G8.out.callT (by simp) hT hr hs); clear hT hr hs; obtain ⟨hu10, hv10⟩ := KT1.out.fr.b0.all; have hw10 := KT1.out.fr.b0.lt; obtain ⟨hu11, hv11⟩ := KT1.out.fr.b1.all; have hw11 := KT1.out.fr.b1.lt; unfold ncz at hu11))
    all_goals
      clear hu10 hv10 hw10 hu11 hv11 hw11
      clear hc0 hf0 hz0 hc1 hf1 hz1
      have G9 := Lib.hid (KX1.out.set0 hXl 10 (.slice (some ⟨g1, 0, none⟩) 1 c1) [.int .i64 11, .string (str (nmV ts s)), .int .u64 0, .int .i64 0, .bool false, .int .i64 0, .int .i64 0, .int .i64 0, .int .i64 0, .int .i64 ((ln ts s : Nat) : Int), .slice (some ⟨g1, 0, none⟩) 1 c1] rfl)
      go_wp2_with fail
      refine (HEC.out _ _ G9.out.fr.rd).mono ?_
      rintro e v5 ⟨rfl, hr, hs⟩
      have G10 := Lib.hid (G9.out.call hr hs)
      clear hr hs
      obtain ⟨hc0, hf0⟩ := G10.out.fr.b0.all
      have hz0 := G10.out.fr.b0.lt
      obtain ⟨hc1, hf1⟩ := G10.out.fr.b1.all
      have hz1 := G10.out.fr.b1.lt
      unfold ncz at hc1
      have G11 := Lib.hid (G10.out.tree { labK 11 (ln ts s) with name := nmV ts s })
      go_wp2
      have G12 := Lib.hid (G11.out.stoR hXl (List.Mem.tail _ (List.Mem.head _)) rfl (.int .i64 11) (.string (str (nmV ts s))) (.int .u64 0) (.int .i64 0) (.bool false) (.int .i64 0) (.int .i64 0) (.int .i64 0) (.int .i64 0) (.int .i64 ((ln ts s : Nat) : Int)) (.slice (some ⟨g1, 0, none⟩) 1 c1))
      refine bodyPost_ret (G12.out.b0.res1 Tryz.results160 Tryz.underlying28 rfl infoNd _ rfl) rfl ?_
      exact G12.out.outT (rfl)
end Go.Proofs.YtfnhogeocbndcaaGreatDoor
