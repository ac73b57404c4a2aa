/- What a rule of the grammar leaves, and the frame of its walk: local nodes in blocks, trees, the reader. -/
import Derived.Test.YtfnhogeocbndcaaGreatDoorMgPsOp
import Derived.Deep.RegionWith
import Derived.Deep.Slices
namespace Go.Proofs.YtfnhogeocbndcaaGreatDoor
open Go Go.RowKit
set_option linter.unusedVariables false

/-- What a rule leaves: a node's cells, its tree in new blocks, the reader's state. -/
def TP (w : World) (R g c : Nat) (ts : List Tok) (t : Tree × Sg) (e : Ending) (w' : World) : Prop :=
  ∃ (l : Lab) (x : Option Addr) (n k : Nat), e = .returned (.agg #[.int .i64 l.kind, .string (str l.name), .int .u64 l.num, .int .i64 l.wd, .bool l.sg, .int .i64 l.op, .int .i64 l.fac, .int .i64 l.pip, .int .i64 l.unr, .int .i64 l.line, .slice x n k]) ∧ TreeAt w' (w.heap.size ≤ ·) [.int .i64 l.kind, .string (str l.name), .int .u64 l.num, .int .i64 l.wd, .bool l.sg, .int .i64 l.op, .int .i64 l.fac, .int .i64 l.pip, .int .i64 l.unr, .int .i64 l.line, .slice x n k] t.1 ∧ Rd w' R g c ts t.2 ∧ St w w' R
theorem TreeAt.form {w : World} {P : Nat → Prop} {cs : List Value} {t : Tree} (h : TreeAt w P cs t) : ∃ (l : Lab) (x : Option Addr) (n k : Nat), cs = [.int .i64 l.kind, .string (str l.name), .int .u64 l.num, .int .i64 l.wd, .bool l.sg, .int .i64 l.op, .int .i64 l.fac, .int .i64 l.pip, .int .i64 l.unr, .int .i64 l.line, .slice x n k] := by
  cases h with
  | nil l => exact ⟨l, none, 0, 0, rfl⟩
  | mk l a n cap C ks => exact ⟨l, some a, n, cap, rfl⟩
def rem (ts : List Tok) (s : Sg) : Nat := if s.bad then 0 else ts.length - s.i
theorem rem_on {ts : List Tok} {s t : Sg} (h : On ts s t) : rem ts t ≤ rem ts s := by
  unfold rem
  cases hb : s.bad with
  | true => rw [h.2.2 hb, hb]; exact Nat.le_refl _
  | false =>
    have := h.1
    cases t.bad
    · simp; omega
    · simp
theorem rem_adv {ts : List Tok} {s : Sg} (h : s.bad = false ∧ s.i < ts.length) : rem ts (adv s) + 1 = rem ts s := by
  unfold rem adv
  rw [h.1]
  simp
  omega
/-- What the code does with fuel f. -/
structure EC (ts : List Tok) (R g c f : Nat) : Prop where
  ex : ∀ s w, Rd w R g c ts s → 32 * rem ts s + 22 ≤ f → Calls Tryz.prog 176 #[.pointer (some ⟨R, 0, none⟩)] w (TP w R g c ts (E ts f .ex s))
  bn : ∀ l s w, l ≤ 9 → Rd w R g c ts s → 32 * rem ts s + (20 - l) ≤ f → Calls Tryz.prog 184 #[.pointer (some ⟨R, 0, none⟩), .int .i64 (l : Int)] w (TP w R g c ts (E ts f (.bn l) s))
  ca : ∀ s w, Rd w R g c ts s → 32 * rem ts s + 10 ≤ f → Calls Tryz.prog 190 #[.pointer (some ⟨R, 0, none⟩)] w (TP w R g c ts (E ts f .ca s))
  un : ∀ s w, Rd w R g c ts s → 32 * rem ts s + 9 ≤ f → Calls Tryz.prog 197 #[.pointer (some ⟨R, 0, none⟩)] w (TP w R g c ts (E ts f .un s))
  pr : ∀ s w, Rd w R g c ts s → 32 * rem ts s + 8 ≤ f → Calls Tryz.prog 204 #[.pointer (some ⟨R, 0, none⟩)] w (TP w R g c ts (E ts f .pr s))
  us : ∀ s w, Rd w R g c ts s → 32 * rem ts s + 7 ≤ f → Calls Tryz.prog 207 #[.pointer (some ⟨R, 0, none⟩)] w (TP w R g c ts (E ts f .us s))

/-- A new block of one node. -/
theorem tree_one {w : World} {R base : Nat} {cs : List Value} {t : Tree} (hT : TreeAt w (base ≤ ·) cs t) (hl : cs.length = 11) (hb : base ≤ w.heap.size) (l : Lab) :
    TreeAt (w.alloc (.cells cs.toArray 28)) (base ≤ ·) (lcells l (.slice (some ⟨w.heap.size, 0, none⟩) 1 1)) (.node l [t]) := by
  refine .mk _ l ⟨w.heap.size, 0, none⟩ 1 1 (fun _ => cs) [t] rfl (by omega) (by unfold maxLen; omega) (fun _ => hb) (fun i hi j hj => ?_) fun i hi => ?_
  · obtain rfl : i = 0 := by omega
    have hB := Blk.alloc w 28 cs
    have ha : (⟨w.heap.size, 0, none⟩ : Addr).add (0 * 11 + j) = ⟨w.heap.size, j, none⟩ := by unfold Addr.add; split <;> simp_all
    rw [ha]
    exact hB.cell j
  · simp at hi
    subst hi
    exact hT.keep (fun g _ hg => Below.heap_alloc w _ g hg) fun _ h _ => h
/-- A new block of nodes one behind the other. -/
theorem tree_many {w : World} {base : Nat} {C : Nat → List Value} {ks : List Tree} (hT : ∀ i (h : i < ks.length), TreeAt w (base ≤ ·) (C i) ks[i]) (hb : base ≤ w.heap.size) (hn : ks.length ≤ 1000) (l : Lab) {cs : List Value} (hcs : cs = flat C ks.length) :
    TreeAt (w.alloc (.cells cs.toArray 28)) (base ≤ ·) (lcells l (.slice (some ⟨w.heap.size, 0, none⟩) ks.length ks.length)) (.node l ks) := by
  subst hcs
  refine .mk _ l ⟨w.heap.size, 0, none⟩ _ _ C ks rfl (Nat.le_refl _) (by unfold maxLen; omega) (fun _ => hb) (fun i hi j hj => ?_) fun i hi => ?_
  · have hB := Blk.alloc w 28 (flat C ks.length)
    have ha : (⟨w.heap.size, 0, none⟩ : Addr).add (i * 11 + j) = ⟨w.heap.size, i * 11 + j, none⟩ := by unfold Addr.add; split <;> simp_all
    rw [ha, hB.cell, flat_get _ (fun i hi => (hT i hi).length) i j hi hj]
  · exact (hT i hi).keep (fun g _ hg => Below.heap_alloc w _ g hg) fun _ h _ => h

/-- Where a walk stands: the reader, local nodes in blocks, trees made since w0. -/
structure Fr (w0 w : World) (R g c : Nat) (ts : List Tok) (s : Sg) (Ls : List (Nat × List Value)) (Ts : List (List Value × Tree)) : Prop where
  rd : Rd w R g c ts s
  st : St w0 w R
  bl : ∀ L cs, (L, cs) ∈ Ls → Blk w L 28 cs ∧ w0.heap.size ≤ L
  tr : ∀ cs t, (cs, t) ∈ Ts → TreeAt w (fun k => w0.heap.size ≤ k ∧ ∀ L xs, (L, xs) ∈ Ls → k ≠ L) cs t
  hR : R < w0.heap.size
  nd : (Ls.map (·.1)).Nodup
theorem Fr.start {w : World} {R g c : Nat} {ts : List Tok} {s : Sg} (h : Rd w R g c ts s) : Fr w w R g c ts s [] [] :=
  ⟨h, St.refl _ _, fun L cs h => by simp at h, fun cs t h => by simp at h, h.lt, by simp⟩
theorem Fr.size {w0 w : World} {R g c : Nat} {ts : List Tok} {s : Sg} {Ls : List (Nat × List Value)} {Ts : List (List Value × Tree)} (F : Fr w0 w R g c ts s Ls Ts) : w0.heap.size ≤ w.heap.size := St.size F.st
/-- Behind a call. -/
theorem Fr.call {w0 w w' : World} {R g c : Nat} {ts : List Tok} {s s' : Sg} {Ls : List (Nat × List Value)} {Ts : List (List Value × Tree)} (F : Fr w0 w R g c ts s Ls Ts) (hr : Rd w' R g c ts s') (hs : St w w' R) : Fr w0 w' R g c ts s' Ls Ts :=
  ⟨hr, St.trans F.st hs, fun L cs h => ⟨St.blk hs (F.bl L cs h).1 (by have := (F.bl L cs h).2; have := F.hR; omega), (F.bl L cs h).2⟩, fun cs t h => (F.tr cs t h).keep (fun k hk hl => World.grownBy.block hs k hl (fun e => by injection e with e; have := F.hR; have := hk.1; omega)) fun k hk _ => hk, F.hR, F.nd⟩
/-- Behind a call that leaves the reader. -/
theorem Fr.quiet {w0 w w' : World} {R g c : Nat} {ts : List Tok} {s : Sg} {Ls : List (Nat × List Value)} {Ts : List (List Value × Tree)} (F : Fr w0 w R g c ts s Ls Ts) (hg : g < R) (hb : Below w.heap.size w w') : Fr w0 w' R g c ts s Ls Ts :=
  F.call (F.rd.below hg hb F.rd.lt) (St.of_below hb)
/-- A new block that is none of the local nodes. -/
theorem Fr.alloc {w0 w : World} {R g c : Nat} {ts : List Tok} {s : Sg} {Ls : List (Nat × List Value)} {Ts : List (List Value × Tree)} (F : Fr w0 w R g c ts s Ls Ts) (hg : g < R) (o : Obj) : Fr w0 (w.alloc o) R g c ts s Ls Ts :=
  F.quiet hg ((Below.refl w.heap.size w).alloc (Nat.le_refl _) o)
/-- A new local node. -/
theorem Fr.node {w0 w : World} {R g c : Nat} {ts : List Tok} {s : Sg} {Ls : List (Nat × List Value)} {Ts : List (List Value × Tree)} (F : Fr w0 w R g c ts s Ls Ts) (hg : g < R) (cs : List Value) : Fr w0 (w.alloc (.cells cs.toArray 28)) R g c ts s ((w.heap.size, cs) :: Ls) Ts := by
  have F1 := F.alloc hg (.cells cs.toArray 28)
  refine ⟨F1.rd, F1.st, fun L xs h => ?_, fun xs t h => (F.tr xs t h).keep (fun k _ hk => Below.heap_alloc w _ k hk) fun k hk hl => ⟨hk.1, fun L ys hL => ?_⟩, F1.hR, ?_⟩
  · rcases List.mem_cons.1 h with h | h
    · injection h with h1 h2
      subst h1 h2
      exact ⟨Blk.alloc _ _ _, F.size⟩
    · exact F1.bl L xs h
  · rcases List.mem_cons.1 hL with h1 | h1
    · injection h1 with h2 h3
      omega
    · exact hk.2 L ys h1
  · rw [List.map_cons, List.nodup_cons]
    refine ⟨fun h => ?_, F.nd⟩
    obtain ⟨⟨L, xs⟩, h1, h2⟩ := List.mem_map.1 h
    have := (F.bl L xs h1).1.lt
    simp only at h2
    omega
theorem Fr.lt {w0 w : World} {R g c : Nat} {ts : List Tok} {s : Sg} {Ls : List (Nat × List Value)} {Ts : List (List Value × Tree)} (F : Fr w0 w R g c ts s Ls Ts) {L : Nat} {cs : List Value} (h : (L, cs) ∈ Ls) : L < w.heap.size := (F.bl L cs h).1.lt
/-- Behind a rule that has made a tree. -/
theorem Fr.tree {w0 w w' : World} {R g c : Nat} {ts : List Tok} {s s' : Sg} {Ls : List (Nat × List Value)} {Ts : List (List Value × Tree)} (F : Fr w0 w R g c ts s Ls Ts) {cs : List Value} {t : Tree} (ht : TreeAt w' (w.heap.size ≤ ·) cs t) (hr : Rd w' R g c ts s') (hs : St w w' R) : Fr w0 w' R g c ts s' Ls ((cs, t) :: Ts) := by
  have F1 := F.call hr hs
  refine ⟨F1.rd, F1.st, F1.bl, fun xs u h => ?_, F1.hR, F1.nd⟩
  rcases List.mem_cons.1 h with h | h
  · injection h with h1 h2
    subst h1 h2
    exact ht.mono fun q hq _ => ⟨Nat.le_trans F.size hq, fun L ys hL => by have := F.lt hL; omega⟩
  · exact F1.tr xs u h
/-- A field of a local node is stored. -/
theorem Fr.set {w0 w : World} {R g c : Nat} {ts : List Tok} {s : Sg} {Ls Ls' : List (Nat × List Value)} {Ts : List (List Value × Tree)} (F : Fr w0 w R g c ts s Ls Ts) (hg : g < R) (L i : Nat) (cs : List Value) (hL : (L, cs) ∈ Ls) (v : Value)
    (hnd : (Ls'.map (·.1)).Nodup) (hLs : ∀ M xs, (M, xs) ∈ Ls' → (M = L ∧ xs = cs.set i v) ∨ (M ≠ L ∧ (M, xs) ∈ Ls)) : Fr w0 (w.setCell ⟨L, i, none⟩ v) R g c ts s Ls' Ts := by
  have hb := F.bl L cs hL
  have hR := F.hR
  refine ⟨F.rd.set_other hg (by show R < L; omega) v, St.setCell F.st hb.2 v, fun M xs h => ?_, fun xs t h => (F.tr xs t h).keep (fun k hk _ => Below.heap_setCell _ _ _ _ (hk.2 L cs hL)) fun k hk _ => ⟨hk.1, fun M ys hM => ?_⟩, F.hR, hnd⟩
  · rcases hLs M xs h with ⟨rfl, rfl⟩ | ⟨h1, h2⟩
    · exact ⟨hb.1.set i v, hb.2⟩
    · exact ⟨(F.bl M xs h2).1.set_other h1 v, (F.bl M xs h2).2⟩
  · rcases hLs M ys hM with ⟨rfl, rfl⟩ | ⟨h1, h2⟩
    · exact hk.2 _ cs hL
    · exact hk.2 M ys h2
/-- A local node is stored anew, whole. -/
theorem Fr.stor {w0 w : World} {R g c : Nat} {ts : List Tok} {s : Sg} {Ls Ls' : List (Nat × List Value)} {Ts : List (List Value × Tree)} (F : Fr w0 w R g c ts s Ls Ts) (hg : g < R) (L : Nat) (cs : List Value) (hL : (L, cs) ∈ Ls) (hl : cs.length = 11) (x0 x1 x2 x3 x4 x5 x6 x7 x8 x9 x10 : Value)
    (hnd : (Ls'.map (·.1)).Nodup) (hLs : ∀ M xs, (M, xs) ∈ Ls' → (M = L ∧ xs = [x0, x1, x2, x3, x4, x5, x6, x7, x8, x9, x10]) ∨ (M ≠ L ∧ (M, xs) ∈ Ls)) : Fr w0 (stor11 w L x0 x1 x2 x3 x4 x5 x6 x7 x8 x9 x10) R g c ts s Ls' Ts := by
  have hb := F.bl L cs hL
  have hR := F.hR
  refine ⟨F.rd.stor11 hg (by omega) _ _ _ _ _ _ _ _ _ _ _, F.st.stor11 hb.2 _ _ _ _ _ _ _ _ _ _ _, fun M xs h => ?_, fun xs t h => (F.tr xs t h).keep (fun k hk _ => stor11_other _ (hk.2 L cs hL) _ _ _ _ _ _ _ _ _ _ _) fun k hk _ => ⟨hk.1, fun M ys hM => ?_⟩, F.hR, hnd⟩
  · rcases hLs M xs h with ⟨rfl, rfl⟩ | ⟨h1, h2⟩
    · exact ⟨hb.1.stor11 hl _ _ _ _ _ _ _ _ _ _ _, hb.2⟩
    · exact ⟨(stor11_other _ h1 _ _ _ _ _ _ _ _ _ _ _).trans (F.bl M xs h2).1, (F.bl M xs h2).2⟩
  · rcases hLs M ys hM with ⟨rfl, rfl⟩ | ⟨h1, h2⟩
    · exact hk.2 _ cs hL
    · exact hk.2 M ys h2
/-- A slice of nodes whose trees are there: a new block. -/
theorem Fr.kids {w0 w : World} {R g c : Nat} {ts : List Tok} {s : Sg} {Ls : List (Nat × List Value)} {Ts : List (List Value × Tree)} (F : Fr w0 w R g c ts s Ls Ts) (hg : g < R) (C : Nat → List Value) (ks : List Tree) (hC : ∀ i (h : i < ks.length), (C i, ks[i]) ∈ Ts) (hn : ks.length ≤ 1000) (cs : List Value) (hcs : cs = flat C ks.length) (l : Lab) :
    Fr w0 (w.alloc (.cells cs.toArray 28)) R g c ts s Ls ((lcells l (.slice (some ⟨w.heap.size, 0, none⟩) ks.length ks.length), .node l ks) :: Ts) := by
  have F1 := F.alloc hg (.cells cs.toArray 28)
  refine ⟨F1.rd, F1.st, F1.bl, fun xs t h => ?_, F1.hR, F1.nd⟩
  rcases List.mem_cons.1 h with h | h
  · injection h with h1 h2
    subst h1 h2
    subst hcs
    refine .mk _ l ⟨w.heap.size, 0, none⟩ _ _ C ks rfl (Nat.le_refl _) (by unfold maxLen; omega) (fun _ => ⟨F.size, fun L ys hL => by have := F.lt hL; show w.heap.size ≠ L; omega⟩) (fun i hi j hj => ?_) fun i hi => ?_
    · have hB := Blk.alloc w 28 (flat C ks.length)
      have ha : (⟨w.heap.size, 0, none⟩ : Addr).add (i * 11 + j) = ⟨w.heap.size, i * 11 + j, none⟩ := by unfold Addr.add; split <;> simp_all
      rw [ha, hB.cell, flat_get _ (fun i hi => (F.tr _ _ (hC i hi)).length) i j hi hj]
    · exact (F.tr _ _ (hC i hi)).keep (fun k _ hk => Below.heap_alloc w _ k hk) fun _ h _ => h
  · exact F1.tr xs t h
/-- A node without Kids is a tree. -/
theorem Fr.leaf {w0 w : World} {R g c : Nat} {ts : List Tok} {s : Sg} {Ls : List (Nat × List Value)} {Ts : List (List Value × Tree)} (F : Fr w0 w R g c ts s Ls Ts) (l : Lab) : Fr w0 w R g c ts s Ls ((lcells l (.slice none 0 0), .node l []) :: Ts) := by
  refine ⟨F.rd, F.st, F.bl, fun xs t h => ?_, F.hR, F.nd⟩
  rcases List.mem_cons.1 h with h | h
  · injection h with h1 h2
    subst h1 h2
    exact .nil _ l
  · exact F.tr xs t h
/-- The result is stored into its cell, and handed back. -/
theorem Fr.done {w0 w : World} {R g c : Nat} {ts : List Tok} {s : Sg} {Ls : List (Nat × List Value)} {Ts : List (List Value × Tree)} (F : Fr w0 w R g c ts s Ls Ts) (hg : g < R) {L : Nat} {cs : List Value} (hL : (L, cs) ∈ Ls) {x0 x1 x2 x3 x4 x5 x6 x7 x8 x9 x10 : Value} {t : Tree} (ht : ([x0, x1, x2, x3, x4, x5, x6, x7, x8, x9, x10], t) ∈ Ts) :
    TP w0 R g c ts (t, s) (.returned (.agg #[x0, x1, x2, x3, x4, x5, x6, x7, x8, x9, x10])) (stor11 w L x0 x1 x2 x3 x4 x5 x6 x7 x8 x9 x10) := by
  have hb := F.bl L cs hL
  have hR := F.hR
  have hT := (F.tr _ _ ht).keep (Q := (w0.heap.size ≤ ·)) (fun k hk _ => stor11_other w (hk.2 L cs hL) x0 x1 x2 x3 x4 x5 x6 x7 x8 x9 x10) fun k hk _ => hk.1
  obtain ⟨l, x, n, k, hf⟩ := hT.form
  rw [hf] at hT
  refine ⟨l, x, n, k, ?_, hT, F.rd.stor11 hg (by omega) _ _ _ _ _ _ _ _ _ _ _, F.st.stor11 hb.2 _ _ _ _ _ _ _ _ _ _ _⟩
  have := congrArg (fun q : List Value => Ending.returned (.agg q.toArray)) hf
  exact this
section
variable {w0 w : World} {R g c : Nat} {ts : List Tok} {s : Sg} {Ts : List (List Value × Tree)}
theorem Fr.b0 {L : Nat} {cs : List Value} {Ls : List (Nat × List Value)} (F : Fr w0 w R g c ts s ((L, cs) :: Ls) Ts) : Blk w L 28 cs := (F.bl L cs (by simp)).1
theorem Fr.b1 {p : Nat × List Value} {L : Nat} {cs : List Value} {Ls : List (Nat × List Value)} (F : Fr w0 w R g c ts s (p :: (L, cs) :: Ls) Ts) : Blk w L 28 cs := (F.bl L cs (by simp)).1
theorem Fr.b2 {p q : Nat × List Value} {L : Nat} {cs : List Value} {Ls : List (Nat × List Value)} (F : Fr w0 w R g c ts s (p :: q :: (L, cs) :: Ls) Ts) : Blk w L 28 cs := (F.bl L cs (by simp)).1
theorem Fr.b3 {p q r : Nat × List Value} {L : Nat} {cs : List Value} {Ls : List (Nat × List Value)} (F : Fr w0 w R g c ts s (p :: q :: r :: (L, cs) :: Ls) Ts) : Blk w L 28 cs := (F.bl L cs (by simp)).1
theorem nd_ne {M L : Nat} {xs cs : List Value} {Ls : List (Nat × List Value)} (h : (((L, cs) :: Ls).map (·.1)).Nodup) (hm : (M, xs) ∈ Ls) : M ≠ L := by
  rw [List.map_cons, List.nodup_cons] at h
  intro e
  exact h.1 (List.mem_map.2 ⟨(M, xs), hm, e⟩)
theorem Fr.set0 {L : Nat} {cs : List Value} {Ls : List (Nat × List Value)} (F : Fr w0 w R g c ts s ((L, cs) :: Ls) Ts) (hg : g < R) (i : Nat) (v : Value) (cs' : List Value) (h : cs' = cs.set i v) : Fr w0 (w.setCell ⟨L, i, none⟩ v) R g c ts s ((L, cs') :: Ls) Ts := by
  refine F.set hg L i cs (by simp) v F.nd fun M xs hm => ?_
  rcases List.mem_cons.1 hm with hm | hm
  · injection hm with h1 h2
    exact .inl ⟨h1, h2.trans h⟩
  · exact .inr ⟨nd_ne F.nd hm, by simp [hm]⟩
theorem Fr.set1 {p : Nat × List Value} {L : Nat} {cs : List Value} {Ls : List (Nat × List Value)} (F : Fr w0 w R g c ts s (p :: (L, cs) :: Ls) Ts) (hg : g < R) (i : Nat) (v : Value) (cs' : List Value) (h : cs' = cs.set i v) : Fr w0 (w.setCell ⟨L, i, none⟩ v) R g c ts s (p :: (L, cs') :: Ls) Ts := by
  have hnd := F.nd
  rw [List.map_cons, List.nodup_cons] at hnd
  refine F.set hg L i cs (by simp) v F.nd fun M xs hm => ?_
  rcases List.mem_cons.1 hm with hm | hm
  · refine .inr ⟨fun e => hnd.1 ?_, by simp [hm]⟩
    rw [← hm, e]
    simp
  · rcases List.mem_cons.1 hm with hm | hm
    · injection hm with h1 h2
      exact .inl ⟨h1, h2.trans h⟩
    · exact .inr ⟨nd_ne hnd.2 hm, by simp [hm]⟩
theorem Fr.set2 {p q : Nat × List Value} {L : Nat} {cs : List Value} {Ls : List (Nat × List Value)} (F : Fr w0 w R g c ts s (p :: q :: (L, cs) :: Ls) Ts) (hg : g < R) (i : Nat) (v : Value) (cs' : List Value) (h : cs' = cs.set i v) : Fr w0 (w.setCell ⟨L, i, none⟩ v) R g c ts s (p :: q :: (L, cs') :: Ls) Ts := by
  have hnd := F.nd
  rw [List.map_cons, List.nodup_cons, List.map_cons, List.nodup_cons] at hnd
  refine F.set hg L i cs (by simp) v F.nd fun M xs hm => ?_
  rcases List.mem_cons.1 hm with hm | hm
  · refine .inr ⟨fun e => hnd.1 ?_, by simp [hm]⟩
    rw [← hm, e]
    simp
  · rcases List.mem_cons.1 hm with hm | hm
    · refine .inr ⟨fun e => hnd.2.1 ?_, by simp [hm]⟩
      rw [← hm, e]
      simp
    · rcases List.mem_cons.1 hm with hm | hm
      · injection hm with h1 h2
        exact .inl ⟨h1, h2.trans h⟩
      · exact .inr ⟨nd_ne hnd.2.2 hm, by simp [hm]⟩
theorem Fr.stor0 {L : Nat} {cs : List Value} {Ls : List (Nat × List Value)} (F : Fr w0 w R g c ts s ((L, cs) :: Ls) Ts) (hg : g < R) (hl : cs.length = 11) (x0 x1 x2 x3 x4 x5 x6 x7 x8 x9 x10 : Value) : Fr w0 (stor11 w L x0 x1 x2 x3 x4 x5 x6 x7 x8 x9 x10) R g c ts s ((L, [x0, x1, x2, x3, x4, x5, x6, x7, x8, x9, x10]) :: Ls) Ts := by
  refine F.stor hg L cs (by simp) hl x0 x1 x2 x3 x4 x5 x6 x7 x8 x9 x10 F.nd fun M xs hm => ?_
  rcases List.mem_cons.1 hm with hm | hm
  · injection hm with h1 h2
    exact .inl ⟨h1, h2⟩
  · exact .inr ⟨nd_ne F.nd hm, by simp [hm]⟩
theorem Fr.kids1 {Ls : List (Nat × List Value)} (F : Fr w0 w R g c ts s Ls Ts) (hg : g < R) {c1 : List Value} {t1 : Tree} (h1 : (c1, t1) ∈ Ts) (l : Lab) : Fr w0 (w.alloc (.cells c1.toArray 28)) R g c ts s Ls ((lcells l (.slice (some ⟨w.heap.size, 0, none⟩) 1 1), .node l [t1]) :: Ts) :=
  F.kids hg (fun _ => c1) [t1] (fun i hi => by simp at hi; subst hi; exact h1) (by simp) c1 (by simp [flat]) l
theorem Fr.kids2 {Ls : List (Nat × List Value)} (F : Fr w0 w R g c ts s Ls Ts) (hg : g < R) {c1 c2 : List Value} {t1 t2 : Tree} (h1 : (c1, t1) ∈ Ts) (h2 : (c2, t2) ∈ Ts) (l : Lab) (cs : List Value) (hcs : cs = c1 ++ c2) : Fr w0 (w.alloc (.cells cs.toArray 28)) R g c ts s Ls ((lcells l (.slice (some ⟨w.heap.size, 0, none⟩) 2 2), .node l [t1, t2]) :: Ts) :=
  F.kids hg (fun i => if i = 0 then c1 else c2) [t1, t2] (fun i hi => by
    simp at hi
    match i, hi with
    | 0, _ => exact h1
    | 1, _ => exact h2) (by simp) cs (by rw [hcs]; simp [flat, List.range_succ]) l
theorem Fr.kids3 {Ls : List (Nat × List Value)} (F : Fr w0 w R g c ts s Ls Ts) (hg : g < R) {c1 c2 c3 : List Value} {t1 t2 t3 : Tree} (h1 : (c1, t1) ∈ Ts) (h2 : (c2, t2) ∈ Ts) (h3 : (c3, t3) ∈ Ts) (l : Lab) (cs : List Value) (hcs : cs = c1 ++ (c2 ++ c3)) : Fr w0 (w.alloc (.cells cs.toArray 28)) R g c ts s Ls ((lcells l (.slice (some ⟨w.heap.size, 0, none⟩) 3 3), .node l [t1, t2, t3]) :: Ts) :=
  F.kids hg (fun i => if i = 0 then c1 else if i = 1 then c2 else c3) [t1, t2, t3] (fun i hi => by
    simp at hi
    match i, hi with
    | 0, _ => exact h1
    | 1, _ => exact h2
    | 2, _ => exact h3) (by simp) cs (by rw [hcs]; simp [flat, List.range_succ]) l
theorem Fr.kidz1 {Ls : List (Nat × List Value)} (F : Fr w0 w R g c ts s Ls Ts) (hg : g < R) (H : Nat) (hH : w.heap.size = H) {c1 : List Value} {t1 : Tree} (h1 : (c1, t1) ∈ Ts) (l : Lab) : Fr w0 (w.alloc (.cells c1.toArray 28)) R g c ts s Ls ((lcells l (.slice (some ⟨H, 0, none⟩) 1 1), .node l [t1]) :: Ts) := by
  subst hH; exact F.kids1 hg h1 l
theorem Fr.kidz2 {Ls : List (Nat × List Value)} (F : Fr w0 w R g c ts s Ls Ts) (hg : g < R) (H : Nat) (hH : w.heap.size = H) {c1 c2 : List Value} {t1 t2 : Tree} (h1 : (c1, t1) ∈ Ts) (h2 : (c2, t2) ∈ Ts) (l : Lab) (cs : List Value) (hcs : cs = c1 ++ c2) : Fr w0 (w.alloc (.cells cs.toArray 28)) R g c ts s Ls ((lcells l (.slice (some ⟨H, 0, none⟩) 2 2), .node l [t1, t2]) :: Ts) := by
  subst hH; exact F.kids2 hg h1 h2 l cs hcs
theorem Fr.kidz3 {Ls : List (Nat × List Value)} (F : Fr w0 w R g c ts s Ls Ts) (hg : g < R) (H : Nat) (hH : w.heap.size = H) {c1 c2 c3 : List Value} {t1 t2 t3 : Tree} (h1 : (c1, t1) ∈ Ts) (h2 : (c2, t2) ∈ Ts) (h3 : (c3, t3) ∈ Ts) (l : Lab) (cs : List Value) (hcs : cs = c1 ++ (c2 ++ c3)) : Fr w0 (w.alloc (.cells cs.toArray 28)) R g c ts s Ls ((lcells l (.slice (some ⟨H, 0, none⟩) 3 3), .node l [t1, t2, t3]) :: Ts) := by
  subst hH; exact F.kids3 hg h1 h2 h3 l cs hcs
theorem Fr.drewN {Ls : List (Nat × List Value)} (F : Fr w0 w R g c ts s Ls Ts) (n : Nat) : Fr w0 (w.drewN n) R g c ts s Ls Ts :=
  ⟨F.rd.drewN n, St.drewN F.st n, F.bl, fun cs t h => (F.tr cs t h).keep (fun _ _ _ => rfl) fun _ hk _ => hk, F.hR, F.nd⟩
theorem Fr.drew {Ls : List (Nat × List Value)} (F : Fr w0 w R g c ts s Ls Ts) : Fr w0 w.drew R g c ts s Ls Ts := F.drewN 1
theorem Fr.keepT {Ls : List (Nat × List Value)} {Ts' : List (List Value × Tree)} (F : Fr w0 w R g c ts s Ls Ts) (h : ∀ p, p ∈ Ts' → p ∈ Ts) : Fr w0 w R g c ts s Ls Ts' := ⟨F.rd, F.st, F.bl, fun cs t ht => F.tr cs t (h _ ht), F.hR, F.nd⟩
/-- The reader goes on to the next token. -/
theorem Fr.advR {Ls : List (Nat × List Value)} (F : Fr w0 w R g c ts s Ls Ts) (hg : g < R) (h0 : s.bad = false ∧ s.i < ts.length) {v : Int} (hv : v = (s.i : Int) + 1) : Fr w0 (w.setCell ⟨R, 1, none⟩ (.int .i64 v)) R g c ts (adv s) Ls Ts := by
  have hR := F.hR
  refine ⟨rd_adv' F.rd hg h0 hv, St.setR F.st rfl _, fun L cs h => ?_, fun xs t h => (F.tr xs t h).keep (fun k hk _ => Below.heap_setCell _ _ _ _ (by have := hk.1; show k ≠ R; omega)) fun k hk _ => hk, F.hR, F.nd⟩
  have := F.bl L cs h
  exact ⟨this.1.set_other (by show L ≠ R; omega) _, this.2⟩
/-- The result is stored into its cell. -/
theorem Fr.stoR {Ls : List (Nat × List Value)} (F : Fr w0 w R g c ts s Ls Ts) (hg : g < R) {L : Nat} {cs : List Value} (hL : (L, cs) ∈ Ls) (hl : cs.length = 11) (x0 x1 x2 x3 x4 x5 x6 x7 x8 x9 x10 : Value) : Fr w0 (stor11 w L x0 x1 x2 x3 x4 x5 x6 x7 x8 x9 x10) R g c ts s [(L, [x0, x1, x2, x3, x4, x5, x6, x7, x8, x9, x10])] Ts :=
  F.stor hg L cs hL hl x0 x1 x2 x3 x4 x5 x6 x7 x8 x9 x10 (by simp) fun M xs hm => by
    simp at hm
    exact .inl hm
/-- The tree at the head is handed back. -/
theorem Fr.outT {Ls : List (Nat × List Value)} {cs : List Value} {t : Tree} (F : Fr w0 w R g c ts s Ls ((cs, t) :: Ts)) {T : Tree × Sg} (hT : T = (t, s)) : TP w0 R g c ts T (.returned (.agg cs.toArray)) w := by
  subst hT
  have ht := (F.tr cs t (by simp)).mono (Q := (w0.heap.size ≤ ·)) fun k hk _ => hk.1
  obtain ⟨l, x, n, k, rfl⟩ := ht.form
  exact ⟨l, x, n, k, rfl, ht, F.rd, F.st⟩
/-- The tree at the head is the result, whose cell is the last local node. -/
theorem Fr.fin {L : Nat} {cs : List Value} {Ls : List (Nat × List Value)} {x0 x1 x2 x3 x4 x5 x6 x7 x8 x9 x10 : Value} {t : Tree} (F : Fr w0 w R g c ts s Ls (([x0, x1, x2, x3, x4, x5, x6, x7, x8, x9, x10], t) :: Ts)) (hg : g < R) (hL : (L, cs) ∈ Ls) {T : Tree × Sg} (hT : T = (t, s)) :
    TP w0 R g c ts T (.returned (.agg #[x0, x1, x2, x3, x4, x5, x6, x7, x8, x9, x10])) (stor11 w L x0 x1 x2 x3 x4 x5 x6 x7 x8 x9 x10) := by
  subst hT
  exact F.done hg hL (by simp)
end
/-- The index of the next token, out of memory. -/
def atW (w : World) (R : Nat) : Nat := match w.cell? ⟨R, 1, none⟩ with
  | some (.int _ i) => i.toNat
  | _ => 0
theorem atW_rd {w : World} {R g c : Nat} {ts : List Tok} {s : Sg} (h : Rd w R g c ts s) : atW w R = atOf ts s := by
  unfold atW
  rw [h.cells.2.1]
  simp
theorem atOf_adv {ts : List Tok} {s t : Sg} (h : s.bad = false ∧ s.i < ts.length) (ht : On ts (adv s) t) (hi : t.i ≤ ts.length) : atOf ts s < atOf ts t ∧ atOf ts t ≤ ts.length := by
  have h1 := ht.1
  unfold adv at h1
  unfold atOf
  rw [h.1]
  cases t.bad
  · simp; simp at h1; omega
  · simp; omega
end Go.Proofs.YtfnhogeocbndcaaGreatDoor
/- The kids of a tree in memory, for reading. -/
namespace Go.Proofs.YtfnhogeocbndcaaGreatDoor
open Go Go.RowKit
set_option linter.unusedVariables false

/-- The cells of kid i of a slice of nodes, as a load of the whole kid reads them. -/
def KidAt (w : World) (P : Nat → Prop) (a : Addr) (i : Nat) (t : Tree) : Prop := ∃ (l : Lab) (x : Option Addr) (n k : Nat),
  (w.cell? (a.add (i * 11)) = some (.int .i64 l.kind) ∧ w.cell? ⟨(a.add (i * 11)).block, (a.add (i * 11)).off + 1, none⟩ = some (.string (str l.name)) ∧ w.cell? ⟨(a.add (i * 11)).block, (a.add (i * 11)).off + 2, none⟩ = some (.int .u64 l.num) ∧
    w.cell? ⟨(a.add (i * 11)).block, (a.add (i * 11)).off + 3, none⟩ = some (.int .i64 l.wd) ∧ w.cell? ⟨(a.add (i * 11)).block, (a.add (i * 11)).off + 4, none⟩ = some (.bool l.sg) ∧ w.cell? ⟨(a.add (i * 11)).block, (a.add (i * 11)).off + 5, none⟩ = some (.int .i64 l.op) ∧
    w.cell? ⟨(a.add (i * 11)).block, (a.add (i * 11)).off + 6, none⟩ = some (.int .i64 l.fac) ∧ w.cell? ⟨(a.add (i * 11)).block, (a.add (i * 11)).off + 7, none⟩ = some (.int .i64 l.pip) ∧ w.cell? ⟨(a.add (i * 11)).block, (a.add (i * 11)).off + 8, none⟩ = some (.int .i64 l.unr) ∧
    w.cell? ⟨(a.add (i * 11)).block, (a.add (i * 11)).off + 9, none⟩ = some (.int .i64 l.line) ∧ w.cell? ⟨(a.add (i * 11)).block, (a.add (i * 11)).off + 10, none⟩ = some (.slice x n k)) ∧
  TreeAt w P [.int .i64 l.kind, .string (str l.name), .int .u64 l.num, .int .i64 l.wd, .bool l.sg, .int .i64 l.op, .int .i64 l.fac, .int .i64 l.pip, .int .i64 l.unr, .int .i64 l.line, .slice x n k] t
theorem KidAt.keep {w w' : World} {P Q : Nat → Prop} {a : Addr} {i : Nat} {t : Tree} (h : KidAt w P a i t) (ha : P a.block) (hs : ∀ g, P g → g < w.heap.size → w'.heap[g]? = w.heap[g]?) (hq : ∀ g, P g → g < w.heap.size → Q g) : KidAt w' Q a i t := by
  obtain ⟨l, x, n, k, ⟨e0, e1, e2, e3, e4, e5, e6, e7, e8, e9, e10⟩, hT⟩ := h
  have hbb : (a.add (i * 11)).block = a.block := add_block _ _
  have hlt : a.block < w.heap.size := by have := cell_block_lt e0; rw [hbb] at this; exact this
  have hblk := hs a.block ha hlt
  have same : ∀ (q : Addr) (v : Value), q.block = a.block → w.cell? q = some v → w'.cell? q = some v := fun q v hq hv => (cell_same (w := w) (w' := w') (by rw [hq]; exact hblk)).trans hv
  exact ⟨l, x, n, k, ⟨same _ _ hbb e0, same _ _ hbb e1, same _ _ hbb e2, same _ _ hbb e3, same _ _ hbb e4, same _ _ hbb e5, same _ _ hbb e6, same _ _ hbb e7, same _ _ hbb e8, same _ _ hbb e9, same _ _ hbb e10⟩, hT.keep hs hq⟩
theorem add_off (a : Addr) (i j : Nat) : a.add (i + (j + 1)) = ⟨(a.add i).block, (a.add i).off + (j + 1), none⟩ := by
  rw [← Go.Deep.add_add]
  unfold Addr.add
  rw [if_neg (by omega)]
def kat (ks : List Tree) (i : Nat) : Tree := ks.getD i tree0
theorem kat_get {ks : List Tree} {i : Nat} (h : i < ks.length) : kat ks i = ks[i] := by simp [kat, List.getD, h]
theorem drop_kat {ks : List Tree} {i : Nat} (h : i < ks.length) : ks.drop i = kat ks i :: ks.drop (i + 1) := by rw [kat_get h]; exact List.drop_eq_getElem_cons h
/-- A tree taken apart: its cells, how many kids, each kid. -/
theorem TreeAt.kids {w : World} {P : Nat → Prop} {cs : List Value} {l : Lab} {ks : List Tree} (h : TreeAt w P cs (.node l ks)) :
    ∃ (x : Option Addr) (k : Nat), cs = lcells l (.slice x ks.length k) ∧ ks.length ≤ k ∧ k ≤ maxLen ∧ ∀ i (hi : i < ks.length), ∃ a, x = some a ∧ P a.block ∧ KidAt w P a i (kat ks i) := by
  cases h with
  | nil => exact ⟨none, 0, rfl, by simp, by unfold maxLen; omega, fun i hi => by simp at hi⟩
  | mk _ a n cap C _ hn hc hm hP hcell hk =>
    subst hn
    refine ⟨some a, cap, rfl, hc, hm, fun i hi => ⟨a, rfl, hP (by omega), ?_⟩⟩
    have hT := hk i hi
    rw [← kat_get hi] at hT
    obtain ⟨l2, x2, n2, k2, hf⟩ := hT.form
    rw [hf] at hT
    have hcs := hcell i hi
    rw [hf] at hcs
    refine ⟨l2, x2, n2, k2, ⟨hcs 0 (by omega), ?_, ?_, ?_, ?_, ?_, ?_, ?_, ?_, ?_, ?_⟩, hT⟩
    · exact add_off a (i * 11) 0 ▸ hcs 1 (by omega)
    · exact add_off a (i * 11) 1 ▸ hcs 2 (by omega)
    · exact add_off a (i * 11) 2 ▸ hcs 3 (by omega)
    · exact add_off a (i * 11) 3 ▸ hcs 4 (by omega)
    · exact add_off a (i * 11) 4 ▸ hcs 5 (by omega)
    · exact add_off a (i * 11) 5 ▸ hcs 6 (by omega)
    · exact add_off a (i * 11) 6 ▸ hcs 7 (by omega)
    · exact add_off a (i * 11) 7 ▸ hcs 8 (by omega)
    · exact add_off a (i * 11) 8 ▸ hcs 9 (by omega)
    · exact add_off a (i * 11) 9 ▸ hcs 10 (by omega)



mutual
def wIn (left lv : Nat) : Tree → Bool × Nat
  | .node _ ks => if left = 0 ∨ lv = 0 then (false, left) else wIns (left - 1) (lv - 1) ks
def wIns (left lv : Nat) : List Tree → Bool × Nat
  | [] => (true, left)
  | t :: r => if (wIn left lv t).1 then wIns (wIn left lv t).2 lv r else (false, (wIn left lv t).2)
end
end Go.Proofs.YtfnhogeocbndcaaGreatDoor
