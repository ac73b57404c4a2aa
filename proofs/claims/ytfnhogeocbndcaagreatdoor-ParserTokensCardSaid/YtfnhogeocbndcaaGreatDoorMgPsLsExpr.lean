/- What a rule of the grammar leaves, and the frame of its walk: local nodes in blocks, trees, the reader. -/
import Derived.Test.YtfnhogeocbndcaaGreatDoorMgPsOp
import Derived.Deep.RegionWith
import Derived.Deep.AppendLies
namespace Go.Proofs.YtfnhogeocbndcaaGreatDoor
open Go Go.RowKit
set_option linter.unusedVariables false

/-- What a rule leaves: a node's cells, its tree in new blocks, the reader's state. -/
def TP (w : World) (R g c : Nat) (ts : List Tok) (t : Tree × Sg) (e : Ending) (w' : World) : Prop :=
  ∃ (l : Lab) (x : Option Addr) (n k : Nat), e = .returned (.agg #[.int .i64 l.kind, .string (str l.name), .int .u64 l.num, .int .i64 l.wd, .bool l.sg, .int .i64 l.op, .int .i64 l.fac, .int .i64 l.pip, .int .i64 l.unr, .int .i64 l.line, .slice x n k]) ∧ TreeAt w' (w.heap.size ≤ ·) [.int .i64 l.kind, .string (str l.name), .int .u64 l.num, .int .i64 l.wd, .bool l.sg, .int .i64 l.op, .int .i64 l.fac, .int .i64 l.pip, .int .i64 l.unr, .int .i64 l.line, .slice x n k] t.1 ∧ Rd w' R g c ts t.2 ∧ St w w' R
theorem TreeAt.form {w : World} {P : Nat → Prop} {cs : List Value} {t : Tree} (h : TreeAt w P cs t) : ∃ (l : Lab) (x : Option Addr) (n k : Nat), cs = [.int .i64 l.kind, .string (str l.name), .int .u64 l.num, .int .i64 l.wd, .bool l.sg, .int .i64 l.op, .int .i64 l.fac, .int .i64 l.pip, .int .i64 l.unr, .int .i64 l.line, .slice x n k] := by
  cases h with
  | nil l => exact ⟨l, none, 0, 0, rfl⟩
  | mk l a n cap C ks => exact ⟨l, some a, n, cap, rfl⟩
def rem (ts : List Tok) (s : Sg) : Nat := if s.bad then 0 else ts.length - s.i
theorem rem_on {ts : List Tok} {s t : Sg} (h : On ts s t) : rem ts t ≤ rem ts s := by
  unfold rem
  cases hb : s.bad with
  | true => rw [h.2.2 hb, hb]; exact Nat.le_refl _
  | false =>
    have := h.1
    cases t.bad
    · simp; omega
    · simp
theorem rem_adv {ts : List Tok} {s : Sg} (h : s.bad = false ∧ s.i < ts.length) : rem ts (adv s) + 1 = rem ts s := by
  unfold rem adv
  rw [h.1]
  simp
  omega
/-- What the code does with fuel f. -/
structure EC (ts : List Tok) (R g c f : Nat) : Prop where
  ex : ∀ s w, Rd w R g c ts s → 32 * rem ts s + 22 ≤ f → Calls Tryz.prog 176 #[.pointer (some ⟨R, 0, none⟩)] w (TP w R g c ts (E ts f .ex s))
  bn : ∀ l s w, l ≤ 9 → Rd w R g c ts s → 32 * rem ts s + (20 - l) ≤ f → Calls Tryz.prog 184 #[.pointer (some ⟨R, 0, none⟩), .int .i64 (l : Int)] w (TP w R g c ts (E ts f (.bn l) s))
  ca : ∀ s w, Rd w R g c ts s → 32 * rem ts s + 10 ≤ f → Calls Tryz.prog 190 #[.pointer (some ⟨R, 0, none⟩)] w (TP w R g c ts (E ts f .ca s))
  un : ∀ s w, Rd w R g c ts s → 32 * rem ts s + 9 ≤ f → Calls Tryz.prog 197 #[.pointer (some ⟨R, 0, none⟩)] w (TP w R g c ts (E ts f .un s))
  pr : ∀ s w, Rd w R g c ts s → 32 * rem ts s + 8 ≤ f → Calls Tryz.prog 204 #[.pointer (some ⟨R, 0, none⟩)] w (TP w R g c ts (E ts f .pr s))
  us : ∀ s w, Rd w R g c ts s → 32 * rem ts s + 7 ≤ f → Calls Tryz.prog 207 #[.pointer (some ⟨R, 0, none⟩)] w (TP w R g c ts (E ts f .us s))

/-- A new block of one node. -/
theorem tree_one {w : World} {R base : Nat} {cs : List Value} {t : Tree} (hT : TreeAt w (base ≤ ·) cs t) (hl : cs.length = 11) (hb : base ≤ w.heap.size) (l : Lab) :
    TreeAt (w.alloc (.cells cs.toArray 28)) (base ≤ ·) (lcells l (.slice (some ⟨w.heap.size, 0, none⟩) 1 1)) (.node l [t]) := by
  refine .mk _ l ⟨w.heap.size, 0, none⟩ 1 1 (fun _ => cs) [t] rfl (by omega) (by unfold maxLen; omega) (fun _ => hb) (fun i hi j hj => ?_) fun i hi => ?_
  · obtain rfl : i = 0 := by omega
    have hB := Blk.alloc w 28 cs
    have ha : (⟨w.heap.size, 0, none⟩ : Addr).add (0 * 11 + j) = ⟨w.heap.size, j, none⟩ := by unfold Addr.add; split <;> simp_all
    rw [ha]
    exact hB.cell j
  · simp at hi
    subst hi
    exact hT.keep (fun g _ hg => Below.heap_alloc w _ g hg) fun _ h _ => h
/-- A new block of nodes one behind the other. -/
theorem tree_many {w : World} {base : Nat} {C : Nat → List Value} {ks : List Tree} (hT : ∀ i (h : i < ks.length), TreeAt w (base ≤ ·) (C i) ks[i]) (hb : base ≤ w.heap.size) (hn : ks.length ≤ 1000) (l : Lab) {cs : List Value} (hcs : cs = flat C ks.length) :
    TreeAt (w.alloc (.cells cs.toArray 28)) (base ≤ ·) (lcells l (.slice (some ⟨w.heap.size, 0, none⟩) ks.length ks.length)) (.node l ks) := by
  subst hcs
  refine .mk _ l ⟨w.heap.size, 0, none⟩ _ _ C ks rfl (Nat.le_refl _) (by unfold maxLen; omega) (fun _ => hb) (fun i hi j hj => ?_) fun i hi => ?_
  · have hB := Blk.alloc w 28 (flat C ks.length)
    have ha : (⟨w.heap.size, 0, none⟩ : Addr).add (i * 11 + j) = ⟨w.heap.size, i * 11 + j, none⟩ := by unfold Addr.add; split <;> simp_all
    rw [ha, hB.cell, flat_get _ (fun i hi => (hT i hi).length) i j hi hj]
  · exact (hT i hi).keep (fun g _ hg => Below.heap_alloc w _ g hg) fun _ h _ => h

/-- Where a walk stands: the reader, local nodes in blocks, trees made since w0. -/
structure Fr (w0 w : World) (R g c : Nat) (ts : List Tok) (s : Sg) (Ls : List (Nat × List Value)) (Ts : List (List Value × Tree)) : Prop where
  rd : Rd w R g c ts s
  st : St w0 w R
  bl : ∀ L cs, (L, cs) ∈ Ls → Blk w L 28 cs ∧ w0.heap.size ≤ L
  tr : ∀ cs t, (cs, t) ∈ Ts → TreeAt w (fun k => w0.heap.size ≤ k ∧ ∀ L xs, (L, xs) ∈ Ls → k ≠ L) cs t
  hR : R < w0.heap.size
  nd : (Ls.map (·.1)).Nodup
theorem Fr.start {w : World} {R g c : Nat} {ts : List Tok} {s : Sg} (h : Rd w R g c ts s) : Fr w w R g c ts s [] [] :=
  ⟨h, St.refl _ _, fun L cs h => by simp at h, fun cs t h => by simp at h, h.lt, by simp⟩
theorem Fr.size {w0 w : World} {R g c : Nat} {ts : List Tok} {s : Sg} {Ls : List (Nat × List Value)} {Ts : List (List Value × Tree)} (F : Fr w0 w R g c ts s Ls Ts) : w0.heap.size ≤ w.heap.size := St.size F.st
/-- Behind a call. -/
theorem Fr.call {w0 w w' : World} {R g c : Nat} {ts : List Tok} {s s' : Sg} {Ls : List (Nat × List Value)} {Ts : List (List Value × Tree)} (F : Fr w0 w R g c ts s Ls Ts) (hr : Rd w' R g c ts s') (hs : St w w' R) : Fr w0 w' R g c ts s' Ls Ts :=
  ⟨hr, St.trans F.st hs, fun L cs h => ⟨St.blk hs (F.bl L cs h).1 (by have := (F.bl L cs h).2; have := F.hR; omega), (F.bl L cs h).2⟩, fun cs t h => (F.tr cs t h).keep (fun k hk hl => World.grownBy.block hs k hl (fun e => by injection e with e; have := F.hR; have := hk.1; omega)) fun k hk _ => hk, F.hR, F.nd⟩
/-- Behind a call that leaves the reader. -/
theorem Fr.quiet {w0 w w' : World} {R g c : Nat} {ts : List Tok} {s : Sg} {Ls : List (Nat × List Value)} {Ts : List (List Value × Tree)} (F : Fr w0 w R g c ts s Ls Ts) (hg : g < R) (hb : Below w.heap.size w w') : Fr w0 w' R g c ts s Ls Ts :=
  F.call (F.rd.below hg hb F.rd.lt) (St.of_below hb)
/-- A new block that is none of the local nodes. -/
theorem Fr.alloc {w0 w : World} {R g c : Nat} {ts : List Tok} {s : Sg} {Ls : List (Nat × List Value)} {Ts : List (List Value × Tree)} (F : Fr w0 w R g c ts s Ls Ts) (hg : g < R) (o : Obj) : Fr w0 (w.alloc o) R g c ts s Ls Ts :=
  F.quiet hg ((Below.refl w.heap.size w).alloc (Nat.le_refl _) o)
/-- A new local node. -/
theorem Fr.node {w0 w : World} {R g c : Nat} {ts : List Tok} {s : Sg} {Ls : List (Nat × List Value)} {Ts : List (List Value × Tree)} (F : Fr w0 w R g c ts s Ls Ts) (hg : g < R) (cs : List Value) : Fr w0 (w.alloc (.cells cs.toArray 28)) R g c ts s ((w.heap.size, cs) :: Ls) Ts := by
  have F1 := F.alloc hg (.cells cs.toArray 28)
  refine ⟨F1.rd, F1.st, fun L xs h => ?_, fun xs t h => (F.tr xs t h).keep (fun k _ hk => Below.heap_alloc w _ k hk) fun k hk hl => ⟨hk.1, fun L ys hL => ?_⟩, F1.hR, ?_⟩
  · rcases List.mem_cons.1 h with h | h
    · injection h with h1 h2
      subst h1 h2
      exact ⟨Blk.alloc _ _ _, F.size⟩
    · exact F1.bl L xs h
  · rcases List.mem_cons.1 hL with h1 | h1
    · injection h1 with h2 h3
      omega
    · exact hk.2 L ys h1
  · rw [List.map_cons, List.nodup_cons]
    refine ⟨fun h => ?_, F.nd⟩
    obtain ⟨⟨L, xs⟩, h1, h2⟩ := List.mem_map.1 h
    have := (F.bl L xs h1).1.lt
    simp only at h2
    omega
theorem Fr.lt {w0 w : World} {R g c : Nat} {ts : List Tok} {s : Sg} {Ls : List (Nat × List Value)} {Ts : List (List Value × Tree)} (F : Fr w0 w R g c ts s Ls Ts) {L : Nat} {cs : List Value} (h : (L, cs) ∈ Ls) : L < w.heap.size := (F.bl L cs h).1.lt
/-- Behind a rule that has made a tree. -/
theorem Fr.tree {w0 w w' : World} {R g c : Nat} {ts : List Tok} {s s' : Sg} {Ls : List (Nat × List Value)} {Ts : List (List Value × Tree)} (F : Fr w0 w R g c ts s Ls Ts) {cs : List Value} {t : Tree} (ht : TreeAt w' (w.heap.size ≤ ·) cs t) (hr : Rd w' R g c ts s') (hs : St w w' R) : Fr w0 w' R g c ts s' Ls ((cs, t) :: Ts) := by
  have F1 := F.call hr hs
  refine ⟨F1.rd, F1.st, F1.bl, fun xs u h => ?_, F1.hR, F1.nd⟩
  rcases List.mem_cons.1 h with h | h
  · injection h with h1 h2
    subst h1 h2
    exact ht.mono fun q hq _ => ⟨Nat.le_trans F.size hq, fun L ys hL => by have := F.lt hL; omega⟩
  · exact F1.tr xs u h
/-- A field of a local node is stored. -/
theorem Fr.set {w0 w : World} {R g c : Nat} {ts : List Tok} {s : Sg} {Ls Ls' : List (Nat × List Value)} {Ts : List (List Value × Tree)} (F : Fr w0 w R g c ts s Ls Ts) (hg : g < R) (L i : Nat) (cs : List Value) (hL : (L, cs) ∈ Ls) (v : Value)
    (hnd : (Ls'.map (·.1)).Nodup) (hLs : ∀ M xs, (M, xs) ∈ Ls' → (M = L ∧ xs = cs.set i v) ∨ (M ≠ L ∧ (M, xs) ∈ Ls)) : Fr w0 (w.setCell ⟨L, i, none⟩ v) R g c ts s Ls' Ts := by
  have hb := F.bl L cs hL
  have hR := F.hR
  refine ⟨F.rd.set_other hg (by show R < L; omega) v, St.setCell F.st hb.2 v, fun M xs h => ?_, fun xs t h => (F.tr xs t h).keep (fun k hk _ => Below.heap_setCell _ _ _ _ (hk.2 L cs hL)) fun k hk _ => ⟨hk.1, fun M ys hM => ?_⟩, F.hR, hnd⟩
  · rcases hLs M xs h with ⟨rfl, rfl⟩ | ⟨h1, h2⟩
    · exact ⟨hb.1.set i v, hb.2⟩
    · exact ⟨(F.bl M xs h2).1.set_other h1 v, (F.bl M xs h2).2⟩
  · rcases hLs M ys hM with ⟨rfl, rfl⟩ | ⟨h1, h2⟩
    · exact hk.2 _ cs hL
    · exact hk.2 M ys h2
/-- A local node is stored anew, whole. -/
theorem Fr.stor {w0 w : World} {R g c : Nat} {ts : List Tok} {s : Sg} {Ls Ls' : List (Nat × List Value)} {Ts : List (List Value × Tree)} (F : Fr w0 w R g c ts s Ls Ts) (hg : g < R) (L : Nat) (cs : List Value) (hL : (L, cs) ∈ Ls) (hl : cs.length = 11) (x0 x1 x2 x3 x4 x5 x6 x7 x8 x9 x10 : Value)
    (hnd : (Ls'.map (·.1)).Nodup) (hLs : ∀ M xs, (M, xs) ∈ Ls' → (M = L ∧ xs = [x0, x1, x2, x3, x4, x5, x6, x7, x8, x9, x10]) ∨ (M ≠ L ∧ (M, xs) ∈ Ls)) : Fr w0 (stor11 w L x0 x1 x2 x3 x4 x5 x6 x7 x8 x9 x10) R g c ts s Ls' Ts := by
  have hb := F.bl L cs hL
  have hR := F.hR
  refine ⟨F.rd.stor11 hg (by omega) _ _ _ _ _ _ _ _ _ _ _, F.st.stor11 hb.2 _ _ _ _ _ _ _ _ _ _ _, fun M xs h => ?_, fun xs t h => (F.tr xs t h).keep (fun k hk _ => stor11_other _ (hk.2 L cs hL) _ _ _ _ _ _ _ _ _ _ _) fun k hk _ => ⟨hk.1, fun M ys hM => ?_⟩, F.hR, hnd⟩
  · rcases hLs M xs h with ⟨rfl, rfl⟩ | ⟨h1, h2⟩
    · exact ⟨hb.1.stor11 hl _ _ _ _ _ _ _ _ _ _ _, hb.2⟩
    · exact ⟨(stor11_other _ h1 _ _ _ _ _ _ _ _ _ _ _).trans (F.bl M xs h2).1, (F.bl M xs h2).2⟩
  · rcases hLs M ys hM with ⟨rfl, rfl⟩ | ⟨h1, h2⟩
    · exact hk.2 _ cs hL
    · exact hk.2 M ys h2
/-- A slice of nodes whose trees are there: a new block. -/
theorem Fr.kids {w0 w : World} {R g c : Nat} {ts : List Tok} {s : Sg} {Ls : List (Nat × List Value)} {Ts : List (List Value × Tree)} (F : Fr w0 w R g c ts s Ls Ts) (hg : g < R) (C : Nat → List Value) (ks : List Tree) (hC : ∀ i (h : i < ks.length), (C i, ks[i]) ∈ Ts) (hn : ks.length ≤ 1000) (cs : List Value) (hcs : cs = flat C ks.length) (l : Lab) :
    Fr w0 (w.alloc (.cells cs.toArray 28)) R g c ts s Ls ((lcells l (.slice (some ⟨w.heap.size, 0, none⟩) ks.length ks.length), .node l ks) :: Ts) := by
  have F1 := F.alloc hg (.cells cs.toArray 28)
  refine ⟨F1.rd, F1.st, F1.bl, fun xs t h => ?_, F1.hR, F1.nd⟩
  rcases List.mem_cons.1 h with h | h
  · injection h with h1 h2
    subst h1 h2
    subst hcs
    refine .mk _ l ⟨w.heap.size, 0, none⟩ _ _ C ks rfl (Nat.le_refl _) (by unfold maxLen; omega) (fun _ => ⟨F.size, fun L ys hL => by have := F.lt hL; show w.heap.size ≠ L; omega⟩) (fun i hi j hj => ?_) fun i hi => ?_
    · have hB := Blk.alloc w 28 (flat C ks.length)
      have ha : (⟨w.heap.size, 0, none⟩ : Addr).add (i * 11 + j) = ⟨w.heap.size, i * 11 + j, none⟩ := by unfold Addr.add; split <;> simp_all
      rw [ha, hB.cell, flat_get _ (fun i hi => (F.tr _ _ (hC i hi)).length) i j hi hj]
    · exact (F.tr _ _ (hC i hi)).keep (fun k _ hk => Below.heap_alloc w _ k hk) fun _ h _ => h
  · exact F1.tr xs t h
/-- A node without Kids is a tree. -/
theorem Fr.leaf {w0 w : World} {R g c : Nat} {ts : List Tok} {s : Sg} {Ls : List (Nat × List Value)} {Ts : List (List Value × Tree)} (F : Fr w0 w R g c ts s Ls Ts) (l : Lab) : Fr w0 w R g c ts s Ls ((lcells l (.slice none 0 0), .node l []) :: Ts) := by
  refine ⟨F.rd, F.st, F.bl, fun xs t h => ?_, F.hR, F.nd⟩
  rcases List.mem_cons.1 h with h | h
  · injection h with h1 h2
    subst h1 h2
    exact .nil _ l
  · exact F.tr xs t h
/-- The result is stored into its cell, and handed back. -/
theorem Fr.done {w0 w : World} {R g c : Nat} {ts : List Tok} {s : Sg} {Ls : List (Nat × List Value)} {Ts : List (List Value × Tree)} (F : Fr w0 w R g c ts s Ls Ts) (hg : g < R) {L : Nat} {cs : List Value} (hL : (L, cs) ∈ Ls) {x0 x1 x2 x3 x4 x5 x6 x7 x8 x9 x10 : Value} {t : Tree} (ht : ([x0, x1, x2, x3, x4, x5, x6, x7, x8, x9, x10], t) ∈ Ts) :
    TP w0 R g c ts (t, s) (.returned (.agg #[x0, x1, x2, x3, x4, x5, x6, x7, x8, x9, x10])) (stor11 w L x0 x1 x2 x3 x4 x5 x6 x7 x8 x9 x10) := by
  have hb := F.bl L cs hL
  have hR := F.hR
  have hT := (F.tr _ _ ht).keep (Q := (w0.heap.size ≤ ·)) (fun k hk _ => stor11_other w (hk.2 L cs hL) x0 x1 x2 x3 x4 x5 x6 x7 x8 x9 x10) fun k hk _ => hk.1
  obtain ⟨l, x, n, k, hf⟩ := hT.form
  rw [hf] at hT
  refine ⟨l, x, n, k, ?_, hT, F.rd.stor11 hg (by omega) _ _ _ _ _ _ _ _ _ _ _, F.st.stor11 hb.2 _ _ _ _ _ _ _ _ _ _ _⟩
  have := congrArg (fun q : List Value => Ending.returned (.agg q.toArray)) hf
  exact this
section
variable {w0 w : World} {R g c : Nat} {ts : List Tok} {s : Sg} {Ts : List (List Value × Tree)}
theorem Fr.b0 {L : Nat} {cs : List Value} {Ls : List (Nat × List Value)} (F : Fr w0 w R g c ts s ((L, cs) :: Ls) Ts) : Blk w L 28 cs := (F.bl L cs (by simp)).1
theorem Fr.b1 {p : Nat × List Value} {L : Nat} {cs : List Value} {Ls : List (Nat × List Value)} (F : Fr w0 w R g c ts s (p :: (L, cs) :: Ls) Ts) : Blk w L 28 cs := (F.bl L cs (by simp)).1
theorem Fr.b2 {p q : Nat × List Value} {L : Nat} {cs : List Value} {Ls : List (Nat × List Value)} (F : Fr w0 w R g c ts s (p :: q :: (L, cs) :: Ls) Ts) : Blk w L 28 cs := (F.bl L cs (by simp)).1
theorem Fr.b3 {p q r : Nat × List Value} {L : Nat} {cs : List Value} {Ls : List (Nat × List Value)} (F : Fr w0 w R g c ts s (p :: q :: r :: (L, cs) :: Ls) Ts) : Blk w L 28 cs := (F.bl L cs (by simp)).1
theorem nd_ne {M L : Nat} {xs cs : List Value} {Ls : List (Nat × List Value)} (h : (((L, cs) :: Ls).map (·.1)).Nodup) (hm : (M, xs) ∈ Ls) : M ≠ L := by
  rw [List.map_cons, List.nodup_cons] at h
  intro e
  exact h.1 (List.mem_map.2 ⟨(M, xs), hm, e⟩)
theorem Fr.set0 {L : Nat} {cs : List Value} {Ls : List (Nat × List Value)} (F : Fr w0 w R g c ts s ((L, cs) :: Ls) Ts) (hg : g < R) (i : Nat) (v : Value) (cs' : List Value) (h : cs' = cs.set i v) : Fr w0 (w.setCell ⟨L, i, none⟩ v) R g c ts s ((L, cs') :: Ls) Ts := by
  refine F.set hg L i cs (by simp) v F.nd fun M xs hm => ?_
  rcases List.mem_cons.1 hm with hm | hm
  · injection hm with h1 h2
    exact .inl ⟨h1, h2.trans h⟩
  · exact .inr ⟨nd_ne F.nd hm, by simp [hm]⟩
theorem Fr.set1 {p : Nat × List Value} {L : Nat} {cs : List Value} {Ls : List (Nat × List Value)} (F : Fr w0 w R g c ts s (p :: (L, cs) :: Ls) Ts) (hg : g < R) (i : Nat) (v : Value) (cs' : List Value) (h : cs' = cs.set i v) : Fr w0 (w.setCell ⟨L, i, none⟩ v) R g c ts s (p :: (L, cs') :: Ls) Ts := by
  have hnd := F.nd
  rw [List.map_cons, List.nodup_cons] at hnd
  refine F.set hg L i cs (by simp) v F.nd fun M xs hm => ?_
  rcases List.mem_cons.1 hm with hm | hm
  · refine .inr ⟨fun e => hnd.1 ?_, by simp [hm]⟩
    rw [← hm, e]
    simp
  · rcases List.mem_cons.1 hm with hm | hm
    · injection hm with h1 h2
      exact .inl ⟨h1, h2.trans h⟩
    · exact .inr ⟨nd_ne hnd.2 hm, by simp [hm]⟩
theorem Fr.set2 {p q : Nat × List Value} {L : Nat} {cs : List Value} {Ls : List (Nat × List Value)} (F : Fr w0 w R g c ts s (p :: q :: (L, cs) :: Ls) Ts) (hg : g < R) (i : Nat) (v : Value) (cs' : List Value) (h : cs' = cs.set i v) : Fr w0 (w.setCell ⟨L, i, none⟩ v) R g c ts s (p :: q :: (L, cs') :: Ls) Ts := by
  have hnd := F.nd
  rw [List.map_cons, List.nodup_cons, List.map_cons, List.nodup_cons] at hnd
  refine F.set hg L i cs (by simp) v F.nd fun M xs hm => ?_
  rcases List.mem_cons.1 hm with hm | hm
  · refine .inr ⟨fun e => hnd.1 ?_, by simp [hm]⟩
    rw [← hm, e]
    simp
  · rcases List.mem_cons.1 hm with hm | hm
    · refine .inr ⟨fun e => hnd.2.1 ?_, by simp [hm]⟩
      rw [← hm, e]
      simp
    · rcases List.mem_cons.1 hm with hm | hm
      · injection hm with h1 h2
        exact .inl ⟨h1, h2.trans h⟩
      · exact .inr ⟨nd_ne hnd.2.2 hm, by simp [hm]⟩
theorem Fr.stor0 {L : Nat} {cs : List Value} {Ls : List (Nat × List Value)} (F : Fr w0 w R g c ts s ((L, cs) :: Ls) Ts) (hg : g < R) (hl : cs.length = 11) (x0 x1 x2 x3 x4 x5 x6 x7 x8 x9 x10 : Value) : Fr w0 (stor11 w L x0 x1 x2 x3 x4 x5 x6 x7 x8 x9 x10) R g c ts s ((L, [x0, x1, x2, x3, x4, x5, x6, x7, x8, x9, x10]) :: Ls) Ts := by
  refine F.stor hg L cs (by simp) hl x0 x1 x2 x3 x4 x5 x6 x7 x8 x9 x10 F.nd fun M xs hm => ?_
  rcases List.mem_cons.1 hm with hm | hm
  · injection hm with h1 h2
    exact .inl ⟨h1, h2⟩
  · exact .inr ⟨nd_ne F.nd hm, by simp [hm]⟩
theorem Fr.kids1 {Ls : List (Nat × List Value)} (F : Fr w0 w R g c ts s Ls Ts) (hg : g < R) {c1 : List Value} {t1 : Tree} (h1 : (c1, t1) ∈ Ts) (l : Lab) : Fr w0 (w.alloc (.cells c1.toArray 28)) R g c ts s Ls ((lcells l (.slice (some ⟨w.heap.size, 0, none⟩) 1 1), .node l [t1]) :: Ts) :=
  F.kids hg (fun _ => c1) [t1] (fun i hi => by simp at hi; subst hi; exact h1) (by simp) c1 (by simp [flat]) l
theorem Fr.kids2 {Ls : List (Nat × List Value)} (F : Fr w0 w R g c ts s Ls Ts) (hg : g < R) {c1 c2 : List Value} {t1 t2 : Tree} (h1 : (c1, t1) ∈ Ts) (h2 : (c2, t2) ∈ Ts) (l : Lab) (cs : List Value) (hcs : cs = c1 ++ c2) : Fr w0 (w.alloc (.cells cs.toArray 28)) R g c ts s Ls ((lcells l (.slice (some ⟨w.heap.size, 0, none⟩) 2 2), .node l [t1, t2]) :: Ts) :=
  F.kids hg (fun i => if i = 0 then c1 else c2) [t1, t2] (fun i hi => by
    simp at hi
    match i, hi with
    | 0, _ => exact h1
    | 1, _ => exact h2) (by simp) cs (by rw [hcs]; simp [flat, List.range_succ]) l
theorem Fr.kids3 {Ls : List (Nat × List Value)} (F : Fr w0 w R g c ts s Ls Ts) (hg : g < R) {c1 c2 c3 : List Value} {t1 t2 t3 : Tree} (h1 : (c1, t1) ∈ Ts) (h2 : (c2, t2) ∈ Ts) (h3 : (c3, t3) ∈ Ts) (l : Lab) (cs : List Value) (hcs : cs = c1 ++ (c2 ++ c3)) : Fr w0 (w.alloc (.cells cs.toArray 28)) R g c ts s Ls ((lcells l (.slice (some ⟨w.heap.size, 0, none⟩) 3 3), .node l [t1, t2, t3]) :: Ts) :=
  F.kids hg (fun i => if i = 0 then c1 else if i = 1 then c2 else c3) [t1, t2, t3] (fun i hi => by
    simp at hi
    match i, hi with
    | 0, _ => exact h1
    | 1, _ => exact h2
    | 2, _ => exact h3) (by simp) cs (by rw [hcs]; simp [flat, List.range_succ]) l
theorem Fr.kidz1 {Ls : List (Nat × List Value)} (F : Fr w0 w R g c ts s Ls Ts) (hg : g < R) (H : Nat) (hH : w.heap.size = H) {c1 : List Value} {t1 : Tree} (h1 : (c1, t1) ∈ Ts) (l : Lab) : Fr w0 (w.alloc (.cells c1.toArray 28)) R g c ts s Ls ((lcells l (.slice (some ⟨H, 0, none⟩) 1 1), .node l [t1]) :: Ts) := by
  subst hH; exact F.kids1 hg h1 l
theorem Fr.kidz2 {Ls : List (Nat × List Value)} (F : Fr w0 w R g c ts s Ls Ts) (hg : g < R) (H : Nat) (hH : w.heap.size = H) {c1 c2 : List Value} {t1 t2 : Tree} (h1 : (c1, t1) ∈ Ts) (h2 : (c2, t2) ∈ Ts) (l : Lab) (cs : List Value) (hcs : cs = c1 ++ c2) : Fr w0 (w.alloc (.cells cs.toArray 28)) R g c ts s Ls ((lcells l (.slice (some ⟨H, 0, none⟩) 2 2), .node l [t1, t2]) :: Ts) := by
  subst hH; exact F.kids2 hg h1 h2 l cs hcs
theorem Fr.kidz3 {Ls : List (Nat × List Value)} (F : Fr w0 w R g c ts s Ls Ts) (hg : g < R) (H : Nat) (hH : w.heap.size = H) {c1 c2 c3 : List Value} {t1 t2 t3 : Tree} (h1 : (c1, t1) ∈ Ts) (h2 : (c2, t2) ∈ Ts) (h3 : (c3, t3) ∈ Ts) (l : Lab) (cs : List Value) (hcs : cs = c1 ++ (c2 ++ c3)) : Fr w0 (w.alloc (.cells cs.toArray 28)) R g c ts s Ls ((lcells l (.slice (some ⟨H, 0, none⟩) 3 3), .node l [t1, t2, t3]) :: Ts) := by
  subst hH; exact F.kids3 hg h1 h2 h3 l cs hcs
theorem Fr.drewN {Ls : List (Nat × List Value)} (F : Fr w0 w R g c ts s Ls Ts) (n : Nat) : Fr w0 (w.drewN n) R g c ts s Ls Ts :=
  ⟨F.rd.drewN n, St.drewN F.st n, F.bl, fun cs t h => (F.tr cs t h).keep (fun _ _ _ => rfl) fun _ hk _ => hk, F.hR, F.nd⟩
theorem Fr.drew {Ls : List (Nat × List Value)} (F : Fr w0 w R g c ts s Ls Ts) : Fr w0 w.drew R g c ts s Ls Ts := F.drewN 1
theorem Fr.keepT {Ls : List (Nat × List Value)} {Ts' : List (List Value × Tree)} (F : Fr w0 w R g c ts s Ls Ts) (h : ∀ p, p ∈ Ts' → p ∈ Ts) : Fr w0 w R g c ts s Ls Ts' := ⟨F.rd, F.st, F.bl, fun cs t ht => F.tr cs t (h _ ht), F.hR, F.nd⟩
/-- The reader goes on to the next token. -/
theorem Fr.advR {Ls : List (Nat × List Value)} (F : Fr w0 w R g c ts s Ls Ts) (hg : g < R) (h0 : s.bad = false ∧ s.i < ts.length) {v : Int} (hv : v = (s.i : Int) + 1) : Fr w0 (w.setCell ⟨R, 1, none⟩ (.int .i64 v)) R g c ts (adv s) Ls Ts := by
  have hR := F.hR
  refine ⟨rd_adv' F.rd hg h0 hv, St.setR F.st rfl _, fun L cs h => ?_, fun xs t h => (F.tr xs t h).keep (fun k hk _ => Below.heap_setCell _ _ _ _ (by have := hk.1; show k ≠ R; omega)) fun k hk _ => hk, F.hR, F.nd⟩
  have := F.bl L cs h
  exact ⟨this.1.set_other (by show L ≠ R; omega) _, this.2⟩
/-- The result is stored into its cell. -/
theorem Fr.stoR {Ls : List (Nat × List Value)} (F : Fr w0 w R g c ts s Ls Ts) (hg : g < R) {L : Nat} {cs : List Value} (hL : (L, cs) ∈ Ls) (hl : cs.length = 11) (x0 x1 x2 x3 x4 x5 x6 x7 x8 x9 x10 : Value) : Fr w0 (stor11 w L x0 x1 x2 x3 x4 x5 x6 x7 x8 x9 x10) R g c ts s [(L, [x0, x1, x2, x3, x4, x5, x6, x7, x8, x9, x10])] Ts :=
  F.stor hg L cs hL hl x0 x1 x2 x3 x4 x5 x6 x7 x8 x9 x10 (by simp) fun M xs hm => by
    simp at hm
    exact .inl hm
/-- The tree at the head is handed back. -/
theorem Fr.outT {Ls : List (Nat × List Value)} {cs : List Value} {t : Tree} (F : Fr w0 w R g c ts s Ls ((cs, t) :: Ts)) {T : Tree × Sg} (hT : T = (t, s)) : TP w0 R g c ts T (.returned (.agg cs.toArray)) w := by
  subst hT
  have ht := (F.tr cs t (by simp)).mono (Q := (w0.heap.size ≤ ·)) fun k hk _ => hk.1
  obtain ⟨l, x, n, k, rfl⟩ := ht.form
  exact ⟨l, x, n, k, rfl, ht, F.rd, F.st⟩
/-- The tree at the head is the result, whose cell is the last local node. -/
theorem Fr.fin {L : Nat} {cs : List Value} {Ls : List (Nat × List Value)} {x0 x1 x2 x3 x4 x5 x6 x7 x8 x9 x10 : Value} {t : Tree} (F : Fr w0 w R g c ts s Ls (([x0, x1, x2, x3, x4, x5, x6, x7, x8, x9, x10], t) :: Ts)) (hg : g < R) (hL : (L, cs) ∈ Ls) {T : Tree × Sg} (hT : T = (t, s)) :
    TP w0 R g c ts T (.returned (.agg #[x0, x1, x2, x3, x4, x5, x6, x7, x8, x9, x10])) (stor11 w L x0 x1 x2 x3 x4 x5 x6 x7 x8 x9 x10) := by
  subst hT
  exact F.done hg hL (by simp)
end
/-- The index of the next token, out of memory. -/
def atW (w : World) (R : Nat) : Nat := match w.cell? ⟨R, 1, none⟩ with
  | some (.int _ i) => i.toNat
  | _ => 0
theorem atW_rd {w : World} {R g c : Nat} {ts : List Tok} {s : Sg} (h : Rd w R g c ts s) : atW w R = atOf ts s := by
  unfold atW
  rw [h.cells.2.1]
  simp
theorem atOf_adv {ts : List Tok} {s t : Sg} (h : s.bad = false ∧ s.i < ts.length) (ht : On ts (adv s) t) (hi : t.i ≤ ts.length) : atOf ts s < atOf ts t ∧ atOf ts t ≤ ts.length := by
  have h1 := ht.1
  unfold adv at h1
  unfold atOf
  rw [h.1]
  cases t.bad
  · simp; simp at h1; omega
  · simp; omega
end Go.Proofs.YtfnhogeocbndcaaGreatDoor
/- The rule unary: contract. -/
namespace Go.Proofs.YtfnhogeocbndcaaGreatDoor
open Go Go.RowKit
set_option linter.unusedVariables false
set_option linter.unusedSimpArgs false

set_option maxHeartbeats 2000000 in
set_option maxRecDepth 100000 in
theorem unary_step {ts : List Tok} {R g c : Nat} (X : Ctx ts R g c) (f : Nat) (H : EC ts R g c f) (s : Sg) (w : World) (hR : Rd w R g c ts s) (hf : 32 * rem ts s + 9 ≤ f + 1) : Calls Tryz.prog 197 #[.pointer (some ⟨R, 0, none⟩)] w (TP w R g c ts (E ts (f + 1) .un s)) := by
  have hXl := X.lt
  have F0 := Lib.hid ((Fr.start hR).node hXl ncz)
  have HN := Lib.hid fun W (h : Rd W R g c ts s) => node_any X 21 W h
  have HO := Lib.hid fun W (h : Rd W R g c ts s) => oper_any X 10 (by omega) W h
  have HPR := Lib.hid fun W (h : Rd W R g c ts s) => H.pr s W h (by omega)
  have HUN : Hid (opV ts s 10 ≠ 0 → ∀ W, Rd W R g c ts (adv s) → Calls Tryz.prog 197 #[.pointer (some ⟨R, 0, none⟩)] W (TP W R g c ts (E ts f .un (adv s)))) := Lib.hid fun h W hW => H.un (adv s) W hW (by have := rem_adv (opV_in h); omega)
  have HL : Hid (nc (labK 21 (ln ts s)) = [.int .i64 21, .string ⟨#[]⟩, .int .u64 0, .int .i64 0, .bool false, .int .i64 0, .int .i64 0, .int .i64 0, .int .i64 0, .int .i64 ((ln ts s : Nat) : Int), .slice none 0 0]) := Lib.hid rfl
  rw [HL.out] at HN
  unfold opS at HO
  by_cases ho : opV ts s 10 = 0
  · have HE : Hid (E ts (f + 1) .un s = E ts f .pr s) := Lib.hid (by rw [E, if_pos ho])
    rw [HE.out]
    rw [if_pos ho, ho] at HO
    clear HUN ho hf HE H hR HL
    go_enter Tryz.func197, Tryz.ntmps197
    go_wp2_with fail
    refine (HN.out _ F0.out.rd).mono ?_
    rintro e v1 ⟨rfl, hb⟩
    have G1 := Lib.hid (F0.out.quiet hXl hb)
    clear hb
    obtain ⟨hc0, hf0⟩ := G1.out.b0.all
    have hz0 := G1.out.b0.lt
    unfold ncz at hc0
    have hq10 := G1.out.b0.lt
    have G2 := Lib.hid (G1.out.node hXl [.int .i64 21, .string ⟨#[]⟩, .int .u64 0, .int .i64 0, .bool false, .int .i64 0, .int .i64 0, .int .i64 0, .int .i64 0, .int .i64 ((ln ts s : Nat) : Int), .slice none 0 0])
    go_wp2_with fail
    refine (HO.out _ G2.out.rd).mono ?_
    rintro e v2 ⟨rfl, hr, hs⟩
    clear hc0 hf0 hz0
    have G3 := Lib.hid (G2.out.call hr hs)
    clear hr hs
    obtain ⟨hc0, hf0⟩ := G3.out.b0.all
    have hz0 := G3.out.b0.lt
    obtain ⟨hc1, hf1⟩ := G3.out.b1.all
    have hz1 := G3.out.b1.lt
    unfold ncz at hc1
    have G4 := Lib.hid (G3.out.set0 hXl 5 (.int .i64 0) [.int .i64 21, .string ⟨#[]⟩, .int .u64 0, .int .i64 0, .bool false, .int .i64 0, .int .i64 0, .int .i64 0, .int .i64 0, .int .i64 ((ln ts s : Nat) : Int), .slice none 0 0] rfl)
    go_wp2_with fail
    refine (HPR.out _ G4.out.rd).mono ?_
    rintro e v3 ⟨l1, x1, n1, k1, rfl, hT, hr, hs⟩
    clear hc0 hf0 hz0 hc1 hf1 hz1
    have G5 := Lib.hid (G4.out.tree hT hr hs)
    clear hT hr hs
    obtain ⟨hc0, hf0⟩ := G5.out.b0.all
    have hz0 := G5.out.b0.lt
    obtain ⟨hc1, hf1⟩ := G5.out.b1.all
    have hz1 := G5.out.b1.lt
    unfold ncz at hc1
    go_wp2
    have G6 := Lib.hid (G5.out.stoR hXl (List.Mem.tail _ (List.Mem.head _)) rfl (.int .i64 l1.kind) (.string (str l1.name)) (.int .u64 l1.num) (.int .i64 l1.wd) (.bool l1.sg) (.int .i64 l1.op) (.int .i64 l1.fac) (.int .i64 l1.pip) (.int .i64 l1.unr) (.int .i64 l1.line) (.slice x1 n1 k1))
    refine bodyPost_ret (G6.out.b0.res1 Tryz.results197 Tryz.underlying28 rfl infoNd _ rfl) rfl ?_
    exact G6.out.outT (rfl)
  · have HE : Hid (E ts (f + 1) .un s = (.node { labK 21 (ln ts s) with op := opV ts s 10 } [(E ts f .un (adv s)).1], (E ts f .un (adv s)).2)) := Lib.hid (by rw [E, if_neg ho])
    rw [HE.out]
    rw [if_neg ho] at HO
    have HU2 := Lib.hid (HUN.out ho)
    have q : ((opV ts s 10 : Int) == 0) = false := by simp; omega
    clear HUN ho hf HE H hR HL HPR
    go_enter Tryz.func197, Tryz.ntmps197
    go_wp2_with fail
    refine (HN.out _ F0.out.rd).mono ?_
    rintro e v1 ⟨rfl, hb⟩
    have G1 := Lib.hid (F0.out.quiet hXl hb)
    clear hb
    obtain ⟨hc0, hf0⟩ := G1.out.b0.all
    have hz0 := G1.out.b0.lt
    unfold ncz at hc0
    have hq10 := G1.out.b0.lt
    have G2 := Lib.hid (G1.out.node hXl [.int .i64 21, .string ⟨#[]⟩, .int .u64 0, .int .i64 0, .bool false, .int .i64 0, .int .i64 0, .int .i64 0, .int .i64 0, .int .i64 ((ln ts s : Nat) : Int), .slice none 0 0])
    go_wp2_with fail
    refine (HO.out _ G2.out.rd).mono ?_
    rintro e v2 ⟨rfl, hr, hs⟩
    clear hc0 hf0 hz0
    have G3 := Lib.hid (G2.out.call hr hs)
    clear hr hs
    obtain ⟨hc0, hf0⟩ := G3.out.b0.all
    have hz0 := G3.out.b0.lt
    obtain ⟨hc1, hf1⟩ := G3.out.b1.all
    have hz1 := G3.out.b1.lt
    unfold ncz at hc1
    have G4 := Lib.hid (G3.out.set0 hXl 5 (.int .i64 (opV ts s 10 : Int)) [.int .i64 21, .string ⟨#[]⟩, .int .u64 0, .int .i64 0, .bool false, .int .i64 (opV ts s 10 : Int), .int .i64 0, .int .i64 0, .int .i64 0, .int .i64 ((ln ts s : Nat) : Int), .slice none 0 0] rfl)
    go_wp2_with fail
    refine (HU2.out _ G4.out.rd).mono ?_
    rintro e v3 ⟨l1, x1, n1, k1, rfl, hT, hr, hs⟩
    clear hc0 hf0 hz0 hc1 hf1 hz1
    have G5 := Lib.hid (G4.out.tree hT hr hs)
    clear hT hr hs
    obtain ⟨hc0, hf0⟩ := G5.out.b0.all
    have hz0 := G5.out.b0.lt
    obtain ⟨hc1, hf1⟩ := G5.out.b1.all
    have hz1 := G5.out.b1.lt
    unfold ncz at hc1
    have G6 := Lib.hid (G5.out.set0 hXl 10 (.slice (some ⟨v3.heap.size, 0, none⟩) 1 1) [.int .i64 21, .string ⟨#[]⟩, .int .u64 0, .int .i64 0, .bool false, .int .i64 (opV ts s 10 : Int), .int .i64 0, .int .i64 0, .int .i64 0, .int .i64 ((ln ts s : Nat) : Int), .slice (some ⟨v3.heap.size, 0, none⟩) 1 1] rfl)
    go_wp2
    have G7 := Lib.hid (G6.out.stoR hXl (List.Mem.tail _ (List.Mem.head _)) rfl (.int .i64 21) (.string ⟨#[]⟩) (.int .u64 0) (.int .i64 0) (.bool false) (.int .i64 (opV ts s 10 : Int)) (.int .i64 0) (.int .i64 0) (.int .i64 0) (.int .i64 ((ln ts s : Nat) : Int)) (.slice (some ⟨v3.heap.size, 0, none⟩) 1 1))
    have G8 := Lib.hid (G7.out.kidz1 hXl v3.heap.size (by simp only [size_setCell, stor11_size]) (List.Mem.head _) { labK 21 (ln ts s) with op := opV ts s 10 })
    refine bodyPost_ret (G8.out.b0.res1 Tryz.results197 Tryz.underlying28 rfl infoNd _ rfl) rfl ?_
    exact G8.out.outT (rfl)
end Go.Proofs.YtfnhogeocbndcaaGreatDoor
/- The rule for lists in round brackets: contract, over any rule for the items. -/
namespace Go.Proofs.YtfnhogeocbndcaaGreatDoor
open Go Go.RowKit
set_option linter.unusedVariables false

/-- What the rule for lists leaves. -/
def LP (w : World) (R g c : Nat) (ts : List Tok) (x : List Tree × Sg) (e : Ending) (w' : World) : Prop :=
  ∃ v, e = .returned v ∧ Kids w' w.heap.size v x.1 ∧ Rd w' R g c ts x.2 ∧ St w w' R
theorem infoNd2 : (Tryz.prog.info? 28).map (fun i => (i.zero, i.size, i.bytes)) = some (some (.agg #[.int .i64 0, .string ⟨#[]⟩, .int .u64 0, .int .i64 0, .bool false, .int .i64 0, .int .i64 0, .int .i64 0, .int .i64 0, .int .i64 0, .slice none 0 0]), 11, 112) := by kernel_rfl
def slen : Value → Nat
  | .slice _ n _ => n
  | _ => 0
/-- The state of the loop. -/
structure LsSt (ts : List Tok) (R g c : Nat) (item : Sg → Tree × Sg) (B : Nat) (X0 : List Tree × Sg) (w wr : World) (v : Value) (acc : List Tree) (s : Sg) : Prop where
  kd : Kids wr w.heap.size v acc
  rd : Rd wr R g c ts s
  st : St w wr R
  eq : ∃ m, rem ts s ≤ m ∧ X0 = more ts item (m + 1) acc s
  few : acc.length + rem ts s ≤ B
theorem kids_one {w : World} {base : Nat} {cs : List Value} {t : Tree} (hT : TreeAt w (base ≤ ·) cs t) (hb : base ≤ w.heap.size) : Kids (w.alloc (.cells cs.toArray 28)) base (.slice (some ⟨w.heap.size, 0, none⟩) 1 1) [t] := by
  have hl := hT.length
  refine ⟨fun _ => cs, ?_, fun i hi => ?_⟩
  · have := World.ownsRow_lit (base := base) (e := 28) (size := 11) w cs.toArray 1 hb (by unfold maxLen; omega) (by simp [hl])
    simpa [flat] using this
  · simp at hi
    subst hi
    exact hT.keep (fun g _ hg => Below.heap_alloc w _ g hg) fun k hk hlt => ⟨hk, fun e => by injection e with e; have : k = w.heap.size := e; omega⟩
theorem listM_shut {ts : List Tok} {item : Sg → Tree × Sg} {f : Nat} {s : Sg} (h : hasT ts (exc ts s [40]) [41] = true) : listM ts item f s = ([], adv (exc ts s [40])) := by unfold listM; rw [if_pos h]
theorem listM_open {ts : List Tok} {item : Sg → Tree × Sg} {f : Nat} {s : Sg} (h : hasT ts (exc ts s [40]) [41] = false) :
    listM ts item f s = ((more ts item f [(item (exc ts s [40])).1] (item (exc ts s [40])).2).1, exc ts (more ts item f [(item (exc ts s [40])).1] (item (exc ts s [40])).2).2 [41]) := by
  unfold listM; rw [if_neg (by simp [h])]

theorem St.own {w0 w w' : World} {R : Nat} {row : Option Nat} (h : St w0 w R) (hg : w.grownBy w' row) (hr : ∀ k, row = some k → w0.heap.size ≤ k) : St w0 w' R :=
  ⟨hg.os.trans h.os, hg.tape.trans h.tape, hg.output.trans h.output, Nat.le_trans h.size hg.size, fun k hk hne => (hg.block k (Nat.lt_of_lt_of_le hk (St.size h)) (fun e => by have := hr k e.symm; omega)).trans (World.grownBy.block h k hk hne)⟩
theorem Rd.own {w w' : World} {R g c : Nat} {ts : List Tok} {s : Sg} {row : Option Nat} (h : Rd w R g c ts s) (hg : g < R) (hw : w.grownBy w' row) (hr : ∀ k, row = some k → R < k) : Rd w' R g c ts s :=
  h.of_blocks (hw.block R h.lt (fun e => by have := hr R e.symm; omega)) (fun k hk => hw.block k (by have := h.lt; omega) (fun e => by have := hr k e.symm; omega)) hw.size
end Go.Proofs.YtfnhogeocbndcaaGreatDoor
/- The rule for lists in round brackets: contract, over the rule expr. -/
namespace Go.Proofs.YtfnhogeocbndcaaGreatDoor
open Go Go.RowKit
set_option linter.unusedVariables false

set_option maxHeartbeats 2000000 in
set_option maxRecDepth 100000 in
theorem list_expr {ts : List Tok} {R g c : Nat} (X : Ctx ts R g c) (item : Sg → Tree × Sg) (hOn : ∀ s, On ts s (item s).2) (s : Sg) (F : Nat) (hF : rem ts (exc ts s [40]) + 1 ≤ F)
    (HI : ∀ q w, On ts (exc ts s [40]) q → Rd w R g c ts q → Calls Tryz.prog 176 #[.pointer (some ⟨R, 0, none⟩)] w (TP w R g c ts (item q))) (w : World) (hR : Rd w R g c ts s) :
    Calls Tryz.prog 95 #[.pointer (some ⟨R, 0, none⟩), .func (Fn.func 176) #[.pointer (some ⟨R, 0, none⟩)] #[]] w (LP w R g c ts (listM ts item F s)) := by
  have hXl := X.lt
  have hRl := hR.lt
  have HEX := Lib.hid fun q W (h : Rd W R g c ts q) => expect_any X (s := q) [40] (by simp) W h
  have HEY := Lib.hid fun q W (h : Rd W R g c ts q) => expect_any X (s := q) [41] (by simp) W h
  have HSK := Lib.hid fun q W (h : Rd W R g c ts q) => skip_any' X (s := q) [41] (by simp) W h
  have HSC := Lib.hid fun q W (h : Rd W R g c ts q) => skip_any' X (s := q) [44] (by simp) W h
  have HIT := Lib.hid HI
  have HR := Lib.hid hR
  unfold skp at HSK HSC
  clear hR HI
  cases hh : hasT ts (exc ts s [40]) [41] with
  | true =>
    rw [listM_shut hh]
    have HSK2 := Lib.hid (HSK.out (exc ts s [40]))
    rw [hh] at HSK2
    clear hh HSK HSC HEY HIT
    go_enter Tryz.func95, Tryz.ntmps95
    go_wp2_with fail
    refine (HEX.out s _ HR.out).mono ?_
    rintro e w1 ⟨rfl, hr, hs⟩
    have H1 := Lib.hid (And.intro hr hs)
    clear hr hs
    go_wp2_with fail
    refine (HSK2.out _ H1.out.1).mono ?_
    rintro e w2 ⟨rfl, hr, hs⟩
    have H2 := Lib.hid (And.intro hr (St.trans H1.out.2 hs))
    clear hr hs H1 HSK2
    go_wp2
    go_ret
    exact ⟨_, rfl, kids_nil _ _, H2.out.1, H2.out.2⟩
  | false =>
    rw [listM_open hh]
    have HSK2 := Lib.hid (HSK.out (exc ts s [40]))
    rw [hh] at HSK2
    have hon1 : On ts s (exc ts s [40]) := exc_on
    obtain ⟨X0, hX0⟩ : ∃ X0, X0 = more ts item F [(item (exc ts s [40])).1] (item (exc ts s [40])).2 := ⟨_, rfl⟩
    rw [← hX0]
    have HX0 := Lib.hid hX0
    have HF := Lib.hid hF
    have hlen := X.len
    clear hh HSK hX0 hF
    go_enter Tryz.func95, Tryz.ntmps95
    go_wp2_with fail
    refine (HEX.out s _ HR.out).mono ?_
    rintro e w1 ⟨rfl, hr, hs⟩
    have H1 := Lib.hid (And.intro hr hs)
    clear hr hs
    go_wp2_with fail
    refine (HSK2.out _ H1.out.1).mono ?_
    rintro e w2 ⟨rfl, hr, hs⟩
    have H2 := Lib.hid (And.intro hr (St.trans H1.out.2 hs))
    clear hr hs H1 HSK2
    go_wp2_with fail
    refine (HIT.out (exc ts s [40]) _ (On.refl _ _) H2.out.1).mono ?_
    rintro e w3 ⟨l1, x1, n1, k1, rfl, hT, hr, hs⟩
    have hw3 : w.heap.size ≤ w3.heap.size := Nat.le_trans (St.size H2.out.2) (St.size hs)
    have hrem : rem ts (item (exc ts s [40])).2 ≤ ts.length := by unfold rem; split <;> omega
    have hrem2 := rem_on (hOn (exc ts s [40]))
    have h0 : Hid (LsSt ts R g c item (ts.length + 1) X0 w (w3.alloc (.cells #[.int .i64 l1.kind, .string (str l1.name), .int .u64 l1.num, .int .i64 l1.wd, .bool l1.sg, .int .i64 l1.op, .int .i64 l1.fac, .int .i64 l1.pip, .int .i64 l1.unr, .int .i64 l1.line, .slice x1 n1 k1] 28)) (.slice (some ⟨w3.heap.size, 0, none⟩) 1 1) [(item (exc ts s [40])).1] (item (exc ts s [40])).2) := by
      refine ⟨kids_one (hT.mono fun k hk _ => Nat.le_trans (St.size H2.out.2) hk) hw3, hr.alloc hXl _, (St.trans H2.out.2 hs).alloc _, ⟨F - 1, by have := HF.out; omega, ?_⟩, by simp; omega⟩
      rw [HX0.out]
      congr 1
      have := HF.out
      omega
    have HONI : Hid (On ts (exc ts s [40]) (item (exc ts s [40])).2) := Lib.hid (hOn _)
    clear hr hs hT H2 HX0 HEX hrem2
    go_wp2
    go_loopw [5] (fun v wr => ∃ acc q, slen v = acc.length ∧ Hid (LsSt ts R g c item (ts.length + 1) X0 w wr v acc q ∧ On ts (exc ts s [40]) q)) (fun v _ => ts.length + 1 - slen v)
    case atStart => exact ⟨_, _, rfl, ⟨h0.out, HONI.out⟩⟩
    case round =>
      clear h0 HONI
      obtain ⟨acc, q, hlen5, hL⟩ := hrel
      obtain ⟨m, hm, hX⟩ := hL.out.1.eq
      have hfew := hL.out.1.few
      obtain ⟨xa, ca, hsh⟩ := hL.out.1.kd.shape
      subst hsh
      cases hh : hasT ts q [44] with
      | true =>
        have hin := hasT_in hh
        have hra := rem_adv hin
        have hri := rem_on (hOn (adv q))
        have HX : Hid (X0 = more ts item m (acc ++ [(item (adv q)).1]) (item (adv q)).2) := Lib.hid (by rw [hX, more, if_pos hh])
        have HONQ : Hid (On ts (exc ts s [40]) (adv q)) := Lib.hid (hL.out.2.trans (adv_on hin))
        have HSK3 := Lib.hid (HSC.out q)
        rw [hh] at HSK3
        clear hX hh hin
        go_wp2_with fail
        refine (HSK3.out _ hL.out.1.rd).mono ?_
        rintro e w4 ⟨rfl, hr, hs⟩
        have H4 := Lib.hid (And.intro hr hs)
        clear hr hs HSK3
        go_wp2_with fail
        refine (HIT.out (adv q) _ HONQ.out H4.out.1).mono ?_
        rintro e w5 ⟨l2, x2, n2, k2, rfl, hT, hr, hs⟩
        have HT5 := Lib.hid hT
        have hs45 : St wr w5 R := St.trans H4.out.2 hs
        obtain ⟨C, o1, o2⟩ := St.kids H4.out.2 hL.out.1.kd hRl
        have o5 : w5.ownsRow w.heap.size 28 11 (.slice xa acc.length ca) acc.length (flat C acc.length) := o1.kept hs (by
          right
          intro e
          have := (o1.lt R e).1
          omega)
        have hown := o5.alloc (.cells #[.int .i64 l2.kind, .string (str l2.name), .int .u64 l2.num, .int .i64 l2.wd, .bool l2.sg, .int .i64 l2.op, .int .i64 l2.fac, .int .i64 l2.pip, .int .i64 l2.unr, .int .i64 l2.line, .slice x2 n2 k2] 28)
        have hszw := St.size hL.out.1.st
        have hsz4 := St.size H4.out.2
        have hsz5 := St.size hs
        obtain ⟨i0, hi0, hz0, hz1, hz2⟩ := info_parts infoNd2
        have hnew : Hid (∀ (w6 : World) (g3 c3 : Nat), w6.ownsRow w.heap.size 28 11 (.slice (some ⟨g3, 0, none⟩) (acc.length + 1) c3) (acc.length + 1) (flat C acc.length ++ [.int .i64 l2.kind, .string (str l2.name), .int .u64 l2.num, .int .i64 l2.wd, .bool l2.sg, .int .i64 l2.op, .int .i64 l2.fac, .int .i64 l2.pip, .int .i64 l2.unr, .int .i64 l2.line, .slice x2 n2 k2]) →
            (w5.alloc (.cells #[.int .i64 l2.kind, .string (str l2.name), .int .u64 l2.num, .int .i64 l2.wd, .bool l2.sg, .int .i64 l2.op, .int .i64 l2.fac, .int .i64 l2.pip, .int .i64 l2.unr, .int .i64 l2.line, .slice x2 n2 k2] 28)).grownBy w6 (Value.slice xa acc.length ca).ownBlock → ((Value.slice xa acc.length ca).ownBlock = some g3 ∨ g3 = w5.heap.size + 1) →
            LsSt ts R g c item (ts.length + 1) X0 w w6 (.slice (some ⟨g3, 0, none⟩) (acc.length + 1) c3) (acc ++ [(item (adv q)).1]) (item (adv q)).2) := Lib.hid fun w6 g3 c3 ho hg hl => by
          have hgo : ∀ k, (Value.slice xa acc.length ca).ownBlock = some k → w.heap.size ≤ k ∧ k < w4.heap.size := fun k hk => o1.lt k hk
          have hza : (w5.alloc (.cells #[.int .i64 l2.kind, .string (str l2.name), .int .u64 l2.num, .int .i64 l2.wd, .bool l2.sg, .int .i64 l2.op, .int .i64 l2.fac, .int .i64 l2.pip, .int .i64 l2.unr, .int .i64 l2.line, .slice x2 n2 k2] 28)).heap.size = w5.heap.size + 1 := by simp
          refine ⟨?_, ?_, ?_, ?_, ?_⟩
          · refine kids_push (w0 := w4) (C := C) (w := w5.alloc (.cells #[.int .i64 l2.kind, .string (str l2.name), .int .u64 l2.num, .int .i64 l2.wd, .bool l2.sg, .int .i64 l2.op, .int .i64 l2.fac, .int .i64 l2.pip, .int .i64 l2.unr, .int .i64 l2.line, .slice x2 n2 k2] 28)) o1 o2 (fun k hk hlt => ?_) (by omega) (by omega) (HT5.out.keep (fun k _ hk => Below.heap_alloc w5 _ k hk) fun k hk _ => hk) hg ?_ ho
            · exact (Below.heap_alloc w5 _ k (by omega)).trans (World.grownBy.block hs k hlt (fun e => by injection e with e; omega))
            · rcases hl with hl | hl
              · exact .inl hl
              · exact .inr (by omega)
          · exact (hr.alloc hXl _).own hXl hg fun k hk => by have := (hgo k hk).1; omega
          · exact St.own ((St.trans hL.out.1.st hs45).alloc _) hg fun k hk => (hgo k hk).1
          · refine ⟨m - 1, by omega, ?_⟩
            rw [HX.out]
            congr 1
            omega
          · rw [List.length_append]; simp; omega
        have hal : acc.length ≤ 65537 := by omega
        have HONN : Hid (On ts (exc ts s [40]) (item (adv q)).2) := Lib.hid (HONQ.out.trans (hOn _))
        have hmeas : acc.length < ts.length + 1 := by omega
        clear hr hs hT o1 o2 o5 HIT hs45 H4 HX hm hri hra HSC
        go_wp2_with (at_builtin; refine wpList_append_lies (w := w5.alloc (.cells #[.int .i64 l2.kind, .string (str l2.name), .int .u64 l2.num, .int .i64 l2.wd, .bool l2.sg, .int .i64 l2.op, .int .i64 l2.fac, .int .i64 l2.pip, .int .i64 l2.unr, .int .i64 l2.line, .slice x2 n2 k2] 28)) (by rfl) _ _ _ (by rfl) w.heap.size 28 i0 (.agg #[.int .i64 0, .string ⟨#[]⟩, .int .u64 0, .int .i64 0, .bool false, .int .i64 0, .int .i64 0, .int .i64 0, .int .i64 0, .int .i64 0, .slice none 0 0]) 11 112 Tryz.underlying26 hi0 hz0 hz1 hz2 (by rfl) (by decide) (.slice xa acc.length ca) acc.length (flat C acc.length) (by rfl) hown ⟨w5.heap.size, 0, none⟩ 1 1 [.int .i64 l2.kind, .string (str l2.name), .int .u64 l2.num, .int .i64 l2.wd, .bool l2.sg, .int .i64 l2.op, .int .i64 l2.fac, .int .i64 l2.pip, .int .i64 l2.unr, .int .i64 l2.line, .slice x2 n2 k2] (by simp [Act.eval]) (by rfl) (World.news_of_block (cs := #[.int .i64 l2.kind, .string (str l2.name), .int .u64 l2.num, .int .i64 l2.wd, .bool l2.sg, .int .i64 l2.op, .int .i64 l2.fac, .int .i64 l2.pip, .int .i64 l2.unr, .int .i64 l2.line, .slice x2 n2 k2]) (t := 28) (fr := (0, 0)) (heap_alloc_new w5 _)) (by intro z hz; simp at hz; rcases hz with rfl | rfl | rfl | rfl | rfl | rfl | rfl | rfl | rfl | rfl | rfl <;> rfl) (by decide) (by unfold maxLen; omega) (by omega) (by simp; omega) (w5.heap.size + 1) (by simp) ?_; intro g3 c3 w6 ho3 hg3 hat3 hlt3)
        have HX6 := Lib.hid (hnew.out w6 g3 c3 ho3 hg3 hat3)
        clear ho3 hg3 hat3 hlt3 hnew hown
        go_wp2
        go_roundw
        case rel => exact ⟨_, _, by simp [slen], ⟨HX6.out, HONN.out⟩⟩
        case measure => simp [slen]; omega
      | false =>
        have HX : Hid (X0 = (acc, q)) := Lib.hid (by rw [hX, more, if_neg (by simp [hh])])
        have HSK3 := Lib.hid (HSC.out q)
        rw [hh] at HSK3
        clear hX hh
        go_wp2_with fail
        refine (HSK3.out _ hL.out.1.rd).mono ?_
        rintro e w4 ⟨rfl, hr, hs⟩
        have hkd := St.kids hs hL.out.1.kd hRl
        have H4 := Lib.hid (And.intro hkd (And.intro hr (St.trans hL.out.1.st hs)))
        clear hr hs HSK3 hkd
        go_wp2_with fail
        refine (HEY.out q _ H4.out.2.1).mono ?_
        rintro e w5 ⟨rfl, hr, hs⟩
        have hkd := St.kids hs H4.out.1 hRl
        have H5 := Lib.hid (And.intro hkd (And.intro hr (St.trans H4.out.2.2 hs)))
        clear hr hs hkd
        go_wp2
        go_ret
        rw [HX.out]
        exact ⟨_, rfl, H5.out.1, H5.out.2.1, H5.out.2.2⟩
end Go.Proofs.YtfnhogeocbndcaaGreatDoor
