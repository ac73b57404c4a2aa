/- The search for a topological order: what its memory holds. -/
import Derived.Test.YtaiddgndjiaoaaaGHeap2
import Derived.Test.YtaiddgndjiaoaaaTMath
namespace Go.Proofs.Ytaiddgndjiaoaaa
open Go.RowKit
set_option linter.unusedVariables false

/-- A list as a slice lies in memory. -/
def ListAt (w : World) (x : Option Addr) (l : List Nat) : Prop := l.length = 0 ∨ ∃ g, x = some ⟨g, 0, none⟩ ∧ g < w.heap.size ∧ ∀ k, k < l.length → w.cell? ⟨g, k, none⟩ = some (.int .i64 (at0 l k : Nat))
/-- A table of lists, for reading. -/
def AdjAt (w : World) (B n : Nat) (L : Nat → List Nat) : Prop := B < w.heap.size ∧ ∀ i, i < n → ∃ x c, w.cell? ⟨B, i, none⟩ = some (.slice x (L i).length c) ∧ ListAt w x (L i)
theorem listAt_below {w w' : World} {B : Nat} {x : Option Addr} {l : List Nat} (h : ListAt w x l) (hb : Below B w w') (hB : w.heap.size ≤ B) : ListAt w' x l := by
  rcases h with h | ⟨g, hx, hg, hc⟩
  · exact .inl h
  · exact .inr ⟨g, hx, Nat.lt_of_lt_of_le hg hb.size, fun k hk => by rw [hb.cell (by show g < B; omega)]; exact hc k hk⟩
theorem adjAt_below {w w' : World} {C B n : Nat} {L : Nat → List Nat} (h : AdjAt w B n L) (hb : Below C w w') (hC : w.heap.size ≤ C) : AdjAt w' B n L := by
  refine ⟨Nat.lt_of_lt_of_le h.1 hb.size, fun i hi => ?_⟩
  obtain ⟨x, c, h1, h2⟩ := h.2 i hi
  exact ⟨x, c, by rw [hb.cell (by show B < C; have := h.1; omega)]; exact h1, listAt_below h2 hb hC⟩
theorem listAt_own {w : World} {base : Nat} {e : TypeId} {v : Value} {l : List Nat} (h : w.ownsRow base e 1 v l.length (nums l)) : ∃ x c, v = .slice x l.length c ∧ ListAt w x l := by
  rcases h.2 with ⟨hv, h0⟩ | ⟨g, cap, cur, hv, hb, hh, _⟩
  · exact ⟨none, 0, by rw [hv, h0], .inl h0⟩
  · refine ⟨_, cap, hv, .inr ⟨g, rfl, (Array.getElem?_eq_some_iff.1 hh).1, fun k hk => ?_⟩⟩
    rw [hv] at h
    rw [h.cellAt k (by omega)]
    exact nums_at hk
theorem adjAt_of {w : World} {base : Nat} {t e : TypeId} {v : Value} {n : Nat} {L : Nat → List Nat} (h : Adj w base t e v n L) : ∃ B, v = .slice (some ⟨B, 0, none⟩) n n ∧ base ≤ B ∧ AdjAt w B n L := by
  obtain ⟨B, U, hv, hb, h1, h2⟩ := h
  refine ⟨B, hv, hb, h1.lt, fun i hi => ?_⟩
  obtain ⟨x, c, hu, hl⟩ := listAt_own (h2 i hi)
  exact ⟨x, c, by rw [h1.cell hi, hu], hl⟩

/-- A row of numbers as a function. -/
def numRow (w : World) (b n : Nat) (f : Nat → Nat) : Prop := w.rowIs b 3 n (fun u => .int .i64 (f u : Nat))
theorem numRow_set {w : World} {b n : Nat} {f f' : Nat → Nat} (h : numRow w b n f) (x y : Nat) (hf : ∀ u, u < n → f' u = if u = x then y else f u) : numRow (w.setCell ⟨b, x, none⟩ (.int .i64 (y : Nat))) b n f' :=
  (World.rowIs.set h x _).congr fun u hu => by
    rw [hf u hu]
    by_cases e : u = x <;> simp [e]
theorem numRow_congr {w : World} {b n : Nat} {f f' : Nat → Nat} (h : numRow w b n f) (hf : ∀ u, u < n → f u = f' u) : numRow w b n f' := World.rowIs.congr h fun u hu => by rw [hf u hu]

/-- The whole state: the counts, the queue, the order. -/
structure St (n : Nat) (w wr : World) (Bm p : Nat) (f : Nat → Nat) (q acc : List Nat) (vq vo : Value) : Prop where
  row : numRow wr Bm n f
  que : QueueAt wr p vq q
  heap : Heap q
  ord : wr.ownsRow (p + 1) 3 1 vo acc.length (nums acc)
  apart : vo.ownBlock = none ∨ vo.ownBlock ≠ vq.ownBlock
  bel : Below Bm w wr
theorem St.set {n : Nat} {w wr : World} {Bm p : Nat} {f f' : Nat → Nat} {q acc : List Nat} {vq vo : Value} (h : St n w wr Bm p f q acc vq vo) (hp : Bm + 1 < p) (x y : Nat) (hf : ∀ u, u < n → f' u = if u = x then y else f u) :
    St n w (wr.setCell ⟨Bm, x, none⟩ (.int .i64 (y : Nat))) Bm p f' q acc vq vo :=
  ⟨numRow_set h.row x y hf, ⟨h.que.1.setOther (by show p ≠ Bm; omega) _, ownsRow_setCell_below h.que.2.1 (by show Bm < p - 1; omega) _, h.que.2.2⟩, h.heap, ownsRow_setCell_below h.ord (by show Bm < p + 1; omega) _, h.apart, h.bel.setCell (Nat.le_refl _) _⟩
theorem own_keeps {w w' : World} {p : Nat} {row : Option Nat} {base : Nat} {e : TypeId} {size : Nat} {v : Value} {n : Nat} {xs : List Value} (h : w.ownsRow base e size v n xs) (hk : Keeps w w' p row) (hp : p < base) (hne : v.ownBlock = none ∨ v.ownBlock ≠ row) : w'.ownsRow base e size v n xs := by
  refine ⟨h.1, ?_⟩
  rcases h.2 with hn | ⟨g, cap, cur, hv, hg, hh, r⟩
  · exact .inl hn
  · refine .inr ⟨g, cap, cur, hv, hg, ?_, r⟩
    rw [hk.block g (Array.getElem?_eq_some_iff.1 hh).1 (by omega) ?_]
    · exact hh
    · intro e
      rcases hne with h1 | h1
      · rw [hv] at h1; cases h1
      · exact h1 (by rw [hv]; exact e)
theorem St.keeps {n : Nat} {w wr w2 : World} {Bm p : Nat} {f : Nat → Nat} {q q2 acc : List Nat} {vq v2 vo : Value} (h : St n w wr Bm p f q acc vq vo) (hp : Bm + 1 < p) (hQ : QueueAt w2 p v2 q2) (hH : Heap q2) (hM : Moved wr vq v2) (hK : Keeps wr w2 p vq.ownBlock) :
    St n w w2 Bm p f q2 acc v2 vo := by
  have hB : some Bm ≠ vq.ownBlock := fun e => by have := h.que.2.1.lt _ e.symm; omega
  refine ⟨h.row.of_block (hK.block Bm h.row.lt (by omega) hB), hQ, hH, own_keeps h.ord hK (by omega) h.apart, ?_, ?_⟩
  · rcases hM with hM | hM
    · rw [hM]; exact h.apart
    · rcases ho : vo.ownBlock with _ | g
      · exact .inl rfl
      · right
        intro e
        have a1 := h.ord.lt g ho
        have a2 := hM g e.symm
        omega
  · refine h.bel.trans ⟨hK.os, hK.tape, hK.output, hK.size, fun k hk => ?_⟩
    by_cases hks : k < wr.heap.size
    · exact hK.block k hks (by omega) (fun e => by have := h.que.2.1.lt _ e.symm; omega)
    · have := h.row.lt; omega
theorem St.append {n : Nat} {w wr w2 : World} {Bm p : Nat} {f : Nat → Nat} {q acc acc2 : List Nat} {vq vo vo2 : Value} (h : St n w wr Bm p f q acc vq vo) (hp : Bm + 1 < p) (ho : w2.ownsRow (p + 1) 3 1 vo2 acc2.length (nums acc2)) (hg : wr.grownBy w2 vo.ownBlock)
    (hl : vo2.ownBlock = vo.ownBlock ∨ ∀ g, vo2.ownBlock = some g → wr.heap.size ≤ g) : St n w w2 Bm p f q acc2 vq vo2 := by
  have h1 : some Bm ≠ vo.ownBlock := fun e => by have := h.ord.lt _ e.symm; omega
  have h2 : some p ≠ vo.ownBlock := fun e => by have := h.ord.lt _ e.symm; omega
  refine ⟨row_grown h.row hg h1, ⟨row_grown h.que.1 hg h2, h.que.2.1.kept hg ?_, h.que.2.2⟩, h.heap, ho, ?_, h.bel.grown hg (by have := h.row.lt; omega) (fun g e => by have := h.ord.lt _ e; omega)⟩
  · rcases h.apart with h3 | h3
    · rcases hq : vq.ownBlock with _ | g
      · exact .inl rfl
      · right; rw [h3]; simp
    · right; exact fun e => h3 e.symm
  · rcases hl with hl | hl
    · rw [hl]; exact h.apart
    · rcases ho2 : vo2.ownBlock with _ | g
      · exact .inl rfl
      · right
        intro e
        have a1 := hl g ho2
        have a2 := h.que.2.1.lt g e.symm
        omega

/-- One element is appended in a plain region: where the new slice lies, and what has turned. -/
theorem wpList_append_at {P : Program} (w : World) {ops : Array Oper} {rest : List Oper} {o : Oper} {a : Act} {Q : Exit → Act → World → Prop} (hgd : o.guard = none) (s x : Operand) (t : TypeId)
    (ho : o.op = .call { callee := .builtin .append, args := #[s, x], argTypes := #[t, t] })
    (base : Nat) (e : TypeId) (z : Value) (bytes : Nat) (ht : P.underlying t = some (.slice e)) (hinfo : (P.info? e).map (fun i => (i.zero, i.size, i.bytes)) = some (some z, 1, bytes))
    (hzs : z.cells.size = 1)
    (v : Value) (n : Nat) (xs : List Value) (hs : a.eval s = v) (hown : w.ownsRow base e 1 v n xs)
    (X : Value) (hX : X.oneCell' = true) (H : Nat) (hH : w.heap.size = H) (hx : a.eval x = .slice (some ⟨H, 0, none⟩) 1 1)
    (hn : n < 16777216) (hby : bytes ≤ 64) (hbase : base ≤ w.heap.size)
    (h : ∀ g cap w', w'.ownsRow base e 1 (.slice (some ⟨g, 0, none⟩) (n + 1) cap) (n + 1) (xs ++ [X]) → w.grownBy w' v.ownBlock → (some g = v.ownBlock ∨ ∀ g', some g = some g' → w.heap.size ≤ g') → wpList P ops Q rest (a.put o.dst (.slice (some ⟨g, 0, none⟩) (n + 1) cap)) w') :
    wpList P ops Q (o :: rest) a (w.alloc (.cells #[X] e)) := by
  subst hH
  obtain ⟨i0, hi, hz0, hz1, hz2⟩ := info_parts hinfo
  refine wpList_append_lies (w := w.alloc (.cells #[X] e)) hgd s x t ho base e i0 z 1 bytes ht hi hz0 hz1 hz2 hzs (by decide) v n xs hs (hown.alloc _)
    ⟨w.heap.size, 0, none⟩ 1 1 [X] hx rfl (World.news_of_block (cs := #[X]) (t := e) (fr := (0, 0)) (heap_alloc_new w _)) ?_ (by decide) ?_ ?_ ?_ (w.heap.size + 1) ?_ ?_
  · intro u hu; simp at hu; subst hu; exact hX
  · unfold maxLen; omega
  · have h1 : (n + 1) * bytes ≤ 16777216 * 64 := Nat.mul_le_mul (by omega) hby
    omega
  · simp; omega
  · simp
  · intro g cap w' hown' hg hloc _
    refine h _ _ w' hown' ?_ ?_
    · exact grown_trans (World.grownBy_alloc w _ _) hg
    · rcases hloc with h1 | h1
      · exact .inl h1.symm
      · refine .inr fun g' hg' => ?_
        injection hg' with e1
        omega
def sliceLen : Value → Nat | .slice _ n _ => n | _ => 0

/-- The counts in the midst of node i's list. -/
def pcm (E : Nat → Nat → Bool) (n i k u : Nat) : Nat := pc E i u + if u ∈ (adj E n i).take k then 1 else 0
theorem pcm_zero (E : Nat → Nat → Bool) (n i u : Nat) : pcm E n i 0 u = pc E i u := by simp [pcm]
theorem pcm_le (E : Nat → Nat → Bool) (n i k u : Nat) : pcm E n i k u ≤ i + 1 := by
  unfold pcm
  have := pc_le E i u
  split <;> omega
theorem pcm_step {E : Nat → Nat → Bool} {n i k : Nat} (hk : k < (adj E n i).length) (u : Nat) : pcm E n i (k + 1) u = if u = at0 (adj E n i) k then pcm E n i k (at0 (adj E n i) k) + 1 else pcm E n i k u := by
  have h1 := at0_not_take (adj_nodup E n i) hk
  unfold pcm
  rw [take_at0 hk]
  by_cases e : u = at0 (adj E n i) k
  · rw [e, if_pos rfl, if_pos (by simp), if_neg h1]
  · rw [if_neg e]
    simp [e]
theorem pcm_end {E : Nat → Nat → Bool} {n i u : Nat} (hu : u < n) : pcm E n i (adj E n i).length u = pc E (i + 1) u := by
  unfold pcm
  rw [pc_succ, List.take_length]
  congr 1
  by_cases h : E i u = true
  · rw [if_pos (adj_mem.2 ⟨hu, h⟩), if_pos h]
  · rw [if_neg (fun h1 => h (adj_mem.1 h1).2), if_neg h]
/-- The counts in the midst of the successors of m, which has been taken. -/
def cm (E : Nat → Nat → Bool) (n : Nat) (acc : List Nat) (m k u : Nat) : Nat := if u ∈ (adj E n m).take k then cnt E n (acc ++ [m]) u else cnt E n acc u
theorem cm_zero (E : Nat → Nat → Bool) (n : Nat) (acc : List Nat) (m u : Nat) : cm E n acc m 0 u = cnt E n acc u := by simp [cm]
theorem cm_end {E : Nat → Nat → Bool} {n : Nat} {acc : List Nat} {m u : Nat} (hu : u < n) : cm E n acc m (adj E n m).length u = cnt E n (acc ++ [m]) u := by
  unfold cm
  rw [List.take_length]
  by_cases h : E m u = true
  · rw [if_pos (adj_mem.2 ⟨hu, h⟩)]
  · rw [if_neg (fun h1 => h (adj_mem.1 h1).2)]
    exact (cnt_same (by simpa using h)).symm
theorem cm_at {E : Nat → Nat → Bool} {n : Nat} {acc : List Nat} {m k : Nat} (hm : m < n) (hacc : m ∉ acc) (hk : k < (adj E n m).length) : cm E n acc m k (at0 (adj E n m) k) = cnt E n (acc ++ [m]) (at0 (adj E n m) k) + 1 := by
  have h1 := at0_not_take (adj_nodup E n m) hk
  unfold cm
  rw [if_neg h1]
  exact (cnt_step hm hacc (at0_adj hk).2).symm
theorem cm_step {E : Nat → Nat → Bool} {n : Nat} {acc : List Nat} {m k : Nat} (hk : k < (adj E n m).length) (u : Nat) : cm E n acc m (k + 1) u = if u = at0 (adj E n m) k then cnt E n (acc ++ [m]) (at0 (adj E n m) k) else cm E n acc m k u := by
  unfold cm
  rw [take_at0 hk]
  by_cases e : u = at0 (adj E n m) k
  · rw [if_pos e, e, if_pos (by simp)]
  · rw [if_neg e]
    simp [e]
end Go.Proofs.Ytaiddgndjiaoaaa
