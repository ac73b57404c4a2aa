/- Tables of lists of numbers that the code makes: a block of slices, each of which owns its list. Nothing of the program stands here. -/
import Derived.Test.YtfnhogeocbndcaaGreatDoorMgRegKit
import Derived.Deep.OwnRows
import Derived.Lib.Hide
namespace Go.Proofs.YtfnhogeocbndcaaGreatDoor
open Go.RowKit

theorem r_int {k : IntKind} {a b : Int} (h : a = b) : Ending.returned (.int k a) = .returned (.int k b) := by rw [h]
theorem r_bool {a b : Bool} (h : a = b) : Ending.returned (.bool a) = .returned (.bool b) := by rw [h]
theorem grown_trans {a b c : World} {row : Option Nat} (h : a.grownBy b row) (k : b.grownBy c row) : a.grownBy c row :=
  ⟨k.os.trans h.os, k.tape.trans h.tape, k.output.trans h.output, Nat.le_trans h.size k.size, fun i hi hne => (k.block i (Nat.lt_of_lt_of_le hi h.size) hne).trans (h.block i hi hne)⟩
theorem grown_of_below {a w : World} (h : Below a.heap.size a w) (row : Option Nat) : a.grownBy w row := ⟨h.os, h.tape, h.output, h.size, fun i hi _ => h.block i hi⟩
theorem grown_drew {a w : World} {row : Option Nat} (h : a.grownBy w row) : a.grownBy w.drew row := ⟨h.os, h.tape, h.output, h.size, h.block⟩
theorem row_below {w w' : World} {b : Nat} {t : TypeId} {n B : Nat} {f : Nat → Value} (h : w.rowIs b t n f) (hb : Below B w w') (hB : b < B) : w'.rowIs b t n f := h.of_block (hb.block b hB)
theorem row_grown {w w' : World} {b : Nat} {t : TypeId} {n : Nat} {f : Nat → Value} {row : Option Nat} (h : w.rowIs b t n f) (hg : w.grownBy w' row) (hne : some b ≠ row) : w'.rowIs b t n f := h.of_block (hg.block b h.lt hne)

theorem own_shape {w : World} {base : Nat} {e : TypeId} {size : Nat} {v : Value} {n : Nat} {xs : List Value} (h : w.ownsRow base e size v n xs) : ∃ a m c, v = .slice a m c := by
  rcases h.2 with ⟨hv, _⟩ | ⟨g, cap, cur, hv, _⟩
  · exact ⟨_, _, _, hv⟩
  · exact ⟨_, _, _, hv⟩

/-- Block B holds n slices of numbers, each of which owns its list; no two share a block. -/
def Lists (w : World) (B : Nat) (t e : TypeId) (n : Nat) (L : Nat → List Nat) : Prop :=
  ∃ U : Nat → Value, w.rowIs B t n U ∧ (∀ i, i < n → w.ownsRow (B + 1) e 1 (U i) (L i).length (nums (L i))) ∧ ∀ i j, i < n → j < n → i ≠ j → (U i).ownBlock = none ∨ (U i).ownBlock ≠ (U j).ownBlock

theorem lists_made {w : World} {B : Nat} {t e : TypeId} {n : Nat} (h : w.rowIs B t n (fun _ => .slice none 0 0)) : Lists w B t e n (fun _ => []) :=
  ⟨_, h, fun _ _ => World.ownsRow_nil _ _ _ _, fun _ _ _ _ _ => .inl rfl⟩
theorem lists_congr {w : World} {B : Nat} {t e : TypeId} {n : Nat} {L L' : Nat → List Nat} (h : Lists w B t e n L) (hL : ∀ i, i < n → L i = L' i) : Lists w B t e n L' := by
  obtain ⟨U, h1, h2, h3⟩ := h
  exact ⟨U, h1, fun i hi => hL i hi ▸ h2 i hi, h3⟩
theorem lists_lt {w : World} {B : Nat} {t e : TypeId} {n : Nat} {L : Nat → List Nat} (h : Lists w B t e n L) : B < w.heap.size := by
  obtain ⟨U, h1, _⟩ := h
  exact h1.lt
theorem lists_below {w w' : World} {B : Nat} {t e : TypeId} {n : Nat} {L : Nat → List Nat} (h : Lists w B t e n L) (hb : Below w.heap.size w w') : Lists w' B t e n L := by
  obtain ⟨U, h1, h2, h3⟩ := h
  exact ⟨U, row_below h1 hb h1.lt, fun i hi => own_below (h2 i hi) hb (Nat.le_refl _), h3⟩
/-- One slice of the table has been written anew, in its own block or in a new one, and is stored. -/
theorem lists_put {w w1 : World} {B : Nat} {t e : TypeId} {n : Nat} {L : Nat → List Nat} {U : Nat → Value} (h1 : w.rowIs B t n U) (h2 : ∀ i, i < n → w.ownsRow (B + 1) e 1 (U i) (L i).length (nums (L i)))
    (h3 : ∀ i j, i < n → j < n → i ≠ j → (U i).ownBlock = none ∨ (U i).ownBlock ≠ (U j).ownBlock) {f : Nat} (hf : f < n) {v : Value} {l : List Nat}
    (hown : w1.ownsRow (B + 1) e 1 v l.length (nums l)) (hg : w.grownBy w1 (U f).ownBlock) (hloc : v.ownBlock = (U f).ownBlock ∨ ∀ g, v.ownBlock = some g → w.heap.size ≤ g) :
    Lists (w1.setCell ⟨B, f, none⟩ v) B t e n (fun i => if i = f then l else L i) := by
  have hB : some B ≠ (U f).ownBlock := fun e1 => by have := (h2 f hf).lt B e1.symm; omega
  have hr1 : w1.rowIs B t n U := row_grown h1 hg hB
  refine ⟨fun j => if j = f then v else U j, hr1.set f v, fun i hi => ?_, fun i j hi hj hij => ?_⟩
  · by_cases hif : i = f
    · subst hif
      simp only [if_pos]
      exact ownsRow_setCell_below hown (by show B < B + 1; omega) _
    · simp only [if_neg hif]
      refine ownsRow_setCell_below ((h2 i hi).kept hg ?_) (by show B < B + 1; omega) _
      exact h3 i f hi hf hif
  · by_cases hif : i = f
    · have hjf : j ≠ f := fun e1 => hij (hif.trans e1.symm)
      subst hif
      simp only [if_pos, if_neg hjf]
      rcases hloc with hl | hl
      · rw [hl]
        exact h3 i j hi hj hij
      · rcases hv : v.ownBlock with _ | g
        · exact .inl rfl
        · right
          intro e1
          have a1 := hl g hv
          have a2 := (h2 j hj).lt g e1.symm
          omega
    · by_cases hjf : j = f
      · subst hjf
        simp only [if_pos, if_neg hif]
        rcases hloc with hl | hl
        · rw [hl]; exact h3 i j hi hj hij
        · rcases hu : (U i).ownBlock with _ | g
          · exact .inl rfl
          · right
            intro e1
            have a1 := hl g e1.symm
            have a2 := (h2 i hi).lt g hu
            omega
      · simp only [if_neg hif, if_neg hjf]
        exact h3 i j hi hj hij

/-- A table of lists, for reading: the value that a call handed back. -/
def Adj (w : World) (base : Nat) (t e : TypeId) (v : Value) (n : Nat) (L : Nat → List Nat) : Prop :=
  ∃ B U, v = .slice (some ⟨B, 0, none⟩) n n ∧ base ≤ B ∧ w.rowIs B t n U ∧ ∀ i, i < n → w.ownsRow (B + 1) e 1 (U i) (L i).length (nums (L i))
theorem adj_of_lists {w : World} {B base : Nat} {t e : TypeId} {n : Nat} {L : Nat → List Nat} (h : Lists w B t e n L) (hb : base ≤ B) : Adj w base t e (.slice (some ⟨B, 0, none⟩) n n) n L := by
  obtain ⟨U, h1, h2, _⟩ := h
  exact ⟨B, U, rfl, hb, h1, h2⟩
theorem adj_below {w w' : World} {base B : Nat} {t e : TypeId} {v : Value} {n : Nat} {L : Nat → List Nat} (h : Adj w base t e v n L) (hb : Below B w w') (hB : w.heap.size ≤ B) : Adj w' base t e v n L := by
  obtain ⟨g, U, hv, hg, h1, h2⟩ := h
  exact ⟨g, U, hv, hg, row_below h1 hb (Nat.lt_of_lt_of_le h1.lt hB), fun i hi => own_below (h2 i hi) hb hB⟩

/-- One element of one cell is appended inside a region that draws: where the new slice lies, and what has turned. -/
theorem step_append_at {P : Program} (w : World) {ops : Array Oper} {o : Oper} {a : Act} {K : Act → World → Prop} {Q : Exit → Act → World → Prop} {E : Prop} (hgd : o.guard = none) (s x : Operand) (t : TypeId)
    (ho : o.op = .call { callee := .builtin .append, args := #[s, x], argTypes := #[t, t] })
    (base : Nat) (e : TypeId) (z : Value) (bytes : Nat) (ht : P.underlying t = some (.slice e)) (hinfo : (P.info? e).map (fun i => (i.zero, i.size, i.bytes)) = some (some z, 1, bytes))
    (hzs : z.cells.size = 1)
    (v : Value) (n : Nat) (xs : List Value) (hs : a.eval s = v) (hown : w.ownsRow base e 1 v n xs)
    (X : Value) (hX : X.oneCell' = true) (H : Nat) (hH : w.heap.size = H) (hx : a.eval x = .slice (some ⟨H, 0, none⟩) 1 1)
    (hn : n < 16777216) (hby : bytes ≤ 64) (hbase : base ≤ w.heap.size)
    (h : ∀ g cap w', w'.ownsRow base e 1 (.slice (some ⟨g, 0, none⟩) (n + 1) cap) (n + 1) (xs ++ [X]) → w.grownBy w' v.ownBlock → (some g = v.ownBlock ∨ ∀ g', some g = some g' → w.heap.size ≤ g') → K (a.put o.dst (.slice (some ⟨g, 0, none⟩) (n + 1) cap)) w') :
    if Region.wanted o (yielded ops a.tmps) = true then Oper.wp P o a (w.alloc (.cells #[X] e)).drew K Q else E := by
  subst hH
  obtain ⟨i0, hi, hz0, hz1, hz2⟩ := info_parts hinfo
  refine step_append_lies (w := (w.alloc (.cells #[X] e)).drew) hgd s x t ho base e i0 z 1 bytes ht hi hz0 hz1 hz2 hzs (by decide) v n xs hs ((hown.alloc _).drew)
    ⟨w.heap.size, 0, none⟩ 1 1 [X] hx rfl (World.news_of_block (cs := #[X]) (t := e) (fr := (0, 0)) (heap_alloc_new w _)) ?_ (by decide) ?_ ?_ ?_ (w.heap.size + 1) ?_ ?_
  · intro u hu; simp at hu; subst hu; exact hX
  · unfold maxLen; omega
  · have h1 : (n + 1) * bytes ≤ 16777216 * 64 := Nat.mul_le_mul (by omega) hby
    omega
  · show base ≤ (w.alloc (.cells #[X] e)).heap.size
    simp; omega
  · show (w.alloc (.cells #[X] e)).heap.size = _
    simp
  · intro g cap w' hown' hg hloc _
    refine h _ _ w' hown' ?_ ?_
    · exact grown_trans (grown_drew (World.grownBy_alloc w _ _)) hg
    · rcases hloc with h1 | h1
      · exact .inl h1.symm
      · refine .inr fun g' hg' => ?_
        injection hg' with e1
        omega
end Go.Proofs.YtfnhogeocbndcaaGreatDoor
