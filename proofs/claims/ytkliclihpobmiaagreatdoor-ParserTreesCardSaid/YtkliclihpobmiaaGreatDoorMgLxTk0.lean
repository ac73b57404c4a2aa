/- Syntax trees in memory: a node's cells, its Kids in a block; lists of nodes in the making. Nothing of the program stands here. -/
import Derived.Test.YtkliclihpobmiaaGreatDoorMgPsMath
import Derived.Test.YtkliclihpobmiaaGreatDoorMgSliceKit
import Derived.Deep.AppendLies
namespace Go.Proofs.YtkliclihpobmiaaGreatDoor
open Go Go.RowKit
set_option linter.unusedVariables false

def lcells (l : Lab) (v : Value) : List Value := [.int .i64 l.kind, .string (str l.name), .int .u64 l.num, .int .i64 l.wd, .bool l.sg, .int .i64 l.op, .int .i64 l.fac, .int .i64 l.pip, .int .i64 l.unr, .int .i64 l.line, v]
theorem lcells_length (l : Lab) (v : Value) : (lcells l v).length = 11 := rfl

inductive TreeAt (w : World) : (Nat → Prop) → List Value → Tree → Prop
 | nil (P : Nat → Prop) (l : Lab) : TreeAt w P (lcells l (.slice none 0 0)) (.node l [])
 | mk (P : Nat → Prop) (l : Lab) (a : Addr) (n cap : Nat) (C : Nat → List Value) (ks : List Tree) (hn : n = ks.length) (hc : n ≤ cap) (hm : cap ≤ maxLen) (hP : 0 < n → P a.block)
   (hcell : ∀ i, i < n → ∀ j, j < 11 → w.cell? (a.add (i * 11 + j)) = (C i)[j]?) (hk : ∀ i (h : i < ks.length), TreeAt w P (C i) ks[i]) : TreeAt w P (lcells l (.slice (some a) n cap)) (.node l ks)
theorem TreeAt.length {w : World} {P : Nat → Prop} {cs : List Value} {t : Tree} (h : TreeAt w P cs t) : cs.length = 11 := by
 cases h <;> exact lcells_length _ _
theorem add_block (a : Addr) (k : Nat) : (a.add k).block = a.block := by unfold Addr.add; split <;> rfl
theorem cell_block_lt {w : World} {a : Addr} {v : Value} (h : w.cell? a = some v) : a.block < w.heap.size := by
 unfold World.cell? at h
 rcases hb : w.heap[a.block]? with _ | o
 ·rw [hb] at h; simp at h
 ·exact (Array.getElem?_eq_some_iff.1 hb).1
theorem cell_same {w w' : World} {a : Addr} (h : w'.heap[a.block]? = w.heap[a.block]?) : w'.cell? a = w.cell? a := by
 unfold World.cell?
 rw [h]
theorem TreeAt.first {w : World} {P : Nat → Prop} {cs : List Value} {t : Tree} (h : TreeAt w P cs t) : ∃ v, cs[0]? = some v := by
 have := h.length
 exact ⟨cs[0], List.getElem?_eq_getElem (by omega)⟩
theorem TreeAt.keep {w w' : World} {P Q : Nat → Prop} {cs : List Value} {t : Tree} (h : TreeAt w P cs t) (hs : ∀ g, P g → g < w.heap.size → w'.heap[g]? = w.heap[g]?) (hq : ∀ g, P g → g < w.heap.size → Q g) : TreeAt w' Q cs t := by
 induction h with
 | nil l => exact .nil Q l
 | mk l a n cap C ks hn hc hm hP hcell hk ih =>
  have hlt : 0 < n → a.block < w.heap.size := fun h0 => by
   obtain ⟨v, hv⟩ := (hk 0 (by omega)).first
   have h1 := hcell 0 h0 0 (by omega)
   rw [hv] at h1
   have := cell_block_lt h1
   rwa [add_block] at this
  refine .mk Q l a n cap C ks hn hc hm (fun h0 => hq _ (hP h0) (hlt h0)) (fun i hi j hj => ?_) fun i hi => ih i hi
  rw [← hcell i hi j hj]
  refine cell_same ?_
  rw [add_block]
  exact hs _ (hP (by omega)) (hlt (by omega))
theorem TreeAt.mono {w : World} {P Q : Nat → Prop} {cs : List Value} {t : Tree} (h : TreeAt w P cs t) (hq : ∀ g, P g → g < w.heap.size → Q g) : TreeAt w Q cs t := h.keep (fun _ _ _ => rfl) hq

def flat (C : Nat → List Value) (n : Nat) : List Value := (List.range n).flatMap C
theorem flat_length {C : Nat → List Value} : ∀ n, (∀ i, i < n → (C i).length = 11) → (flat C n).length = n * 11 := by
 intro n
 induction n with
 | zero => intro _; rfl
 | succ n ih =>
  intro h
  unfold flat at ih ⊢
  rw [List.range_succ, List.flatMap_append, List.length_append, ih fun i hi => h i (by omega)]
  simp [h n (by omega)]
  omega
theorem flat_get {C : Nat → List Value} : ∀ n, (∀ i, i < n → (C i).length = 11) → ∀ i j, i < n → j < 11 → (flat C n)[i * 11 + j]? = (C i)[j]? := by
 intro n
 induction n with
 | zero => intro _ i j hi; omega
 | succ n ih =>
  intro h i j hi hj
  have hl := flat_length n fun i hi => h i (by omega)
  have he : flat C (n + 1) = flat C n ++ C n := by unfold flat; rw [List.range_succ, List.flatMap_append]; simp
  rw [he]
  by_cases hin : i < n
  ·rw [List.getElem?_append_left (by omega), ih (fun i hi => h i (by omega)) i j hin hj]
  ·obtain rfl : i = n := by omega
   rw [List.getElem?_append_right (by omega), hl]
   congr 1
   omega
theorem flat_congr {C D : Nat → List Value} {n : Nat} (h : ∀ i, i < n → C i = D i) : flat C n = flat D n := by
 unfold flat
 have : ∀ l : List Nat, (∀ i ∈ l, C i = D i) → l.flatMap C = l.flatMap D := by
  intro l
  induction l with
  | nil => intro _; rfl
  | cons a l ih => intro h; rw [List.flatMap_cons, List.flatMap_cons, h a (by simp), ih fun i hi => h i (by simp [hi])]
 exact this _ fun i hi => h i (List.mem_range.1 hi)
theorem flat_snoc {C : Nat → List Value} {n : Nat} {cs : List Value} : flat C n ++ cs = flat (fun i => if i = n then cs else C i) (n + 1) := by
 have he : flat (fun i => if i = n then cs else C i) (n + 1) = flat (fun i => if i = n then cs else C i) n ++ cs := by
  conv => lhs; unfold flat
  rw [List.range_succ, List.flatMap_append]
  simp [flat]
 rw [he, flat_congr (C := fun i => if i = n then cs else C i) (D := C) fun i hi => by simp; omega]

def Kids (w : World) (base : Nat) (v : Value) (ks : List Tree) : Prop :=
 ∃ C : Nat → List Value, w.ownsRow base 28 11 v ks.length (flat C ks.length) ∧ ∀ i (h : i < ks.length), TreeAt w (fun g => base ≤ g ∧ some g ≠ v.ownBlock) (C i) ks[i]
theorem kids_nil (w : World) (base : Nat) : Kids w base (.slice none 0 0) [] := ⟨fun _ => [], World.ownsRow_nil _ _ _ _, fun i h => by simp at h⟩
theorem Kids.own {w : World} {base : Nat} {v : Value} {ks : List Tree} (h : Kids w base v ks) : ∃ xs, w.ownsRow base 28 11 v ks.length xs := by
 obtain ⟨C, h1, _⟩ := h
 exact ⟨_, h1⟩
theorem Kids.shape {w : World} {base : Nat} {v : Value} {ks : List Tree} (h : Kids w base v ks) : ∃ x c, v = .slice x ks.length c := by
 obtain ⟨C, h1, _⟩ := h
 rcases h1.2 with ⟨hv, h0⟩ | ⟨g, cap, cur, hv, _⟩
 ·exact ⟨none, 0, by rw [hv, h0]⟩
 ·exact ⟨_, _, hv⟩
theorem Kids.tree {w : World} {base : Nat} {v : Value} {ks : List Tree} (h : Kids w base v ks) (l : Lab) : TreeAt w (base ≤ ·) (lcells l v) (.node l ks) := by
 obtain ⟨C, h1, h2⟩ := h
 have hC : ∀ i, i < ks.length → (C i).length = 11 := fun i hi => (h2 i hi).length
 rcases h1.2 with ⟨hv, h0⟩ | ⟨g, cap, cur, hv, hb, hh, hc, hm, _⟩
 ·obtain rfl : ks = [] := List.eq_nil_of_length_eq_zero h0
  subst hv
  exact .nil _ _
 ·subst hv
  refine .mk _ l _ _ _ C ks rfl hc hm (fun _ => hb) (fun i hi j hj => ?_) fun i hi => (h2 i hi).mono fun g hg _ => hg.1
  have ha : (⟨g, 0, none⟩ : Addr).add (i * 11 + j) = ⟨g, i * 11 + j, none⟩ := by unfold Addr.add; split <;> simp_all
  rw [ha, h1.cellAt _ (by omega), flat_get _ hC i j hi hj]
theorem Kids.keep {w w' : World} {base : Nat} {v : Value} {ks : List Tree} (h : Kids w base v ks) (hs : ∀ g, base ≤ g → g < w.heap.size → w'.heap[g]? = w.heap[g]?) : Kids w' base v ks := by
 obtain ⟨C, h1, h2⟩ := h
 refine ⟨C, ⟨h1.1, ?_⟩, fun i hi => (h2 i hi).keep (fun g hg hl => hs g hg.1 hl) fun g hg _ => hg⟩
 rcases h1.2 with hn | ⟨g, cap, cur, hv, hg, hh, r⟩
 ·exact .inl hn
 ·exact .inr ⟨g, cap, cur, hv, hg, by rw [hs g hg (Array.getElem?_eq_some_iff.1 hh).1]; exact hh, r⟩
theorem Kids.base {w : World} {base base' : Nat} {v : Value} {ks : List Tree} (h : Kids w base v ks) (hb : base' ≤ base) : Kids w base' v ks := by
 obtain ⟨C, h1, h2⟩ := h
 exact ⟨C, own_mono h1 hb, fun i hi => (h2 i hi).mono fun g hg _ => ⟨by omega, hg.2⟩⟩
theorem kids_push {w0 w w' : World} {base : Nat} {v : Value} {ks : List Tree} {C : Nat → List Value} {cs : List Value} {t : Tree} {g c : Nat}
  (k1 : w0.ownsRow base 28 11 v ks.length (flat C ks.length)) (k2 : ∀ i (h : i < ks.length), TreeAt w0 (fun g => base ≤ g ∧ some g ≠ v.ownBlock) (C i) ks[i])
  (hb : ∀ g, base ≤ g → g < w0.heap.size → w.heap[g]? = w0.heap[g]?) (hsz : w0.heap.size ≤ w.heap.size) (hbase : base ≤ w0.heap.size) (ht : TreeAt w (w0.heap.size ≤ ·) cs t)
  (hg : w.grownBy w' v.ownBlock) (hl : v.ownBlock = some g ∨ w.heap.size ≤ g)
  (ho : w'.ownsRow base 28 11 (.slice (some ⟨g, 0, none⟩) (ks.length + 1) c) (ks.length + 1) (flat C ks.length ++ cs)) : Kids w' base (.slice (some ⟨g, 0, none⟩) (ks.length + 1) c) (ks ++ [t]) := by
 have hvo : ∀ q, v.ownBlock = some q → q < w0.heap.size := fun q hq => (k1.lt q hq).2
 have hout : ∀ q, q < w.heap.size → some q ≠ v.ownBlock → some q ≠ (Value.slice (some ⟨g, 0, none⟩) (ks.length + 1) c).ownBlock := by
  intro q hq hne
  show some q ≠ some g
  rcases hl with hl | hl
  ·rw [← hl]; exact hne
  ·intro e; injection e with e; omega
 refine ⟨fun i => if i = ks.length then cs else C i, ?_, fun i hi => ?_⟩
 ·rw [flat_snoc] at ho
  simpa using ho
 ·rw [List.length_append] at hi
  by_cases hik : i = ks.length
  ·subst hik
   simp only [if_pos, List.getElem_append_right (Nat.le_refl _)]
   simp only [Nat.sub_self, List.getElem_cons_zero]
   refine ht.keep (fun q hq hlt => hg.block q hlt ?_) fun q hq hlt => ⟨by omega, hout q hlt ?_⟩
   ·intro e; have := hvo q e.symm; omega
   ·intro e; have := hvo q e.symm; omega
  ·have hi' : i < ks.length := by simp at hi; omega
   simp only [if_neg hik, List.getElem_append_left hi']
   refine ((k2 i hi').keep (w' := w) (Q := fun g => (base ≤ g ∧ some g ≠ v.ownBlock) ∧ g < w.heap.size) (fun q hq hlt => hb q hq.1 hlt) fun q hq hlt => ⟨hq, by omega⟩).keep (fun q hq hlt => hg.block q hlt hq.1.2) fun q hq hlt => ⟨hq.1.1, hout q hlt hq.1.2⟩
end Go.Proofs.YtkliclihpobmiaaGreatDoor
/- What the rules do to the state of the reader: it never goes back, and stays when a token could not follow. Nothing of the program stands here. -/
namespace Go.Proofs.YtkliclihpobmiaaGreatDoor
open Go

def On (ts : List Tok) (s t : Sg) : Prop := s.i ≤ t.i ∧ (s.i ≤ ts.length → t.i ≤ ts.length) ∧ (s.bad = true → t = s)
theorem On.refl (ts : List Tok) (s : Sg) : On ts s s := ⟨Nat.le_refl _, id, fun _ => rfl⟩
theorem On.trans {ts : List Tok} {a b c : Sg} (h : On ts a b) (k : On ts b c) : On ts a c :=
 ⟨Nat.le_trans h.1 k.1, fun h0 => k.2.1 (h.2.1 h0), fun hb => by have := h.2.2 hb; subst this; exact k.2.2 hb⟩
theorem On.ite {ts : List Tok} {c : Prop} [Decidable c] {s a b : Sg} (h : c → On ts s a) (k : ¬ c → On ts s b) : On ts s (if c then a else b) := by
 split
 ·exact h ‹_›
 ·exact k ‹_›
theorem tx_in {ts : List Tok} {s : Sg} (h : tx ts s ≠ []) : s.bad = false ∧ s.i < ts.length := by
 unfold tx nxt at h
 cases hb : s.bad with
 | true => rw [hb] at h; simp at h
 | false =>
  refine ⟨rfl, ?_⟩
  rw [hb] at h
  by_cases hl : s.i < ts.length
  ·exact hl
  ·exact absurd (by simp [tat_out (Nat.le_of_not_lt hl)]) h
theorem kd_in {ts : List Tok} {s : Sg} {k : Nat} (h : kd ts s = k) (hk : k ≠ 0) : s.bad = false ∧ s.i < ts.length := by
 unfold kd nxt at h
 cases hb : s.bad with
 | true => rw [hb] at h; exact absurd h.symm hk
 | false =>
  refine ⟨rfl, ?_⟩
  rw [hb] at h
  by_cases hl : s.i < ts.length
  ·exact hl
  ·exact absurd (by rw [← h]; simp [tat_out (Nat.le_of_not_lt hl)]) hk
theorem hasT_in {ts : List Tok} {s : Sg} {c : UInt8} {t : List UInt8} (h : hasT ts s (c :: t) = true) : s.bad = false ∧ s.i < ts.length := by
 refine tx_in ?_
 unfold hasT at h
 rw [of_decide_eq_true h]
 simp
theorem adv_on {ts : List Tok} {s : Sg} (h : s.bad = false ∧ s.i < ts.length) : On ts s (adv s) :=
 ⟨Nat.le_succ _, fun _ => h.2, fun hb => by rw [h.1] at hb; cases hb⟩
theorem stop_on (ts : List Tok) (s : Sg) : On ts s (stop s) :=
 ⟨Nat.le_refl _, id, fun hb => by cases s; simp_all [stop]⟩
theorem exc_on {ts : List Tok} {s : Sg} {c : UInt8} {t : List UInt8} : On ts s (exc ts s (c :: t)) := On.ite (fun h => adv_on (hasT_in h)) fun _ => stop_on _ _
theorem nmS_on (ts : List Tok) (s : Sg) : On ts s (nmS ts s) := On.ite (fun h => adv_on (kd_in h (by decide))) fun _ => stop_on _ _
theorem nuS_on (ts : List Tok) (s : Sg) (k : Nat) : On ts s (nuS ts s k) := On.ite (fun h => adv_on (kd_in (k := 3) (by unfold okN at h; simp at h; exact h.1) (by decide))) fun _ => stop_on _ _
theorem typeOf_nil : (typeOf []).1 = 0 := by decide +kernel
theorem tyS_on (ts : List Tok) (s : Sg) : On ts s (tyS ts s) := On.ite (fun h => adv_on (tx_in fun he => by rw [he, typeOf_nil] at h; omega)) fun _ => stop_on _ _
theorem levelOps_ne (l : Nat) : ∀ p ∈ levelOps l, p.1 ≠ [] ∧ p.2 ≠ 0 := by
 unfold levelOps
 split <;> decide
theorem opV_in {ts : List Tok} {s : Sg} {l : Nat} (h : ¬ opV ts s l = 0) : s.bad = false ∧ s.i < ts.length := by
 refine tx_in fun he => h ?_
 unfold opV
 rw [he]
 have : (levelOps l).find? (fun p => decide (([] : List UInt8) = p.1)) = none := by
  rw [List.find?_eq_none]
  intro p hp h2
  exact (levelOps_ne l p hp).1 (of_decide_eq_true h2).symm
 rw [this]
 rfl
theorem more_on {ts : List Tok} {item : Sg → Tree × Sg} (hi : ∀ s, On ts s (item s).2) : ∀ f acc s, On ts s (more ts item f acc s).2 := by
 intro f
 induction f with
 | zero => intro acc s; exact On.refl _ _
 | succ f ih =>
  intro acc s
  rw [more]
  split
  ·exact (adv_on (hasT_in ‹_›)).trans ((hi _).trans (ih _ _))
  ·exact On.refl _ _
theorem listM_on {ts : List Tok} {item : Sg → Tree × Sg} (hi : ∀ s, On ts s (item s).2) (f : Nat) (s : Sg) : On ts s (listM ts item f s).2 := by
 unfold listM
 split
 ·exact exc_on.trans (adv_on (hasT_in ‹_›))
 ·exact exc_on.trans ((hi _).trans ((more_on hi f _ _).trans exc_on))
theorem E_on (ts : List Tok) : ∀ f nt s, On ts s (E ts f nt s).2 := by
 intro f
 induction f with
 | zero => intro nt s; exact On.refl _ _
 | succ f ih =>
  intro nt s
  cases nt with
  | ex =>
   rw [E]
   split
   ·exact (ih _ _).trans ((adv_on (hasT_in ‹_›)).trans ((ih _ _).trans (exc_on.trans (ih _ _))))
   ·exact ih _ _
  | bn l =>
   rw [E]
   split
   ·exact ih _ _
   ·exact (ih _ _).trans (ih _ _)
  | bl l line left =>
   rw [E]
   split
   ·exact On.refl _ _
   ·split
    ·exact (adv_on (opV_in ‹_›)).trans (ih _ _)
    ·exact (adv_on (opV_in ‹_›)).trans ((ih _ _).trans (ih _ _))
  | ca => rw [E]; exact (ih _ _).trans (ih _ _)
  | cl line t =>
   rw [E]
   split
   ·exact (adv_on (hasT_in ‹_›)).trans ((tyS_on _ _).trans (ih _ _))
   ·exact On.refl _ _
  | un =>
   rw [E]
   split
   ·exact ih _ _
   ·exact (adv_on (opV_in ‹_›)).trans (ih _ _)
  | pr =>
   rw [E]
   split
   ·exact adv_on (kd_in ‹_› (by decide))
   ·split
    ·exact adv_on (hasT_in ‹_›)
    ·split
     ·exact adv_on (hasT_in ‹_›)
     ·split
      ·exact (adv_on (hasT_in ‹_›)).trans (exc_on.trans ((nmS_on _ _).trans exc_on))
      ·split
       ·exact (adv_on (hasT_in ‹_›)).trans ((ih _ _).trans exc_on)
       ·exact ih _ _
  | us =>
   rw [E]
   split
   ·exact (nmS_on _ _).trans (listM_on (fun q => ih _ q) _ _)
   ·split
    ·exact (nmS_on _ _).trans ((adv_on (hasT_in ‹_›)).trans ((ih _ _).trans exc_on))
    ·exact nmS_on _ _
theorem xpr_on (ts : List Tok) (s : Sg) : On ts s (xpr ts s).2 := by unfold xpr; exact E_on ts _ _ _
theorem amS_on (ts : List Tok) (s : Sg) (k : Nat) : On ts s (amS ts s k) := On.ite (fun _ => nuS_on _ _ _) fun _ => On.refl _ _
theorem dir_on (ts : List Tok) (p u : Nat) (s : Sg) : On ts s (dir ts p u s).2.2 := by
 unfold dir
 split
 ·exact (adv_on (hasT_in (‹_ ∧ _› : _ ∧ _).2)).trans (amS_on _ _ _)
 ·split
  ·exact (adv_on (hasT_in (‹u = 0 ∧ _› : _ ∧ _).2)).trans (amS_on _ _ _)
  ·exact stop_on _ _
theorem dirs_on (ts : List Tok) : ∀ f p u s, On ts s (dirs ts f p u s).2.2 := by
 intro f
 induction f with
 | zero => intro p u s; exact On.refl _ _
 | succ f ih =>
  intro p u s
  rw [dirs]
  split
  ·exact (adv_on (hasT_in (‹_ ∧ _› : _ ∧ _).2)).trans ((dir_on _ _ _ _).trans (ih _ _ _))
  ·exact On.refl _ _
theorem declL_on {ts : List Tok} {s : Sg} (h : s.bad = false ∧ s.i < ts.length) : On ts s (declL ts s).2 := by
 unfold declL
 dsimp only
 have h1 : On ts s (if hasT ts (nmS ts (adv s)) [58] = true then tyS ts (adv (nmS ts (adv s))) else nmS ts (adv s)) :=
  On.ite (fun h2 => (adv_on h).trans ((nmS_on _ _).trans ((adv_on (hasT_in h2)).trans (tyS_on _ _)))) fun _ => (adv_on h).trans (nmS_on _ _)
 exact h1.trans (exc_on.trans ((xpr_on _ _).trans exc_on))
theorem declV_on {ts : List Tok} {s : Sg} (h : s.bad = false ∧ s.i < ts.length) : On ts s (declV ts s).2 := by
 unfold declV
 dsimp only
 split
 ·exact (adv_on h).trans ((nmS_on _ _).trans (exc_on.trans ((tyS_on _ _).trans ((adv_on (hasT_in ‹_›)).trans ((xpr_on _ _).trans exc_on)))))
 ·exact (adv_on h).trans ((nmS_on _ _).trans (exc_on.trans ((tyS_on _ _).trans exc_on)))
theorem change_on (ts : List Tok) (s : Sg) : On ts s (change ts s).2 := by
 unfold change
 dsimp only
 split
 ·exact (nmS_on _ _).trans ((adv_on (hasT_in ‹_›)).trans ((xpr_on _ _).trans (exc_on.trans (exc_on.trans ((xpr_on _ _).trans exc_on)))))
 ·exact (nmS_on _ _).trans (exc_on.trans ((xpr_on _ _).trans exc_on))
theorem sendM_on {ts : List Tok} {s : Sg} (h : s.bad = false ∧ s.i < ts.length) : On ts s (sendM ts s).2 := by
 unfold sendM
 dsimp only
 exact (adv_on h).trans ((nmS_on _ _).trans (exc_on.trans ((xpr_on _ _).trans (exc_on.trans exc_on))))
theorem resM_on {ts : List Tok} {s : Sg} (h : s.bad = false ∧ s.i < ts.length) : On ts s (resM ts s).2 := by
 unfold resM
 exact (adv_on h).trans ((xpr_on _ _).trans exc_on)
theorem S_on (ts : List Tok) : ∀ f n s, (match n with | .br => s.bad = false ∧ s.i < ts.length | _ => True) → On ts s (S ts f n s).2 := by
 intro f
 induction f with
 | zero => intro n s _; exact On.refl _ _
 | succ f ih =>
  intro n s hn
  cases n with
  | bk => rw [S]; exact exc_on.trans ((ih _ _ trivial).trans exc_on)
  | bs acc =>
   rw [S]
   split
   ·exact (ih _ _ trivial).trans (ih _ _ trivial)
   ·exact On.refl _ _
  | st =>
   rw [S]
   split
   ·exact declV_on (hasT_in ‹_›)
   ·split
    ·exact declL_on (hasT_in ‹_›)
    ·split
     ·exact ih _ _ (hasT_in ‹_›)
     ·split
      ·exact ih _ _ trivial
      ·split
       ·exact sendM_on (hasT_in ‹_›)
       ·split
        ·exact resM_on (hasT_in ‹_›)
        ·exact change_on _ _
  | br =>
   have hn' : s.bad = false ∧ s.i < ts.length := hn
   have h1 : On ts s (S ts f .bk (xpr ts (adv s)).2).2 := (adv_on hn').trans ((xpr_on _ _).trans (ih _ _ trivial))
   rw [S]
   split
   ·split
    ·exact h1.trans ((adv_on (hasT_in ‹_›)).trans (ih _ _ (hasT_in ‹_›)))
    ·exact h1.trans ((adv_on (hasT_in ‹_›)).trans (ih _ _ trivial))
   ·exact h1
  | lp =>
   rw [S]
   dsimp only
   split
   ·exact (dirs_on _ _ _ _ _).trans ((adv_on (hasT_in ‹_›)).trans ((nmS_on _ _).trans (exc_on.trans ((tyS_on _ _).trans (exc_on.trans ((xpr_on _ _).trans (exc_on.trans ((xpr_on _ _).trans (ih _ _ trivial)))))))))
   ·exact (dirs_on _ _ _ _ _).trans (exc_on.trans ((xpr_on _ _).trans (ih _ _ trivial)))
theorem blk_on (ts : List Tok) (s : Sg) : On ts s (blk ts s).2 := by unfold blk; exact S_on ts _ _ _ trivial
theorem scal_on (ts : List Tok) (s : Sg) : On ts s (scal ts s).2 := (nmS_on _ _).trans (exc_on.trans (tyS_on _ _))
theorem divS_on (ts : List Tok) (s : Sg) : On ts s (divS ts s) :=
 On.ite (fun h => (adv_on (hasT_in h)).trans (nuS_on _ _ _)) fun _ => On.ite (fun h => (adv_on (hasT_in h)).trans (nuS_on _ _ _)) fun _ => On.ite (fun h => adv_on (hasT_in h)) fun _ => On.refl _ _
theorem prmS_on (ts : List Tok) (s : Sg) : On ts s (prmS ts s) := On.ite (fun h => adv_on (hasT_in h)) fun _ => On.ite (fun h => adv_on (hasT_in h)) fun _ => On.refl _ _
theorem prm_on (ts : List Tok) (s : Sg) : On ts s (prm ts s).2 := by
 have h1 : On ts s (tyS ts (prmS ts (exc ts (nmS ts s) [58]))) := (nmS_on _ _).trans (exc_on.trans ((prmS_on _ _).trans (tyS_on _ _)))
 unfold prm
 dsimp only
 split
 ·exact h1.trans ((adv_on (hasT_in (‹_ ∧ _› : _ ∧ _).2)).trans ((nuS_on _ _ _).trans (exc_on.trans (divS_on _ _))))
 ·exact h1
theorem func_on {ts : List Tok} {s : Sg} (h : s.bad = false ∧ s.i < ts.length) : On ts s (func ts s).2 := by
 unfold func
 dsimp only
 exact (adv_on h).trans ((nmS_on _ _).trans ((listM_on (scal_on ts) _ _).trans (exc_on.trans ((tyS_on _ _).trans (blk_on _ _)))))
theorem kern_on (ts : List Tok) (s : Sg) : On ts s (kern ts s).2 := by
 have h1 : On ts s (listM ts (prm ts) (big ts) (nmS ts (exc ts s [107, 101, 114, 110, 101, 108]))).2 := exc_on.trans ((nmS_on _ _).trans (listM_on (prm_on ts) _ _))
 unfold kern
 dsimp only
 split
 ·exact h1.trans ((adv_on (hasT_in ‹_›)).trans ((tyS_on _ _).trans (blk_on _ _)))
 ·exact h1.trans (blk_on _ _)
end Go.Proofs.YtkliclihpobmiaaGreatDoor
/- Tokens in memory: a block of cells. Nothing of the program stands here. -/
namespace Go.Proofs.YtkliclihpobmiaaGreatDoor
open Go Go.RowKit
set_option linter.unusedVariables false

def TkIn (w : World) (g : Nat) (ts : List Tok) : Prop := g < w.heap.size ∧ ∀ i, i < ts.length →
 w.cell? ⟨g, i * 5, none⟩ = some (.int .i64 ((tat ts i).kind : Int)) ∧ w.cell? ⟨g, i * 5 + 1, none⟩ = some (.string (str (tat ts i).text)) ∧ w.cell? ⟨g, i * 5 + 2, none⟩ = some (.int .u64 ((tat ts i).num : Int)) ∧
 w.cell? ⟨g, i * 5 + 3, none⟩ = some (.int .i64 ((tat ts i).pos : Int)) ∧ w.cell? ⟨g, i * 5 + 4, none⟩ = some (.int .i64 ((tat ts i).line : Int))
theorem TkIn.below {w w' : World} {g B : Nat} {ts : List Tok} (h : TkIn w g ts) (hb : Below B w w') (hg : g < B) : TkIn w' g ts := by
 refine ⟨Nat.lt_of_lt_of_le h.1 hb.size, fun i hi => ?_⟩
 have := h.2 i hi
 rw [hb.cell (p := ⟨g, i * 5, none⟩) hg, hb.cell (p := ⟨g, i * 5 + 1, none⟩) hg, hb.cell (p := ⟨g, i * 5 + 2, none⟩) hg, hb.cell (p := ⟨g, i * 5 + 3, none⟩) hg, hb.cell (p := ⟨g, i * 5 + 4, none⟩) hg]
 exact this

end Go.Proofs.YtkliclihpobmiaaGreatDoor
