/- What the tokens of a text are: their kinds by their texts. -/
import Derived.Test.YtkliclihpobmiaaGreatDoorMgPqT
import Derived.Test.YtkliclihpobmiaaGreatDoorMgPqPr
import Derived.Test.YtkliclihpobmiaaGreatDoorMgLxChain
namespace Go.Proofs.YtkliclihpobmiaaGreatDoor
open Go
set_option linter.unusedVariables false

def TkOf (t : Tok) : Prop := ∃ m : List UInt8, tokErr m = 0 ∧ t.kind = tokKind m ∧ t.text = m.take (tokLen m)
theorem chain_tk {l : List UInt8} : ∀ (ts : List Tok) (d line : Nat), Chain l d line ts → ∀ t ∈ ts, TkOf t
 | [], _, _, _, t, ht => by cases ht
 | u :: ts, d, line, h, t, ht => by
  obtain ⟨_, he, hu, hc⟩ := h
  rcases List.mem_cons.1 ht with rfl | ht
  ·exact ⟨_, he, by rw [hu]; rfl, by rw [hu]; rfl⟩
  ·exact chain_tk ts _ _ hc t ht
theorem run_head {m : List UInt8} (h : run m ≠ []) : ∃ b r, run m = b :: r ∧ inW b = true := by
 cases hr : run m with
 | nil => exact absurd hr h
 | cons b r =>
  refine ⟨b, r, rfl, ?_⟩
  have : b ∈ run m := by rw [hr]; exact List.mem_cons_self
  exact (List.all_eq_true.1 (List.all_takeWhile (p := inW) (l := m)) b this)
theorem run_nil_head {m : List UInt8} (h : run m = []) : ∀ b r, m = b :: r → inW b = false := by
 intro b r hm
 subst hm
 cases hb : inW b with
 | false => rfl
 | true => exfalso; unfold run at h; rw [List.takeWhile_cons, if_pos hb] at h; cases h
theorem tk_word {t : Tok} (h : TkOf t) {b : UInt8} {r : List UInt8} (ht : t.text = b :: r) (hb : inW b = true) : ∃ m, run m = t.text ∧ t.kind = tokKind m := by
 obtain ⟨m, he, hk, hx⟩ := h
 refine ⟨m, ?_, hk⟩
 by_cases hn : run m = []
 ·exfalso
  rw [ht] at hx
  cases m with
  | nil => simp at hx
  | cons c q =>
   have := run_nil_head hn c q rfl
   unfold tokLen at hx
   rw [if_pos hn] at hx
   cases hp : punctLen (c :: q) with
   | zero => rw [hp] at hx; simp at hx
   | succ p => rw [hp] at hx; simp at hx; rw [hx.1] at hb; rw [hb] at this; cases this
 ·rw [hx]; unfold tokLen; rw [if_neg hn]; exact run_eq_take m
theorem tk_punct {t : Tok} (h : TkOf t) {b : UInt8} {r : List UInt8} (ht : t.text = b :: r) (hb : inW b = false) : t.kind = 4 := by
 obtain ⟨m, he, hk, hx⟩ := h
 rw [hk]
 unfold tokKind
 by_cases hn : run m = []
 ·rw [if_pos hn]
 ·exfalso
  obtain ⟨c, q, hr, hc⟩ := run_head hn
  rw [ht] at hx
  unfold tokLen at hx
  rw [if_neg hn, ← run_eq_take, hr] at hx
  simp only [List.cons.injEq] at hx
  rw [hx.1] at hb; rw [hb] at hc; cases hc
theorem tk_name {t : Tok} (h : TkOf t) (hk : t.kind = 1) : isKey t.text = false ∧ ∃ b r, t.text = b :: r ∧ inW b = true := by
 obtain ⟨m, he, hk2, hx⟩ := h
 rw [hk2] at hk
 unfold tokKind at hk
 by_cases hn : run m = []
 ·rw [if_pos hn] at hk; cases hk
 rw [if_neg hn] at hk
 by_cases hd : (run m).head?.any isDec = true
 ·rw [if_pos hd] at hk; cases hk
 rw [if_neg hd] at hk
 by_cases hkey : isKey (run m) = true
 ·rw [if_pos hkey] at hk; cases hk
 have e : t.text = run m := by rw [hx]; unfold tokLen; rw [if_neg hn]; exact (run_eq_take m).symm
 rw [e]
 exact ⟨by simpa using hkey, run_head hn⟩
theorem type_head {x : List UInt8} (h : 0 < (typeOf x).1) : isKey x = true ∧ ∃ b r, x = b :: r ∧ inW b = true ∧ isDec b = false := by
 refine ⟨by unfold isKey; simp [h], ?_⟩
 have hall : (cands.all fun c => match nameOf c.1 c.2 with | [] => false | b :: _ => inW b && !isDec b) = true := by decide +kernel
 unfold typeOf at h
 by_cases hb : x = boolName
 ·refine ⟨98, [111, 111, 108], hb, by decide, by decide⟩
 ·rw [if_neg hb] at h
  cases hf : cands.find? (fun c => nameOf c.1 c.2 == x) with
  | none => rw [hf] at h; simp at h
  | some c =>
   have h1 := List.find?_some hf
   have h2 := List.all_eq_true.1 hall c (List.mem_of_find?_eq_some hf)
   have h3 : nameOf c.1 c.2 = x := by simpa using h1
   rw [h3] at h2
   cases x with
   | nil => simp at h2
   | cons b r => simp at h2; exact ⟨b, r, rfl, h2.1, h2.2⟩
theorem nxt_tk {ts : List Tok} (h : ∀ t ∈ ts, TkOf t) (s : Sg) : TkOf (nxt ts s) ∨ nxt ts s = ⟨0, [], 0, 0, 0⟩ := by
 unfold nxt
 split
 ·exact .inr rfl
 ·by_cases hi : s.i < ts.length
  ·rw [tat_get hi]; exact .inl (h _ (List.getElem_mem hi))
  ·right; unfold tat; simp [List.getD, hi]
theorem kw_of {ts : List Tok} (h : ∀ t ∈ ts, TkOf t) : KW ts := by
 intro s hk k hm
 unfold hasT tx
 unfold kd at hk
 rcases nxt_tk h s with ht | ht
 ·obtain ⟨h1, b, r, h2, h3⟩ := tk_name ht hk
  rw [decide_eq_false_iff_not]
  intro e
  rw [e] at h1 h2
  have hd : ∀ k ∈ [[118, 97, 114], [108, 101, 116], [105, 102], [35], [102, 111, 114], [119, 104, 105, 108, 101], [115, 101, 110, 100], [114, 101, 116, 117, 114, 110]], isKey k = true ∨ k.head?.all (fun b => !inW b) = true := by decide +kernel
  rcases hd k hm with h4 | h4
  ·rw [h1] at h4; cases h4
  ·rw [h2] at h4; simp at h4; rw [h3] at h4; cases h4
 ·rw [ht] at hk; cases hk
theorem k2_of {ts : List Tok} (h : ∀ t ∈ ts, TkOf t) (s : Sg) (h2 : 0 < (typeOf (tx ts s)).1) : kd ts s = 2 := by
 obtain ⟨hkey, b, r, hx, hw, hd⟩ := type_head h2
 unfold tx at hx hkey
 unfold kd
 rcases nxt_tk h s with ht | ht
 ·obtain ⟨m, hm, hk⟩ := tk_word ht hx hw
  rw [hk]
  unfold tokKind
  rw [hm, hx]
  rw [if_neg (by simp), if_neg (by simp [hd]), ← hx, if_pos hkey]
 ·rw [ht] at hx; cases hx
theorem k4_of {ts : List Tok} (h : ∀ t ∈ ts, TkOf t) (s : Sg) (l : Nat) (hl : l < 9) (ho : opV ts s l ≠ 0) : kd ts s = 4 := by
 have hall0 : ∀ l, l < 9 → (levelOps l).all (fun p => match p.1 with | [] => false | b :: _ => !inW b) = true := by decide +kernel
 have hall : ∀ p ∈ levelOps l, ∃ b r, p.1 = b :: r ∧ inW b = false := fun p hp => by
  have h := List.all_eq_true.1 (hall0 l hl) p hp
  obtain ⟨x, n⟩ := p
  cases x with
  | nil => simp at h
  | cons b r => simp at h; exact ⟨b, r, rfl, h⟩
 unfold opV at ho
 cases hf : (levelOps l).find? (fun p => decide (tx ts s = p.1)) with
 | none => rw [hf] at ho; exact absurd rfl ho
 | some p =>
  have h1 := List.find?_some hf
  obtain ⟨b, r, h3, h4⟩ := hall p (List.mem_of_find?_eq_some hf)
  have h5 : tx ts s = p.1 := by simpa using h1
  rw [h3] at h5
  unfold tx at h5
  unfold kd
  rcases nxt_tk h s with ht | ht
  ·exact tk_punct ht h5 h4
  ·rw [ht] at h5; cases h5
end Go.Proofs.YtkliclihpobmiaaGreatDoor
