/- The reference's numbers: what it answers is what the mathematics says. -/
import Derived.Test.YtgglmcjclbaceaaDoorLxRNumW
namespace Go.Proofs.YtgglmcjclbaceaaDoor
open Go Go.RowKit
set_option linter.unusedVariables false

theorem num_core {M : List UInt8} {base k : Nat} (hb : base ≤ 16) (hk : k ≤ M.length) (h : ∀ j (hj : j < M.length), j < k → isDig base M[j] = true) (hs : ∀ c, M[k]? = some c → isDig base c = false) :
    (if k = 0 ∨ (∃ c, M[k]? = some c ∧ inW c = true) then 4 else if 18446744073709551616 ≤ numVal base (M.take k) then 5 else 0) = (if run M = [] ∨ ¬ (run M).all (isDig base) = true then 4 else if 18446744073709551616 ≤ numVal base (run M) then 5 else 0) ∧
    ((if run M = [] ∨ ¬ (run M).all (isDig base) = true then 4 else if 18446744073709551616 ≤ numVal base (run M) then 5 else 0) = 0 → run M = M.take k ∧ (run M).length = k) := by
  by_cases hbad : k = 0 ∨ ∃ c, M[k]? = some c ∧ inW c = true
  · have := num_bad hb hk h hs hbad
    rw [if_pos hbad, if_pos this]
    exact ⟨rfl, fun h => by cases h⟩
  · have h0 : 0 < k := Nat.pos_of_ne_zero fun e => hbad (.inl e)
    have hw : ∀ c, M[k]? = some c → inW c = false := fun c hc => by
      cases e : inW c with
      | false => rfl
      | true => exact absurd (.inr ⟨c, hc, e⟩) hbad
    obtain ⟨e1, e2, e3⟩ := num_good hb hk h h0 hw
    have hn : ¬ (run M = [] ∨ ¬ (run M).all (isDig base) = true) := by
      rintro (h | h)
      · exact e2 h
      · exact h e3
    rw [if_neg hbad, if_neg hn, ← e1]
    refine ⟨rfl, fun _ => ⟨rfl, ?_⟩⟩
    rw [e1, List.length_take]
    omega
theorem numRet_eq {i e n next e' n' next' : Nat} (h1 : e = e') (h2 : e' = 0 → n = n' ∧ next = next') : numRet i e n next = numRet i e' n' next' := by
  subst h1
  unfold numRet
  by_cases h : e = 0
  · obtain ⟨rfl, rfl⟩ := h2 h; rfl
  · rw [if_neg h, if_neg h, if_neg h, if_neg h]
theorem dec_tok {L : List UInt8} {c : UInt8} (h : L.head? = some c) (hd : isDec c = true) : run L ≠ [] ∧ (run L).head?.any isDec = true := by
  cases L with
  | nil => cases h
  | cons a r =>
    have e : a = c := by simpa using h
    subst e
    have hw : inW a = true := by unfold inW; rw [hd]; simp
    have e : run (a :: r) = a :: run r := by unfold run; rw [List.takeWhile_cons, if_pos hw]
    rw [e]
    exact ⟨by simp, by simp [hd]⟩
theorem drop_two {l : List UInt8} {i : Nat} {a b : UInt8} (h0 : l[i]? = some a) (h1 : l[i + 1]? = some b) : l.drop i = a :: b :: l.drop (i + 2) := by
  rw [drop_cons h0, drop_cons h1]
theorem rNumber_any (l : List UInt8) (i : Nat) (hl : l.length ≤ 1000000) (c : UInt8) (hc : l[i]? = some c) (hd : isDec c = true) (w : World) :
    Calls Tryd.prog 32 #[.string (str l), .int .i64 (i : Int)] w fun e w' => e = .returned (numRet i (tokErr (l.drop i)) (tokNum (l.drop i)) (i + tokLen (l.drop i))) ∧ w = w' := by
  have hil : i < l.length := (List.getElem?_eq_some_iff.1 hc).1
  have hh : (l.drop i).head? = some c := by rw [List.head?_drop]; exact hc
  obtain ⟨hr, hh2⟩ := dec_tok hh hd
  obtain ⟨e1, e2, e3, e4⟩ := run_dec_first hr hh2
  have etl : tokLen (l.drop i) = (run (l.drop i)).length := by unfold tokLen; rw [if_neg hr]
  rw [e1, e4, etl]
  clear e1 e2 e3 e4 etl
  by_cases h2 : l[i]? = some 48 ∧ (l[i + 1]? = some 120 ∨ l[i + 1]? = some 98)
  · obtain ⟨h48, hx | hx⟩ := h2
    · refine (rNumber16_any l i hl (List.getElem?_eq_some_iff.1 hx).1 h48 hx w).mono fun e w' ⟨⟨k, hk, hdg, hs, he⟩, hw⟩ => ⟨?_, hw⟩
      obtain ⟨c1, c2⟩ := num_core (by omega) hk hdg hs
      have hrun : run (l.drop i) = 48 :: 120 :: run (l.drop (i + 2)) := by rw [drop_two h48 hx, run_drop2 (by decide) (by decide)]
      have hb : baseOf (run (l.drop i)) = 16 := by rw [hrun]; rfl
      have hdd : digs (run (l.drop i)) = run (l.drop (i + 2)) := by unfold digs; rw [hb, hrun]; rfl
      have hne : numErr (run (l.drop i)) = numErrK l 16 (i + 2) k := by unfold numErr numErrK; rw [hb, hdd, c1]
      rw [he, hb, hdd]
      congr 1
      refine numRet_eq hne.symm fun h0 => ?_
      have := c2 (by rw [← c1]; exact hne.symm.trans h0)
      refine ⟨by rw [this.1], ?_⟩
      rw [hrun, List.length_cons, List.length_cons, this.2]
      omega
    · refine (rNumber2_any l i hl (List.getElem?_eq_some_iff.1 hx).1 h48 hx w).mono fun e w' ⟨⟨k, hk, hdg, hs, he⟩, hw⟩ => ⟨?_, hw⟩
      obtain ⟨c1, c2⟩ := num_core (by omega) hk hdg hs
      have hrun : run (l.drop i) = 48 :: 98 :: run (l.drop (i + 2)) := by rw [drop_two h48 hx, run_drop2 (by decide) (by decide)]
      have hb : baseOf (run (l.drop i)) = 2 := by rw [hrun]; rfl
      have hdd : digs (run (l.drop i)) = run (l.drop (i + 2)) := by unfold digs; rw [hb, hrun]; rfl
      have hne : numErr (run (l.drop i)) = numErrK l 2 (i + 2) k := by unfold numErr numErrK; rw [hb, hdd, c1]
      rw [he, hb, hdd]
      congr 1
      refine numRet_eq hne.symm fun h0 => ?_
      have := c2 (by rw [← c1]; exact hne.symm.trans h0)
      refine ⟨by rw [this.1], ?_⟩
      rw [hrun, List.length_cons, List.length_cons, this.2]
      omega
  · refine (rNumber10_any l i hl hil h2 w).mono fun e w' ⟨⟨k, hk, hdg, hs, he⟩, hw⟩ => ⟨?_, hw⟩
    obtain ⟨c1, c2⟩ := num_core (by omega) hk hdg hs
    have hpre : ∀ b : UInt8, inW b = true → (b = 120 ∨ b = 98) → [48, b].isPrefixOf (run (l.drop i)) = false := fun b hb hbb => by
      cases hp : [48, b].isPrefixOf (run (l.drop i)) with
      | false => rfl
      | true =>
        exfalso
        apply h2
        obtain ⟨t, ht⟩ := List.isPrefixOf_iff_prefix.1 hp
        have hpl : (48 :: b :: t) <+: l.drop i := by
          have : run (l.drop i) <+: l.drop i := List.takeWhile_prefix _
          rw [← ht] at this
          exact this
        obtain ⟨u, hu⟩ := hpl
        have g0 : (l.drop i)[0]? = some 48 := by rw [← hu]; rfl
        have g1 : (l.drop i)[1]? = some b := by rw [← hu]; rfl
        rw [drop_get] at g0 g1
        refine ⟨by simpa using g0, ?_⟩
        rcases hbb with rfl | rfl
        · exact .inl g1
        · exact .inr g1
    have hb : baseOf (run (l.drop i)) = 10 := by
      unfold baseOf
      rw [hpre 120 (by decide) (.inl rfl), if_neg (by simp), hpre 98 (by decide) (.inr rfl), if_neg (by simp)]
    have hdd : digs (run (l.drop i)) = run (l.drop i) := by unfold digs; rw [if_pos hb]
    have hne : numErr (run (l.drop i)) = numErrK l 10 i k := by unfold numErr numErrK; rw [hb, hdd, c1]
    rw [he, hb, hdd]
    congr 1
    refine numRet_eq hne.symm fun h0 => ?_
    have := c2 (by rw [← c1]; exact hne.symm.trans h0)
    exact ⟨by rw [this.1], by rw [this.2]⟩
end Go.Proofs.YtgglmcjclbaceaaDoor
