/- The reference's numbers: mathematics and contracts. -/
import Derived.Test.YtgglmcjclbaceaaDoorLxRef4
import Derived.Test.YtgglmcjclbaceaaDoorLxChain
namespace Go.Proofs.YtgglmcjclbaceaaDoor
open Go Go.RowKit
set_option linter.unusedVariables false

theorem takeWhile_stop {p : UInt8 → Bool} {M : List UInt8} {k : Nat} (hk : k ≤ M.length) (h : ∀ j (hj : j < M.length), j < k → p M[j] = true) (hs : ∀ c, M[k]? = some c → p c = false) : M.takeWhile p = M.take k := by
  induction M generalizing k with
  | nil => simp
  | cons c M ih =>
    cases k with
    | zero =>
      have := hs c (by simp)
      rw [List.takeWhile_cons, if_neg (by rw [this]; simp)]
      rfl
    | succ k =>
      rw [List.takeWhile_cons, if_pos (show p c = true from h 0 (by simp) (by omega)), List.take_succ_cons, ih (by simpa using hk) (fun j hj hjk => (show p M[j] = true from h (j + 1) (by rw [List.length_cons]; omega) (by omega))) (fun d hd => hs d (by simpa using hd))]
theorem run_stop : ∀ {M : List UInt8} {c : UInt8}, M[(run M).length]? = some c → inW c = false := by
  intro M
  induction M with
  | nil => intro c h; simp at h
  | cons d M ih =>
    intro c h
    unfold run at h
    rw [List.takeWhile_cons] at h
    by_cases hd : inW d = true
    · rw [if_pos hd, List.length_cons, List.getElem?_cons_succ] at h
      exact ih h
    · rw [if_neg hd] at h
      have h2 : d = c := by simpa using h
      subst h2
      simpa using hd
theorem num_bad {M : List UInt8} {base k : Nat} (hb : base ≤ 16) (hk : k ≤ M.length) (h : ∀ j (hj : j < M.length), j < k → isDig base M[j] = true) (hs : ∀ c, M[k]? = some c → isDig base c = false) (hbad : k = 0 ∨ ∃ c, M[k]? = some c ∧ inW c = true) :
    run M = [] ∨ ¬ (run M).all (isDig base) = true := by
  by_cases hr : run M = []
  · exact .inl hr
  · right
    intro hall
    have hpos : 0 < (run M).length := List.length_pos_iff.2 hr
    have hle := run_le M
    rcases Nat.lt_or_ge k (run M).length with h1 | h1
    · have h2 : (run M)[k]? = some (M[k]'(by omega)) := by
        rw [run_eq_take M, List.getElem?_take, if_pos h1, List.getElem?_eq_getElem]
      have h3 := List.all_eq_true.1 hall _ (List.mem_of_getElem? h2)
      rw [hs _ (List.getElem?_eq_getElem (by omega))] at h3
      cases h3
    · rcases hbad with rfl | ⟨c, hc, hw⟩
      · omega
      · have hkl := (List.getElem?_eq_some_iff.1 hc).1
        rcases Nat.lt_or_ge (run M).length k with h2 | h2
        · have h3 := dig_word hb (h _ (by omega) h2)
          rw [run_stop (List.getElem?_eq_getElem (by omega))] at h3
          cases h3
        · have e : k = (run M).length := by omega
          rw [e] at hc
          rw [run_stop hc] at hw
          cases hw
theorem num_good {M : List UInt8} {base k : Nat} (hb : base ≤ 16) (hk : k ≤ M.length) (h : ∀ j (hj : j < M.length), j < k → isDig base M[j] = true) (h0 : 0 < k) (hw : ∀ c, M[k]? = some c → inW c = false) :
    run M = M.take k ∧ run M ≠ [] ∧ (run M).all (isDig base) = true := by
  have e : run M = M.take k := takeWhile_stop hk (fun j hj hjk => dig_word hb (h j hj hjk)) hw
  refine ⟨e, ?_, ?_⟩
  · rw [e]
    intro h1
    have := congrArg List.length h1
    rw [List.length_take, List.length_nil] at this
    omega
  · rw [e, List.all_eq_true]
    intro x hx
    obtain ⟨j, hj, rfl⟩ := List.mem_iff_getElem.1 hx
    rw [List.length_take] at hj
    rw [List.getElem_take]
    exact h j (by omega) (by omega)
theorem run_drop2 {a b : UInt8} {M : List UInt8} (ha : inW a = true) (hb : inW b = true) : run (a :: b :: M) = a :: b :: run M := by
  unfold run
  rw [List.takeWhile_cons, if_pos ha, List.takeWhile_cons, if_pos hb]
theorem numVal_snoc (base : Nat) (l : List UInt8) (c : UInt8) : numVal base (l ++ [c]) = numVal base l * base + dv c := by
  unfold numVal
  rw [List.foldl_append]
  rfl
theorem take_succ_get {M : List UInt8} {k : Nat} (h : k < M.length) : M.take (k + 1) = M.take k ++ [M[k]] := by
  rw [List.take_add_one, List.getElem?_eq_getElem h]
  rfl
/-- What the reference's number returns: at digits from i2 on, k of them. -/
def numRet (i err n next : Nat) : Value := .tuple #[.int .u64 (if err = 0 then (n : Int) else 0), .int .i64 (if err = 0 then (next : Int) else (i : Int)), .int .i64 (err : Int)]
/-- The state of the reference's loop. -/
structure NumSt (l : List UInt8) (base i2 k : Nat) (a : Int) (big : Bool) : Prop where
  dig : ∀ j (hj : j < (l.drop i2).length), j < k → isDig base (l.drop i2)[j] = true
  lo : 0 ≤ a
  hi : a < 18446744073709551616
  val : (big = false ∧ a = (numVal base ((l.drop i2).take k) : Int)) ∨ (big = true ∧ 18446744073709551616 ≤ numVal base ((l.drop i2).take k))
/-- The answer in words of the loop's end. -/
def numErrK (l : List UInt8) (base i2 k : Nat) : Nat := if k = 0 ∨ (∃ c, (l.drop i2)[k]? = some c ∧ inW c = true) then 4 else if 18446744073709551616 ≤ numVal base ((l.drop i2).take k) then 5 else 0
/-- What is known of the reference's answer. -/
def NumPost (l : List UInt8) (base i2 i : Nat) (e : Ending) : Prop := ∃ k, k ≤ (l.drop i2).length ∧ (∀ j (hj : j < (l.drop i2).length), j < k → isDig base (l.drop i2)[j] = true) ∧ (∀ c, (l.drop i2)[k]? = some c → isDig base c = false) ∧
  e = .returned (numRet i (numErrK l base i2 k) (numVal base ((l.drop i2).take k)) (i2 + k))
theorem drop_get (l : List UInt8) (i k : Nat) : (l.drop i)[k]? = l[i + k]? := by rw [List.getElem?_drop]

end Go.Proofs.YtgglmcjclbaceaaDoor
