/- Numbers as texts: their digits, and the tokens of such a text. -/
import Derived.Test.YtgglmcjclbaceaaDoorLxSep
namespace Go.Proofs.YtgglmcjclbaceaaDoor
open Go Go.RowKit
set_option linter.unusedVariables false

/-- The digit of a value below 16. -/
def hx (d : Nat) : UInt8 := if d < 10 then UInt8.ofNat (48 + d) else UInt8.ofNat (87 + d)
theorem hx_facts : ∀ d : Fin 16, dv (hx d.val) = d.val ∧ inW (hx d.val) = true := by decide +kernel
theorem hx_dec : ∀ d : Fin 10, isDec (hx d.val) = true := by decide +kernel
theorem foldl_num (base : Nat) : ∀ (l : List UInt8) (a : Nat), l.foldl (fun n b => n * base + dv b) a = a * base ^ l.length + numVal base l := by
  intro l
  induction l with
  | nil => intro a; simp [numVal]
  | cons c l ih =>
    intro a
    unfold numVal
    rw [List.foldl_cons, List.foldl_cons, ih, ih (0 * base + dv c), List.length_cons, Nat.pow_succ]
    rw [Nat.zero_mul, Nat.zero_add, Nat.add_mul, Nat.mul_assoc, Nat.mul_comm (base ^ l.length) base, Nat.add_assoc]
theorem numVal_cons (base : Nat) (c : UInt8) (l : List UInt8) : numVal base (c :: l) = dv c * base ^ l.length + numVal base l := by
  unfold numVal
  rw [List.foldl_cons, foldl_num]
  simp [numVal]
theorem numVal_zeros (base k : Nat) (l : List UInt8) : numVal base (List.replicate k 48 ++ l) = numVal base l := by
  induction k with
  | zero => rfl
  | succ k ih =>
    rw [List.replicate_succ, List.cons_append, numVal_cons, ih]
    have : dv 48 = 0 := by decide
    rw [this]; simp
/-- The state of the loop that writes the digits: x is still to be written, ds is written. -/
structure DgSt (base n x : Nat) (ds : List UInt8) : Prop where
  eq : x * base ^ ds.length + numVal base ds = n
  all : ∀ c ∈ ds, isDig base c = true
  few : x * 2 ^ ds.length ≤ n
  some_ : x = 0 → n ≠ 0 → ds ≠ []
theorem DgSt.start (base n : Nat) : DgSt base n n [] := ⟨by simp [numVal], by simp, by simp, fun h h2 => absurd h h2⟩
theorem DgSt.step {base n x : Nat} {ds : List UInt8} (h : DgSt base n x ds) (hb : 2 ≤ base ∧ base ≤ 16) (hx0 : 0 < x) : DgSt base n (x / base) (hx (x % base) :: ds) := by
  have hlt : x % base < base := Nat.mod_lt _ (by omega)
  obtain ⟨e1, e2⟩ := hx_facts ⟨x % base, by omega⟩
  have e1' : dv (hx (x % base)) = x % base := e1
  refine ⟨?_, ?_, ?_, fun _ _ => by simp⟩
  · have h1 := h.eq
    rw [numVal_cons, e1', List.length_cons, Nat.pow_succ]
    have h2 : x / base * (base ^ ds.length * base) + x % base * base ^ ds.length = x * base ^ ds.length := by
      rw [Nat.mul_comm (base ^ ds.length) base, ← Nat.mul_assoc, ← Nat.add_mul, Nat.mul_comm (x / base) base, Nat.div_add_mod]
    omega
  · intro c hc
    rcases List.mem_cons.1 hc with rfl | hc
    · unfold isDig; rw [e1']; simpa using hlt
    · exact h.all c hc
  · have h1 := h.few
    rw [List.length_cons, Nat.pow_succ]
    have h2 : x / base * 2 ≤ x := by
      have q1 : x / base * base ≤ x := Nat.div_mul_le_self x base
      have q2 : x / base * 2 ≤ x / base * base := Nat.mul_le_mul_left _ hb.1
      omega
    have h3 : x / base * (2 ^ ds.length * 2) = (x / base * 2) * 2 ^ ds.length := by rw [Nat.mul_comm (2 ^ ds.length) 2, Nat.mul_assoc]
    rw [h3]
    exact Nat.le_trans (Nat.mul_le_mul_right _ h2) h1
theorem DgSt.short {base n x : Nat} {ds : List UInt8} (h : DgSt base n x ds) (hn : n < 18446744073709551616) (hx0 : 0 < x) : ds.length < 64 := by
  have h1 := h.few
  have h2 : 2 ^ ds.length ≤ x * 2 ^ ds.length := Nat.le_mul_of_pos_left _ hx0
  rcases Nat.lt_or_ge ds.length 64 with h3 | h3
  · exact h3
  · have h4 : 2 ^ 64 ≤ 2 ^ ds.length := Nat.pow_le_pow_right (by omega) h3
    have : (2 : Nat) ^ 64 = 18446744073709551616 := by decide
    omega

/-- The beginning of a text in base 16 or 2. -/
def pfx (base : Nat) : List UInt8 := if base = 16 then [48, 120] else if base = 2 then [48, 98] else []
/-- A text of a number: what follows the beginning is made of digits, and it is not empty. -/
structure NumT (base n : Nat) (D : List UInt8) : Prop where
  b : base = 10 ∨ base = 16 ∨ base = 2
  ne : D ≠ []
  all : ∀ c ∈ D, isDig base c = true
  val : numVal base D = n
  lt : n < 18446744073709551616
theorem dig_dec {c : UInt8} (h : isDig 10 c = true) : c ≠ 120 ∧ c ≠ 98 ∧ isDec c = true := by
  have := all_u8 (fun c => !isDig 10 c || (c != 120 && c != 98 && isDec c)) (by decide +kernel) c
  rw [h] at this
  simpa [and_assoc] using this
theorem NumT.inw {base n : Nat} {D : List UInt8} (h : NumT base n D) : ∀ c ∈ pfx base ++ D, inW c = true := by
  intro c hc
  have hb := h.b
  rcases List.mem_append.1 hc with hc | hc
  · unfold pfx at hc
    rcases hb with rfl | rfl | rfl
    · simp at hc
    · simp at hc; rcases hc with rfl | rfl <;> decide
    · simp at hc; rcases hc with rfl | rfl <;> decide
  · exact dig_word (by rcases hb with rfl | rfl | rfl <;> omega) (h.all c hc)
theorem NumT.head {base n : Nat} {D : List UInt8} (h : NumT base n D) : ∃ c r, pfx base ++ D = c :: r ∧ isDec c = true := by
  rcases h.b with rfl | rfl | rfl
  · cases hD : D with
    | nil => exact absurd hD h.ne
    | cons c r => exact ⟨c, r, rfl, (dig_dec (h.all c (by rw [hD]; simp))).2.2⟩
  · exact ⟨48, 120 :: D, rfl, by decide⟩
  · exact ⟨48, 98 :: D, rfl, by decide⟩
theorem base_dec {c : UInt8} {r : List UInt8} (h : ∀ x, r.head? = some x → x ≠ 120 ∧ x ≠ 98) : baseOf (c :: r) = 10 := by
  unfold baseOf
  cases r with
  | nil => simp [List.isPrefixOf]
  | cons x r =>
    obtain ⟨h1, h2⟩ := h x rfl
    have e1 : ((120 : UInt8) == x) = false := beq_eq_false_iff_ne.2 (fun e => h1 e.symm)
    have e2 : ((98 : UInt8) == x) = false := beq_eq_false_iff_ne.2 (fun e => h2 e.symm)
    simp [List.isPrefixOf, e1, e2]
theorem NumT.base {base n : Nat} {D : List UInt8} (h : NumT base n D) : baseOf (pfx base ++ D) = base ∧ digs (pfx base ++ D) = D := by
  rcases h.b with rfl | rfl | rfl
  · have e : baseOf (pfx 10 ++ D) = 10 := by
      cases hD : D with
      | nil => exact absurd hD h.ne
      | cons c r =>
        refine base_dec fun x hx => ?_
        have hm : x ∈ D := by
          rw [hD]
          cases r with
          | nil => simp at hx
          | cons y r => simp at hx; simp [hx]
        exact ⟨(dig_dec (h.all x hm)).1, (dig_dec (h.all x hm)).2.1⟩
    exact ⟨e, by unfold digs; rw [if_pos e]; rfl⟩
  · have e : baseOf (pfx 16 ++ D) = 16 := by unfold baseOf pfx; simp [List.isPrefixOf]
    exact ⟨e, by unfold digs; rw [if_neg (by rw [e]; omega)]; rfl⟩
  · have e : baseOf (pfx 2 ++ D) = 2 := by unfold baseOf pfx; simp [List.isPrefixOf]
    exact ⟨e, by unfold digs; rw [if_neg (by rw [e]; omega)]; rfl⟩
theorem NumT.err {base n : Nat} {D : List UInt8} (h : NumT base n D) : numErr (pfx base ++ D) = 0 := by
  obtain ⟨e1, e2⟩ := h.base
  unfold numErr
  rw [e1, e2, if_neg, if_neg (by rw [h.val]; have := h.lt; omega)]
  rintro (q | q)
  · exact h.ne q
  · exact q (List.all_eq_true.2 h.all)
/-- The tokens of a number with a semicolon behind it. -/
theorem NumT.lex {base n : Nat} {D : List UInt8} (h : NumT base n D) (hl : (pfx base ++ D).length ≤ 1000) :
    lexAll (pfx base ++ D ++ [59]) = ([⟨3, pfx base ++ D, n, 0, 1⟩, ⟨4, [59], 0, (pfx base ++ D).length, 1⟩], (pfx base ++ D).length + 1, 0) := by
  obtain ⟨c, r, hcr, hcd⟩ := h.head
  have herr := h.err
  obtain ⟨e1, e2⟩ := h.base
  have hrun : run (pfx base ++ D ++ [59]) = pfx base ++ D := run_word h.inw (by decide)
  have hval := h.val
  generalize pfx base ++ D = S at *
  have hne : run (S ++ [59]) ≠ [] := by rw [hrun, hcr]; simp
  have hdec : (run (S ++ [59])).head?.any isDec = true := by rw [hrun, hcr]; simp [hcd]
  obtain ⟨t1, t2, t3, t4⟩ := run_dec_first hne hdec
  rw [hrun] at t1 t3 t4
  rw [herr] at t1
  rw [e1, e2, hval] at t4
  have tl : tokLen (S ++ [59]) = S.length := by unfold tokLen; rw [if_neg hne, hrun]
  have hs0 : skipM false ((S ++ [59]).drop 0) = 0 := by
    rw [List.drop_zero, hcr, List.cons_append]
    have : inW c = true := by unfold inW; rw [hcd]; simp
    exact skip_zero (inW_facts c this).1 (fun h => (inW_facts c this).2 h.1)
  have hlen : (S ++ [59]).length = S.length + 1 := by simp
  have hd1 : (S ++ [59]).drop S.length = [59] := List.drop_left
  have hs1 : skipM false ((S ++ [59]).drop S.length) = 0 := by rw [hd1]; decide
  have u1 : tokErr [59] = 0 := by decide +kernel
  have u2 : tokKind [59] = 4 := by decide +kernel
  have u3 : tokLen [59] = 1 := by decide +kernel
  have u4 : tokNum [59] = 0 := by decide +kernel
  unfold lexAll
  rw [if_neg (by rw [hlen]; omega)]
  rw [lexR_tok (by rw [hs0, hlen]; omega) (by rw [hs0, Nat.add_zero, List.drop_zero]; exact t1), hs0, Nat.add_zero, List.drop_zero, tl, Nat.zero_add]
  rw [hlen]
  rw [lexR_tok (by rw [hs1, hlen]; omega) (by rw [hs1, Nat.add_zero, hd1]; exact u1), hs1, Nat.add_zero, hd1, u3]
  obtain ⟨c', r', hr'⟩ : ∃ c' r', S = c' :: r' := ⟨c, r, hcr⟩
  have hSl : 0 < S.length := by rw [hr']; simp
  rw [lexR_end (by omega) (by rw [hlen]; omega)]
  have a1 : tokAt (S ++ [59]) 0 (1 + lineFeeds (List.take 0 (S ++ [59]))) = ⟨3, S, n, 0, 1⟩ := by
    unfold tokAt
    rw [List.drop_zero, t2, t3, t4]
    rfl
  have a2 : ∀ ln, tokAt (S ++ [59]) S.length (ln + lineFeeds (List.take 0 [59])) = ⟨4, [59], 0, S.length, ln⟩ := fun ln => by
    unfold tokAt
    rw [hd1, u2, u3, u4]
    rfl
  rw [a1, a2]
  simp [lineFeeds]
theorem baseOf_le (l : List UInt8) : baseOf l ≤ 16 := by
  unfold baseOf
  split
  · omega
  · split <;> omega
theorem bad_num {S : List UInt8} {c : UInt8} (hc : isDig 16 c = false) : numErr (S ++ [c]) = 4 := by
  unfold numErr
  rw [if_pos]
  by_cases h : digs (S ++ [c]) = []
  · exact .inl h
  · right
    intro hall
    have hm : c ∈ digs (S ++ [c]) := by
      unfold digs at h ⊢
      split
      · simp
      · rename_i hb
        rw [if_neg hb] at h
        rcases Nat.lt_or_ge S.length 2 with h2 | h2
        · exact absurd (List.drop_eq_nil_of_le (by simp; omega)) h
        · rw [List.drop_append_of_le_length h2]; simp
    have h1 := List.all_eq_true.1 hall c hm
    have h2 := baseOf_le (S ++ [c])
    unfold isDig at h1 hc
    simp at h1 hc
    omega
theorem no_pair_plus (c : UInt8) : pairs.contains [43, c] = false := by
  have := all_u8 (fun c => !(pairs.contains [43, c])) (by decide +kernel) c
  simpa using this
/-- A number with a letter behind it, after a sign. -/
theorem NumT.bad {base n : Nat} {D : List UInt8} (h : NumT base n D) (hl : (pfx base ++ D).length ≤ 1000) {c : UInt8} (hc : isDig 16 c = false) (hw : inW c = true) :
    lexAll ([43] ++ (pfx base ++ D) ++ [c]) = ([], 1, 4) := by
  obtain ⟨d, r, hcr, hcd⟩ := h.head
  have hin := h.inw
  generalize pfx base ++ D = S at *
  have hM : [43] ++ S ++ [c] = 43 :: (S ++ [c]) := by simp
  rw [hM]
  have hrn : run (S ++ [c]) = S ++ [c] := by
    have := run_word (l := S ++ [c]) (r := []) (fun b hb => by
      rcases List.mem_append.1 hb with hb | hb
      · exact hin b hb
      · simp at hb; rw [hb]; exact hw) rfl
    rwa [List.append_nil] at this
  have hne : run (S ++ [c]) ≠ [] := by rw [hrn]; simp
  have hdec : (run (S ++ [c])).head?.any isDec = true := by rw [hrn, hcr]; simp [hcd]
  obtain ⟨t1, _, _, _⟩ := run_dec_first hne hdec
  rw [hrn, bad_num hc] at t1
  have hr0 : run (43 :: (S ++ [c])) = [] := by unfold run; rw [List.takeWhile_cons, if_neg (by decide)]
  obtain ⟨q1, q2, q3, q4⟩ := run_nil_first hr0
  have hp : punctLen (43 :: (S ++ [c])) = 1 := by
    have hh : ¬ (1 < (43 :: (S ++ [c])).length ∧ pairs.contains ((43 :: (S ++ [c])).take 2) = true) := by
      rintro ⟨_, q⟩
      rw [hcr] at q
      have : pairs.contains [43, d] = true := q
      rw [no_pair_plus] at this
      cases this
    unfold punctLen
    rw [if_neg hh]
    simp [show isPunct 43 = true by decide]
  have e1 : tokErr (43 :: (S ++ [c])) = 0 := by rw [q1, hp]; rfl
  have e2 : tokLen (43 :: (S ++ [c])) = 1 := by unfold tokLen; rw [if_pos hr0, hp]
  have hs0 : skipM false ((43 :: (S ++ [c])).drop 0) = 0 := skip_zero (by decide) (fun h => absurd h.1 (by decide))
  have hd1 : (43 :: (S ++ [c])).drop 1 = S ++ [c] := rfl
  have hs1 : skipM false ((43 :: (S ++ [c])).drop 1) = 0 := by
    rw [hd1, hcr, List.cons_append]
    have : inW d = true := by unfold inW; rw [hcd]; simp
    exact skip_zero (inW_facts d this).1 (fun h => (inW_facts d this).2 h.1)
  have hlen : (43 :: (S ++ [c])).length = S.length + 2 := by simp
  unfold lexAll
  rw [if_neg (by rw [hlen]; omega), hlen]
  rw [lexR_tok (by rw [hs0, hlen]; omega) (by rw [hs0, Nat.add_zero, List.drop_zero]; exact e1), hs0, Nat.add_zero, List.drop_zero, e2, Nat.zero_add]
  rw [lexR_err (by omega) (by rw [hs1, hlen]; omega) (by rw [hs1, Nat.add_zero, hd1, t1]; omega), hs1, Nat.add_zero, hd1, t1]
end Go.Proofs.YtgglmcjclbaceaaDoor
