/- The reference's numbers: mathematics and contracts. -/
import Derived.Test.YthdbaligapdbeaaGreatDoorMgLxChain
import Derived.Test.YthdbaligapdbeaaGreatDoorMgLxLex
namespace Go.Proofs.YthdbaligapdbeaaGreatDoor
open Go Go.RowKit
set_option linter.unusedVariables false

theorem takeWhile_stop {p : UInt8 → Bool} {M : List UInt8} {k : Nat} (hk : k ≤ M.length) (h : ∀ j (hj : j < M.length), j < k → p M[j] = true) (hs : ∀ c, M[k]? = some c → p c = false) : M.takeWhile p = M.take k := by
 induction M generalizing k with
 | nil => simp
 | cons c M ih =>
  cases k with
  | zero =>
   have := hs c (by simp)
   rw [List.takeWhile_cons, if_neg (by rw [this]; simp)]
   rfl
  | succ k =>
   rw [List.takeWhile_cons, if_pos (show p c = true from h 0 (by simp) (by omega)), List.take_succ_cons, ih (by simpa using hk) (fun j hj hjk => (show p M[j] = true from h (j + 1) (by rw [List.length_cons]; omega) (by omega))) (fun d hd => hs d (by simpa using hd))]
theorem run_stop : ∀ {M : List UInt8} {c : UInt8}, M[(run M).length]? = some c → inW c = false := by
 intro M
 induction M with
 | nil => intro c h; simp at h
 | cons d M ih =>
  intro c h
  unfold run at h
  rw [List.takeWhile_cons] at h
  by_cases hd : inW d = true
  ·rw [if_pos hd, List.length_cons, List.getElem?_cons_succ] at h
   exact ih h
  ·rw [if_neg hd] at h
   have h2 : d = c := by simpa using h
   subst h2
   simpa using hd
theorem num_bad {M : List UInt8} {base k : Nat} (hb : base ≤ 16) (hk : k ≤ M.length) (h : ∀ j (hj : j < M.length), j < k → isDig base M[j] = true) (hs : ∀ c, M[k]? = some c → isDig base c = false) (hbad : k = 0 ∨ ∃ c, M[k]? = some c ∧ inW c = true) :
  run M = [] ∨ ¬ (run M).all (isDig base) = true := by
 by_cases hr : run M = []
 ·exact .inl hr
 ·right
  intro hall
  have hpos : 0 < (run M).length := List.length_pos_iff.2 hr
  have hle := run_le M
  rcases Nat.lt_or_ge k (run M).length with h1 | h1
  ·have h2 : (run M)[k]? = some (M[k]'(by omega)) := by
    rw [run_eq_take M, List.getElem?_take, if_pos h1, List.getElem?_eq_getElem]
   have h3 := List.all_eq_true.1 hall _ (List.mem_of_getElem? h2)
   rw [hs _ (List.getElem?_eq_getElem (by omega))] at h3
   cases h3
  ·rcases hbad with rfl | ⟨c, hc, hw⟩
   ·omega
   ·have hkl := (List.getElem?_eq_some_iff.1 hc).1
    rcases Nat.lt_or_ge (run M).length k with h2 | h2
    ·have h3 := dig_word hb (h _ (by omega) h2)
     rw [run_stop (List.getElem?_eq_getElem (by omega))] at h3
     cases h3
    ·have e : k = (run M).length := by omega
     rw [e] at hc
     rw [run_stop hc] at hw
     cases hw
theorem num_good {M : List UInt8} {base k : Nat} (hb : base ≤ 16) (hk : k ≤ M.length) (h : ∀ j (hj : j < M.length), j < k → isDig base M[j] = true) (h0 : 0 < k) (hw : ∀ c, M[k]? = some c → inW c = false) :
  run M = M.take k ∧ run M ≠ [] ∧ (run M).all (isDig base) = true := by
 have e : run M = M.take k := takeWhile_stop hk (fun j hj hjk => dig_word hb (h j hj hjk)) hw
 refine ⟨e, ?_, ?_⟩
 ·rw [e]
  intro h1
  have := congrArg List.length h1
  rw [List.length_take, List.length_nil] at this
  omega
 ·rw [e, List.all_eq_true]
  intro x hx
  obtain ⟨j, hj, rfl⟩ := List.mem_iff_getElem.1 hx
  rw [List.length_take] at hj
  rw [List.getElem_take]
  exact h j (by omega) (by omega)
theorem run_drop2 {a b : UInt8} {M : List UInt8} (ha : inW a = true) (hb : inW b = true) : run (a :: b :: M) = a :: b :: run M := by
 unfold run
 rw [List.takeWhile_cons, if_pos ha, List.takeWhile_cons, if_pos hb]
theorem numVal_snoc (base : Nat) (l : List UInt8) (c : UInt8) : numVal base (l ++ [c]) = numVal base l * base + dv c := by
 unfold numVal
 rw [List.foldl_append]
 rfl
theorem take_succ_get {M : List UInt8} {k : Nat} (h : k < M.length) : M.take (k + 1) = M.take k ++ [M[k]] := by
 rw [List.take_add_one, List.getElem?_eq_getElem h]
 rfl
def numRet (i err n next : Nat) : Value := .tuple #[.int .u64 (if err = 0 then (n : Int) else 0), .int .i64 (if err = 0 then (next : Int) else (i : Int)), .int .i64 (err : Int)]
structure NumSt (l : List UInt8) (base i2 k : Nat) (a : Int) (big : Bool) : Prop where
 dig : ∀ j (hj : j < (l.drop i2).length), j < k → isDig base (l.drop i2)[j] = true
 lo : 0 ≤ a
 hi : a < 18446744073709551616
 val : (big = false ∧ a = (numVal base ((l.drop i2).take k) : Int)) ∨ (big = true ∧ 18446744073709551616 ≤ numVal base ((l.drop i2).take k))
def numErrK (l : List UInt8) (base i2 k : Nat) : Nat := if k = 0 ∨ (∃ c, (l.drop i2)[k]? = some c ∧ inW c = true) then 4 else if 18446744073709551616 ≤ numVal base ((l.drop i2).take k) then 5 else 0
def NumPost (l : List UInt8) (base i2 i : Nat) (e : Ending) : Prop := ∃ k, k ≤ (l.drop i2).length ∧ (∀ j (hj : j < (l.drop i2).length), j < k → isDig base (l.drop i2)[j] = true) ∧ (∀ c, (l.drop i2)[k]? = some c → isDig base c = false) ∧
 e = .returned (numRet i (numErrK l base i2 k) (numVal base ((l.drop i2).take k)) (i2 + k))
theorem drop_get (l : List UInt8) (i k : Nat) : (l.drop i)[k]? = l[i + k]? := by rw [List.getElem?_drop]

end Go.Proofs.YthdbaligapdbeaaGreatDoor
/- The reference's numbers: contracts. -/
namespace Go.Proofs.YthdbaligapdbeaaGreatDoor
open Go Go.RowKit
set_option linter.unusedVariables false

set_option maxHeartbeats 2000000 in
set_option maxRecDepth 100000 in
theorem rNumber16_any (l : List UInt8) (i : Nat) (hl : l.length ≤ 1000000) (hi : i + 1 < l.length) (h0 : l[i]? = some 48) (h1 : l[i + 1]? = some 120) (w : World) :
  Calls Tryz.prog 130 #[.string (str l), .int .i64 (i : Int)] w fun e w' => NumPost l 16 (i + 2) i e ∧ w = w' := by
 have hsz : (str l).size = l.length := str_size l
 have HAT : Hid (∀ k (h : k < l.length), (str l)[k]'(by rw [hsz]; exact h) = l[k]) := fun k h => rfl
 have HLL : Hid ((l.drop (i + 2)).length = l.length - (i + 2)) := List.length_drop ..
 have HS0 : Hid (NumSt l 16 (i + 2) 0 0 false) := ⟨fun j _ h => by omega, by omega, by omega, .inl ⟨rfl, rfl⟩⟩
 have hat0 : ∀ h : i < (str l).size, (str l)[i]'h = 48 := fun h => by
  have := HAT.out i (by omega)
  rw [this]
  rw [List.getElem?_eq_getElem (by omega)] at h0
  injection h0
 have hat1 : ∀ h : i + 1 < (str l).size, (str l)[i + 1]'h = 120 := fun h => by
  have := HAT.out (i + 1) (by omega)
  rw [this]
  rw [List.getElem?_eq_getElem (by omega)] at h1
  injection h1
 have t48 : ((48 : UInt8).toNat : Int) = 48 := rfl
 have t120 : ((120 : UInt8).toNat : Int) = 120 := rfl
 clear h0 h1
 go_enter Tryz.func130, Tryz.ntmps130
 go_wp2
 go_loop [8, 10, 11, 12] (fun vp n b _ => ∃ (p k : Nat) (a : Int) (big : Bool), vp = .int .i64 (p : Int) ∧ n = .int .u64 a ∧ b = .bool big ∧ p ≤ l.length ∧ (i + 2) ≤ p ∧ Hid (p = (i + 2) + k) ∧ Hid (NumSt l 16 (i + 2) k a big)) (fun vp _ _ _ => l.length - (intOf vp).toNat)
 case atStart => exact ⟨(i + 2), 0, 0, false, by first | rfl | go_num, rfl, rfl, by omega, by omega, rfl, HS0⟩
 case round =>
  clear HS0
  obtain ⟨p, k, a, big, rfl, rfl, rfl, hpl, hpi, HP, hS⟩ := hrel
  have ha0 := hS.out.lo
  have ha1 := hS.out.hi
  by_cases hlt : p < l.length
  ·obtain ⟨c, hcc⟩ : ∃ c, c = l[p] := ⟨_, rfl⟩
   have hat : ∀ h : p < (str l).size, (str l)[p]'h = c := fun _ => hcc.symm
   have hget : (l.drop (i + 2))[k]? = some c := by rw [drop_get, ← HP.out, List.getElem?_eq_getElem hlt, hcc]
   have HD : Hid (∀ W, Calls Tryz.prog 129 #[.int .u8 (c.toNat : Int), .int .i64 16] W fun e w' => e = .returned (.int .i64 (rd 16 c)) ∧ W = w') := fun W => rDigit_any c 16 (by omega) W
   by_cases hdg : dv c < 16
   ·have hrd : rd 16 c = (dv c : Int) := by unfold rd; rw [if_pos hdg]
    rw [hrd] at HD
    have hkl : k < (l.drop (i + 2)).length := (List.getElem?_eq_some_iff.1 hget).1
    have hgk : (l.drop (i + 2))[k] = c := (List.getElem?_eq_some_iff.1 hget).2
    have hval : numVal 16 ((l.drop (i + 2)).take (k + 1)) = numVal 16 ((l.drop (i + 2)).take k) * 16 + dv c := by rw [take_succ_get hkl, hgk, numVal_snoc]
    have hdig : ∀ j (hj : j < (l.drop (i + 2)).length), j < k + 1 → isDig 16 (l.drop (i + 2))[j] = true := fun j hj hjk => by
     by_cases e : j = k
     ·subst e; rw [hgk]; simp [isDig, hdg]
     ·exact hS.out.dig j hj (by omega)
    have hv := hS.out.val
    generalize dv c = d at *
    have hN : Hid (∀ (a' : Int) (big' : Bool), 0 ≤ a' → a' < 18446744073709551616 → ((big' = false ∧ a' = ((numVal 16 ((l.drop (i + 2)).take k) * 16 + d : Nat) : Int)) ∨ (big' = true ∧ 18446744073709551616 ≤ numVal 16 ((l.drop (i + 2)).take k) * 16 + d)) → NumSt l 16 (i + 2) (k + 1) a' big') := fun a' big' h1 h2 h3 => ⟨hdig, h1, h2, by rw [hval]; exact h3⟩
    have HP1 : Hid (p + 1 = (i + 2) + (k + 1)) := by have := HP.out; show _ = _; omega
    generalize numVal 16 ((l.drop (i + 2)).take k) = nv at *
    clear hcc hget hval hdig hgk hS hkl hrd HP
    by_cases hov : 18446744073709551616 ≤ a * 16 + (d : Int)
    ·have hov2 : (18446744073709551615 - (d : Int)) / 16 < a := by omega
     have hw0 : 0 ≤ IntKind.u64.wrap (IntKind.u64.wrap (a * 16) + (d : Int)) ∧ IntKind.u64.wrap (IntKind.u64.wrap (a * 16) + (d : Int)) < 18446744073709551616 := by rw [IntKind.wrap_u64, IntKind.wrap_u64]; omega
     have hnn : Hid (NumSt l 16 (i + 2) (k + 1) (IntKind.u64.wrap (IntKind.u64.wrap (a * 16) + (d : Int))) true) := hN.out _ _ hw0.1 hw0.2 (.inr ⟨rfl, by rcases hv with ⟨_, h⟩ | ⟨_, h⟩ <;> omega⟩)
     have hw1 : IntKind.u64.wrap (IntKind.u64.wrap (a * 16) + (d : Int)) = IntKind.u64.wrap (a * 16 + (d : Int)) := by rw [IntKind.wrap_u64, IntKind.wrap_u64, IntKind.wrap_u64]; omega
     have HW1 := Hd hw1
     clear hN hv hw0 hw1
     go_wp2_with (go_at_call 129; refine (HD.out _).mono ?_; rintro e w' ⟨rfl, rfl⟩)
     go_round
     case rel => exact ⟨p + 1, k + 1, _, true, by go_num, rfl, rfl, by omega, by omega, HP1, by first | exact hnn | (rw [← HW1.out]; exact hnn)⟩
     case measure => simp [intOf]; omega
    ·have hov2 : ¬ (18446744073709551615 - (d : Int)) / 16 < a := by omega
     have hnn : Hid (big = false → NumSt l 16 (i + 2) (k + 1) (a * 16 + (d : Int)) false) := fun hb => hN.out _ _ (by omega) (by omega) (.inl ⟨rfl, by rcases hv with ⟨_, h⟩ | ⟨h, _⟩; (· rw [h]; omega); (· rw [hb] at h; cases h)⟩)
     have hnt : Hid (big = true → NumSt l 16 (i + 2) (k + 1) (a * 16 + (d : Int)) true) := fun hb => hN.out _ _ (by omega) (by omega) (.inr ⟨rfl, by rcases hv with ⟨h, _⟩ | ⟨_, h⟩; (· rw [hb] at h; cases h); (· have h1 : nv * 1 ≤ nv * 16 := Nat.mul_le_mul_left _ (by omega); omega)⟩)
     have hnb : Hid (NumSt l 16 (i + 2) (k + 1) (a * 16 + (d : Int)) big) := by
      show NumSt _ _ _ _ _ _
      cases big
      ·exact hnn.out rfl
      ·exact hnt.out rfl
     clear hN hv hnn hnt
     go_wp2_with (go_at_call 129; refine (HD.out _).mono ?_; rintro e w' ⟨rfl, rfl⟩)
     go_round
     case rel => exact ⟨p + 1, k + 1, _, big, by go_num, rfl, rfl, by omega, by omega, HP1, hnb⟩
     case measure => simp [intOf]; omega
   ·have hrd : rd 16 c < 0 := by unfold rd; rw [if_neg hdg]; omega
    have HI := Hd fun W => rInside_any c W
    have hstop : Hid (∀ x, (l.drop (i + 2))[k]? = some x → isDig 16 x = false) := fun x hx => by
     rw [hget] at hx
     injection hx with hx
     rw [← hx]; simp [isDig]; omega
    have hkl : k ≤ (l.drop (i + 2)).length := by rw [List.length_drop]; have := HP.out; omega
    have hfin : Hid (∀ v, v = numRet i (numErrK l 16 (i + 2) k) (numVal 16 ((l.drop (i + 2)).take k)) ((i + 2) + k) → NumPost l 16 (i + 2) i (.returned v)) := fun v hv => ⟨k, hkl, hS.out.dig, hstop.out, by rw [hv]⟩
    have hke : Hid (numErrK l 16 (i + 2) k = if k = 0 ∨ inW c = true then 4 else if 18446744073709551616 ≤ numVal 16 ((l.drop (i + 2)).take k) then 5 else 0) := by
     show _ = _
     unfold numErrK
     congr 1
     apply propext
     constructor
     ·rintro (h | ⟨x, hx, hw⟩)
      ·exact .inl h
      ·rw [hget] at hx; injection hx with hx; rw [hx]; exact .inr hw
     ·rintro (h | h)
      ·exact .inl h
      ·exact .inr ⟨c, hget, h⟩
    clear hget hcc hkl hstop hdg
    by_cases hk0 : k = 0
    ·have hz : (((p : Nat) : Int) == (i : Int) + 2) = true := by rw [beq_iff_eq]; have := HP.out; omega
     have hE : Hid (numErrK l 16 (i + 2) k = 4) := by show _ = _; rw [hke.out, if_pos (.inl hk0)]
     clear hk0 hke HP hS
     go_wp2_with (first | (go_at_call 129; refine (HD.out _).mono ?_; rintro e w' ⟨rfl, rfl⟩) | (go_at_call 127; refine (HI.out _).mono ?_; rintro e w' ⟨rfl, rfl⟩))
     go_ret3
     exact ⟨hfin.out _ (by unfold numRet; rw [hE.out]; rfl), rfl⟩
    ·have hz : (((p : Nat) : Int) == (i : Int) + 2) = false := beq_eq_false_iff_ne.2 (by have := HP.out; omega)
     cases hiw : inW c with
     | true =>
      have hE : Hid (numErrK l 16 (i + 2) k = 4) := by show _ = _; rw [hke.out, if_pos (.inr hiw)]
      rw [hiw] at HI
      clear hk0 hke HP hS hiw
      go_wp2_with (first | (go_at_call 129; refine (HD.out _).mono ?_; rintro e w' ⟨rfl, rfl⟩) | (go_at_call 127; refine (HI.out _).mono ?_; rintro e w' ⟨rfl, rfl⟩))
      go_ret3
      exact ⟨hfin.out _ (by unfold numRet; rw [hE.out]; rfl), rfl⟩
     | false =>
      rw [hiw] at HI
      have hE : Hid (numErrK l 16 (i + 2) k = if 18446744073709551616 ≤ numVal 16 ((l.drop (i + 2)).take k) then 5 else 0) := by show _ = _; rw [hke.out, if_neg (by rintro (h | h); (· exact hk0 h); (· rw [hiw] at h; cases h))]
      rcases hS.out.val with ⟨rfl, hv⟩ | ⟨rfl, hv⟩
      ·have hE2 : Hid (numErrK l 16 (i + 2) k = 0) := by show _ = _; rw [hE.out, if_neg (by omega)]
       have HV := Hd hv
       have HPP := Hd HP.out
       clear hk0 hke HP hS hE hv hiw
       go_wp2_with (first | (go_at_call 129; refine (HD.out _).mono ?_; rintro e w' ⟨rfl, rfl⟩) | (go_at_call 127; refine (HI.out _).mono ?_; rintro e w' ⟨rfl, rfl⟩))
       go_ret3
       exact ⟨hfin.out _ (by unfold numRet; rw [hE2.out, if_pos rfl, if_pos rfl, ← HV.out, ← HPP.out]; rfl), rfl⟩
      ·have hE2 : Hid (numErrK l 16 (i + 2) k = 5) := by show _ = _; rw [hE.out, if_pos hv]
       clear hk0 hke HP hS hE hv hiw
       go_wp2_with (first | (go_at_call 129; refine (HD.out _).mono ?_; rintro e w' ⟨rfl, rfl⟩) | (go_at_call 127; refine (HI.out _).mono ?_; rintro e w' ⟨rfl, rfl⟩))
       go_ret3
       exact ⟨hfin.out _ (by unfold numRet; rw [hE2.out]; rfl), rfl⟩
  ·have hkl : k ≤ (l.drop (i + 2)).length := by rw [List.length_drop]; have := HP.out; omega
   have hno : (l.drop (i + 2))[k]? = none := by rw [drop_get, ← HP.out]; exact List.getElem?_eq_none (by omega)
   have hfin : Hid (∀ v, v = numRet i (numErrK l 16 (i + 2) k) (numVal 16 ((l.drop (i + 2)).take k)) ((i + 2) + k) → NumPost l 16 (i + 2) i (.returned v)) := fun v hv => ⟨k, hkl, hS.out.dig, (fun x hx => by rw [hno] at hx; cases hx), by rw [hv]⟩
   have hke : Hid (numErrK l 16 (i + 2) k = if k = 0 ∨ False then 4 else if 18446744073709551616 ≤ numVal 16 ((l.drop (i + 2)).take k) then 5 else 0) := by
    show _ = _
    unfold numErrK
    congr 1
    apply propext
    constructor
    ·rintro (h | ⟨x, hx, hw⟩)
     ·exact .inl h
     ·rw [hno] at hx; cases hx
    ·rintro (h | h)
     ·exact .inl h
     ·exact h.elim
   clear hno hkl
   by_cases hk0 : k = 0
   ·have hz : (((p : Nat) : Int) == (i : Int) + 2) = true := by rw [beq_iff_eq]; have := HP.out; omega
    have hE : Hid (numErrK l 16 (i + 2) k = 4) := by show _ = _; rw [hke.out, if_pos (.inl hk0)]
    clear hk0 hke HP hS
    go_wp2
    go_ret3
    exact ⟨hfin.out _ (by unfold numRet; rw [hE.out]; rfl), rfl⟩
   ·have hz : (((p : Nat) : Int) == (i : Int) + 2) = false := beq_eq_false_iff_ne.2 (by have := HP.out; omega)
    have hE : Hid (numErrK l 16 (i + 2) k = if 18446744073709551616 ≤ numVal 16 ((l.drop (i + 2)).take k) then 5 else 0) := by show _ = _; rw [hke.out, if_neg (by rintro (h | h); (· exact hk0 h); (· exact h))]
    rcases hS.out.val with ⟨rfl, hv⟩ | ⟨rfl, hv⟩
    ·have hE2 : Hid (numErrK l 16 (i + 2) k = 0) := by show _ = _; rw [hE.out, if_neg (by omega)]
     have HV := Hd hv
     have HPP := Hd HP.out
     clear hk0 hke HP hS hE hv
     go_wp2
     go_ret3
     exact ⟨hfin.out _ (by unfold numRet; rw [hE2.out, if_pos rfl, if_pos rfl, ← HV.out, ← HPP.out]; rfl), rfl⟩
    ·have hE2 : Hid (numErrK l 16 (i + 2) k = 5) := by show _ = _; rw [hE.out, if_pos hv]
     clear hk0 hke HP hS hE hv
     go_wp2
     go_ret3
     exact ⟨hfin.out _ (by unfold numRet; rw [hE2.out]; rfl), rfl⟩

set_option maxHeartbeats 2000000 in
set_option maxRecDepth 100000 in
theorem rNumber2_any (l : List UInt8) (i : Nat) (hl : l.length ≤ 1000000) (hi : i + 1 < l.length) (h0 : l[i]? = some 48) (h1 : l[i + 1]? = some 98) (w : World) :
  Calls Tryz.prog 130 #[.string (str l), .int .i64 (i : Int)] w fun e w' => NumPost l 2 (i + 2) i e ∧ w = w' := by
 have hsz : (str l).size = l.length := str_size l
 have HAT : Hid (∀ k (h : k < l.length), (str l)[k]'(by rw [hsz]; exact h) = l[k]) := fun k h => rfl
 have HLL : Hid ((l.drop (i + 2)).length = l.length - (i + 2)) := List.length_drop ..
 have HS0 : Hid (NumSt l 2 (i + 2) 0 0 false) := ⟨fun j _ h => by omega, by omega, by omega, .inl ⟨rfl, rfl⟩⟩
 have hat0 : ∀ h : i < (str l).size, (str l)[i]'h = 48 := fun h => by
  have := HAT.out i (by omega)
  rw [this]
  rw [List.getElem?_eq_getElem (by omega)] at h0
  injection h0
 have hat1 : ∀ h : i + 1 < (str l).size, (str l)[i + 1]'h = 98 := fun h => by
  have := HAT.out (i + 1) (by omega)
  rw [this]
  rw [List.getElem?_eq_getElem (by omega)] at h1
  injection h1
 have t48 : ((48 : UInt8).toNat : Int) = 48 := rfl
 have t120 : ((98 : UInt8).toNat : Int) = 98 := rfl
 clear h0 h1
 go_enter Tryz.func130, Tryz.ntmps130
 go_wp2
 go_loop [8, 10, 11, 12] (fun vp n b _ => ∃ (p k : Nat) (a : Int) (big : Bool), vp = .int .i64 (p : Int) ∧ n = .int .u64 a ∧ b = .bool big ∧ p ≤ l.length ∧ (i + 2) ≤ p ∧ Hid (p = (i + 2) + k) ∧ Hid (NumSt l 2 (i + 2) k a big)) (fun vp _ _ _ => l.length - (intOf vp).toNat)
 case atStart => exact ⟨(i + 2), 0, 0, false, by first | rfl | go_num, rfl, rfl, by omega, by omega, rfl, HS0⟩
 case round =>
  clear HS0
  obtain ⟨p, k, a, big, rfl, rfl, rfl, hpl, hpi, HP, hS⟩ := hrel
  have ha0 := hS.out.lo
  have ha1 := hS.out.hi
  by_cases hlt : p < l.length
  ·obtain ⟨c, hcc⟩ : ∃ c, c = l[p] := ⟨_, rfl⟩
   have hat : ∀ h : p < (str l).size, (str l)[p]'h = c := fun _ => hcc.symm
   have hget : (l.drop (i + 2))[k]? = some c := by rw [drop_get, ← HP.out, List.getElem?_eq_getElem hlt, hcc]
   have HD : Hid (∀ W, Calls Tryz.prog 129 #[.int .u8 (c.toNat : Int), .int .i64 2] W fun e w' => e = .returned (.int .i64 (rd 2 c)) ∧ W = w') := fun W => rDigit_any c 2 (by omega) W
   by_cases hdg : dv c < 2
   ·have hrd : rd 2 c = (dv c : Int) := by unfold rd; rw [if_pos hdg]
    rw [hrd] at HD
    have hkl : k < (l.drop (i + 2)).length := (List.getElem?_eq_some_iff.1 hget).1
    have hgk : (l.drop (i + 2))[k] = c := (List.getElem?_eq_some_iff.1 hget).2
    have hval : numVal 2 ((l.drop (i + 2)).take (k + 1)) = numVal 2 ((l.drop (i + 2)).take k) * 2 + dv c := by rw [take_succ_get hkl, hgk, numVal_snoc]
    have hdig : ∀ j (hj : j < (l.drop (i + 2)).length), j < k + 1 → isDig 2 (l.drop (i + 2))[j] = true := fun j hj hjk => by
     by_cases e : j = k
     ·subst e; rw [hgk]; simp [isDig, hdg]
     ·exact hS.out.dig j hj (by omega)
    have hv := hS.out.val
    generalize dv c = d at *
    have hN : Hid (∀ (a' : Int) (big' : Bool), 0 ≤ a' → a' < 18446744073709551616 → ((big' = false ∧ a' = ((numVal 2 ((l.drop (i + 2)).take k) * 2 + d : Nat) : Int)) ∨ (big' = true ∧ 18446744073709551616 ≤ numVal 2 ((l.drop (i + 2)).take k) * 2 + d)) → NumSt l 2 (i + 2) (k + 1) a' big') := fun a' big' h1 h2 h3 => ⟨hdig, h1, h2, by rw [hval]; exact h3⟩
    have HP1 : Hid (p + 1 = (i + 2) + (k + 1)) := by have := HP.out; show _ = _; omega
    generalize numVal 2 ((l.drop (i + 2)).take k) = nv at *
    clear hcc hget hval hdig hgk hS hkl hrd HP
    by_cases hov : 18446744073709551616 ≤ a * 2 + (d : Int)
    ·have hov2 : (18446744073709551615 - (d : Int)) / 2 < a := by omega
     have hw0 : 0 ≤ IntKind.u64.wrap (IntKind.u64.wrap (a * 2) + (d : Int)) ∧ IntKind.u64.wrap (IntKind.u64.wrap (a * 2) + (d : Int)) < 18446744073709551616 := by rw [IntKind.wrap_u64, IntKind.wrap_u64]; omega
     have hnn : Hid (NumSt l 2 (i + 2) (k + 1) (IntKind.u64.wrap (IntKind.u64.wrap (a * 2) + (d : Int))) true) := hN.out _ _ hw0.1 hw0.2 (.inr ⟨rfl, by rcases hv with ⟨_, h⟩ | ⟨_, h⟩ <;> omega⟩)
     have hw1 : IntKind.u64.wrap (IntKind.u64.wrap (a * 2) + (d : Int)) = IntKind.u64.wrap (a * 2 + (d : Int)) := by rw [IntKind.wrap_u64, IntKind.wrap_u64, IntKind.wrap_u64]; omega
     have HW1 := Hd hw1
     clear hN hv hw0 hw1
     go_wp2_with (go_at_call 129; refine (HD.out _).mono ?_; rintro e w' ⟨rfl, rfl⟩)
     go_round
     case rel => exact ⟨p + 1, k + 1, _, true, by go_num, rfl, rfl, by omega, by omega, HP1, by first | exact hnn | (rw [← HW1.out]; exact hnn)⟩
     case measure => simp [intOf]; omega
    ·have hov2 : ¬ (18446744073709551615 - (d : Int)) / 2 < a := by omega
     have hnn : Hid (big = false → NumSt l 2 (i + 2) (k + 1) (a * 2 + (d : Int)) false) := fun hb => hN.out _ _ (by omega) (by omega) (.inl ⟨rfl, by rcases hv with ⟨_, h⟩ | ⟨h, _⟩; (· rw [h]; omega); (· rw [hb] at h; cases h)⟩)
     have hnt : Hid (big = true → NumSt l 2 (i + 2) (k + 1) (a * 2 + (d : Int)) true) := fun hb => hN.out _ _ (by omega) (by omega) (.inr ⟨rfl, by rcases hv with ⟨h, _⟩ | ⟨_, h⟩; (· rw [hb] at h; cases h); (· have h1 : nv * 1 ≤ nv * 2 := Nat.mul_le_mul_left _ (by omega); omega)⟩)
     have hnb : Hid (NumSt l 2 (i + 2) (k + 1) (a * 2 + (d : Int)) big) := by
      show NumSt _ _ _ _ _ _
      cases big
      ·exact hnn.out rfl
      ·exact hnt.out rfl
     clear hN hv hnn hnt
     go_wp2_with (go_at_call 129; refine (HD.out _).mono ?_; rintro e w' ⟨rfl, rfl⟩)
     go_round
     case rel => exact ⟨p + 1, k + 1, _, big, by go_num, rfl, rfl, by omega, by omega, HP1, hnb⟩
     case measure => simp [intOf]; omega
   ·have hrd : rd 2 c < 0 := by unfold rd; rw [if_neg hdg]; omega
    have HI := Hd fun W => rInside_any c W
    have hstop : Hid (∀ x, (l.drop (i + 2))[k]? = some x → isDig 2 x = false) := fun x hx => by
     rw [hget] at hx
     injection hx with hx
     rw [← hx]; simp [isDig]; omega
    have hkl : k ≤ (l.drop (i + 2)).length := by rw [List.length_drop]; have := HP.out; omega
    have hfin : Hid (∀ v, v = numRet i (numErrK l 2 (i + 2) k) (numVal 2 ((l.drop (i + 2)).take k)) ((i + 2) + k) → NumPost l 2 (i + 2) i (.returned v)) := fun v hv => ⟨k, hkl, hS.out.dig, hstop.out, by rw [hv]⟩
    have hke : Hid (numErrK l 2 (i + 2) k = if k = 0 ∨ inW c = true then 4 else if 18446744073709551616 ≤ numVal 2 ((l.drop (i + 2)).take k) then 5 else 0) := by
     show _ = _
     unfold numErrK
     congr 1
     apply propext
     constructor
     ·rintro (h | ⟨x, hx, hw⟩)
      ·exact .inl h
      ·rw [hget] at hx; injection hx with hx; rw [hx]; exact .inr hw
     ·rintro (h | h)
      ·exact .inl h
      ·exact .inr ⟨c, hget, h⟩
    clear hget hcc hkl hstop hdg
    by_cases hk0 : k = 0
    ·have hz : (((p : Nat) : Int) == (i : Int) + 2) = true := by rw [beq_iff_eq]; have := HP.out; omega
     have hE : Hid (numErrK l 2 (i + 2) k = 4) := by show _ = _; rw [hke.out, if_pos (.inl hk0)]
     clear hk0 hke HP hS
     go_wp2_with (first | (go_at_call 129; refine (HD.out _).mono ?_; rintro e w' ⟨rfl, rfl⟩) | (go_at_call 127; refine (HI.out _).mono ?_; rintro e w' ⟨rfl, rfl⟩))
     go_ret3
     exact ⟨hfin.out _ (by unfold numRet; rw [hE.out]; rfl), rfl⟩
    ·have hz : (((p : Nat) : Int) == (i : Int) + 2) = false := beq_eq_false_iff_ne.2 (by have := HP.out; omega)
     cases hiw : inW c with
     | true =>
      have hE : Hid (numErrK l 2 (i + 2) k = 4) := by show _ = _; rw [hke.out, if_pos (.inr hiw)]
      rw [hiw] at HI
      clear hk0 hke HP hS hiw
      go_wp2_with (first | (go_at_call 129; refine (HD.out _).mono ?_; rintro e w' ⟨rfl, rfl⟩) | (go_at_call 127; refine (HI.out _).mono ?_; rintro e w' ⟨rfl, rfl⟩))
      go_ret3
      exact ⟨hfin.out _ (by unfold numRet; rw [hE.out]; rfl), rfl⟩
     | false =>
      rw [hiw] at HI
      have hE : Hid (numErrK l 2 (i + 2) k = if 18446744073709551616 ≤ numVal 2 ((l.drop (i + 2)).take k) then 5 else 0) := by show _ = _; rw [hke.out, if_neg (by rintro (h | h); (· exact hk0 h); (· rw [hiw] at h; cases h))]
      rcases hS.out.val with ⟨rfl, hv⟩ | ⟨rfl, hv⟩
      ·have hE2 : Hid (numErrK l 2 (i + 2) k = 0) := by show _ = _; rw [hE.out, if_neg (by omega)]
       have HV := Hd hv
       have HPP := Hd HP.out
       clear hk0 hke HP hS hE hv hiw
       go_wp2_with (first | (go_at_call 129; refine (HD.out _).mono ?_; rintro e w' ⟨rfl, rfl⟩) | (go_at_call 127; refine (HI.out _).mono ?_; rintro e w' ⟨rfl, rfl⟩))
       go_ret3
       exact ⟨hfin.out _ (by unfold numRet; rw [hE2.out, if_pos rfl, if_pos rfl, ← HV.out, ← HPP.out]; rfl), rfl⟩
      ·have hE2 : Hid (numErrK l 2 (i + 2) k = 5) := by show _ = _; rw [hE.out, if_pos hv]
       clear hk0 hke HP hS hE hv hiw
       go_wp2_with (first | (go_at_call 129; refine (HD.out _).mono ?_; rintro e w' ⟨rfl, rfl⟩) | (go_at_call 127; refine (HI.out _).mono ?_; rintro e w' ⟨rfl, rfl⟩))
       go_ret3
       exact ⟨hfin.out _ (by unfold numRet; rw [hE2.out]; rfl), rfl⟩
  ·have hkl : k ≤ (l.drop (i + 2)).length := by rw [List.length_drop]; have := HP.out; omega
   have hno : (l.drop (i + 2))[k]? = none := by rw [drop_get, ← HP.out]; exact List.getElem?_eq_none (by omega)
   have hfin : Hid (∀ v, v = numRet i (numErrK l 2 (i + 2) k) (numVal 2 ((l.drop (i + 2)).take k)) ((i + 2) + k) → NumPost l 2 (i + 2) i (.returned v)) := fun v hv => ⟨k, hkl, hS.out.dig, (fun x hx => by rw [hno] at hx; cases hx), by rw [hv]⟩
   have hke : Hid (numErrK l 2 (i + 2) k = if k = 0 ∨ False then 4 else if 18446744073709551616 ≤ numVal 2 ((l.drop (i + 2)).take k) then 5 else 0) := by
    show _ = _
    unfold numErrK
    congr 1
    apply propext
    constructor
    ·rintro (h | ⟨x, hx, hw⟩)
     ·exact .inl h
     ·rw [hno] at hx; cases hx
    ·rintro (h | h)
     ·exact .inl h
     ·exact h.elim
   clear hno hkl
   by_cases hk0 : k = 0
   ·have hz : (((p : Nat) : Int) == (i : Int) + 2) = true := by rw [beq_iff_eq]; have := HP.out; omega
    have hE : Hid (numErrK l 2 (i + 2) k = 4) := by show _ = _; rw [hke.out, if_pos (.inl hk0)]
    clear hk0 hke HP hS
    go_wp2
    go_ret3
    exact ⟨hfin.out _ (by unfold numRet; rw [hE.out]; rfl), rfl⟩
   ·have hz : (((p : Nat) : Int) == (i : Int) + 2) = false := beq_eq_false_iff_ne.2 (by have := HP.out; omega)
    have hE : Hid (numErrK l 2 (i + 2) k = if 18446744073709551616 ≤ numVal 2 ((l.drop (i + 2)).take k) then 5 else 0) := by show _ = _; rw [hke.out, if_neg (by rintro (h | h); (· exact hk0 h); (· exact h))]
    rcases hS.out.val with ⟨rfl, hv⟩ | ⟨rfl, hv⟩
    ·have hE2 : Hid (numErrK l 2 (i + 2) k = 0) := by show _ = _; rw [hE.out, if_neg (by omega)]
     have HV := Hd hv
     have HPP := Hd HP.out
     clear hk0 hke HP hS hE hv
     go_wp2
     go_ret3
     exact ⟨hfin.out _ (by unfold numRet; rw [hE2.out, if_pos rfl, if_pos rfl, ← HV.out, ← HPP.out]; rfl), rfl⟩
    ·have hE2 : Hid (numErrK l 2 (i + 2) k = 5) := by show _ = _; rw [hE.out, if_pos hv]
     clear hk0 hke HP hS hE hv
     go_wp2
     go_ret3
     exact ⟨hfin.out _ (by unfold numRet; rw [hE2.out]; rfl), rfl⟩

set_option maxHeartbeats 2000000 in
set_option maxRecDepth 100000 in
theorem rNumber10_any (l : List UInt8) (i : Nat) (hl : l.length ≤ 1000000) (hi : i < l.length) (h0 : ¬ (l[i]? = some 48 ∧ (l[i + 1]? = some 120 ∨ l[i + 1]? = some 98))) (w : World) :
  Calls Tryz.prog 130 #[.string (str l), .int .i64 (i : Int)] w fun e w' => NumPost l 10 i i e ∧ w = w' := by
 have hsz : (str l).size = l.length := str_size l
 have HAT : Hid (∀ k (h : k < l.length), (str l)[k]'(by rw [hsz]; exact h) = l[k]) := fun k h => rfl
 have HLL : Hid ((l.drop i).length = l.length - i) := List.length_drop ..
 have HS0 : Hid (NumSt l 10 i 0 0 false) := ⟨fun j _ h => by omega, by omega, by omega, .inl ⟨rfl, rfl⟩⟩
 obtain ⟨c0, hc0⟩ : ∃ c0, c0 = l[i] := ⟨_, rfl⟩
 have hat0 : ∀ h : i < (str l).size, (str l)[i]'h = c0 := fun _ => hc0.symm
 obtain ⟨c1, hc1⟩ : ∃ c1, c1 = (l[i + 1]?).getD 0 := ⟨_, rfl⟩
 have hat1 : ∀ h : i + 1 < (str l).size, (str l)[i + 1]'h = c1 := fun h => by
  have h2 : i + 1 < l.length := by rw [← hsz]; exact h
  rw [HAT.out (i + 1) h2, hc1, List.getElem?_eq_getElem h2]; rfl
 have hcase : ((((c0.toNat : Nat) : Int) == 48) = false) ∨ ((((c0.toNat : Nat) : Int) == 48) = true ∧ (l.length ≤ i + 1 ∨ (i + 1 < l.length ∧ (((c1.toNat : Nat) : Int) == 120) = false ∧ (((c1.toNat : Nat) : Int) == 98) = false))) := by
  by_cases e0 : c0.toNat = 48
  ·right
   refine ⟨by rw [e0]; rfl, ?_⟩
   rcases Nat.lt_or_ge (i + 1) l.length with h2 | h2
   ·right
    have h3 : l[i]? = some 48 := by
     rw [List.getElem?_eq_getElem hi, ← hc0]
     congr 1
     exact UInt8.toNat_inj.1 e0
    have h4 : l[i + 1]? = some c1 := by rw [hc1, List.getElem?_eq_getElem h2]; rfl
    refine ⟨h2, beq_eq_false_iff_ne.2 fun h => ?_, beq_eq_false_iff_ne.2 fun h => ?_⟩
    ·exact h0 ⟨h3, .inl (by rw [h4]; congr 1; exact UInt8.toNat_inj.1 (by show c1.toNat = 120; omega))⟩
    ·exact h0 ⟨h3, .inr (by rw [h4]; congr 1; exact UInt8.toNat_inj.1 (by show c1.toNat = 98; omega))⟩
   ·exact .inl h2
  ·left
   exact beq_eq_false_iff_ne.2 (by omega)
 clear h0 hc0 hc1
 rcases hcase with hz | ⟨hz, hz2 | ⟨hz1, hz2, hz3⟩⟩
 all_goals
  go_enter Tryz.func130, Tryz.ntmps130
  go_wp2
  go_loop [8, 10, 11, 12] (fun vp n b _ => ∃ (p k : Nat) (a : Int) (big : Bool), vp = .int .i64 (p : Int) ∧ n = .int .u64 a ∧ b = .bool big ∧ p ≤ l.length ∧ i ≤ p ∧ Hid (p = i + k) ∧ Hid (NumSt l 10 i k a big)) (fun vp _ _ _ => l.length - (intOf vp).toNat)
  case atStart => exact ⟨i, 0, 0, false, by first | rfl | go_num, rfl, rfl, by omega, by omega, rfl, HS0⟩
  case round =>
   clear HS0
   obtain ⟨p, k, a, big, rfl, rfl, rfl, hpl, hpi, HP, hS⟩ := hrel
   have ha0 := hS.out.lo
   have ha1 := hS.out.hi
   by_cases hlt : p < l.length
   ·obtain ⟨c, hcc⟩ : ∃ c, c = l[p] := ⟨_, rfl⟩
    have hat : ∀ h : p < (str l).size, (str l)[p]'h = c := fun _ => hcc.symm
    have hget : (l.drop i)[k]? = some c := by rw [drop_get, ← HP.out, List.getElem?_eq_getElem hlt, hcc]
    have HD : Hid (∀ W, Calls Tryz.prog 129 #[.int .u8 (c.toNat : Int), .int .i64 10] W fun e w' => e = .returned (.int .i64 (rd 10 c)) ∧ W = w') := fun W => rDigit_any c 10 (by omega) W
    by_cases hdg : dv c < 10
    ·have hrd : rd 10 c = (dv c : Int) := by unfold rd; rw [if_pos hdg]
     rw [hrd] at HD
     have hkl : k < (l.drop i).length := (List.getElem?_eq_some_iff.1 hget).1
     have hgk : (l.drop i)[k] = c := (List.getElem?_eq_some_iff.1 hget).2
     have hval : numVal 10 ((l.drop i).take (k + 1)) = numVal 10 ((l.drop i).take k) * 10 + dv c := by rw [take_succ_get hkl, hgk, numVal_snoc]
     have hdig : ∀ j (hj : j < (l.drop i).length), j < k + 1 → isDig 10 (l.drop i)[j] = true := fun j hj hjk => by
      by_cases e : j = k
      ·subst e; rw [hgk]; simp [isDig, hdg]
      ·exact hS.out.dig j hj (by omega)
     have hv := hS.out.val
     generalize dv c = d at *
     have hN : Hid (∀ (a' : Int) (big' : Bool), 0 ≤ a' → a' < 18446744073709551616 → ((big' = false ∧ a' = ((numVal 10 ((l.drop i).take k) * 10 + d : Nat) : Int)) ∨ (big' = true ∧ 18446744073709551616 ≤ numVal 10 ((l.drop i).take k) * 10 + d)) → NumSt l 10 i (k + 1) a' big') := fun a' big' h1 h2 h3 => ⟨hdig, h1, h2, by rw [hval]; exact h3⟩
     have HP1 : Hid (p + 1 = i + (k + 1)) := by have := HP.out; show _ = _; omega
     generalize numVal 10 ((l.drop i).take k) = nv at *
     clear hcc hget hval hdig hgk hS hkl hrd HP
     by_cases hov : 18446744073709551616 ≤ a * 10 + (d : Int)
     ·have hov2 : (18446744073709551615 - (d : Int)) / 10 < a := by omega
      have hw0 : 0 ≤ IntKind.u64.wrap (IntKind.u64.wrap (a * 10) + (d : Int)) ∧ IntKind.u64.wrap (IntKind.u64.wrap (a * 10) + (d : Int)) < 18446744073709551616 := by rw [IntKind.wrap_u64, IntKind.wrap_u64]; omega
      have hnn : Hid (NumSt l 10 i (k + 1) (IntKind.u64.wrap (IntKind.u64.wrap (a * 10) + (d : Int))) true) := hN.out _ _ hw0.1 hw0.2 (.inr ⟨rfl, by rcases hv with ⟨_, h⟩ | ⟨_, h⟩ <;> omega⟩)
      have hw1 : IntKind.u64.wrap (IntKind.u64.wrap (a * 10) + (d : Int)) = IntKind.u64.wrap (a * 10 + (d : Int)) := by rw [IntKind.wrap_u64, IntKind.wrap_u64, IntKind.wrap_u64]; omega
      have HW1 := Hd hw1
      clear hN hv hw0 hw1
      go_wp2_with (go_at_call 129; refine (HD.out _).mono ?_; rintro e w' ⟨rfl, rfl⟩)
      go_round
      case rel => exact ⟨p + 1, k + 1, _, true, by go_num, rfl, rfl, by omega, by omega, HP1, by first | exact hnn | (rw [← HW1.out]; exact hnn)⟩
      case measure => simp [intOf]; omega
     ·have hov2 : ¬ (18446744073709551615 - (d : Int)) / 10 < a := by omega
      have hnn : Hid (big = false → NumSt l 10 i (k + 1) (a * 10 + (d : Int)) false) := fun hb => hN.out _ _ (by omega) (by omega) (.inl ⟨rfl, by rcases hv with ⟨_, h⟩ | ⟨h, _⟩; (· rw [h]; omega); (· rw [hb] at h; cases h)⟩)
      have hnt : Hid (big = true → NumSt l 10 i (k + 1) (a * 10 + (d : Int)) true) := fun hb => hN.out _ _ (by omega) (by omega) (.inr ⟨rfl, by rcases hv with ⟨h, _⟩ | ⟨_, h⟩; (· rw [hb] at h; cases h); (· have h1 : nv * 1 ≤ nv * 10 := Nat.mul_le_mul_left _ (by omega); omega)⟩)
      have hnb : Hid (NumSt l 10 i (k + 1) (a * 10 + (d : Int)) big) := by
       show NumSt _ _ _ _ _ _
       cases big
       ·exact hnn.out rfl
       ·exact hnt.out rfl
      clear hN hv hnn hnt
      go_wp2_with (go_at_call 129; refine (HD.out _).mono ?_; rintro e w' ⟨rfl, rfl⟩)
      go_round
      case rel => exact ⟨p + 1, k + 1, _, big, by go_num, rfl, rfl, by omega, by omega, HP1, hnb⟩
      case measure => simp [intOf]; omega
    ·have hrd : rd 10 c < 0 := by unfold rd; rw [if_neg hdg]; omega
     have HI := Hd fun W => rInside_any c W
     have hstop : Hid (∀ x, (l.drop i)[k]? = some x → isDig 10 x = false) := fun x hx => by
      rw [hget] at hx
      injection hx with hx
      rw [← hx]; simp [isDig]; omega
     have hkl : k ≤ (l.drop i).length := by rw [List.length_drop]; have := HP.out; omega
     have hfin : Hid (∀ v, v = numRet i (numErrK l 10 i k) (numVal 10 ((l.drop i).take k)) (i + k) → NumPost l 10 i i (.returned v)) := fun v hv => ⟨k, hkl, hS.out.dig, hstop.out, by rw [hv]⟩
     have hke : Hid (numErrK l 10 i k = if k = 0 ∨ inW c = true then 4 else if 18446744073709551616 ≤ numVal 10 ((l.drop i).take k) then 5 else 0) := by
      show _ = _
      unfold numErrK
      congr 1
      apply propext
      constructor
      ·rintro (h | ⟨x, hx, hw⟩)
       ·exact .inl h
       ·rw [hget] at hx; injection hx with hx; rw [hx]; exact .inr hw
      ·rintro (h | h)
       ·exact .inl h
       ·exact .inr ⟨c, hget, h⟩
     clear hget hcc hkl hstop hdg
     by_cases hk0 : k = 0
     ·have hz : (((p : Nat) : Int) == (i : Int)) = true := by rw [beq_iff_eq]; have := HP.out; omega
      have hE : Hid (numErrK l 10 i k = 4) := by show _ = _; rw [hke.out, if_pos (.inl hk0)]
      clear hk0 hke HP hS
      go_wp2_with (first | (go_at_call 129; refine (HD.out _).mono ?_; rintro e w' ⟨rfl, rfl⟩) | (go_at_call 127; refine (HI.out _).mono ?_; rintro e w' ⟨rfl, rfl⟩))
      go_ret3
      exact ⟨hfin.out _ (by unfold numRet; rw [hE.out]; rfl), rfl⟩
     ·have hz : (((p : Nat) : Int) == (i : Int)) = false := beq_eq_false_iff_ne.2 (by have := HP.out; omega)
      cases hiw : inW c with
      | true =>
       have hE : Hid (numErrK l 10 i k = 4) := by show _ = _; rw [hke.out, if_pos (.inr hiw)]
       rw [hiw] at HI
       clear hk0 hke HP hS hiw
       go_wp2_with (first | (go_at_call 129; refine (HD.out _).mono ?_; rintro e w' ⟨rfl, rfl⟩) | (go_at_call 127; refine (HI.out _).mono ?_; rintro e w' ⟨rfl, rfl⟩))
       go_ret3
       exact ⟨hfin.out _ (by unfold numRet; rw [hE.out]; rfl), rfl⟩
      | false =>
       rw [hiw] at HI
       have hE : Hid (numErrK l 10 i k = if 18446744073709551616 ≤ numVal 10 ((l.drop i).take k) then 5 else 0) := by show _ = _; rw [hke.out, if_neg (by rintro (h | h); (· exact hk0 h); (· rw [hiw] at h; cases h))]
       rcases hS.out.val with ⟨rfl, hv⟩ | ⟨rfl, hv⟩
       ·have hE2 : Hid (numErrK l 10 i k = 0) := by show _ = _; rw [hE.out, if_neg (by omega)]
        have HV := Hd hv
        have HPP := Hd HP.out
        clear hk0 hke HP hS hE hv hiw
        go_wp2_with (first | (go_at_call 129; refine (HD.out _).mono ?_; rintro e w' ⟨rfl, rfl⟩) | (go_at_call 127; refine (HI.out _).mono ?_; rintro e w' ⟨rfl, rfl⟩))
        go_ret3
        exact ⟨hfin.out _ (by unfold numRet; rw [hE2.out, if_pos rfl, if_pos rfl, ← HV.out, ← HPP.out]; rfl), rfl⟩
       ·have hE2 : Hid (numErrK l 10 i k = 5) := by show _ = _; rw [hE.out, if_pos hv]
        clear hk0 hke HP hS hE hv hiw
        go_wp2_with (first | (go_at_call 129; refine (HD.out _).mono ?_; rintro e w' ⟨rfl, rfl⟩) | (go_at_call 127; refine (HI.out _).mono ?_; rintro e w' ⟨rfl, rfl⟩))
        go_ret3
        exact ⟨hfin.out _ (by unfold numRet; rw [hE2.out]; rfl), rfl⟩
   ·have hkl : k ≤ (l.drop i).length := by rw [List.length_drop]; have := HP.out; omega
    have hno : (l.drop i)[k]? = none := by rw [drop_get, ← HP.out]; exact List.getElem?_eq_none (by omega)
    have hfin : Hid (∀ v, v = numRet i (numErrK l 10 i k) (numVal 10 ((l.drop i).take k)) (i + k) → NumPost l 10 i i (.returned v)) := fun v hv => ⟨k, hkl, hS.out.dig, (fun x hx => by rw [hno] at hx; cases hx), by rw [hv]⟩
    have hke : Hid (numErrK l 10 i k = if k = 0 ∨ False then 4 else if 18446744073709551616 ≤ numVal 10 ((l.drop i).take k) then 5 else 0) := by
     show _ = _
     unfold numErrK
     congr 1
     apply propext
     constructor
     ·rintro (h | ⟨x, hx, hw⟩)
      ·exact .inl h
      ·rw [hno] at hx; cases hx
     ·rintro (h | h)
      ·exact .inl h
      ·exact h.elim
    clear hno hkl
    by_cases hk0 : k = 0
    ·have hz : (((p : Nat) : Int) == (i : Int)) = true := by rw [beq_iff_eq]; have := HP.out; omega
     have hE : Hid (numErrK l 10 i k = 4) := by show _ = _; rw [hke.out, if_pos (.inl hk0)]
     clear hk0 hke HP hS
     go_wp2
     go_ret3
     exact ⟨hfin.out _ (by unfold numRet; rw [hE.out]; rfl), rfl⟩
    ·have hz : (((p : Nat) : Int) == (i : Int)) = false := beq_eq_false_iff_ne.2 (by have := HP.out; omega)
     have hE : Hid (numErrK l 10 i k = if 18446744073709551616 ≤ numVal 10 ((l.drop i).take k) then 5 else 0) := by show _ = _; rw [hke.out, if_neg (by rintro (h | h); (· exact hk0 h); (· exact h))]
     rcases hS.out.val with ⟨rfl, hv⟩ | ⟨rfl, hv⟩
     ·have hE2 : Hid (numErrK l 10 i k = 0) := by show _ = _; rw [hE.out, if_neg (by omega)]
      have HV := Hd hv
      have HPP := Hd HP.out
      clear hk0 hke HP hS hE hv
      go_wp2
      go_ret3
      exact ⟨hfin.out _ (by unfold numRet; rw [hE2.out, if_pos rfl, if_pos rfl, ← HV.out, ← HPP.out]; rfl), rfl⟩
     ·have hE2 : Hid (numErrK l 10 i k = 5) := by show _ = _; rw [hE.out, if_pos hv]
      clear hk0 hke HP hS hE hv
      go_wp2
      go_ret3
      exact ⟨hfin.out _ (by unfold numRet; rw [hE2.out]; rfl), rfl⟩

end Go.Proofs.YthdbaligapdbeaaGreatDoor
/- The reference's numbers: what it answers is what the mathematics says. -/
namespace Go.Proofs.YthdbaligapdbeaaGreatDoor
open Go Go.RowKit
set_option linter.unusedVariables false

theorem num_core {M : List UInt8} {base k : Nat} (hb : base ≤ 16) (hk : k ≤ M.length) (h : ∀ j (hj : j < M.length), j < k → isDig base M[j] = true) (hs : ∀ c, M[k]? = some c → isDig base c = false) :
  (if k = 0 ∨ (∃ c, M[k]? = some c ∧ inW c = true) then 4 else if 18446744073709551616 ≤ numVal base (M.take k) then 5 else 0) = (if run M = [] ∨ ¬ (run M).all (isDig base) = true then 4 else if 18446744073709551616 ≤ numVal base (run M) then 5 else 0) ∧
  ((if run M = [] ∨ ¬ (run M).all (isDig base) = true then 4 else if 18446744073709551616 ≤ numVal base (run M) then 5 else 0) = 0 → run M = M.take k ∧ (run M).length = k) := by
 by_cases hbad : k = 0 ∨ ∃ c, M[k]? = some c ∧ inW c = true
 ·have := num_bad hb hk h hs hbad
  rw [if_pos hbad, if_pos this]
  exact ⟨rfl, fun h => by cases h⟩
 ·have h0 : 0 < k := Nat.pos_of_ne_zero fun e => hbad (.inl e)
  have hw : ∀ c, M[k]? = some c → inW c = false := fun c hc => by
   cases e : inW c with
   | false => rfl
   | true => exact absurd (.inr ⟨c, hc, e⟩) hbad
  obtain ⟨e1, e2, e3⟩ := num_good hb hk h h0 hw
  have hn : ¬ (run M = [] ∨ ¬ (run M).all (isDig base) = true) := by
   rintro (h | h)
   ·exact e2 h
   ·exact h e3
  rw [if_neg hbad, if_neg hn, ← e1]
  refine ⟨rfl, fun _ => ⟨rfl, ?_⟩⟩
  rw [e1, List.length_take]
  omega
theorem numRet_eq {i e n next e' n' next' : Nat} (h1 : e = e') (h2 : e' = 0 → n = n' ∧ next = next') : numRet i e n next = numRet i e' n' next' := by
 subst h1
 unfold numRet
 by_cases h : e = 0
 ·obtain ⟨rfl, rfl⟩ := h2 h; rfl
 ·rw [if_neg h, if_neg h, if_neg h, if_neg h]
theorem dec_tok {L : List UInt8} {c : UInt8} (h : L.head? = some c) (hd : isDec c = true) : run L ≠ [] ∧ (run L).head?.any isDec = true := by
 cases L with
 | nil => cases h
 | cons a r =>
  have e : a = c := by simpa using h
  subst e
  have hw : inW a = true := by unfold inW; rw [hd]; simp
  have e : run (a :: r) = a :: run r := by unfold run; rw [List.takeWhile_cons, if_pos hw]
  rw [e]
  exact ⟨by simp, by simp [hd]⟩
theorem drop_two {l : List UInt8} {i : Nat} {a b : UInt8} (h0 : l[i]? = some a) (h1 : l[i + 1]? = some b) : l.drop i = a :: b :: l.drop (i + 2) := by
 rw [drop_cons h0, drop_cons h1]
theorem rNumber_any (l : List UInt8) (i : Nat) (hl : l.length ≤ 1000000) (c : UInt8) (hc : l[i]? = some c) (hd : isDec c = true) (w : World) :
  Calls Tryz.prog 130 #[.string (str l), .int .i64 (i : Int)] w fun e w' => e = .returned (numRet i (tokErr (l.drop i)) (tokNum (l.drop i)) (i + tokLen (l.drop i))) ∧ w = w' := by
 have hil : i < l.length := (List.getElem?_eq_some_iff.1 hc).1
 have hh : (l.drop i).head? = some c := by rw [List.head?_drop]; exact hc
 obtain ⟨hr, hh2⟩ := dec_tok hh hd
 obtain ⟨e1, e2, e3, e4⟩ := run_dec_first hr hh2
 have etl : tokLen (l.drop i) = (run (l.drop i)).length := by unfold tokLen; rw [if_neg hr]
 rw [e1, e4, etl]
 clear e1 e2 e3 e4 etl
 by_cases h2 : l[i]? = some 48 ∧ (l[i + 1]? = some 120 ∨ l[i + 1]? = some 98)
 ·obtain ⟨h48, hx | hx⟩ := h2
  ·refine (rNumber16_any l i hl (List.getElem?_eq_some_iff.1 hx).1 h48 hx w).mono fun e w' ⟨⟨k, hk, hdg, hs, he⟩, hw⟩ => ⟨?_, hw⟩
   obtain ⟨c1, c2⟩ := num_core (by omega) hk hdg hs
   have hrun : run (l.drop i) = 48 :: 120 :: run (l.drop (i + 2)) := by rw [drop_two h48 hx, run_drop2 (by decide) (by decide)]
   have hb : baseOf (run (l.drop i)) = 16 := by rw [hrun]; rfl
   have hdd : digs (run (l.drop i)) = run (l.drop (i + 2)) := by unfold digs; rw [hb, hrun]; rfl
   have hne : numErr (run (l.drop i)) = numErrK l 16 (i + 2) k := by unfold numErr numErrK; rw [hb, hdd, c1]
   rw [he, hb, hdd]
   congr 1
   refine numRet_eq hne.symm fun h0 => ?_
   have := c2 (by rw [← c1]; exact hne.symm.trans h0)
   refine ⟨by rw [this.1], ?_⟩
   rw [hrun, List.length_cons, List.length_cons, this.2]
   omega
  ·refine (rNumber2_any l i hl (List.getElem?_eq_some_iff.1 hx).1 h48 hx w).mono fun e w' ⟨⟨k, hk, hdg, hs, he⟩, hw⟩ => ⟨?_, hw⟩
   obtain ⟨c1, c2⟩ := num_core (by omega) hk hdg hs
   have hrun : run (l.drop i) = 48 :: 98 :: run (l.drop (i + 2)) := by rw [drop_two h48 hx, run_drop2 (by decide) (by decide)]
   have hb : baseOf (run (l.drop i)) = 2 := by rw [hrun]; rfl
   have hdd : digs (run (l.drop i)) = run (l.drop (i + 2)) := by unfold digs; rw [hb, hrun]; rfl
   have hne : numErr (run (l.drop i)) = numErrK l 2 (i + 2) k := by unfold numErr numErrK; rw [hb, hdd, c1]
   rw [he, hb, hdd]
   congr 1
   refine numRet_eq hne.symm fun h0 => ?_
   have := c2 (by rw [← c1]; exact hne.symm.trans h0)
   refine ⟨by rw [this.1], ?_⟩
   rw [hrun, List.length_cons, List.length_cons, this.2]
   omega
 ·refine (rNumber10_any l i hl hil h2 w).mono fun e w' ⟨⟨k, hk, hdg, hs, he⟩, hw⟩ => ⟨?_, hw⟩
  obtain ⟨c1, c2⟩ := num_core (by omega) hk hdg hs
  have hpre : ∀ b : UInt8, inW b = true → (b = 120 ∨ b = 98) → [48, b].isPrefixOf (run (l.drop i)) = false := fun b hb hbb => by
   cases hp : [48, b].isPrefixOf (run (l.drop i)) with
   | false => rfl
   | true =>
    exfalso
    apply h2
    obtain ⟨t, ht⟩ := List.isPrefixOf_iff_prefix.1 hp
    have hpl : (48 :: b :: t) <+: l.drop i := by
     have : run (l.drop i) <+: l.drop i := List.takeWhile_prefix _
     rw [← ht] at this
     exact this
    obtain ⟨u, hu⟩ := hpl
    have g0 : (l.drop i)[0]? = some 48 := by rw [← hu]; rfl
    have g1 : (l.drop i)[1]? = some b := by rw [← hu]; rfl
    rw [drop_get] at g0 g1
    refine ⟨by simpa using g0, ?_⟩
    rcases hbb with rfl | rfl
    ·exact .inl g1
    ·exact .inr g1
  have hb : baseOf (run (l.drop i)) = 10 := by
   unfold baseOf
   rw [hpre 120 (by decide) (.inl rfl), if_neg (by simp), hpre 98 (by decide) (.inr rfl), if_neg (by simp)]
  have hdd : digs (run (l.drop i)) = run (l.drop i) := by unfold digs; rw [if_pos hb]
  have hne : numErr (run (l.drop i)) = numErrK l 10 i k := by unfold numErr numErrK; rw [hb, hdd, c1]
  rw [he, hb, hdd]
  congr 1
  refine numRet_eq hne.symm fun h0 => ?_
  have := c2 (by rw [← c1]; exact hne.symm.trans h0)
  exact ⟨by rw [this.1], by rw [this.2]⟩
end Go.Proofs.YthdbaligapdbeaaGreatDoor
/- A word between blanks: its tokens. -/
namespace Go.Proofs.YthdbaligapdbeaaGreatDoor
open Go

theorem letter_facts (b : UInt8) (h : isLetter b = true) : isBlank b = false ∧ b ≠ 47 ∧ inW b = true ∧ isDec b = false := by
 have := all_u8 (fun b => !isLetter b || (!isBlank b && b != 47 && inW b && !isDec b)) (by decide +kernel) b
 rw [h] at this
 simpa [and_assoc] using this
end Go.Proofs.YthdbaligapdbeaaGreatDoor
