/- The names of types and the keywords: mathematics, and contracts of the code. -/
import Derived.Test.YthdbaligapdbeaaGreatDoorMgLxKit
import Derived.Lib.SmallJoins
namespace Go.Proofs.YthdbaligapdbeaaGreatDoor
open Go Go.RowKit
set_option linter.unusedVariables false

theorem atoi_dec2' : ∀ w : Fin 65, 1 ≤ w.val → Lib.atoiAll (dec2 w.val) = .ok (w.val : Int) := by decide +kernel
theorem atoi_dec2 {w : Nat} (h : 1 ≤ w ∧ w ≤ 64) : Lib.atoiAll (dec2 w) = .ok (w : Int) := atoi_dec2' ⟨w, by omega⟩ h.1
theorem nameOf_inj' : ∀ w : Fin 65, ∀ v : Fin 65, ∀ a b : Bool, nameOf w.val a = nameOf v.val b → 1 ≤ w.val → 1 ≤ v.val → w = v ∧ a = b := by decide +kernel
theorem nameOf_inj {w v : Nat} {a b : Bool} (hw : 1 ≤ w ∧ w ≤ 64) (hv : 1 ≤ v ∧ v ≤ 64) (h : nameOf w a = nameOf v b) : w = v ∧ a = b := by
 have := nameOf_inj' ⟨w, by omega⟩ ⟨v, by omega⟩ a b h hw.1 hv.1
 exact ⟨by simpa using this.1, this.2⟩
theorem nameOf_bool {w : Nat} {a : Bool} : nameOf w a ≠ boolName := by
 intro h
 have h1 := congrArg List.head? h
 cases a <;> simp [nameOf, boolName] at h1
theorem cands_mem {w : Nat} {a : Bool} : (w, a) ∈ cands ↔ 1 ≤ w ∧ w ≤ 64 := by
 unfold cands
 rw [List.mem_flatMap]
 constructor
 ·rintro ⟨i, hi, h⟩
  have := List.mem_range.1 hi
  simp only [List.mem_cons, Prod.mk.injEq, List.not_mem_nil, or_false] at h
  rcases h with h | h <;> omega
 ·intro h
  refine ⟨w - 1, List.mem_range.2 (by omega), ?_⟩
  have : w - 1 + 1 = w := by omega
  rw [this]
  cases a <;> simp
theorem typeOf_name {w : Nat} {a : Bool} (h : 1 ≤ w ∧ w ≤ 64) : typeOf (nameOf w a) = (w, a) := by
 unfold typeOf
 rw [if_neg nameOf_bool]
 cases hf : cands.find? fun c => nameOf c.1 c.2 == nameOf w a with
 | none =>
  have := List.find?_eq_none.1 hf (w, a) (cands_mem.2 h)
  simp at this
 | some c =>
  have h1 := List.find?_some hf
  have h2 := List.mem_of_find?_eq_some hf
  have h3 : nameOf c.1 c.2 = nameOf w a := by simpa using h1
  have h4 := nameOf_inj (cands_mem.1 (show (c.1, c.2) ∈ cands from h2)) h h3
  show c = (w, a)
  exact Prod.ext h4.1 h4.2
theorem typeOf_cases (l : List UInt8) : typeOf l = (0, false) ∨ (l = boolName ∧ typeOf l = (1, false)) ∨ ∃ w a, (1 ≤ w ∧ w ≤ 64) ∧ l = nameOf w a ∧ typeOf l = (w, a) := by
 by_cases hb : l = boolName
 ·exact .inr (.inl ⟨hb, by unfold typeOf; rw [if_pos hb]⟩)
 ·cases hf : cands.find? fun c => nameOf c.1 c.2 == l with
  | none => exact .inl (by unfold typeOf; rw [if_neg hb, hf]; rfl)
  | some c =>
   have h1 := List.find?_some hf
   have h2 := List.mem_of_find?_eq_some hf
   have h3 : nameOf c.1 c.2 = l := by simpa using h1
   exact .inr (.inr ⟨c.1, c.2, cands_mem.1 (show (c.1, c.2) ∈ cands from h2), h3.symm, by unfold typeOf; rw [if_neg hb, hf]; rfl⟩)
theorem typeOf_le (l : List UInt8) : (typeOf l).1 ≤ 64 := by
 rcases typeOf_cases l with h | ⟨_, h⟩ | ⟨w, a, hw, _, h⟩ <;> rw [h] <;> simp <;> omega

def tn (W : Int) (sg : Bool) : ByteArray := if 1 ≤ W ∧ W ≤ 64 then str (nameOf W.toNat sg) else ⟨#[]⟩
theorem tn_no {W : Int} {sg : Bool} (h : ¬ (1 ≤ W ∧ W ≤ 64)) : tn W sg = ⟨#[]⟩ := if_neg h
theorem tn_yes {W : Nat} {sg : Bool} (h : 1 ≤ W ∧ W ≤ 64) : tn (W : Int) sg = str (nameOf W sg) := by
 unfold tn
 rw [if_pos (by omega)]
 rfl
theorem tn_u {W : Nat} (h : 1 ≤ W ∧ W ≤ 64) : (⟨#[117]⟩ : ByteArray) ++ str (dec2 W) = tn (W : Int) false := by
 rw [tn_yes h]
 refine bytes_ext ?_
 simp [str, nameOf]
theorem tn_s {W : Nat} (h : 1 ≤ W ∧ W ≤ 64) : (⟨#[115]⟩ : ByteArray) ++ str (dec2 W) = tn (W : Int) true := by
 rw [tn_yes h]
 refine bytes_ext ?_
 simp [str, nameOf]
theorem itoa_any (i : Nat) (h : i < 100) (w : World) : Calls Tryz.prog 161 #[.int .i64 (i : Int)] w fun e w' => e = .returned (.string (str (dec2 i))) ∧ w = w' :=
 (Tryz.strconv_Itoa_small i h w).mono fun e w' ⟨he, hw⟩ => ⟨by rw [he, dec2_eq h]; rfl, hw.symm⟩
theorem dec2_len (i : Nat) : (str (dec2 i)).size ≤ 2 := by
 rw [str_size]
 unfold dec2
 split <;> simp

set_option maxHeartbeats 1000000 in
set_option maxRecDepth 100000 in
theorem typeName_any (W : Int) (sg : Bool) (w : World) : Calls Tryz.prog 121 #[.agg #[.int .i64 W, .bool sg]] w fun e w' => e = .returned (.string (tn W sg)) ∧ Below w.heap.size w w' := by
 have hb := (Below.refl w.heap.size w).alloc (Nat.le_refl _) (.cells #[.int .i64 W, .bool sg] 24)
 by_cases h : 1 ≤ W ∧ W ≤ 64
 ·obtain ⟨n, rfl⟩ : ∃ n : Nat, W = (n : Int) := ⟨W.toNat, by omega⟩
  have hn : 1 ≤ n ∧ n ≤ 64 := by omega
  have hu := Hd (tn_u hn)
  have hs := Hd (tn_s hn)
  have h1 := hn.1
  have h2 := hn.2
  have hl := dec2_len n
  clear h hn
  cases sg
  all_goals
   go_enter Tryz.func121, Tryz.ntmps121
   go_wp2_with (go_at_call 161; refine (itoa_any _ (by omega) _).mono ?_; rintro e w' ⟨rfl, rfl⟩)
   all_goals trace_state
   go_ret
  ·exact ⟨ret_s hu.out, hb⟩
  ·exact ⟨ret_s hs.out, hb⟩
 ·have he := Hd (tn_no (sg := sg) h)
  by_cases h1 : 1 ≤ W
  all_goals
   go_enter Tryz.func121, Tryz.ntmps121
   go_wp2
   go_ret
   exact ⟨ret_s he.out.symm, hb⟩
end Go.Proofs.YthdbaligapdbeaaGreatDoor
