/- The reference's bytes: letters, digits, blanks; its blanks and comments: contracts. -/
import Derived.Test.YtgglmcjclbaceaaDoorLxKit
namespace Go.Proofs.YtgglmcjclbaceaaDoor
open Go Go.RowKit
set_option linter.unusedVariables false

theorem ret_bool {a b : Bool} (h : a = b) : Ending.returned (.bool a) = .returned (.bool b) := by rw [h]

set_option maxRecDepth 100000 in
theorem rBlank_any (b : UInt8) (w : World) : Calls Tryd.prog 37 #[.int .u8 (b.toNat : Int)] w fun e w' => e = .returned (.bool (isBlank b)) ∧ w = w' := by
  obtain ⟨r, hr⟩ : ∃ r, r = isBlank b := ⟨_, rfl⟩
  have H := Lib.hid hr
  rw [← hr]
  clear hr
  go_enter Tryd.func37, Tryd.ntmps37
  go_wp2
  all_goals
    go_ret
    refine ⟨ret_bool ?_, rfl⟩
    have h := H.out
    clear H
    subst h
    unfold isBlank
    rw [Bool.eq_iff_iff]
    simp
    try omega

set_option maxRecDepth 100000 in
theorem rLetter_any (b : UInt8) (w : World) : Calls Tryd.prog 25 #[.int .u8 (b.toNat : Int)] w fun e w' => e = .returned (.bool (isLetter b)) ∧ w = w' := by
  obtain ⟨r, hr⟩ : ∃ r, r = isLetter b := ⟨_, rfl⟩
  have H := Lib.hid hr
  rw [← hr]
  clear hr
  go_enter Tryd.func25, Tryd.ntmps25
  go_wp2
  all_goals
    go_ret
    refine ⟨ret_bool ?_, rfl⟩
    have h := H.out
    clear H
    subst h
    unfold isLetter
    rw [Bool.eq_iff_iff]
    simp
    try omega

/-- A digit's value, as an integer. -/
def rd (base : Nat) (b : UInt8) : Int := if dv b < base then (dv b : Int) else -1
set_option maxHeartbeats 1000000 in
set_option maxRecDepth 100000 in
theorem rDigit_any (b : UInt8) (base : Nat) (hb : 1 ≤ base ∧ base ≤ 16) (w : World) : Calls Tryd.prog 26 #[.int .u8 (b.toNat : Int), .int .i64 (base : Int)] w fun e w' => e = .returned (.int .i64 (rd base b)) ∧ w = w' := by
  obtain ⟨r, hr⟩ : ∃ r, r = rd base b := ⟨_, rfl⟩
  have H := Lib.hid hr
  rw [← hr]
  clear hr
  have h256 := b.toNat_lt
  by_cases h1 : 48 ≤ b.toNat ∧ b.toNat ≤ 57
  all_goals by_cases h2 : 97 ≤ b.toNat ∧ b.toNat ≤ 102
  all_goals by_cases h3 : 65 ≤ b.toNat ∧ b.toNat ≤ 70
  all_goals try omega
  all_goals
    have hdv : Hid (dv b = if 48 ≤ b.toNat ∧ b.toNat ≤ 57 then b.toNat - 48 else if 97 ≤ b.toNat ∧ b.toNat ≤ 102 then b.toNat - 87 else if 65 ≤ b.toNat ∧ b.toNat ≤ 70 then b.toNat - 55 else 99) := rfl
    go_enter Tryd.func26, Tryd.ntmps26
    go_wp2
    all_goals
      go_ret
      refine ⟨ret_int ?_, rfl⟩
      have h := H.out
      have hd := hdv.out
      clear H hdv
      subst h
      unfold rd
      first | rw [if_pos h1] at hd | rw [if_neg h1, if_pos h2] at hd | rw [if_neg h1, if_neg h2, if_pos h3] at hd | rw [if_neg h1, if_neg h2, if_neg h3] at hd
      first | rw [if_pos (by omega)] | rw [if_neg (by omega)]
      try omega
end Go.Proofs.YtgglmcjclbaceaaDoor
