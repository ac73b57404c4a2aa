/- The reference's bytes: letters, digits, blanks; its blanks and comments: contracts. -/
import Derived.Test.YthdbaligapdbeaaGreatDoorMgLxKit
import Derived.Test.YthdbaligapdbeaaGreatDoorMgLxLex
namespace Go.Proofs.YthdbaligapdbeaaGreatDoor
open Go Go.RowKit
set_option linter.unusedVariables false

theorem ret_bool {a b : Bool} (h : a = b) : Ending.returned (.bool a) = .returned (.bool b) := by rw [h]

set_option maxRecDepth 100000 in
theorem rBlank_any (b : UInt8) (w : World) : Calls Tryz.prog 162 #[.int .u8 (b.toNat : Int)] w fun e w' => e = .returned (.bool (isBlank b)) ∧ w = w' := by
 obtain ⟨r, hr⟩ : ∃ r, r = isBlank b := ⟨_, rfl⟩
 have H := Hd hr
 rw [← hr]
 clear hr
 go_enter Tryz.func162, Tryz.ntmps162
 go_wp2
 all_goals
  go_ret
  refine ⟨ret_bool ?_, rfl⟩
  have h := H.out
  clear H
  subst h
  unfold isBlank
  rw [Bool.eq_iff_iff]
  simp
  try omega

set_option maxRecDepth 100000 in
theorem rLetter_any (b : UInt8) (w : World) : Calls Tryz.prog 126 #[.int .u8 (b.toNat : Int)] w fun e w' => e = .returned (.bool (isLetter b)) ∧ w = w' := by
 obtain ⟨r, hr⟩ : ∃ r, r = isLetter b := ⟨_, rfl⟩
 have H := Hd hr
 rw [← hr]
 clear hr
 go_enter Tryz.func126, Tryz.ntmps126
 go_wp2
 all_goals
  go_ret
  refine ⟨ret_bool ?_, rfl⟩
  have h := H.out
  clear H
  subst h
  unfold isLetter
  rw [Bool.eq_iff_iff]
  simp
  try omega

def rd (base : Nat) (b : UInt8) : Int := if dv b < base then (dv b : Int) else -1
set_option maxHeartbeats 1000000 in
set_option maxRecDepth 100000 in
theorem rDigit_any (b : UInt8) (base : Nat) (hb : 1 ≤ base ∧ base ≤ 16) (w : World) : Calls Tryz.prog 129 #[.int .u8 (b.toNat : Int), .int .i64 (base : Int)] w fun e w' => e = .returned (.int .i64 (rd base b)) ∧ w = w' := by
 obtain ⟨r, hr⟩ : ∃ r, r = rd base b := ⟨_, rfl⟩
 have H := Hd hr
 rw [← hr]
 clear hr
 have h256 := b.toNat_lt
 by_cases h1 : 48 ≤ b.toNat ∧ b.toNat ≤ 57
 all_goals by_cases h2 : 97 ≤ b.toNat ∧ b.toNat ≤ 102
 all_goals by_cases h3 : 65 ≤ b.toNat ∧ b.toNat ≤ 70
 all_goals try omega
 all_goals
  have hdv : Hid (dv b = if 48 ≤ b.toNat ∧ b.toNat ≤ 57 then b.toNat - 48 else if 97 ≤ b.toNat ∧ b.toNat ≤ 102 then b.toNat - 87 else if 65 ≤ b.toNat ∧ b.toNat ≤ 70 then b.toNat - 55 else 99) := rfl
  go_enter Tryz.func129, Tryz.ntmps129
  go_wp2
  all_goals
   go_ret
   refine ⟨ret_int ?_, rfl⟩
   have h := H.out
   have hd := hdv.out
   clear H hdv
   subst h
   unfold rd
   first | rw [if_pos h1] at hd | rw [if_neg h1, if_pos h2] at hd | rw [if_neg h1, if_neg h2, if_pos h3] at hd | rw [if_neg h1, if_neg h2, if_neg h3] at hd
   first | rw [if_pos (by omega)] | rw [if_neg (by omega)]
   try omega
end Go.Proofs.YthdbaligapdbeaaGreatDoor
/- The reference's blanks and comments, lists of words, names of types: contracts. -/
namespace Go.Proofs.YthdbaligapdbeaaGreatDoor
open Go Go.RowKit
set_option linter.unusedVariables false

theorem rInside_any (b : UInt8) (w : World) : Calls Tryz.prog 127 #[.int .u8 (b.toNat : Int)] w fun e w' => e = .returned (.bool (inW b)) ∧ w = w' := by
  have HL := Hd fun W => rLetter_any b W
  have HD := Hd fun W => rDigit_any b 10 (by omega) W
  have hrd : rd 10 b = if isDec b = true then (dv b : Int) else -1 := by
    unfold rd
    rw [isDec_dig]
    by_cases h : dv b < 10
    · rw [if_pos h, if_pos (by simp [isDig, h])]
    · rw [if_neg h, if_neg (by simp [isDig, h])]
  unfold inW
  generalize isLetter b = a at *
  generalize isDec b = d at *
  cases a
  all_goals cases d
  all_goals first
   | skip
  all_goals
    rw [hrd] at HD
    clear hrd
    go_enter Tryz.func127, Tryz.ntmps127
    go_wp2_with (first | (go_at_call 126; refine (HL.out _).mono ?_; rintro e w' ⟨rfl, rfl⟩) | (go_at_call 129; refine (HD.out _).mono ?_; rintro e w' ⟨rfl, rfl⟩))
    go_ret
    exact ⟨by simp, rfl⟩

set_option maxHeartbeats 1000000 in
set_option maxRecDepth 100000 in
theorem rSkip_any (l : List UInt8) (i0 : Nat) (w : World) (hs : l.length ≤ maxLen) (hi0 : i0 ≤ l.length) :
    Calls Tryz.prog 125 #[.string (str l), .int .i64 (i0 : Int)] w fun e w' => e = .returned (.int .i64 ((i0 + skipM false (l.drop i0) : Nat) : Int)) ∧ w = w' := by
  unfold maxLen at hs
  have hsz : (str l).size = l.length := str_size l
  obtain ⟨r, hr⟩ : ∃ r, r = i0 + skipM false (l.drop i0) := ⟨_, rfl⟩
  have R := Hd hr
  rw [← hr]
  clear hr
  have HAT : Hid (∀ k (h : k < l.length), (str l)[k]'(by rw [hsz]; exact h) = l[k]) := fun k h => rfl
  go_enter Tryz.func125, Tryz.ntmps125
  go_wp2
  go_loop [1] (fun i => ∃ k : Nat, k ≤ l.length ∧ i = .int .i64 (k : Int) ∧ Hid (r = k + skipM false (l.drop k))) (fun i => l.length - (intOf i).toNat)
  case atStart => exact ⟨i0, hi0, rfl, R⟩
  case round =>
    obtain ⟨k, hk, rfl, hR⟩ := hrel
    by_cases hlt : k < l.length
    · obtain ⟨c, hcc⟩ : ∃ c, c = l[k] := ⟨_, rfl⟩
      have hb : l[k]? = some c := by rw [hcc]; exact List.getElem?_eq_getElem hlt
      have hat : ∀ h : k < (str l).size, (str l)[k]'h = c := fun _ => (HAT.out k hlt).trans hcc.symm
      obtain ⟨c1, hc1⟩ : ∃ c1, c1 = (l[k + 1]?).getD 0 := ⟨_, rfl⟩
      have hat1 : ∀ h : k + 1 < (str l).size, (str l)[k + 1]'h = c1 := fun h => by
        have h2 : k + 1 < l.length := by rw [← hsz]; exact h
        rw [HAT.out (k + 1) h2, hc1, List.getElem?_eq_getElem h2]; rfl
      have hhd : (l.drop (k + 1)).head? = l[k + 1]? := by rw [List.head?_drop]
      clear hcc
      have HB := Hd fun W => rBlank_any c W
      rcases hbl : isBlank c with _ | _
      · rw [hbl] at HB
        have hnext : Hid (l[k + 1]? = none ↔ l.length ≤ k + 1) := List.getElem?_eq_none_iff
        by_cases hc : c = 47 ∧ l[k + 1]? = some 47
        · have hR2 := Hd (hR.out.trans (by rw [skip_comment hb hbl (by rw [hhd]; exact hc)]))
          have h1 : ((c.toNat : Nat) : Int) = 47 := by rw [hc.1]; rfl
          rw [h1] at HB
          have hk1 : k + 1 < l.length := (List.getElem?_eq_some_iff.1 hc.2).1
          have h2 : ((c1.toNat : Nat) : Int) = 47 := by rw [hc1, hc.2]; rfl
          have HK : Hid (∀ j, l[j]? = some 10 → j ≠ k) := fun j h e => by
            subst e
            rw [hb, hc.1] at h
            exact absurd h (by decide)
          clear hb hbl hc hR hhd hnext hc1
          go_wp2_with (go_at_call 162; refine (HB.out _).mono ?_; rintro e w' ⟨rfl, rfl⟩)
          clear h1 h2 hat hat1 HB
          go_loop [1] (fun i => ∃ j : Nat, k ≤ j ∧ j ≤ l.length ∧ i = .int .i64 (j : Int) ∧ Hid (r = j + skipM true (l.drop j))) (fun i => l.length - (intOf i).toNat)
          case atStart => exact ⟨k, by omega, hk, rfl, hR2⟩
          case round =>
            clear hR2
            obtain ⟨j, hj0, hj, rfl, hR⟩ := hrel
            by_cases hjl : j < l.length
            · obtain ⟨d, hdd⟩ : ∃ d, d = l[j] := ⟨_, rfl⟩
              have hb : l[j]? = some d := by rw [hdd]; exact List.getElem?_eq_getElem hjl
              have hat : ∀ h : j < (str l).size, (str l)[j]'h = d := fun _ => (HAT.out j hjl).trans hdd.symm
              clear hdd
              by_cases hlf : d.toNat = 10
              · have hR2 := Hd (hR.out.trans (by rw [skip_true_lf hb hlf]))
                have hne : ((d.toNat : Nat) : Int) = 10 := by omega
                have hjk := HK.out j (by rw [hb]; congr 1; exact UInt8.toNat_inj.1 hlf)
                clear hb hR hlf
                go_wp2
                go_round
                case rel => exact ⟨j, by omega, by go_num, hR2⟩
                case measure => simp [intOf]; omega
              · have hR2 := Hd (hR.out.trans (skip_true_step hb hlf))
                have hne : ¬ ((d.toNat : Nat) : Int) = 10 := by omega
                clear hb hR hlf
                go_wp2
                go_round
                case rel => exact ⟨j + 1, by omega, by omega, by go_num, hR2⟩
                case measure => simp [intOf]; omega
            · have hR2 := Hd (hR.out.trans (by rw [skip_nil (l := l) true (by omega), ← skip_nil (l := l) (i := j) false (by omega)]))
              clear hR
              go_wp2
              go_round
              case rel => exact ⟨j, by omega, by go_num, hR2⟩
              case measure => simp [intOf]; omega
        · have hR2 := Hd (hR.out.trans (by rw [skip_stop hb hbl (by rw [hhd]; exact hc)]))
          by_cases h47 : c = 47
          · have h1 : ((c.toNat : Nat) : Int) = 47 := by rw [h47]; rfl
            rw [h1] at HB
            by_cases hk1 : k + 1 < l.length
            · have h2 : ¬ ((c1.toNat : Nat) : Int) = 47 := fun h => hc ⟨h47, by
                rw [List.getElem?_eq_getElem hk1] at hc1 ⊢
                have h3 : c1.toNat = 47 := by omega
                have h4 : c1 = 47 := UInt8.toNat_inj.1 h3
                rw [← h4, hc1]; rfl⟩
              have h3 : (((c1.toNat : Nat) : Int) != 47) = true := by simp; omega
              clear hb hbl hc hR hhd hnext hc1 h47
              go_wp2_with (go_at_call 162; refine (HB.out _).mono ?_; rintro e w' ⟨rfl, rfl⟩)
              go_ret
              exact ⟨ret_int (by rw [hR2.out]; rfl), rfl⟩
            · clear hb hbl hc hR hhd hnext hc1 h47 hat1
              go_wp2_with (go_at_call 162; refine (HB.out _).mono ?_; rintro e w' ⟨rfl, rfl⟩)
              go_ret
              exact ⟨ret_int (by rw [hR2.out]; rfl), rfl⟩
          · have h1 : ¬ ((c.toNat : Nat) : Int) = 47 := fun h => h47 (UInt8.toNat_inj.1 (by show c.toNat = 47; omega))
            clear hb hbl hc hR hhd hnext hc1 h47 hat1
            go_wp2_with (go_at_call 162; refine (HB.out _).mono ?_; rintro e w' ⟨rfl, rfl⟩)
            go_ret
            exact ⟨ret_int (by rw [hR2.out]; rfl), rfl⟩
      · rw [hbl] at HB
        have hR2 := Hd (hR.out.trans (skip_blank hb hbl))
        clear hb hbl hR hhd hat1 hc1
        go_wp2_with (go_at_call 162; refine (HB.out _).mono ?_; rintro e w' ⟨rfl, rfl⟩)
        go_round
        case rel => exact ⟨k + 1, by omega, by go_num, hR2⟩
        case measure => simp [intOf]; omega
    · have hR2 := Hd (hR.out.trans (by rw [skip_nil (l := l) _ (by omega)]))
      clear hR
      go_wp2
      go_ret
      exact ⟨ret_int (by rw [hR2.out]; rfl), rfl⟩
end Go.Proofs.YthdbaligapdbeaaGreatDoor
