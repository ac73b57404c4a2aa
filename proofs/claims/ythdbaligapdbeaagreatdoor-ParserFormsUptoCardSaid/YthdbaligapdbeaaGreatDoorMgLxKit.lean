/- The lexer's small functions: contracts of the longest beginning out of a set, and of the blanks and comments. -/
import Derived.Test.YthdbaligapdbeaaGreatDoorMgSliceKit
import Derived.Test.YthdbaligapdbeaaGreatDoorMgLawKit
import Derived.Test.YthdbaligapdbeaaGreatDoorMgShelfF
import Derived.Shelf.Strings.SlTrimAscii
import Derived.WalkSpells
import Derived.Deep.LoopGhost
import Derived.Laws.StructEq
namespace Go.Proofs.YthdbaligapdbeaaGreatDoor
open Go Go.RowKit
set_option linter.unusedVariables false

set_option maxRecDepth 100000 in
theorem trimLeft_any (s set : ByteArray) (w : World) (hcs : set.size < 4294967281) (hascii : ∀ (j : Nat) b, set.data.toList[j]? = some b → b.toNat < 128) :
  Calls Tryz.prog 149 #[.string s, .string set] w fun e w' => ∃ t : ByteArray, e = .returned (.string t) ∧ t.size + (s.data.toList.takeWhile (set.data.toList.contains ·)).length = s.size ∧ Below w.heap.size w w' :=
 (Any.strings_TrimLeft_laid Tryz.lays161 (by kernel_rfl) s set w hcs hascii).mono fun e w' ⟨he, hb⟩ => ⟨_, he, by
  rw [Lib.size_eq, Lib.size_eq]
  exact takeWhile_len _ _, hb⟩

set_option maxRecDepth 100000 in
theorem leading_any (s set : ByteArray) (w : World) (hs : s.size ≤ maxLen) (hcs : set.size < 4294967281) (hascii : ∀ (j : Nat) b, set.data.toList[j]? = some b → b.toNat < 128) :
  Calls Tryz.prog 108 #[.string s, .string set] w fun e w' => e = .returned (.string (str (s.data.toList.takeWhile (set.data.toList.contains ·)))) ∧ Below w.heap.size w w' := by
 have H := Hd fun W => trimLeft_any s set W hcs hascii
 clear hascii
 have E := Hd (extract_head s (s.data.toList.takeWhile (set.data.toList.contains ·)).length)
 rw [take_takeWhile] at E
 generalize s.data.toList.takeWhile (set.data.toList.contains ·) = T at *
 unfold maxLen at hs
 go_enter Tryz.func108, Tryz.ntmps108
 go_wp2_with fail
 refine (H.out _).mono ?_
 rintro e w1 ⟨t, rfl, ht, hb⟩
 have hle : 0 ≤ (s.size : Int) - (t.size : Int) ∧ (s.size : Int) - (t.size : Int) ≤ (s.size : Int) := by omega
 have hn : ((s.size : Int) - (t.size : Int)).toNat = T.length := by omega
 go_wp2
 go_ret
 exact ⟨ret_s E.out, hb⟩

theorem skip_true_lf {l : List UInt8} {i : Nat} {c : UInt8} (h : l[i]? = some c) (hc : c.toNat = 10) : skipM true (l.drop i) = skipM false (l.drop i) := by
 have e : l.drop i = c :: l.drop (i + 1) := by
  obtain ⟨hi, hv⟩ := List.getElem?_eq_some_iff.1 h
  rw [List.drop_eq_getElem_cons hi, hv]
 rw [e]
 simp only [skipM]
 have hb : isBlank c = true := by simp [isBlank, hc]
 rw [if_pos hb]
 simp [hc]
theorem drop_cons {l : List UInt8} {i : Nat} {c : UInt8} (h : l[i]? = some c) : l.drop i = c :: l.drop (i + 1) := by
 obtain ⟨hi, hv⟩ := List.getElem?_eq_some_iff.1 h
 rw [List.drop_eq_getElem_cons hi, hv]
theorem skip_true_step {l : List UInt8} {i : Nat} {c : UInt8} (h : l[i]? = some c) (hc : c.toNat ≠ 10) : i + skipM true (l.drop i) = i + 1 + skipM true (l.drop (i + 1)) := by
 rw [drop_cons h]
 simp only [skipM]
 rw [decide_eq_true hc]
 omega
theorem skip_blank {l : List UInt8} {i : Nat} {c : UInt8} (h : l[i]? = some c) (hc : isBlank c = true) : i + skipM false (l.drop i) = i + 1 + skipM false (l.drop (i + 1)) := by
 rw [drop_cons h]
 simp only [skipM]
 rw [if_pos hc]
 omega
theorem slashes {l : List UInt8} {i : Nat} {c : UInt8} (h : l[i]? = some c) : Lib.hasPrefix (l.drop i) [47, 47] = true ↔ c = 47 ∧ (l.drop (i + 1)).head? = some 47 := by
 rw [drop_cons h]
 unfold Lib.hasPrefix
 cases h2 : l.drop (i + 1) with
 | nil =>
  constructor
  ·intro h; simp only [List.isPrefixOf, Bool.and_false] at h; cases h
  ·intro h; cases h.2
 | cons d r =>
  simp only [List.isPrefixOf, Bool.and_true, Bool.and_eq_true, beq_iff_eq, List.head?_cons, Option.some.injEq]
  constructor
  ·intro h; exact ⟨h.1.symm, h.2.symm⟩
  ·intro h; exact ⟨h.1.symm, h.2.symm⟩
theorem skip_comment {l : List UInt8} {i : Nat} {c : UInt8} (h : l[i]? = some c) (hb : isBlank c = false) (hc : c = 47 ∧ (l.drop (i + 1)).head? = some 47) : skipM false (l.drop i) = skipM true (l.drop i) := by
 rw [drop_cons h]
 simp only [skipM]
 rw [hb, if_neg (by simp), if_pos hc]
 have : decide (c.toNat ≠ 10) = true := by rw [hc.1]; rfl
 rw [this]
theorem skip_stop {l : List UInt8} {i : Nat} {c : UInt8} (h : l[i]? = some c) (hb : isBlank c = false) (hc : ¬ (c = 47 ∧ (l.drop (i + 1)).head? = some 47)) : skipM false (l.drop i) = 0 := by
 rw [drop_cons h]
 simp only [skipM]
 rw [hb, if_neg (by simp), if_neg hc]
theorem skip_nil {l : List UInt8} {i : Nat} (m : Bool) (h : l.length ≤ i) : skipM m (l.drop i) = 0 := by
 rw [List.drop_eq_nil_of_le h]
 cases m <;> rfl
theorem byte_at (s : ByteArray) (i : Nat) (h : i < s.size) : s.data.toList[i]? = some s[i] := Lib.data_getElem? s i h

def ib (set : List UInt8) (b : UInt8) : Int := Lib.indexByte set b
theorem ib_any (set : List UInt8) (b : UInt8) (w : World) : Calls Tryz.prog 106 #[.string ⟨set.toArray⟩, .int .u8 (b.toNat : Int)] w fun e w' => e = .returned (.int .i64 (ib set b)) ∧ w = w' :=
 (Tryz.strings_IndexByte ⟨set.toArray⟩ (b.toNat : Int) w).mono fun e w' ⟨he, hw⟩ => ⟨by rw [he, byte_back]; rfl, hw.symm⟩
def preB (s p : ByteArray) : Bool := Lib.hasPrefix s.data.toList p.data.toList
theorem preB_tail (s p : ByteArray) (k : Nat) : preB (s.extract k s.size) p = Lib.hasPrefix (s.data.toList.drop k) p.data.toList := by unfold preB; rw [Lib.extract_to_end]
theorem pre_any (s p : ByteArray) (w : World) : Calls Tryz.prog 107 #[.string s, .string p] w fun e w' => e = .returned (.bool (preB s p)) ∧ w = w' :=
 (Tryz.strings_HasPrefix s p w).mono fun e w' ⟨he, hw⟩ => ⟨he, hw.symm⟩

set_option maxHeartbeats 1000000 in
set_option maxRecDepth 100000 in
theorem skip_any (s : ByteArray) (i0 : Nat) (w : World) (hs : s.size ≤ maxLen) (hi0 : i0 ≤ s.size) :
  Calls Tryz.prog 72 #[.string s, .int .i64 (i0 : Int)] w fun e w' => e = .returned (.int .i64 ((i0 + skipM false (s.data.toList.drop i0) : Nat) : Int)) ∧ w = w' := by
 unfold maxLen at hs
 have hlen : s.data.toList.length = s.size := (Lib.size_eq s).symm
 have HL := Hd hlen
 obtain ⟨r, hr⟩ : ∃ r, r = i0 + skipM false (s.data.toList.drop i0) := ⟨_, rfl⟩
 have R := Hd hr
 rw [← hr]
 clear hr hlen
 go_enter Tryz.func72, Tryz.ntmps72
 go_wp2
 go_step3
 go_wp2
 go_step3
 go_wp2
 go_loop [1] (fun i => ∃ k : Nat, k ≤ s.size ∧ i = .int .i64 (k : Int) ∧ Hid (r = k + skipM false (s.data.toList.drop k))) (fun i => s.size - (intOf i).toNat)
 case atStart => exact ⟨i0, hi0, rfl, R⟩
 case round =>
  obtain ⟨k, hk, rfl, hR⟩ := hrel
  by_cases hlt : k < s.size
  ·have hb := byte_at s k hlt
   rcases hbl : isBlank s[k] with _ | _
   ·have h0 := indexByte_blank s[k]
    rw [hbl] at h0
    have h1 : ib [32, 9, 13, 10] s[k] < 0 := by have := of_decide_eq_false h0; unfold blankSet at this; unfold ib; omega
    by_cases hc : s[k] = 47 ∧ (s.data.toList.drop (k + 1)).head? = some 47
    ·have hp : preB (s.extract k s.size) ⟨#[47, 47]⟩ = true := by rw [preB_tail]; exact (slashes hb).2 hc
     have hR2 := Hd (hR.out.trans (by rw [skip_comment hb hbl hc]))
     have HK : Hid (∀ j (h : j < s.size), s[j].toNat = 10 → j ≠ k) := fun j h e hj => by
      subst hj
      rw [hc.1] at e
      exact absurd e (by decide)
     clear h0 hb hbl hc hR
     go_wp2_with (first | (go_at_call 106; refine (ib_any _ _ _).mono ?_; rintro e w' ⟨rfl, rfl⟩) | (go_at_call 107; refine (pre_any _ _ _).mono ?_; rintro e w' ⟨rfl, rfl⟩))
     clear hp h1
     go_loop [1] (fun i => ∃ j : Nat, k ≤ j ∧ j ≤ s.size ∧ i = .int .i64 (j : Int) ∧ Hid (r = j + skipM true (s.data.toList.drop j))) (fun i => s.size - (intOf i).toNat)
     case atStart => exact ⟨k, by omega, hk, rfl, hR2⟩
     case round =>
      clear hR2
      obtain ⟨j, hj0, hj, rfl, hR⟩ := hrel
      by_cases hjl : j < s.size
      ·have hb := byte_at s j hjl
       by_cases hlf : s[j].toNat = 10
       ·have hR2 := Hd (hR.out.trans (by rw [skip_true_lf hb hlf]))
        have hne : ((s[j].toNat : Nat) : Int) = 10 := by omega
        have hjk := HK.out j hjl hlf
        clear hb hR hlf
        go_wp2
        go_round
        case rel => exact ⟨j, by omega, by go_num, hR2⟩
        case measure => simp [intOf]; omega
       ·have hR2 := Hd (hR.out.trans (skip_true_step hb hlf))
        have hne : ¬ ((s[j].toNat : Nat) : Int) = 10 := by omega
        clear hb hR hlf
        go_wp2
        go_round
        case rel => exact ⟨j + 1, by omega, by omega, by go_num, hR2⟩
        case measure => simp [intOf]; omega
      ·have hR2 := Hd (hR.out.trans (by rw [skip_nil true (by rw [HL.out]; omega), ← skip_nil (i := j) false (by rw [HL.out]; omega)]))
       clear hR
       go_wp2
       go_round
       case rel => exact ⟨j, by omega, by go_num, hR2⟩
       case measure => simp [intOf]; omega
    ·have hp : preB (s.extract k s.size) ⟨#[47, 47]⟩ = false := by rw [preB_tail]; exact Bool.eq_false_iff.2 fun h => hc ((slashes hb).1 h)
     have hR2 := Hd (hR.out.trans (by rw [skip_stop hb hbl hc]))
     clear h0 hb hbl hc hR
     go_wp2_with (first | (go_at_call 106; refine (ib_any _ _ _).mono ?_; rintro e w' ⟨rfl, rfl⟩) | (go_at_call 107; refine (pre_any _ _ _).mono ?_; rintro e w' ⟨rfl, rfl⟩))
     try rw [Exit.noGoto_ret]
     go_ret
     exact ⟨ret_int (by rw [hR2.out]; rfl), rfl⟩
   ·have h0 := indexByte_blank s[k]
    rw [hbl] at h0
    have h1 : 0 ≤ ib [32, 9, 13, 10] s[k] := of_decide_eq_true h0
    have hR2 := Hd (hR.out.trans (skip_blank hb hbl))
    clear h0 hb hbl hR
    go_wp2_with (go_at_call 106; refine (ib_any _ _ _).mono ?_; rintro e w' ⟨rfl, rfl⟩)
    go_round
    case rel => exact ⟨k + 1, by omega, by go_num, hR2⟩
    case measure => simp [intOf]; omega
  ·have hR2 := Hd (hR.out.trans (by rw [skip_nil _ (by rw [HL.out]; omega)]))
   clear hR
   go_wp2
   try rw [Exit.noGoto_ret]
   go_ret
   exact ⟨ret_int (by rw [hR2.out]; rfl), rfl⟩
end Go.Proofs.YthdbaligapdbeaaGreatDoor
