/- Numbers of base 2, 10 and 16: mathematics, and contracts of the library's ParseUint at digits alone. -/
import Derived.Test.YtkliclihpobmiaaGreatDoorMgLxType
import Derived.Shelf.Strconv.ParseUint10b64
namespace Go.Proofs.YtkliclihpobmiaaGreatDoor
open Go Go.RowKit
set_option linter.unusedVariables false

def parseB (base : Nat) : Nat → List UInt8 → Option Nat
 | acc, [] => some acc
 | acc, c :: r => if 18446744073709551616 ≤ acc * base + dv c then none else parseB base (acc * base + dv c) r
theorem fold_ge {base : Nat} (hb : 1 ≤ base) : ∀ (l : List UInt8) (acc : Nat), acc ≤ l.foldl (fun n b => n * base + dv b) acc := by
 intro l
 induction l with
 | nil => intro acc; exact Nat.le_refl _
 | cons c r ih =>
  intro acc
  have h1 : acc * 1 ≤ acc * base := Nat.mul_le_mul_left acc hb
  exact Nat.le_trans (by omega) (ih (acc * base + dv c))
theorem parseB_is {base : Nat} (hb : 1 ≤ base) : ∀ (l : List UInt8) (acc : Nat), acc < 18446744073709551616 → parseB base acc l = if 18446744073709551616 ≤ l.foldl (fun n b => n * base + dv b) acc then none else some (l.foldl (fun n b => n * base + dv b) acc) := by
 intro l
 induction l with
 | nil => intro acc h; rw [parseB]; show _ = if 18446744073709551616 ≤ acc then none else some acc; rw [if_neg (by omega)]
 | cons c r ih =>
  intro acc h
  rw [parseB, List.foldl_cons]
  by_cases h2 : 18446744073709551616 ≤ acc * base + dv c
  ·have := fold_ge hb r (acc * base + dv c)
   rw [if_pos h2, if_pos (by omega)]
  ·rw [if_neg h2]
   exact ih _ (by omega)
theorem parseB_num {base : Nat} (hb : 1 ≤ base) (l : List UInt8) : parseB base 0 l = if 18446744073709551616 ≤ numVal base l then none else some (numVal base l) := parseB_is hb l 0 (by omega)

theorem or_hex : ∀ b : UInt8, dv b < 16 → ¬ (48 ≤ b.toNat ∧ b.toNat ≤ 57) → bits .or .u8 ((b.toNat : Nat) : Int) 32 = ((dv b + 87 : Nat) : Int) := by
 intro b h1 h2
 have := all_u8 (fun b => !(decide (dv b < 16) && !(decide (48 ≤ b.toNat ∧ b.toNat ≤ 57))) || decide (bits .or .u8 ((b.toNat : Nat) : Int) 32 = ((dv b + 87 : Nat) : Int))) (by decide +kernel) b
 rw [decide_eq_true h1, decide_eq_false h2] at this
 simpa using this
theorem lower_any (b : UInt8) (h1 : dv b < 16) (h2 : ¬ (48 ≤ b.toNat ∧ b.toNat ≤ 57)) (w : World) : Calls Tryz.prog 169 #[.int .u8 (b.toNat : Int)] w fun e w' => e = .returned (.int .u8 ((dv b : Nat) + 87 : Int)) ∧ w = w' :=
 (Tryz.internal_strconv_lower (b.toNat : Int) w).mono fun e w' ⟨he, hw⟩ => ⟨by rw [he, or_hex b h1 h2]; rfl, hw.symm⟩
def parsed : Option Nat → Value
 | some n => .tuple #[.int .u64 (n : Int), .nilIface]
 | none => .tuple #[.int .u64 18446744073709551615, .iface 149 (.int .i64 1)]

set_option maxHeartbeats 32000000 in
set_option maxRecDepth 100000 in
theorem parse16_any (t : ByteArray) (hne : t.size ≠ 0) (hmax : t.size ≤ 9223372036854775806) (hd : ∀ c ∈ t.data.toList, dv c < 16) (w : World) :
  Calls Tryz.prog 151 #[.string t, .int .i64 16, .int .i64 64] w fun e w' => e = .returned (parsed (parseB 16 0 t.data.toList)) ∧ w' = Lib.bytesWorld w 5 t := by
 have hemp : t.toList.isEmpty = false := by
  rw [← decide_eq_emptyBytes]
  exact decide_eq_false (fun h => hne (by rw [h]; rfl))
 have hcv := Lib.run_convert_string_bytes (P := Tryz.prog) w 9 63 5 t (u := .string) Tryz.underlying9 Tryz.underlying63 Tryz.underlying5
 have hB : ∀ j, j < t.size → (Lib.bytesWorld w 5 t).cell? ⟨w.heap.size, j, none⟩ = some (.int .u8 (t.data.toList.getD j 0).toNat) := fun j hj => Lib.bytesWorld_cell w 5 t j hj
 obtain ⟨W1, hW1⟩ : ∃ W1, W1 = Lib.bytesWorld w 5 t := ⟨_, rfl⟩
 rw [← hW1] at hcv hB ⊢
 clear hW1
 obtain ⟨bs, hL⟩ : ∃ bs, bs = t.data.toList := ⟨_, rfl⟩
 have hLn : bs.length = t.size := by rw [hL, Lib.size_eq]
 rw [← hL] at hB hd ⊢
 clear hL
 have hmv : IntKind.u64.wrap (IntKind.u64.wrap 18446744073709551616 - 1) = 18446744073709551615 := by
  rw [IntKind.wrap_u64, IntKind.wrap_u64]
  decide
 have HD := Hd hd
 clear hd
 go_enter Tryz.func151, Tryz.ntmps151
 go_wp2
 go_loop [12, 13, 101] (fun vu vn vi => ∃ (k acc : Nat) (a : Int), vu = .bool false ∧ vn = .int .u64 a ∧ vi = .int .i64 k ∧ k ≤ t.size ∧ Hid (a = (acc : Int) ∧ acc < 18446744073709551616 ∧ parseB 16 0 bs = parseB 16 acc (bs.drop k)))
  (fun _ _ vi => t.size - (intOf vi).toNat)
 case atStart => exact ⟨0, 0, 0, rfl, rfl, rfl, by omega, rfl, by omega, rfl⟩
 case round =>
  obtain ⟨k, acc, a, rfl, rfl, rfl, hk, hh⟩ := hrel
  obtain ⟨ha, hacc, hdec⟩ := hh.out
  clear hh
  have a0 : 0 ≤ a := by omega
  have a1 : a < 18446744073709551616 := by omega
  by_cases hkn : k < t.size
  ·have hc := hB k hkn
   have hdrop : bs.drop k = bs[k]'(by omega) :: bs.drop (k + 1) := List.drop_eq_getElem_cons (by omega)
   have hget : bs.getD k 0 = bs[k]'(by omega) := by simp [List.getD, List.getElem?_eq_getElem (show k < bs.length by omega)]
   have hdv := HD.out (bs[k]'(by omega)) (List.getElem_mem _)
   rw [hdrop] at hdec
   rw [hget] at hc
   generalize bs[k]'(by omega) = c at hc hdec hdv
   have hc256 : c.toNat < 256 := c.toNat_lt
   clear hB hdrop hget
   have HPN := Hd fun (h : 18446744073709551616 ≤ acc * 16 + dv c) => (show parseB 16 acc (c :: bs.drop (k + 1)) = none by rw [parseB, if_pos h])
   have HPS := Hd fun (h : ¬ 18446744073709551616 ≤ acc * 16 + dv c) => (show parseB 16 acc (c :: bs.drop (k + 1)) = parseB 16 (acc * 16 + dv c) (bs.drop (k + 1)) by rw [parseB, if_neg h])
   by_cases hdig : 48 ≤ c.toNat ∧ c.toNat ≤ 57
   ·have hdvc : dv c = c.toNat - 48 := by unfold dv; rw [if_pos hdig]
    obtain ⟨hd0, hd1⟩ := hdig
    have hdl : c.toNat < 48 + dv c + 1 := by omega
    have hdm : c.toNat ≤ 48 + (16 - 1) := by omega
    clear hdl
    by_cases hov : 18446744073709551616 ≤ acc * 16 + dv c
    ·have hF : parseB 16 acc (c :: bs.drop (k + 1)) = none := by rw [parseB, if_pos hov]
     rw [hF] at hdec
     have icut : 1152921504606846976 ≤ a := by omega
     clear hacc hF ha hov hdvc hdv
     go_wp2
     go_ret2
     exact ⟨rfl, rfl⟩
    ·have hF : parseB 16 acc (c :: bs.drop (k + 1)) = parseB 16 (acc * 16 + dv c) (bs.drop (k + 1)) := by rw [parseB, if_neg hov]
     have HN : Hid (a * 16 + ((c.toNat : Int) - 48) = ((acc * 16 + dv c : Nat) : Int) ∧ acc * 16 + dv c < 18446744073709551616 ∧ parseB 16 0 bs = parseB 16 (acc * 16 + dv c) (bs.drop (k + 1))) := Hd ⟨by omega, by omega, hdec.trans hF⟩
     have icut : a < 1152921504606846976 := by omega
     have iov : a * 16 + ((c.toNat : Int) - 48) < 18446744073709551616 := by omega
     clear hacc hF hov hdec ha hdvc hdv
     go_wp2
     refine ⟨⟨k + 1, acc * 16 + dv c, a * 16 + ((c.toNat : Int) - 48), rfl, (by first | rfl | (congr 1; omega)), (by first | rfl | (congr 1; omega)), by omega, HN⟩, by simp [intOf]; omega⟩
   ·have h95 : (((c.toNat : Nat) : Int) == 95) = false := by
     have : c.toNat ≠ 95 := by
      unfold dv at hdv
      split at hdv
      ·contradiction
      ·split at hdv
       ·omega
       ·split at hdv <;> omega
     simp
     omega
    have hhex : 58 ≤ c.toNat ∧ 10 ≤ dv c := by
     unfold dv at hdv ⊢
     split at hdv
     ·contradiction
     ·split at hdv
      ·rename_i h1 h2; rw [if_neg h1, if_pos h2]; omega
      ·split at hdv
       ·rename_i h1 h2 h3; rw [if_neg h1, if_neg h2, if_pos h3]; omega
       ·omega
    have h58 := hhex.1
    have h10 := hhex.2
    have HLW := Hd fun W => lower_any c hdv hdig W
    clear hhex hdig
    generalize dv c = d at *
    by_cases hov : 18446744073709551616 ≤ acc * 16 + d
    ·have hF : parseB 16 acc (c :: bs.drop (k + 1)) = none := HPN.out hov
     rw [hF] at hdec
     have icut : 1152921504606846976 ≤ a := by omega
     clear hacc hF ha hov HPN HPS
     go_wp2_with (go_at_call 169; refine (HLW.out _).mono ?_; rintro e w' ⟨rfl, rfl⟩)
     go_ret2
     exact ⟨by rw [hdec]; rfl, rfl⟩
    ·have hF : parseB 16 acc (c :: bs.drop (k + 1)) = parseB 16 (acc * 16 + d) (bs.drop (k + 1)) := HPS.out hov
     have HN : Hid (a * 16 + (d : Int) = ((acc * 16 + d : Nat) : Int) ∧ acc * 16 + d < 18446744073709551616 ∧ parseB 16 0 bs = parseB 16 (acc * 16 + d) (bs.drop (k + 1))) := Hd ⟨by omega, by omega, hdec.trans hF⟩
     have icut : a < 1152921504606846976 := by omega
     have iov : a * 16 + (d : Int) < 18446744073709551616 := by omega
     clear hacc hF hov hdec ha HPN HPS
     go_wp2_with (go_at_call 169; refine (HLW.out _).mono ?_; rintro e w' ⟨rfl, rfl⟩)
     refine ⟨⟨k + 1, acc * 16 + d, a * 16 + (d : Int), rfl, (by first | rfl | (congr 1; omega)), (by first | rfl | (congr 1; omega)), by omega, HN⟩, by simp [intOf]; omega⟩
  ·have hkk : k = t.size := by omega
   subst hkk
   have hF : parseB 16 acc (bs.drop t.size) = some acc := by rw [List.drop_eq_nil_of_le (by omega)]; rfl
   rw [hF] at hdec
   subst ha
   clear hacc hF a0 a1
   go_wp2
   go_ret2
   exact ⟨rfl, rfl⟩

theorem parse10_same : ∀ (l : List UInt8), (∀ c ∈ l, dv c < 10) → ∀ acc, Lib.uintTuple 149 (Lib.parseUint10 acc l) = parsed (parseB 10 acc l) := by
 intro l
 induction l with
 | nil => intro _ acc; rfl
 | cons c r ih =>
  intro h acc
  have hc := h c (by simp)
  have hr : ∀ x ∈ r, dv x < 10 := fun x hx => h x (List.mem_cons_of_mem _ hx)
  have hd : 48 ≤ c.toNat ∧ c.toNat ≤ 57 ∧ dv c = c.toNat - 48 := by
   unfold dv at hc ⊢
   split at hc
   ·rename_i h1; rw [if_pos h1]; omega
   ·split at hc
    ·omega
    ·split at hc <;> omega
  rw [Lib.parseUint10, parseB, if_pos ⟨hd.1, hd.2.1⟩, hd.2.2]
  by_cases h1 : 1844674407370955162 ≤ acc
  ·rw [if_pos h1, if_pos (by omega)]; rfl
  ·rw [if_neg h1]
   by_cases h2 : 18446744073709551616 ≤ acc * 10 + (c.toNat - 48)
   ·rw [if_pos h2, if_pos h2]; rfl
   ·rw [if_neg h2, if_neg h2]
    exact ih hr _

set_option maxHeartbeats 32000000 in
set_option maxRecDepth 100000 in
theorem parse2_any (t : ByteArray) (hne : t.size ≠ 0) (hmax : t.size ≤ 9223372036854775806) (hd : ∀ c ∈ t.data.toList, dv c < 2) (w : World) :
  Calls Tryz.prog 151 #[.string t, .int .i64 2, .int .i64 64] w fun e w' => e = .returned (parsed (parseB 2 0 t.data.toList)) ∧ w' = Lib.bytesWorld w 5 t := by
 have hemp : t.toList.isEmpty = false := by
  rw [← decide_eq_emptyBytes]
  exact decide_eq_false (fun h => hne (by rw [h]; rfl))
 have hcv := Lib.run_convert_string_bytes (P := Tryz.prog) w 9 63 5 t (u := .string) Tryz.underlying9 Tryz.underlying63 Tryz.underlying5
 have hB : ∀ j, j < t.size → (Lib.bytesWorld w 5 t).cell? ⟨w.heap.size, j, none⟩ = some (.int .u8 (t.data.toList.getD j 0).toNat) := fun j hj => Lib.bytesWorld_cell w 5 t j hj
 obtain ⟨W1, hW1⟩ : ∃ W1, W1 = Lib.bytesWorld w 5 t := ⟨_, rfl⟩
 rw [← hW1] at hcv hB ⊢
 clear hW1
 obtain ⟨bs, hL⟩ : ∃ bs, bs = t.data.toList := ⟨_, rfl⟩
 have hLn : bs.length = t.size := by rw [hL, Lib.size_eq]
 rw [← hL] at hB hd ⊢
 clear hL
 have hmv : IntKind.u64.wrap (IntKind.u64.wrap 18446744073709551616 - 1) = 18446744073709551615 := by
  rw [IntKind.wrap_u64, IntKind.wrap_u64]
  decide
 have HD := Hd hd
 clear hd
 go_enter Tryz.func151, Tryz.ntmps151
 go_wp2
 go_loop [12, 13, 101] (fun vu vn vi => ∃ (k acc : Nat) (a : Int), vu = .bool false ∧ vn = .int .u64 a ∧ vi = .int .i64 k ∧ k ≤ t.size ∧ Hid (a = (acc : Int) ∧ acc < 18446744073709551616 ∧ parseB 2 0 bs = parseB 2 acc (bs.drop k)))
  (fun _ _ vi => t.size - (intOf vi).toNat)
 case atStart => exact ⟨0, 0, 0, rfl, rfl, rfl, by omega, rfl, by omega, rfl⟩
 case round =>
  obtain ⟨k, acc, a, rfl, rfl, rfl, hk, hh⟩ := hrel
  obtain ⟨ha, hacc, hdec⟩ := hh.out
  clear hh
  have a0 : 0 ≤ a := by omega
  have a1 : a < 18446744073709551616 := by omega
  by_cases hkn : k < t.size
  ·have hc := hB k hkn
   have hdrop : bs.drop k = bs[k]'(by omega) :: bs.drop (k + 1) := List.drop_eq_getElem_cons (by omega)
   have hget : bs.getD k 0 = bs[k]'(by omega) := by simp [List.getD, List.getElem?_eq_getElem (show k < bs.length by omega)]
   have hdv := HD.out (bs[k]'(by omega)) (List.getElem_mem _)
   rw [hdrop] at hdec
   rw [hget] at hc
   generalize bs[k]'(by omega) = c at hc hdec hdv
   have hc256 : c.toNat < 256 := c.toNat_lt
   clear hB hdrop hget
   by_cases hdig : 48 ≤ c.toNat ∧ c.toNat ≤ 57
   ·have hdvc : dv c = c.toNat - 48 := by unfold dv; rw [if_pos hdig]
    obtain ⟨hd0, hd1⟩ := hdig
    have hdl : c.toNat < 48 + dv c + 1 := by omega
    have hdm : c.toNat ≤ 48 + (2 - 1) := by omega
    clear hdl
    by_cases hov : 18446744073709551616 ≤ acc * 2 + dv c
    ·have hF : parseB 2 acc (c :: bs.drop (k + 1)) = none := by rw [parseB, if_pos hov]
     rw [hF] at hdec
     have icut : 9223372036854775808 ≤ a := by omega
     clear hacc hF ha hov hdvc hdv
     go_wp2
     go_ret2
     exact ⟨rfl, rfl⟩
    ·have hF : parseB 2 acc (c :: bs.drop (k + 1)) = parseB 2 (acc * 2 + dv c) (bs.drop (k + 1)) := by rw [parseB, if_neg hov]
     have HN : Hid (a * 2 + ((c.toNat : Int) - 48) = ((acc * 2 + dv c : Nat) : Int) ∧ acc * 2 + dv c < 18446744073709551616 ∧ parseB 2 0 bs = parseB 2 (acc * 2 + dv c) (bs.drop (k + 1))) := Hd ⟨by omega, by omega, hdec.trans hF⟩
     have icut : a < 9223372036854775808 := by omega
     have iov : a * 2 + ((c.toNat : Int) - 48) < 18446744073709551616 := by omega
     clear hacc hF hov hdec ha hdvc hdv
     go_wp2
     refine ⟨⟨k + 1, acc * 2 + dv c, a * 2 + ((c.toNat : Int) - 48), rfl, (by first | rfl | (congr 1; omega)), (by first | rfl | (congr 1; omega)), by omega, HN⟩, by simp [intOf]; omega⟩
   ·exfalso
    apply hdig
    unfold dv at hdv
    split at hdv
    ·assumption
    ·split at hdv
     ·omega
     ·split at hdv <;> omega
  ·have hkk : k = t.size := by omega
   subst hkk
   have hF : parseB 2 acc (bs.drop t.size) = some acc := by rw [List.drop_eq_nil_of_le (by omega)]; rfl
   rw [hF] at hdec
   subst ha
   clear hacc hF a0 a1
   go_wp2
   go_ret2
   exact ⟨rfl, rfl⟩
end Go.Proofs.YtkliclihpobmiaaGreatDoor
