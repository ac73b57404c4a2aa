/- The reference's lists of words and names of types: contracts. -/
import Derived.Test.YtgglmcjclbaceaaDoorLxRef2
namespace Go.Proofs.YtgglmcjclbaceaaDoor
open Go Go.RowKit
set_option linter.unusedVariables false

theorem has_step {zs : List (List UInt8)} {x : List UInt8} {k : Nat} (h : k < zs.length) (hn : zs[k] ≠ x) : (zs.drop k).contains x = (zs.drop (k + 1)).contains x := by
  rw [List.drop_eq_getElem_cons h, List.contains_cons]
  have : (x == zs[k]) = false := beq_eq_false_iff_ne.2 (Ne.symm hn)
  rw [this, Bool.false_or]
theorem has_here {zs : List (List UInt8)} {x : List UInt8} {k : Nat} (h : k < zs.length) (hn : zs[k] = x) : (zs.drop k).contains x = true := by
  rw [List.drop_eq_getElem_cons h, List.contains_cons, hn]
  simp
theorem has_end {zs : List (List UInt8)} {x : List UInt8} {k : Nat} (h : zs.length ≤ k) : (zs.drop k).contains x = false := by
  rw [List.drop_eq_nil_of_le h]; rfl

set_option maxHeartbeats 1000000 in
set_option maxRecDepth 100000 in
theorem rOne_any (zs : List (List UInt8)) (g n : Nat) (t : TypeId) (x : List UInt8) (w : World) (hn : n = zs.length) (hb : n ≤ 1000) (hB : Blk w g t (zs.map fun l => .string (str l))) :
    Calls Tryd.prog 33 #[.string (str x), .slice (some ⟨g, 0, none⟩) n n] w fun e w' => e = .returned (.bool (zs.contains x)) ∧ w = w' := by
  have hC : Hid (∀ k (h : k < zs.length), w.cell? ⟨g, k, none⟩ = some (.string (str zs[k]))) := fun k h => by rw [hB.cell k, List.getElem?_map, List.getElem?_eq_getElem h]; rfl
  obtain ⟨r, hr⟩ : ∃ r, r = zs.contains x := ⟨_, rfl⟩
  have H : Hid (r = (zs.drop 0).contains x) := hr
  rw [← hr]
  clear hr hB
  go_enter Tryd.func33, Tryd.ntmps33
  go_wp2
  go_loop [5] (fun i => ∃ k : Nat, k ≤ n ∧ i = .int .i64 (k : Int) ∧ Hid (r = (zs.drop k).contains x)) (fun i => n - (intOf i).toNat)
  case atStart => exact ⟨0, by omega, rfl, H⟩
  case round =>
    obtain ⟨k, hk, rfl, hR⟩ := hrel
    by_cases hlt : k < n
    · have hkz : k < zs.length := by omega
      have hc := hC.out k hkz
      by_cases he : zs[k] = x
      · have hq : ((str zs[k]).toList == (str x).toList) = true := by rw [str_eq, he]; simp
        have hR2 := Lib.hid (hR.out.trans (has_here hkz he))
        clear he hR
        generalize str zs[k] = z at *
        go_wp2
        go_ret
        exact ⟨ret_bool hR2.out.symm, rfl⟩
      · have hq : ((str zs[k]).toList == (str x).toList) = false := by rw [str_eq]; exact decide_eq_false fun h => he (str_inj h)
        have hR2 := Lib.hid (hR.out.trans (has_step hkz he))
        clear he hR
        generalize str zs[k] = z at *
        go_wp2
        go_round
        case rel => exact ⟨k + 1, by omega, by go_num, hR2⟩
        case measure => simp [intOf]; omega
    · have hR2 := Lib.hid (hR.out.trans (has_end (by omega)))
      clear hR
      go_wp2
      go_ret
      exact ⟨ret_bool hR2.out.symm, rfl⟩

set_option maxRecDepth 100000 in
theorem rKeywords_any (w : World) : Calls Tryd.prog 40 #[] w fun e w' => e = .returned (.slice (some ⟨w.heap.size, 0, none⟩) 19 19) ∧ Blk w' w.heap.size 9 (keywords.map fun l => .string (str l)) ∧ Below w.heap.size w w' := by
  have hK := Blk.alloc w 9 (keywords.map fun l => .string (str l))
  have hb := (Below.refl w.heap.size w).alloc (Nat.le_refl _) (.cells (keywords.map fun l => .string (str l)).toArray 9)
  go_enter Tryd.func40, Tryd.ntmps40
  go_wp2
  go_ret
  exact ⟨rfl, hK, hb⟩

theorem digit_at' : ∀ d : Fin 10, (([48, 49, 50, 51, 52, 53, 54, 55, 56, 57] : List UInt8).drop d.val).take 1 = [UInt8.ofNat (48 + d.val)] := by decide +kernel
theorem digit_at {d : Nat} (h : d < 10) : (⟨#[48, 49, 50, 51, 52, 53, 54, 55, 56, 57]⟩ : ByteArray).extract d (d + 1) = str [UInt8.ofNat (48 + d)] := by
  rw [extract_mid, Nat.add_sub_cancel_left]
  exact congrArg str (digit_at' ⟨d, h⟩)
theorem str_append (a b : List UInt8) : str a ++ str b = str (a ++ b) := by
  refine bytes_ext ?_
  simp [str]

set_option maxHeartbeats 1000000 in
set_option maxRecDepth 100000 in
theorem rDecimal_any (n : Nat) (hn : n < 100) (w : World) : Calls Tryd.prog 42 #[.int .u64 (n : Int)] w fun e w' => e = .returned (.string (str (dec2 n))) ∧ w = w' := by
  obtain ⟨R, hR⟩ : ∃ R, R = str (dec2 n) := ⟨_, rfl⟩
  have HR := Lib.hid hR
  rw [← hR]
  clear hR
  go_enter Tryd.func42, Tryd.ntmps42
  go_wp2
  go_loop [0, 3] (fun a s => ∃ (m : Nat) (S : ByteArray), a = .int .u64 (m : Int) ∧ s = .string S ∧ m < 100 ∧ Hid ((m = n ∧ S = ⟨#[]⟩) ∨ (10 ≤ n ∧ m = n / 10 ∧ S = str [UInt8.ofNat (48 + n % 10)]))) (fun a _ => (intOf a).toNat)
  case atStart => exact ⟨n, _, rfl, rfl, hn, .inl ⟨rfl, rfl⟩⟩
  case round =>
    obtain ⟨m, S, rfl, rfl, hm, hS⟩ := hrel
    rcases hS.out with ⟨rfl, rfl⟩ | ⟨h10, rfl, rfl⟩
    · by_cases h10 : m < 10
      · have h1 := digit_at h10
        have hl : (str [UInt8.ofNat (48 + m)]).size = 1 := by rw [str_size]; rfl
        have E : Hid (str [UInt8.ofNat (48 + m)] ++ ⟨#[]⟩ = R) := by
          show _ = _
          have : (⟨#[]⟩ : ByteArray) = str [] := rfl
          rw [this, str_append, HR.out, dec2, if_pos h10]
          rfl
        clear hS
        generalize str [UInt8.ofNat (48 + m)] = D at *
        go_wp2
        go_ret
        exact ⟨ret_s E.out, rfl⟩
      · have hmod : m % 10 < 10 := Nat.mod_lt _ (by omega)
        have h1 := digit_at hmod
        have hl : (str [UInt8.ofNat (48 + m % 10)]).size = 1 := by rw [str_size]; rfl
        have E : Hid (str [UInt8.ofNat (48 + m % 10)] ++ ⟨#[]⟩ = str [UInt8.ofNat (48 + m % 10)]) := by
          show _ = _
          have : (⟨#[]⟩ : ByteArray) = str [] := rfl
          rw [this, str_append]
          rfl
        have hq1 : (m : Int) % 10 = ((m % 10 : Nat) : Int) := by omega
        have hq2 : (m : Int) / 10 = ((m / 10 : Nat) : Int) := by omega
        have h10' : 10 ≤ m := by omega
        have hdl : m / 10 < m := by omega
        obtain ⟨q, hq⟩ : ∃ q, q = m % 10 := ⟨_, rfl⟩
        obtain ⟨p, hp⟩ : ∃ p, p = m / 10 := ⟨_, rfl⟩
        have HP := Lib.hid hp
        have HQ := Lib.hid hq
        rw [← hq] at h1 hl E hq1 hmod
        rw [← hp] at hq2 hdl
        clear hS hp hq h10
        generalize hD : str [UInt8.ofNat (48 + q)] = D at *
        have HD := Lib.hid hD
        clear hD
        go_wp2
        go_round
        case rel => exact ⟨p, _, by go_num, rfl, by omega, .inr ⟨h10', HP.out, by rw [E.out, ← HD.out, HQ.out]⟩⟩
        case measure => simp [intOf]; omega
    · have hm10 : n / 10 < 10 := by omega
      have h1 := digit_at hm10
      have hl : (str [UInt8.ofNat (48 + n / 10)]).size = 1 := by rw [str_size]; rfl
      have hl2 : (str [UInt8.ofNat (48 + n % 10)]).size = 1 := by rw [str_size]; rfl
      have E : Hid (str [UInt8.ofNat (48 + n / 10)] ++ str [UInt8.ofNat (48 + n % 10)] = R) := by
        show _ = _
        rw [str_append, HR.out, dec2, if_neg (by omega)]
        rfl
      clear hS
      generalize str [UInt8.ofNat (48 + n / 10)] = D at *
      generalize str [UInt8.ofNat (48 + n % 10)] = D2 at *
      generalize n / 10 = p at *
      go_wp2
      go_ret
      exact ⟨ret_s E.out, rfl⟩
end Go.Proofs.YtgglmcjclbaceaaDoor
