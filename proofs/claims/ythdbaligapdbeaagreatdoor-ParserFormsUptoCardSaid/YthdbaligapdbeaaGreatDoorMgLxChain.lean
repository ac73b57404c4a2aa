/- The reference's lists of words and names of types: contracts. -/
import Derived.Test.YthdbaligapdbeaaGreatDoorMgLxRef2
import Derived.Test.YthdbaligapdbeaaGreatDoorMgLxLex
namespace Go.Proofs.YthdbaligapdbeaaGreatDoor
open Go Go.RowKit
set_option linter.unusedVariables false

theorem has_step {zs : List (List UInt8)} {x : List UInt8} {k : Nat} (h : k < zs.length) (hn : zs[k] ≠ x) : (zs.drop k).contains x = (zs.drop (k + 1)).contains x := by
 rw [List.drop_eq_getElem_cons h, List.contains_cons]
 have : (x == zs[k]) = false := beq_eq_false_iff_ne.2 (Ne.symm hn)
 rw [this, Bool.false_or]
theorem has_here {zs : List (List UInt8)} {x : List UInt8} {k : Nat} (h : k < zs.length) (hn : zs[k] = x) : (zs.drop k).contains x = true := by
 rw [List.drop_eq_getElem_cons h, List.contains_cons, hn]
 simp
theorem has_end {zs : List (List UInt8)} {x : List UInt8} {k : Nat} (h : zs.length ≤ k) : (zs.drop k).contains x = false := by
 rw [List.drop_eq_nil_of_le h]; rfl

set_option maxHeartbeats 1000000 in
set_option maxRecDepth 100000 in
theorem rOne_any (zs : List (List UInt8)) (g n : Nat) (t : TypeId) (x : List UInt8) (w : World) (hn : n = zs.length) (hb : n ≤ 1000) (hB : Blk w g t (zs.map fun l => .string (str l))) :
  Calls Tryz.prog 131 #[.string (str x), .slice (some ⟨g, 0, none⟩) n n] w fun e w' => e = .returned (.bool (zs.contains x)) ∧ w = w' := by
 have hC : Hid (∀ k (h : k < zs.length), w.cell? ⟨g, k, none⟩ = some (.string (str zs[k]))) := fun k h => by rw [hB.cell k, List.getElem?_map, List.getElem?_eq_getElem h]; rfl
 obtain ⟨r, hr⟩ : ∃ r, r = zs.contains x := ⟨_, rfl⟩
 have H : Hid (r = (zs.drop 0).contains x) := hr
 rw [← hr]
 clear hr hB
 go_enter Tryz.func131, Tryz.ntmps131
 go_wp2
 go_loop [5] (fun i => ∃ k : Nat, k ≤ n ∧ i = .int .i64 (k : Int) ∧ Hid (r = (zs.drop k).contains x)) (fun i => n - (intOf i).toNat)
 case atStart => exact ⟨0, by omega, rfl, H⟩
 case round =>
  obtain ⟨k, hk, rfl, hR⟩ := hrel
  by_cases hlt : k < n
  ·have hkz : k < zs.length := by omega
   have hc := hC.out k hkz
   by_cases he : zs[k] = x
   ·have hq : ((str zs[k]).toList == (str x).toList) = true := by rw [str_eq, he]; simp
    have hR2 := Hd (hR.out.trans (has_here hkz he))
    clear he hR
    generalize str zs[k] = z at *
    go_wp2
    go_ret
    exact ⟨ret_bool hR2.out.symm, rfl⟩
   ·have hq : ((str zs[k]).toList == (str x).toList) = false := by rw [str_eq]; exact decide_eq_false fun h => he (str_inj h)
    have hR2 := Hd (hR.out.trans (has_step hkz he))
    clear he hR
    generalize str zs[k] = z at *
    go_wp2
    go_round
    case rel => exact ⟨k + 1, by omega, by go_num, hR2⟩
    case measure => simp [intOf]; omega
  ·have hR2 := Hd (hR.out.trans (has_end (by omega)))
   clear hR
   go_wp2
   go_ret
   exact ⟨ret_bool hR2.out.symm, rfl⟩

set_option maxRecDepth 100000 in
theorem rKeywords_any (w : World) : Calls Tryz.prog 163 #[] w fun e w' => e = .returned (.slice (some ⟨w.heap.size, 0, none⟩) 19 19) ∧ Blk w' w.heap.size 9 (keywords.map fun l => .string (str l)) ∧ Below w.heap.size w w' := by
 have hK := Blk.alloc w 9 (keywords.map fun l => .string (str l))
 have hb := (Below.refl w.heap.size w).alloc (Nat.le_refl _) (.cells (keywords.map fun l => .string (str l)).toArray 9)
 go_enter Tryz.func163, Tryz.ntmps163
 go_wp2
 go_ret
 exact ⟨rfl, hK, hb⟩

theorem digit_at' : ∀ d : Fin 10, (([48, 49, 50, 51, 52, 53, 54, 55, 56, 57] : List UInt8).drop d.val).take 1 = [UInt8.ofNat (48 + d.val)] := by decide +kernel
theorem digit_at {d : Nat} (h : d < 10) : (⟨#[48, 49, 50, 51, 52, 53, 54, 55, 56, 57]⟩ : ByteArray).extract d (d + 1) = str [UInt8.ofNat (48 + d)] := by
 rw [extract_mid, Nat.add_sub_cancel_left]
 exact congrArg str (digit_at' ⟨d, h⟩)
theorem str_append (a b : List UInt8) : str a ++ str b = str (a ++ b) := by
 refine bytes_ext ?_
 simp [str]

set_option maxHeartbeats 1000000 in
set_option maxRecDepth 100000 in
theorem rDecimal_any (n : Nat) (hn : n < 100) (w : World) : Calls Tryz.prog 214 #[.int .u64 (n : Int)] w fun e w' => e = .returned (.string (str (dec2 n))) ∧ w = w' := by
 obtain ⟨R, hR⟩ : ∃ R, R = str (dec2 n) := ⟨_, rfl⟩
 have HR := Hd hR
 rw [← hR]
 clear hR
 go_enter Tryz.func214, Tryz.ntmps214
 go_wp2
 go_loop [0, 3] (fun a s => ∃ (m : Nat) (S : ByteArray), a = .int .u64 (m : Int) ∧ s = .string S ∧ m < 100 ∧ Hid ((m = n ∧ S = ⟨#[]⟩) ∨ (10 ≤ n ∧ m = n / 10 ∧ S = str [UInt8.ofNat (48 + n % 10)]))) (fun a _ => (intOf a).toNat)
 case atStart => exact ⟨n, _, rfl, rfl, hn, .inl ⟨rfl, rfl⟩⟩
 case round =>
  obtain ⟨m, S, rfl, rfl, hm, hS⟩ := hrel
  rcases hS.out with ⟨rfl, rfl⟩ | ⟨h10, rfl, rfl⟩
  ·by_cases h10 : m < 10
   ·have h1 := digit_at h10
    have hl : (str [UInt8.ofNat (48 + m)]).size = 1 := by rw [str_size]; rfl
    have E : Hid (str [UInt8.ofNat (48 + m)] ++ ⟨#[]⟩ = R) := by
     show _ = _
     have : (⟨#[]⟩ : ByteArray) = str [] := rfl
     rw [this, str_append, HR.out, dec2, if_pos h10]
     rfl
    clear hS
    generalize str [UInt8.ofNat (48 + m)] = D at *
    go_wp2
    go_ret
    exact ⟨ret_s E.out, rfl⟩
   ·have hmod : m % 10 < 10 := Nat.mod_lt _ (by omega)
    have h1 := digit_at hmod
    have hl : (str [UInt8.ofNat (48 + m % 10)]).size = 1 := by rw [str_size]; rfl
    have E : Hid (str [UInt8.ofNat (48 + m % 10)] ++ ⟨#[]⟩ = str [UInt8.ofNat (48 + m % 10)]) := by
     show _ = _
     have : (⟨#[]⟩ : ByteArray) = str [] := rfl
     rw [this, str_append]
     rfl
    have hq1 : (m : Int) % 10 = ((m % 10 : Nat) : Int) := by omega
    have hq2 : (m : Int) / 10 = ((m / 10 : Nat) : Int) := by omega
    have h10' : 10 ≤ m := by omega
    have hdl : m / 10 < m := by omega
    obtain ⟨q, hq⟩ : ∃ q, q = m % 10 := ⟨_, rfl⟩
    obtain ⟨p, hp⟩ : ∃ p, p = m / 10 := ⟨_, rfl⟩
    have HP := Hd hp
    have HQ := Hd hq
    rw [← hq] at h1 hl E hq1 hmod
    rw [← hp] at hq2 hdl
    clear hS hp hq h10
    generalize hD : str [UInt8.ofNat (48 + q)] = D at *
    have HD := Hd hD
    clear hD
    go_wp2
    go_round
    case rel => exact ⟨p, _, by go_num, rfl, by omega, .inr ⟨h10', HP.out, by rw [E.out, ← HD.out, HQ.out]⟩⟩
    case measure => simp [intOf]; omega
  ·have hm10 : n / 10 < 10 := by omega
   have h1 := digit_at hm10
   have hl : (str [UInt8.ofNat (48 + n / 10)]).size = 1 := by rw [str_size]; rfl
   have hl2 : (str [UInt8.ofNat (48 + n % 10)]).size = 1 := by rw [str_size]; rfl
   have E : Hid (str [UInt8.ofNat (48 + n / 10)] ++ str [UInt8.ofNat (48 + n % 10)] = R) := by
    show _ = _
    rw [str_append, HR.out, dec2, if_neg (by omega)]
    rfl
   clear hS
   generalize str [UInt8.ofNat (48 + n / 10)] = D at *
   generalize str [UInt8.ofNat (48 + n % 10)] = D2 at *
   generalize n / 10 = p at *
   go_wp2
   go_ret
   exact ⟨ret_s E.out, rfl⟩
end Go.Proofs.YthdbaligapdbeaaGreatDoor
/- The reference's names of types and keywords: contracts. -/
namespace Go.Proofs.YthdbaligapdbeaaGreatDoor
open Go Go.RowKit
set_option linter.unusedVariables false

set_option maxHeartbeats 1000000 in
set_option maxRecDepth 100000 in
theorem rTypeName_any (W : Int) (sg : Bool) (w : World) : Calls Tryz.prog 191 #[.agg #[.int .i64 W, .bool sg]] w fun e w' => e = .returned (.string (tn W sg)) ∧ Below w.heap.size w w' := by
 have hb := (Below.refl w.heap.size w).alloc (Nat.le_refl _) (.cells #[.int .i64 W, .bool sg] 24)
 by_cases h : 1 ≤ W ∧ W ≤ 64
 ·obtain ⟨n, rfl⟩ : ∃ n : Nat, W = (n : Int) := ⟨W.toNat, by omega⟩
  have hn : 1 ≤ n ∧ n ≤ 64 := by omega
  have hu := Hd (tn_u hn)
  have hs := Hd (tn_s hn)
  have h1 := hn.1
  have h2 := hn.2
  have hl := dec2_len n
  have HD := Hd fun W => rDecimal_any n (by omega) W
  clear h hn
  cases sg
  all_goals
   go_enter Tryz.func191, Tryz.ntmps191
   go_wp2_with (go_at_call 214; refine (HD.out _).mono ?_; rintro e w' ⟨rfl, rfl⟩)
   go_ret
  ·exact ⟨ret_s hu.out, hb⟩
  ·exact ⟨ret_s hs.out, hb⟩
 ·have he := Hd (tn_no (sg := sg) h)
  by_cases h1 : 1 ≤ W
  all_goals
   go_enter Tryz.func191, Tryz.ntmps191
   go_wp2
   go_ret
   exact ⟨ret_s he.out.symm, hb⟩

theorem Blk.resR {P : Program} {fn : Func} {p : Tmp} {ty : TypeId} (hr : fn.results = #[.cell p ty]) {w : World} {g : Nat} {cs : List Value} {d : TypeDesc} (h : Blk w g ty cs)
  (hu : P.underlying ty = some d) (hd : (match d with | .struct _ | .array _ _ => true | _ => false) = true) (hi : (P.info? ty).map (·.size) = some cs.length)
  (tmps : Array Value) (hp : tmps.getD p undef = .pointer (some ⟨g, 0, none⟩)) :
  (results fn tmps).run P w = .ok (.agg cs.toArray) w :=
 results_cell_row hr tmps w g ty cs.toArray (0, 0) d hp h hu hd (by simpa using hi)
def NoName (l : List UInt8) (n k : Nat) : Prop := ∀ v a, 1 ≤ v → v ≤ 64 → (v < n ∨ (v = n ∧ (if a = true then 1 else 0) < k)) → nameOf v a ≠ l
theorem noName_none {l : List UInt8} (hb : l ≠ boolName) (h : NoName l 65 0) : typeOf l = (0, false) := by
 rcases typeOf_cases l with h1 | ⟨h1, _⟩ | ⟨w, a, hw, h1, _⟩
 ·exact h1
 ·exact absurd h1 hb
 ·exact absurd h1.symm (h w a hw.1 hw.2 (.inl (by omega)))
theorem noName_one {l : List UInt8} {n : Nat} (h : NoName l n 0) (h0 : nameOf n false ≠ l) : NoName l n 1 := by
 intro v a h1 h2 h3
 rcases h3 with h3 | ⟨rfl, h3⟩
 ·exact h v a h1 h2 (.inl h3)
 ·cases a
  ·exact h0
  ·simp at h3
theorem noName_two {l : List UInt8} {n : Nat} (h : NoName l n 1) (h0 : nameOf n true ≠ l) : NoName l n 2 := by
 intro v a h1 h2 h3
 rcases h3 with h3 | ⟨rfl, h3⟩
 ·exact h v a h1 h2 (.inl h3)
 ·cases a
  ·exact h v false h1 h2 (.inr ⟨rfl, by simp⟩)
  ·exact h0
theorem noName_next {l : List UInt8} {n : Nat} (h : NoName l n 2) : NoName l (n + 1) 0 := by
 intro v a h1 h2 h3
 rcases h3 with h3 | ⟨_, h3⟩
 ·by_cases hv : v = n
  ·subst hv; exact h v a h1 h2 (.inr ⟨rfl, by cases a <;> simp⟩)
  ·exact h v a h1 h2 (.inl (by omega))
 ·omega

set_option maxHeartbeats 2000000 in
set_option maxRecDepth 100000 in
theorem rType_any (l : List UInt8) (w : World) : Calls Tryz.prog 164 #[.string (str l)] w fun e w' => e = .returned (tyV l) ∧ Below w.heap.size w w' := by
 by_cases hbo : l = boolName
 ·have q1 : ((str l).toList == [98, 111, 111, 108]) = true := by rw [str_toList, hbo]; rfl
  have E : Hid (typeOf l = (1, false)) := by rw [hbo]; exact type_bool
  clear hbo
  go_enter Tryz.func164, Tryz.ntmps164
  go_wp2
  refine bodyPost_ret ((Blk.alloc w 24 [.int .i64 1, .bool false]).resR Tryz.results164 Tryz.underlying24 rfl (by kernel_rfl) _ rfl) rfl ?_
  exact ⟨by simp only [tyV, E.out]; rfl, (Below.refl w.heap.size w).alloc (Nat.le_refl _) _⟩
 ·have q1 : ((str l).toList == [98, 111, 111, 108]) = false := by rw [str_toList]; exact beq_eq_false_iff_ne.2 hbo
  have hb := (Below.refl w.heap.size w).alloc (Nat.le_refl _) (.cells #[.int .i64 0, .bool false] 24)
  have hK := Blk.alloc w 24 [.int .i64 0, .bool false]
  have h0 : Hid (NoName l 1 0 ∧ Blk (w.alloc (.cells #[.int .i64 0, .bool false] 24)) w.heap.size 24 [.int .i64 0, .bool false] ∧ Below w.heap.size w (w.alloc (.cells #[.int .i64 0, .bool false] 24))) := ⟨fun v a h1 h2 h3 => by rcases h3 with h3 | ⟨_, h3⟩ <;> omega, hK, hb⟩
  have HBO := Hd hbo
  have HN := Hd fun W sg (w : World) => rTypeName_any W sg w
  clear hb hK hbo
  go_enter Tryz.func164, Tryz.ntmps164
  go_wp2
  go_loopw [3] (fun i wr => ∃ n : Nat, 1 ≤ n ∧ n ≤ 65 ∧ i = .int .i64 (n : Int) ∧ Hid (NoName l n 0 ∧ Blk wr w.heap.size 24 [.int .i64 0, .bool false] ∧ Below w.heap.size w wr)) (fun i _ => 65 - (intOf i).toNat)
  case atStart => exact ⟨1, by omega, by omega, rfl, h0⟩
  case round =>
   clear h0
   obtain ⟨n, hn1, hn, rfl, hR⟩ := hrel
   obtain ⟨wo, rfl⟩ : ∃ wo : World, wo = wr := ⟨_, rfl⟩
   by_cases hlt : n ≤ 64
   ·have htn : ∀ a, tn (n : Int) a = str (nameOf n a) := fun a => tn_yes ⟨hn1, hlt⟩
    have HTN := Hd htn
    have HTY := Hd fun a => typeOf_name (w := n) (a := a) ⟨hn1, hlt⟩
    have hd : decide ((n : Int) ≤ 64) = true := decide_eq_true (by omega)
    have HLT := Hd hlt
    clear htn hlt
    go_wp2
    go_loopw [4] (fun i wr => ∃ k : Nat, k ≤ 2 ∧ i = .int .i64 (k : Int) ∧ Hid (NoName l n k ∧ Blk wr w.heap.size 24 [.int .i64 0, .bool false] ∧ Below w.heap.size w wr)) (fun i _ => 2 - (intOf i).toNat)
    case atStart => exact ⟨0, by omega, rfl, hR⟩
    case round =>
     clear hR
     obtain ⟨k, hk, rfl, hR⟩ := hrel
     rcases (show k = 0 ∨ k = 1 ∨ k = 2 by omega) with hk0 | hk0 | hk0
     ·have hkb : ((k : Int) == 1) = false := by rw [hk0]; rfl
      have hk2 : k < 2 := by omega
      have HKK := Hd hk0
      rw [hk0] at hR
      clear hk0
      have htn := HTN.out false
      obtain ⟨hN, hB, hbb⟩ := hR.out
      have hwl := hB.lt
      have HB := Hd hB
      have HNO := Hd hN
      clear hB hN hR
      have HT := Hd fun W => rTypeName_any (n : Int) false W
      rw [htn] at HT
      by_cases he : nameOf n false = l
      ·have hq : ((str (nameOf n false)).toList == (str l).toList) = true := by rw [str_eq, he]; simp
       have E : Hid (typeOf l = (n, false)) := by rw [← he]; exact HTY.out false
       clear he htn HTY HTN HNO
       generalize str (nameOf n false) = S at *
       go_wp2_with fail
       refine (HT.out _).mono ?_
       rintro e w2 ⟨rfl, hb2⟩
       have hsz1 : (wr.alloc (.cells #[.int .i64 (n : Int), .bool false] 24)).heap.size = wr.heap.size + 1 := by simp
       rw [hsz1] at hb2
       have hB2 := (HB.out.alloc_other (.cells #[.int .i64 (n : Int), .bool false] 24)).below hb2 (by omega)
       have hT2 := (Blk.alloc wr 24 [.int .i64 (n : Int), .bool false]).below hb2 (by omega)
       have hbb2 := (hbb.alloc (by omega) (.cells #[.int .i64 (n : Int), .bool false] 24)).trans (hb2.mono (by omega))
       have c0 := hB2.cell 0
       have c1 := hB2.cell 1
       have f0 := hB2.frozen 0
       have f1 := hB2.frozen 1
       have d0 := hT2.cell 0
       have d1 := hT2.cell 1
       have HB := Hd hB2
       clear hb2 hB2 hT2 hsz1
       go_wp2
       refine bodyPost_ret (((HB.out.set 0 _).set 1 _).resR Tryz.results164 Tryz.underlying24 rfl (by kernel_rfl) _ rfl) rfl ?_
       exact ⟨by simp only [tyV, E.out]; rfl, (hbb2.setCell (p := ⟨w.heap.size, 0, none⟩) (Nat.le_refl _) _).setCell (p := ⟨w.heap.size, 1, none⟩) (Nat.le_refl _) _⟩
      ·have hq : ((str (nameOf n false)).toList == (str l).toList) = false := by rw [str_eq]; exact decide_eq_false fun h => he (str_inj h)
       have HN2 := Hd (noName_one HNO.out he)
       clear he htn HTY HTN HNO
       generalize str (nameOf n false) = S at *
       go_wp2_with fail
       refine (HT.out _).mono ?_
       rintro e w2 ⟨rfl, hb2⟩
       have hsz1 : (wr.alloc (.cells #[.int .i64 (n : Int), .bool false] 24)).heap.size = wr.heap.size + 1 := by simp
       rw [hsz1] at hb2
       have hB2 := (HB.out.alloc_other (.cells #[.int .i64 (n : Int), .bool false] 24)).below hb2 (by omega)
       have hbb2 := (hbb.alloc (by omega) (.cells #[.int .i64 (n : Int), .bool false] 24)).trans (hb2.mono (by omega))
       have hR2 : Hid (NoName l n 1 ∧ Blk w2 w.heap.size 24 [.int .i64 0, .bool false] ∧ Below w.heap.size w w2) := ⟨HN2.out, hB2, hbb2⟩
       clear hb2 hB2 hsz1 hbb2
       go_wp2
       go_roundw
       case rel => exact ⟨k + 1, by omega, by go_num, by rw [HKK.out]; exact hR2⟩
       case measure => simp [intOf]; omega
     ·have hkb : ((k : Int) == 1) = true := by rw [hk0]; rfl
      have hk2 : k < 2 := by omega
      have HKK := Hd hk0
      rw [hk0] at hR
      clear hk0
      have htn := HTN.out true
      obtain ⟨hN, hB, hbb⟩ := hR.out
      have hwl := hB.lt
      have HB := Hd hB
      have HNO := Hd hN
      clear hB hN hR
      have HT := Hd fun W => rTypeName_any (n : Int) true W
      rw [htn] at HT
      by_cases he : nameOf n true = l
      ·have hq : ((str (nameOf n true)).toList == (str l).toList) = true := by rw [str_eq, he]; simp
       have E : Hid (typeOf l = (n, true)) := by rw [← he]; exact HTY.out true
       clear he htn HTY HTN HNO
       generalize str (nameOf n true) = S at *
       go_wp2_with fail
       refine (HT.out _).mono ?_
       rintro e w2 ⟨rfl, hb2⟩
       have hsz1 : (wr.alloc (.cells #[.int .i64 (n : Int), .bool true] 24)).heap.size = wr.heap.size + 1 := by simp
       rw [hsz1] at hb2
       have hB2 := (HB.out.alloc_other (.cells #[.int .i64 (n : Int), .bool true] 24)).below hb2 (by omega)
       have hT2 := (Blk.alloc wr 24 [.int .i64 (n : Int), .bool true]).below hb2 (by omega)
       have hbb2 := (hbb.alloc (by omega) (.cells #[.int .i64 (n : Int), .bool true] 24)).trans (hb2.mono (by omega))
       have c0 := hB2.cell 0
       have c1 := hB2.cell 1
       have f0 := hB2.frozen 0
       have f1 := hB2.frozen 1
       have d0 := hT2.cell 0
       have d1 := hT2.cell 1
       have HB := Hd hB2
       clear hb2 hB2 hT2 hsz1
       go_wp2
       refine bodyPost_ret (((HB.out.set 0 _).set 1 _).resR Tryz.results164 Tryz.underlying24 rfl (by kernel_rfl) _ rfl) rfl ?_
       exact ⟨by simp only [tyV, E.out]; rfl, (hbb2.setCell (p := ⟨w.heap.size, 0, none⟩) (Nat.le_refl _) _).setCell (p := ⟨w.heap.size, 1, none⟩) (Nat.le_refl _) _⟩
      ·have hq : ((str (nameOf n true)).toList == (str l).toList) = false := by rw [str_eq]; exact decide_eq_false fun h => he (str_inj h)
       have HN2 := Hd (noName_two HNO.out he)
       clear he htn HTY HTN HNO
       generalize str (nameOf n true) = S at *
       go_wp2_with fail
       refine (HT.out _).mono ?_
       rintro e w2 ⟨rfl, hb2⟩
       have hsz1 : (wr.alloc (.cells #[.int .i64 (n : Int), .bool true] 24)).heap.size = wr.heap.size + 1 := by simp
       rw [hsz1] at hb2
       have hB2 := (HB.out.alloc_other (.cells #[.int .i64 (n : Int), .bool true] 24)).below hb2 (by omega)
       have hbb2 := (hbb.alloc (by omega) (.cells #[.int .i64 (n : Int), .bool true] 24)).trans (hb2.mono (by omega))
       have hR2 : Hid (NoName l n 2 ∧ Blk w2 w.heap.size 24 [.int .i64 0, .bool false] ∧ Below w.heap.size w w2) := ⟨HN2.out, hB2, hbb2⟩
       clear hb2 hB2 hsz1 hbb2
       go_wp2
       go_roundw
       case rel => exact ⟨k + 1, by omega, by go_num, by rw [HKK.out]; exact hR2⟩
       case measure => simp [intOf]; omega
     ·have hR2 : Hid (NoName l (n + 1) 0 ∧ Blk wr w.heap.size 24 [.int .i64 0, .bool false] ∧ Below w.heap.size w wr) := ⟨noName_next (by rw [← hk0]; exact hR.out.1), hR.out.2⟩
      have hk2 : ¬ k < 2 := by omega
      clear hR hk0
      go_wp2
      go_roundw
      case rel => exact ⟨n + 1, by omega, by have := HLT.out; omega, by go_num, hR2⟩
      case measure => have := HLT.out; simp [intOf]; omega
   ·obtain rfl : n = 65 := by omega
    obtain ⟨hN, hB, hbb⟩ := hR.out
    have E := Hd (noName_none HBO.out hN)
    have c0 := hB.cell 0
    have c1 := hB.cell 1
    have f0 := hB.frozen 0
    have f1 := hB.frozen 1
    have HB := Hd hB
    clear hN hB hR
    go_wp2
    refine bodyPost_ret (((HB.out.set 0 _).set 1 _).resR Tryz.results164 Tryz.underlying24 rfl (by kernel_rfl) _ rfl) rfl ?_
    exact ⟨by simp only [tyV, E.out]; rfl, (hbb.setCell (p := ⟨w.heap.size, 0, none⟩) (Nat.le_refl _) _).setCell (p := ⟨w.heap.size, 1, none⟩) (Nat.le_refl _) _⟩

theorem fldW (x : Nat) (y : Bool) (W : World) : Sem.run Tryz.prog (Instr.field 24 (Value.agg #[Value.int IntKind.i64 (x : Int), Value.bool y]) 0) W = Result.ok (Value.int IntKind.i64 (x : Int)) W := by kernel_rfl
set_option maxHeartbeats 1000000 in
set_option maxRecDepth 100000 in
theorem rKeyword_any (l : List UInt8) (w : World) : Calls Tryz.prog 128 #[.string (str l)] w fun e w' => e = .returned (.bool (isKey l)) ∧ Below w.heap.size w w' := by
 have HK := Hd fun W => rKeywords_any W
 have HO := Hd fun (W : World) g h => rOne_any keywords g 19 9 l W rfl (by omega) h
 have HT := Hd fun W => rType_any l W
 have hik : isKey l = (keywords.contains l || decide (0 < (typeOf l).1)) := rfl
 rw [hik]
 unfold tyV at HT
 clear hik
 generalize (typeOf l).2 = y at *
 generalize (typeOf l).1 = x at *
 cases hc : keywords.contains l
 all_goals first | rw [Bool.true_or] | rw [Bool.false_or]
 all_goals
  rw [hc] at HO
  go_enter Tryz.func128, Tryz.ntmps128
  go_wp2_with fail
  refine (HK.out _).mono ?_
  rintro e w1 ⟨rfl, hB, hb⟩
  have HO1 := Hd (HO.out w1 _ hB)
  clear HO HK hB
  go_wp2_with fail
  refine HO1.out.mono ?_
  rintro e w' ⟨rfl, rfl⟩
 ·go_wp2_with fail
  refine (HT.out _).mono ?_
  rintro e w2 ⟨rfl, hb2⟩
  have hbb := hb.trans (hb2.mono hb.size)
  have hfw := fldW x y w2
  clear hb2
  go_wp2
  go_ret
  exact ⟨by simp, hbb⟩
 ·go_wp2
  go_ret
  exact ⟨by simp, hb⟩
end Go.Proofs.YthdbaligapdbeaaGreatDoor
/- The tokens of a source, one behind the other. -/
namespace Go.Proofs.YthdbaligapdbeaaGreatDoor
open Go

def Chain (l : List UInt8) : Nat → Nat → List Tok → Prop
 | d, _, [] => l.length ≤ d + skipM false (l.drop d)
 | d, line, t :: ts => ¬ l.length ≤ d + skipM false (l.drop d) ∧ tokErr (l.drop (d + skipM false (l.drop d))) = 0 ∧ t = tokAt l (d + skipM false (l.drop d)) (line + lineFeeds ((l.drop d).take (skipM false (l.drop d)))) ∧
   Chain l (d + skipM false (l.drop d) + tokLen (l.drop (d + skipM false (l.drop d)))) (line + lineFeeds ((l.drop d).take (skipM false (l.drop d)))) ts
theorem lexR_chain (l : List UInt8) : ∀ (f d line : Nat) (acc : List Tok), l.length < f + d →
  ((lexR l f d line acc).2.2 = 0 ∧ ∃ ts, (lexR l f d line acc).1 = acc ++ ts ∧ (lexR l f d line acc).2.1 = l.length ∧ Chain l d line ts) ∨ ((lexR l f d line acc).2.2 ≠ 0 ∧ (lexR l f d line acc).1 = [] ∧ (lexR l f d line acc).2.1 ≤ l.length) := by
 intro f
 induction f with
 | zero =>
  intro d line acc h
  left
  rw [lexR]
  exact ⟨rfl, [], by simp, rfl, by unfold Chain; omega⟩
 | succ f ih =>
  intro d line acc h
  by_cases hend : l.length ≤ d + skipM false (l.drop d)
  ·left
   rw [lexR_end (by omega) hend]
   exact ⟨rfl, [], by simp, rfl, by unfold Chain; exact hend⟩
  ·by_cases he : tokErr (l.drop (d + skipM false (l.drop d))) = 0
   ·rw [lexR_tok hend he]
    have hp := tokLen_pos he
    rcases ih _ (line + lineFeeds ((l.drop d).take (skipM false (l.drop d)))) (acc ++ [tokAt l (d + skipM false (l.drop d)) (line + lineFeeds ((l.drop d).take (skipM false (l.drop d))))]) (show l.length < f + (d + skipM false (l.drop d) + tokLen (l.drop (d + skipM false (l.drop d)))) by omega) with ⟨h1, ts, h2, h3, h4⟩ | h
    ·left
     refine ⟨h1, tokAt l (d + skipM false (l.drop d)) (line + lineFeeds ((l.drop d).take (skipM false (l.drop d)))) :: ts, ?_, h3, ?_⟩
     ·rw [h2, List.append_assoc]; rfl
     ·unfold Chain; exact ⟨hend, he, rfl, h4⟩
    ·exact .inr h
   ·right
    rw [lexR_err (by omega) hend he]
    exact ⟨he, rfl, by show d + skipM false (l.drop d) ≤ l.length; omega⟩
theorem lexAll_cases (l : List UInt8) : ((lexAll l).2.2 = 0 ∧ (lexAll l).2.1 = l.length ∧ l.length ≤ 65536 ∧ Chain l 0 1 (lexAll l).1) ∨ ((lexAll l).2.2 ≠ 0 ∧ (lexAll l).1 = [] ∧ (l.length ≤ 65536 → (lexAll l).2.1 ≤ l.length)) := by
 unfold lexAll
 by_cases h : 65536 < l.length
 ·rw [if_pos h]
  exact .inr ⟨by simp, rfl, fun h2 => by omega⟩
 ·rw [if_neg h]
  rcases lexR_chain l (l.length + 1) 0 1 [] (by omega) with ⟨h1, ts, h2, h3, h4⟩ | ⟨h1, h2, h3⟩
  ·rw [List.nil_append] at h2
   exact .inl ⟨h1, h3, by omega, by rw [h2]; exact h4⟩
  ·exact .inr ⟨h1, h2, fun _ => h3⟩
theorem Chain.step {l : List UInt8} {d line : Nat} {t : Tok} {ts : List Tok} (h : Chain l d line (t :: ts)) :
  t.pos = d + skipM false (l.drop d) ∧ t.pos < l.length ∧ 0 < tokLen (l.drop t.pos) ∧ t.pos + tokLen (l.drop t.pos) ≤ l.length ∧ t.text = (l.drop t.pos).take (tokLen (l.drop t.pos)) ∧ t.text.length = tokLen (l.drop t.pos) ∧
  t.line = line + lineFeeds ((l.drop d).take (t.pos - d)) ∧ tokErr (l.drop t.pos) = 0 ∧ t.kind = tokKind (l.drop t.pos) ∧ t.num = tokNum (l.drop t.pos) ∧ Chain l (t.pos + tokLen (l.drop t.pos)) t.line ts := by
 unfold Chain at h
 obtain ⟨h1, h2, h3, h4⟩ := h
 obtain ⟨k, hk⟩ : ∃ k, k = skipM false (l.drop d) := ⟨_, rfl⟩
 rw [← hk] at h1 h2 h3 h4 ⊢
 obtain ⟨a, ha⟩ : ∃ a, a = d + k := ⟨_, rfl⟩
 rw [← ha] at h1 h2 h3 h4 ⊢
 have hkd : k = a - d := by omega
 rw [hkd] at h3 h4
 have hp := tokLen_pos h2
 have hl := tokLen_le (l.drop a)
 rw [List.length_drop] at hl
 have e1 : t.pos = a := by rw [h3]; rfl
 have e2 : t.text = (l.drop a).take (tokLen (l.drop a)) := by rw [h3]; rfl
 have e3 : t.line = line + lineFeeds ((l.drop d).take (a - d)) := by rw [h3]; rfl
 have e4 : t.kind = tokKind (l.drop a) := by rw [h3]; rfl
 have e5 : t.num = tokNum (l.drop a) := by rw [h3]; rfl
 rw [e1]
 refine ⟨rfl, by omega, hp, by omega, e2, ?_, e3, h2, e4, e5, by rw [e3]; exact h4⟩
 rw [e2, List.length_take, List.length_drop]
 omega
theorem Chain.len {l : List UInt8} : ∀ (ts : List Tok) (d line : Nat), d ≤ l.length → Chain l d line ts → d + ts.length ≤ l.length := by
 intro ts
 induction ts with
 | nil => intro d line h _; simpa using h
 | cons t ts ih =>
  intro d line h hc
  obtain ⟨e1, e2, e3, e4, _, _, _, _, _, _, e11⟩ := hc.step
  have := ih _ _ e4 e11
  rw [List.length_cons]
  omega
theorem lf_step {l : List UInt8} {j a : Nat} {c : UInt8} (h : l[j]? = some c) (hj : j < a) : lineFeeds ((l.drop j).take (a - j)) = (if c.toNat = 10 then 1 else 0) + lineFeeds ((l.drop (j + 1)).take (a - (j + 1))) := by
 obtain ⟨hi, hv⟩ := List.getElem?_eq_some_iff.1 h
 have e : a - j = (a - (j + 1)) + 1 := by omega
 rw [List.drop_eq_getElem_cons hi, hv, e, List.take_succ_cons]
 unfold lineFeeds
 rw [List.count_cons]
 by_cases hc : c.toNat = 10
 ·have : c = 10 := UInt8.toNat_inj.1 hc
  subst this
  simp
  omega
 ·have : ¬ c = 10 := fun h => hc (by rw [h]; rfl)
  rw [if_neg hc]
  simp [this]
end Go.Proofs.YthdbaligapdbeaaGreatDoor
