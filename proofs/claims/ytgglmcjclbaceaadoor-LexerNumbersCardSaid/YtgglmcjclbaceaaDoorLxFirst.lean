/- The first token: contract of the code. -/
import Derived.Test.YtgglmcjclbaceaaDoorLxNum
namespace Go.Proofs.YtgglmcjclbaceaaDoor
open Go Go.RowKit
set_option linter.unusedVariables false

theorem tkRet_form (e k n : Nat) (t : List UInt8) : ∃ (K : Int) (T : ByteArray) (N : Int), tkRet e k t n = .tuple #[.agg #[.int .i64 K, .string T, .int .u64 N, .int .i64 0, .int .i64 0], .int .i64 (e : Int)] := by
  unfold tkRet
  by_cases h : e = 0
  · rw [if_pos h]; exact ⟨_, _, _, rfl⟩
  · rw [if_neg h]; exact ⟨_, _, _, rfl⟩
theorem run_takeWhile (l : List UInt8) : l.takeWhile ([48, 49, 50, 51, 52, 53, 54, 55, 56, 57, 95, 97, 98, 99, 100, 101, 102, 103, 104, 105, 106, 107, 108, 109, 110, 111, 112, 113, 114, 115, 116, 117, 118, 119, 120, 121, 122, 65, 66, 67, 68, 69, 70, 71, 72, 73, 74, 75, 76, 77, 78, 79, 80, 81, 82, 83, 84, 85, 86, 87, 88, 89, 90].contains ·) = run l := by
  unfold run
  have h : wordSet = [48, 49, 50, 51, 52, 53, 54, 55, 56, 57, 95, 97, 98, 99, 100, 101, 102, 103, 104, 105, 106, 107, 108, 109, 110, 111, 112, 113, 114, 115, 116, 117, 118, 119, 120, 121, 122, 65, 66, 67, 68, 69, 70, 71, 72, 73, 74, 75, 76, 77, 78, 79, 80, 81, 82, 83, 84, 85, 86, 87, 88, 89, 90] := by decide +kernel
  rw [← h]
  congr 1
  exact funext wordSet_is
theorem head_dec (r : List UInt8) : ((str (r.takeWhile ([48, 49, 50, 51, 52, 53, 54, 55, 56, 57].contains ·))).toList.isEmpty) = !(r.head?.any isDec) := by
  rw [str_toList]
  cases r with
  | nil => rfl
  | cons c r =>
    have h : ([48, 49, 50, 51, 52, 53, 54, 55, 56, 57] : List UInt8).contains c = isDec c := (decSet_is c).trans (isDec_dig c).symm
    rw [List.takeWhile_cons, h]
    cases hc : isDec c <;> simp [hc]
theorem number_any (l : List UInt8) (hs : l.length ≤ 281474976710656) (hne : l ≠ []) (w : World) (V : Vs w) : Calls Tryd.prog 51 #[.string (str l)] w fun e w' =>
    e = .returned (tkRet (numErr l) 3 l (numVal (baseOf l) (digs l))) ∧ Below w.heap.size w w' := by
  cases h16 : [48, 120].isPrefixOf l with
  | true => exact number16_any l hs h16 w V
  | false =>
    cases h2 : [48, 98].isPrefixOf l with
    | true => exact number2_any l hs h16 h2 w V
    | false => exact number10_any l hs h16 h2 hne w V
theorem run_nil_first {l : List UInt8} (h : run l = []) : tokErr l = (if punctLen l = 0 then 4 else 0) ∧ tokKind l = 4 ∧ l.take (tokLen l) = l.take (punctLen l) ∧ tokNum l = 0 := by
  refine ⟨by unfold tokErr; rw [if_pos h], by unfold tokKind; rw [if_pos h], by unfold tokLen; rw [if_pos h], ?_⟩
  unfold tokNum
  rw [if_neg (by simp [h])]
theorem run_dec_first {l : List UInt8} (h : run l ≠ []) (hd : (run l).head?.any isDec = true) : tokErr l = numErr (run l) ∧ tokKind l = 3 ∧ l.take (tokLen l) = run l ∧ tokNum l = numVal (baseOf (run l)) (digs (run l)) := by
  refine ⟨by unfold tokErr; rw [if_neg h, if_pos hd], by unfold tokKind; rw [if_neg h, if_pos hd], by unfold tokLen; rw [if_neg h]; exact (run_eq_take l).symm, ?_⟩
  unfold tokNum
  rw [if_pos ⟨h, hd⟩]
theorem run_word_first {l : List UInt8} (h : run l ≠ []) (hd : (run l).head?.any isDec = false) : tokErr l = (if 64 < (run l).length then 5 else 0) ∧ tokKind l = (if isKey (run l) = true then 2 else 1) ∧ l.take (tokLen l) = run l ∧ tokNum l = 0 := by
  refine ⟨by unfold tokErr; rw [if_neg h, hd]; rfl, by unfold tokKind; rw [if_neg h, hd]; rfl, by unfold tokLen; rw [if_neg h]; exact (run_eq_take l).symm, ?_⟩
  unfold tokNum
  rw [if_neg (by simp [hd])]

set_option maxHeartbeats 4000000 in
set_option maxRecDepth 100000 in
theorem first_any (l : List UInt8) (hs : l.length ≤ 1000000) (hne : l ≠ []) (w : World) (V : Vs w) : Calls Tryd.prog 30 #[.string (str l)] w fun e w' =>
    e = .returned (tkRet (tokErr l) (tokKind l) (l.take (tokLen l)) (tokNum l)) ∧ Below w.heap.size w w' := by
  have hK := Blk.alloc w 29 tkZero
  have hb := (Below.refl w.heap.size w).alloc (Nat.le_refl _) (.cells tkZero.toArray 29)
  have hw : (w.alloc (.cells tkZero.toArray 29)).heap.size = w.heap.size + 1 := by simp
  have HL := Lib.hid fun W => leadSet_any [48, 49, 50, 51, 52, 53, 54, 55, 56, 57, 95, 97, 98, 99, 100, 101, 102, 103, 104, 105, 106, 107, 108, 109, 110, 111, 112, 113, 114, 115, 116, 117, 118, 119, 120, 121, 122, 65, 66, 67, 68, 69, 70, 71, 72, 73, 74, 75, 76, 77, 78, 79, 80, 81, 82, 83, 84, 85, 86, 87, 88, 89, 90] l (by decide +kernel) (by decide +kernel) (by omega) W
  rw [run_takeWhile] at HL
  have HW := Lib.hid hw
  have HB := Lib.hid hb
  have HK := Lib.hid hK
  have HV := Lib.hid V
  have hrl := run_le l
  clear hK hb hw V
  by_cases hr : run l = []
  · obtain ⟨e1, e2, e3, e4⟩ := run_nil_first hr
    rw [e1, e2, e3, e4]
    rw [hr] at HL
    obtain ⟨c, r, rfl⟩ : ∃ c r, l = c :: r := by
      cases l with
      | nil => exact absurd rfl hne
      | cons c r => exact ⟨c, r, rfl⟩
    have HP := Lib.hid fun W => punct_any c r (by rw [List.length_cons] at hs; omega) W
    obtain ⟨K, T, N, hf⟩ := tkRet_form (if punctLen (c :: r) = 0 then 4 else 0) 4 0 ((c :: r).take (punctLen (c :: r)))
    rw [hf] at HP ⊢
    have q0 : (str []).toList.isEmpty = true := by rw [str_toList]; rfl
    clear e1 e2 e3 e4 hf hr hne hrl
    generalize hE : (if punctLen (c :: r) = 0 then 4 else 0) = E at *
    clear hE
    go_enter Tryd.func30, Tryd.ntmps30
    go_wp2_with fail
    refine (HL.out _).mono ?_
    rintro e w1 ⟨rfl, hb1⟩
    have hb1' : Below (w.heap.size + 1) (w.alloc (.cells tkZero.toArray 29)) w1 := by rw [← HW.out]; exact hb1
    have hK1 := HK.out.below hb1' (by omega)
    have hbb := HB.out.trans (hb1'.mono (by omega))
    have HK1 := Lib.hid hK1
    have HBB := Lib.hid hbb
    have hlt := hK1.lt
    clear hb1 hb1' hK1 hbb HV HL
    go_wp2_with fail
    refine (HP.out _).mono ?_
    rintro e w2 ⟨rfl, hb2⟩
    have hK2 := HK1.out.below hb2 hlt
    have HBB2 := Lib.hid (HBB.out.trans (hb2.mono (by omega)))
    obtain ⟨c0, c1, c2, c3, c4, f0, f1, f2, f3, f4⟩ := hK2.z5
    have HK2 := Lib.hid hK2
    clear hK2 hb2
    go_wp2
    refine bodyPost_ret ((HK2.out.put5 rfl _ _ _ _ _).res Tryd.results30 Tryd.underlying29 rfl infoTok _ rfl) rfl ?_
    exact ⟨rfl, below_put5 HBB2.out (Nat.le_refl _) _ _ _ _ _⟩
  · have q0 : (str (run l)).toList.isEmpty = false := by rw [str_toList]; cases h : run l with | nil => exact absurd h hr | cons _ _ => rfl
    have HD := Lib.hid fun W => leadSet_any [48, 49, 50, 51, 52, 53, 54, 55, 56, 57] (run l) (by decide) (by decide) (by omega) W
    have q1 := head_dec (run l)
    cases hd : (run l).head?.any isDec with
    | true =>
      obtain ⟨e1, e2, e3, e4⟩ := run_dec_first hr hd
      rw [e1, e2, e3, e4]
      rw [hd] at q1
      have HP := Lib.hid fun W V => number_any (run l) (by omega) hr W V
      obtain ⟨K, T, N, hf⟩ := tkRet_form (numErr (run l)) 3 (numVal (baseOf (run l)) (digs (run l))) (run l)
      rw [hf] at HP ⊢
      clear e1 e2 e3 e4 hf hr hne hrl hd
      generalize numErr (run l) = E at *
      generalize (run l).takeWhile ([48, 49, 50, 51, 52, 53, 54, 55, 56, 57].contains ·) = TW at *
      generalize run l = R at *
      go_enter Tryd.func30, Tryd.ntmps30
      go_wp2_with fail
      refine (HL.out _).mono ?_
      rintro e w1 ⟨rfl, hb1⟩
      have hb1' : Below (w.heap.size + 1) (w.alloc (.cells tkZero.toArray 29)) w1 := by rw [← HW.out]; exact hb1
      have hK1 := HK.out.below hb1' (by omega)
      have hbb := HB.out.trans (hb1'.mono (by omega))
      have HK1 := Lib.hid hK1
      have HBB := Lib.hid hbb
      have hlt := hK1.lt
      clear hb1 hb1' hK1 hbb HL
      go_wp2_with fail
      refine (HD.out _).mono ?_
      rintro e w2 ⟨rfl, hb2⟩
      have HK2 := Lib.hid (HK1.out.below hb2 hlt)
      have HBB2 := Lib.hid (HBB.out.trans (hb2.mono (by omega)))
      have hlt2 := HK2.out.lt
      clear hb2
      go_wp2_with fail
      refine (HP.out _ (HV.out.below HBB2.out)).mono ?_
      rintro e w3 ⟨rfl, hb3⟩
      have hK3 := HK2.out.below hb3 hlt2
      have HBB3 := Lib.hid (HBB2.out.trans (hb3.mono (by omega)))
      obtain ⟨c0, c1, c2, c3, c4, f0, f1, f2, f3, f4⟩ := hK3.z5
      have HK3 := Lib.hid hK3
      clear hK3 hb3
      go_wp2
      refine bodyPost_ret ((HK3.out.put5 rfl _ _ _ _ _).res Tryd.results30 Tryd.underlying29 rfl infoTok _ rfl) rfl ?_
      exact ⟨rfl, below_put5 HBB3.out (Nat.le_refl _) _ _ _ _ _⟩
    | false =>
      obtain ⟨e1, e2, e3, e4⟩ := run_word_first hr hd
      rw [e1, e2, e3, e4]
      rw [hd] at q1
      have HP := Lib.hid fun W V => word_any (run l) (by omega) W V
      obtain ⟨K, T, N, hf⟩ := tkRet_form (if 64 < (run l).length then 5 else 0) (if isKey (run l) = true then 2 else 1) 0 (run l)
      rw [hf] at HP ⊢
      clear e1 e2 e3 e4 hf hr hne hrl hd
      generalize (if 64 < (run l).length then 5 else 0) = E at *
      generalize (run l).takeWhile ([48, 49, 50, 51, 52, 53, 54, 55, 56, 57].contains ·) = TW at *
      generalize run l = R at *
      go_enter Tryd.func30, Tryd.ntmps30
      go_wp2_with fail
      refine (HL.out _).mono ?_
      rintro e w1 ⟨rfl, hb1⟩
      have hb1' : Below (w.heap.size + 1) (w.alloc (.cells tkZero.toArray 29)) w1 := by rw [← HW.out]; exact hb1
      have hK1 := HK.out.below hb1' (by omega)
      have hbb := HB.out.trans (hb1'.mono (by omega))
      have HK1 := Lib.hid hK1
      have HBB := Lib.hid hbb
      have hlt := hK1.lt
      clear hb1 hb1' hK1 hbb HL
      go_wp2_with fail
      refine (HD.out _).mono ?_
      rintro e w2 ⟨rfl, hb2⟩
      have HK2 := Lib.hid (HK1.out.below hb2 hlt)
      have HBB2 := Lib.hid (HBB.out.trans (hb2.mono (by omega)))
      have hlt2 := HK2.out.lt
      clear hb2
      go_wp2_with fail
      refine (HP.out _ (HV.out.below HBB2.out)).mono ?_
      rintro e w3 ⟨rfl, hb3⟩
      have hK3 := HK2.out.below hb3 hlt2
      have HBB3 := Lib.hid (HBB2.out.trans (hb3.mono (by omega)))
      obtain ⟨c0, c1, c2, c3, c4, f0, f1, f2, f3, f4⟩ := hK3.z5
      have HK3 := Lib.hid hK3
      clear hK3 hb3
      go_wp2
      refine bodyPost_ret ((HK3.out.put5 rfl _ _ _ _ _).res Tryd.results30 Tryd.underlying29 rfl infoTok _ rfl) rfl ?_
      exact ⟨rfl, below_put5 HBB3.out (Nat.le_refl _) _ _ _ _ _⟩
end Go.Proofs.YtgglmcjclbaceaaDoor
