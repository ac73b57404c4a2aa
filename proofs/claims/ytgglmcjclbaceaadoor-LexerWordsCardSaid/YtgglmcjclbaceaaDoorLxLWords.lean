/- The law on words: the walk. -/
import Derived.Test.YtgglmcjclbaceaaDoorLxWd
import Derived.Test.YtgglmcjclbaceaaDoorLxAwake
import Derived.Test.YtgglmcjclbaceaaDoorLxRef4
namespace Go.Proofs.YtgglmcjclbaceaaDoor
open Go Go.RowKit
set_option linter.unusedVariables false

/-- The first k bytes are those of a word. -/
def WordTo (l : List UInt8) (k : Nat) : Prop := ∀ j (h : j < l.length), j < k → inW l[j] = true ∧ (j = 0 → isLetter l[j] = true)
theorem wordTo_all {l : List UInt8} (h : WordTo l l.length) (h0 : 0 < l.length) : IsWord l := by
  refine ⟨fun b hb => ?_, ?_⟩
  · obtain ⟨j, hj, rfl⟩ := List.mem_iff_getElem.1 hb
    exact (h j hj hj).1
  · cases l with
    | nil => simp at h0
    | cons c r => exact ⟨c, r, rfl, (h 0 (by simp) (by simp)).2 rfl⟩
theorem wordTo_next {l : List UInt8} {k : Nat} (h : WordTo l k) (hk : k < l.length) (h1 : inW l[k] = true) (h2 : k = 0 → isLetter l[k] = true) : WordTo l (k + 1) := by
  intro j hj hjk
  by_cases e : j = k
  · subst e; exact ⟨h1, h2⟩
  · exact h j hj (by omega)

set_option maxHeartbeats 4000000 in
set_option maxRecDepth 100000 in
theorem words_main (l : List UInt8) (h0 : 0 < l.length) (h100 : l.length ≤ 100) (w : World) (V : Vs w) : Calls Tryd.prog 9 #[.string (str l)] w fun e w' => e = .returned (.bool true) ∧ Below w.heap.size w w' := by
  have hsz : (str l).size = l.length := str_size l
  have HA := Lib.hid fun W V => awake_any W V
  have HX := Lib.hid fun W V => lex_any (32 :: (l ++ [32])) (by simp; omega) W V
  have HK := Lib.hid fun W => rKeyword_any l W
  have HV := Lib.hid V
  have hcat : (⟨#[32]⟩ : ByteArray) ++ str l ++ ⟨#[32]⟩ = str (32 :: (l ++ [32])) := by
    have e : (⟨#[32]⟩ : ByteArray) = str [32] := rfl
    rw [e, str_append, str_append]
    rfl
  have hcs : ((⟨#[32]⟩ : ByteArray) ++ str l).size = l.length + 1 := by
    have e : (⟨#[32]⟩ : ByteArray) = str [32] := rfl
    rw [e, str_append, str_size]
    simp
  clear V
  go_enter Tryd.func9, Tryd.ntmps9
  go_wp2_with fail
  refine (HA.out _ HV.out).mono ?_
  rintro e w1 ⟨rfl, hb1⟩
  have hT0 : Hid (WordTo l 0) := fun j _ h => by omega
  have HB1 := Lib.hid hb1
  have hz : ((l.length : Int) == 0) = false := beq_eq_false_iff_ne.2 (by omega)
  have hz2 : decide (100 < (l.length : Int)) = false := decide_eq_false (by omega)
  clear hb1 HA
  go_wp2
  go_loop [3] (fun i => ∃ k : Nat, k ≤ l.length ∧ i = .int .i64 (k : Int) ∧ Hid (WordTo l k)) (fun i => l.length - (intOf i).toNat)
  case atStart => exact ⟨0, by omega, rfl, hT0⟩
  case round =>
    clear hT0
    obtain ⟨k, hk, rfl, hT⟩ := hrel
    by_cases hlt : k < l.length
    · obtain ⟨c, hcc⟩ : ∃ c, c = l[k] := ⟨_, rfl⟩
      have hat : ∀ h : k < (str l).size, (str l)[k]'h = c := fun _ => hcc.symm
      have HCC := Lib.hid hcc
      clear hcc
      have HL := Lib.hid fun W => rLetter_any c W
      have HD := Lib.hid fun W => rDigit_any c 10 (by omega) W
      cases hle : isLetter c with
      | true =>
        have hN : Hid (WordTo l (k + 1)) := by
          have := letter_facts c hle
          rw [HCC.out] at this hle
          exact wordTo_next hT.out hlt this.2.2.1 (fun _ => hle)
        rw [hle] at HL
        go_wp2_with (go_at_call 25; refine (HL.out _).mono ?_; rintro e w' ⟨rfl, rfl⟩)
        go_round
        case rel => exact ⟨k + 1, by omega, by go_num, hN⟩
        case measure => simp [intOf]; omega
      | false =>
        rw [hle] at HL
        by_cases hk0 : k = 0
        · have hkb : ((k : Int) == 0) = true := by rw [hk0]; rfl
          clear hk0 HCC
          go_wp2_with (go_at_call 25; refine (HL.out _).mono ?_; rintro e w' ⟨rfl, rfl⟩)
          go_ret
          exact ⟨rfl, HB1.out⟩
        · have hkb : ((k : Int) == 0) = false := beq_eq_false_iff_ne.2 (by omega)
          by_cases hd : dv c < 10
          · have hrd : 0 ≤ rd 10 c := by unfold rd; rw [if_pos hd]; omega
            have hN : Hid (WordTo l (k + 1)) := by
              have hdd : inW c = true := by unfold inW; rw [isDec_dig]; simp [isDig, hd]
              rw [HCC.out] at hdd
              exact wordTo_next hT.out hlt hdd (fun h => absurd h hk0)
            clear hk0 HCC hd
            go_wp2_with (first | (go_at_call 25; refine (HL.out _).mono ?_; rintro e w' ⟨rfl, rfl⟩) | (go_at_call 26; refine (HD.out _).mono ?_; rintro e w' ⟨rfl, rfl⟩))
            go_round
            case rel => exact ⟨k + 1, by omega, by go_num, hN⟩
            case measure => simp [intOf]; omega
          · have hrd : rd 10 c < 0 := by unfold rd; rw [if_neg hd]; omega
            clear hk0 HCC hd
            go_wp2_with (first | (go_at_call 25; refine (HL.out _).mono ?_; rintro e w' ⟨rfl, rfl⟩) | (go_at_call 26; refine (HD.out _).mono ?_; rintro e w' ⟨rfl, rfl⟩))
            go_ret
            exact ⟨rfl, HB1.out⟩
    · obtain rfl : k = l.length := by omega
      have hW := wordTo_all hT.out h0
      have HV1 := Lib.hid (HV.out.below HB1.out)
      clear hT
      by_cases h64 : 64 < l.length
      · rw [word_long hW h64 h100] at HX
        clear hW
        go_wp2_with fail
        refine (HX.out _ HV1.out).mono ?_
        rintro e w2 ⟨v, rfl, hown, hb2⟩
        rcases toks_own hown with ⟨_, rfl⟩ | ⟨g, c, rfl, _, hT⟩
        · have hbb := HB1.out.trans (hb2.mono HB1.out.size)
          clear hown hb2
          go_wp2
          go_ret
          exact ⟨rfl, hbb⟩
        · have hbb := HB1.out.trans (hb2.mono HB1.out.size)
          clear hown hb2 hT
          go_wp2
          go_ret
          exact ⟨rfl, hbb⟩
      · rw [word_short hW h64] at HX
        clear hW
        obtain ⟨kd, hkd⟩ : ∃ kd, kd = (if isKey l = true then 2 else 1) := ⟨_, rfl⟩
        rw [← hkd] at HX
        go_wp2_with fail
        refine (HX.out _ HV1.out).mono ?_
        rintro e w2 ⟨v, rfl, hown, hb2⟩
        rcases toks_own hown with ⟨h, _⟩ | ⟨g, c, rfl, hg, hT⟩
        · cases h
        · have hbb := HB1.out.trans (hb2.mono HB1.out.size)
          have HT := Lib.hid hT
          have HG := Lib.hid hg
          clear hown hb2 hT hg
          go_wp2_with fail
          refine (HK.out _).mono ?_
          rintro e w3 ⟨rfl, hb3⟩
          have HT3 := Lib.hid (HT.out.below hb3 HT.out.1)
          have HBB := Lib.hid (hbb.trans (hb3.mono hbb.size))
          obtain ⟨c0, c1, c2, c3, c4⟩ := HT3.out.2 0 (by simp)
          have d0 : w3.cell? ⟨g, 0, none⟩ = some (.int .i64 (kd : Int)) := c0
          have d1 : w3.cell? ⟨g, 1, none⟩ = some (.string (str l)) := c1
          have d2 : w3.cell? ⟨g, 2, none⟩ = some (.int .u64 0) := c2
          have d3 : w3.cell? ⟨g, 3, none⟩ = some (.int .i64 1) := c3
          have d4 : w3.cell? ⟨g, 4, none⟩ = some (.int .i64 1) := c4
          clear c0 c1 c2 c3 c4 hbb hb3
          cases hik : isKey l with
          | true =>
            obtain rfl : kd = 2 := by rw [hkd, hik]; rfl
            clear hkd
            go_wp2
            go_ret
            exact ⟨rfl, HBB.out⟩
          | false =>
            obtain rfl : kd = 1 := by rw [hkd, hik]; rfl
            clear hkd
            go_wp2
            go_ret
            exact ⟨rfl, HBB.out⟩

set_option maxHeartbeats 1000000 in
set_option maxRecDepth 100000 in
theorem words_off (l : List UInt8) (hl : l.length ≤ maxLen) (h : l.length = 0 ∨ 100 < l.length) (w : World) (V : Vs w) : Calls Tryd.prog 9 #[.string (str l)] w fun e w' => e = .returned (.bool true) ∧ Below w.heap.size w w' := by
  have hsz : (str l).size = l.length := str_size l
  have HA := Lib.hid fun W V => awake_any W V
  have HV := Lib.hid V
  unfold maxLen at hl
  clear V
  rcases h with h | h
  all_goals
    have hz : ((l.length : Int) == 0) = decide (l.length = 0) := by
      rw [Bool.eq_iff_iff, beq_iff_eq, decide_eq_true_iff]
      omega
  · rw [h] at hz hsz
    clear hl h
    go_enter Tryd.func9, Tryd.ntmps9
    go_wp2_with fail
    refine (HA.out _ HV.out).mono ?_
    rintro e w1 ⟨rfl, hb1⟩
    have HV1 := Lib.hid (HV.out.below hb1)
    go_wp2_with fail
    refine (HA.out _ HV1.out).mono ?_
    rintro e w2 ⟨rfl, hb2⟩
    have hbb := hb1.trans (hb2.mono hb1.size)
    clear hb1 hb2
    go_wp2
    go_ret
    exact ⟨rfl, hbb⟩
  · rw [decide_eq_false (by omega)] at hz
    go_enter Tryd.func9, Tryd.ntmps9
    go_wp2_with fail
    refine (HA.out _ HV.out).mono ?_
    rintro e w1 ⟨rfl, hb1⟩
    have HV1 := Lib.hid (HV.out.below hb1)
    go_wp2_with fail
    refine (HA.out _ HV1.out).mono ?_
    rintro e w2 ⟨rfl, hb2⟩
    have hbb := hb1.trans (hb2.mono hb1.size)
    clear hb1 hb2
    go_wp2
    go_ret
    exact ⟨rfl, hbb⟩
theorem lexerWords_walk (s : ByteArray) (hs : s.size ≤ maxLen) (w : World) (V : Vs w) : Calls Tryd.prog 9 #[.string s] w fun e w' => e = .returned (.bool true) ∧ Below w.heap.size w w' := by
  obtain ⟨l, rfl⟩ : ∃ l, s = str l := ⟨_, (str_of s).symm⟩
  rw [str_size] at hs
  by_cases h : l.length = 0 ∨ 100 < l.length
  · exact words_off l hs h w V
  · exact words_main l (by omega) (by omega) w V
end Go.Proofs.YtgglmcjclbaceaaDoor
