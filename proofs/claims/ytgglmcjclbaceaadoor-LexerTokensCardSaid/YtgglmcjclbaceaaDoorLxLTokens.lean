/- The law on tokens: the walk. -/
import Derived.Test.YtgglmcjclbaceaaDoorLxRLex
import Derived.Test.YtgglmcjclbaceaaDoorLxChain
import Derived.Test.YtgglmcjclbaceaaDoorLxAwake
import Derived.Laws.StructEq
import Derived.Deep.QuietTactic
import Derived.BigQuiet
namespace Go.Proofs.YtgglmcjclbaceaaDoor
open Go Go.RowKit
set_option linter.unusedVariables false

/-- The state of the loop. -/
structure TqSt (ts : List Tok) (w wr : World) (g1 g2 : Nat) : Prop where
  t1 : TkIn wr g1 ts
  t2 : TkIn wr g2 ts
  bel : Below w.heap.size w wr

set_option maxHeartbeats 4000000 in
set_option maxRecDepth 100000 in
theorem tokens_main (l : List UInt8) (hl : l.length ≤ 2000) (w : World) (V : Vs w) : Calls Tryd.prog 3 #[.string (str l)] w fun e w' => e = .returned (.bool true) ∧ Below w.heap.size w w' := by
  have hsz : (str l).size = l.length := str_size l
  have HA := Lib.hid fun W V => awake_any W V
  have HX := Lib.hid fun W V => lex_any l (by omega) W V
  have HR := Lib.hid fun W => rLex_any l hl W
  have HV := Lib.hid V
  have hz2 : decide (2000 < (l.length : Int)) = false := decide_eq_false (by omega)
  have htl : (lexAll l).1.length ≤ l.length := by
    rcases lexAll_cases l with ⟨_, _, _, hch⟩ | ⟨_, h1, h2⟩
    · have := hch.len _ _ _ (by omega)
      omega
    · first | (rw [h1]; simp) | (rw [h2]; simp)
  generalize lexAll l = R at *
  obtain ⟨ts, n, er⟩ := R
  have htl2 : ts.length ≤ l.length := htl
  clear V htl
  go_enter Tryd.func3, Tryd.ntmps3
  go_wp2_with fail
  refine (HA.out _ HV.out).mono ?_
  rintro e w1 ⟨rfl, hb1⟩
  have HB1 := Lib.hid hb1
  clear hb1 HA
  go_wp2_with fail
  refine (HX.out _ (HV.out.below HB1.out)).mono ?_
  rintro e w2 ⟨v1, rfl, hown1, hb2⟩
  have HB2 := Lib.hid (HB1.out.trans (hb2.mono HB1.out.size))
  have HO1 := Lib.hid hown1
  clear HX hb2 hown1
  go_wp2_with fail
  refine (HR.out _).mono ?_
  rintro e w3 ⟨v2, rfl, hown2, hb3⟩
  have HB3 := Lib.hid (HB2.out.trans (hb3.mono HB2.out.size))
  have HB23 := Lib.hid hb3
  have HO2 := Lib.hid hown2
  clear HR hb3 hown2
  rcases toks_own HO1.out with ⟨h0, rfl⟩ | ⟨g1, c1, rfl, hg1, hT1⟩
  · obtain rfl : ts = [] := h0
    rcases toks_own HO2.out with ⟨_, rfl⟩ | ⟨g2, c2, rfl, hg2, hT2⟩
    all_goals
      clear HO1 HO2 htl2
      go_wp2
      go_loop [9] (fun i => i = .int .i64 0) (fun _ => 0)
      case atStart => rfl
      case round =>
        obtain rfl := hrel
        go_wp2
        go_ret
        exact ⟨by simp, HB3.out⟩
  · rcases toks_own HO2.out with ⟨h0, rfl⟩ | ⟨g2, c2, rfl, hg2, hT2⟩
    · obtain rfl : ts = [] := h0
      clear HO1 HO2 htl2 hT1 hg1
      go_wp2
      go_loop [9] (fun i => i = .int .i64 0) (fun _ => 0)
      case atStart => rfl
      case round =>
        obtain rfl := hrel
        go_wp2
        go_ret
        exact ⟨by simp, HB3.out⟩
    · have hS0 : Hid (TqSt ts w w3 g1 g2) := ⟨hT1.below HB23.out hT1.1, hT2, HB3.out⟩
      clear HO1 HO2 hT1 hT2 hg1 hg2 HB23 HB3 HB2 HB1 HV
      go_wp2
      go_loopw [9] (fun i wr => ∃ ii : Nat, i = .int .i64 (ii : Int) ∧ ii ≤ ts.length ∧ Hid (TqSt ts w wr g1 g2)) (fun i _ => ts.length - (intOf i).toNat)
      case atStart => exact ⟨0, rfl, by omega, hS0⟩
      case round =>
        clear hS0
        obtain ⟨i, rfl, hi, hT⟩ := hrel
        obtain ⟨wo, rfl⟩ : ∃ wo : World, wo = wr := ⟨_, rfl⟩
        by_cases hlt : i < ts.length
        · obtain ⟨c0, c1, c2, c3, c4⟩ := hT.out.t1.2 i hlt
          obtain ⟨d0, d1, d2, d3, d4⟩ := hT.out.t2.2 i hlt
          generalize (tat ts i).pos = a at *
          generalize (tat ts i).line = nl at *
          generalize str (tat ts i).text = T at *
          generalize (tat ts i).kind = K at *
          generalize (tat ts i).num = N at *
          have hw : ∀ nq, Hid (TqSt ts w (wo.drewN nq) g1 g2) := fun nq => by
            have h1 := Below.refl wo.heap.size wo
            have h2 : Below wo.heap.size wo (wo.drewN nq) := ⟨h1.os, h1.tape, h1.output, h1.size, h1.block⟩
            exact ⟨hT.out.t1.below h2 hT.out.t1.1, hT.out.t2.below h2 hT.out.t2.1, hT.out.bel.trans (h2.mono hT.out.bel.size)⟩
          have HW := Lib.hid hw
          clear hw hT
          go_wp2
          go_quiet (fail)
          have hN := HW.out nq
          clear HW c0 c1 c2 c3 c4 d0 d1 d2 d3 d4
          go_wp2
          go_roundw
          case rel => exact ⟨i + 1, by go_num, by omega, hN⟩
          case measure => simp [intOf]; omega
        · have HBO := Lib.hid hT.out.bel
          clear hT
          go_wp2
          go_ret
          exact ⟨by simp, HBO.out⟩

set_option maxHeartbeats 1000000 in
set_option maxRecDepth 100000 in
theorem tokens_off (l : List UInt8) (hl : l.length ≤ maxLen) (h : 2000 < l.length) (w : World) (V : Vs w) : Calls Tryd.prog 3 #[.string (str l)] w fun e w' => e = .returned (.bool true) ∧ Below w.heap.size w w' := by
  have hsz : (str l).size = l.length := str_size l
  have HA := Lib.hid fun W V => awake_any W V
  have HV := Lib.hid V
  unfold maxLen at hl
  clear V
  go_enter Tryd.func3, Tryd.ntmps3
  go_wp2_with fail
  refine (HA.out _ HV.out).mono ?_
  rintro e w1 ⟨rfl, hb1⟩
  have HV1 := Lib.hid (HV.out.below hb1)
  go_wp2_with fail
  refine (HA.out _ HV1.out).mono ?_
  rintro e w2 ⟨rfl, hb2⟩
  have hbb := hb1.trans (hb2.mono hb1.size)
  clear hb1 hb2
  go_wp2
  go_ret
  exact ⟨rfl, hbb⟩
theorem lexerTokens_walk (s : ByteArray) (hs : s.size ≤ maxLen) (w : World) (V : Vs w) : Calls Tryd.prog 3 #[.string s] w fun e w' => e = .returned (.bool true) ∧ Below w.heap.size w w' := by
  obtain ⟨l, rfl⟩ : ∃ l, s = str l := ⟨_, (str_of s).symm⟩
  rw [str_size] at hs
  by_cases h : 2000 < l.length
  · exact tokens_off l hs h w V
  · exact tokens_main l (by omega) w V
end Go.Proofs.YtgglmcjclbaceaaDoor
