/- The law on places: the walk. -/
import Derived.Test.YtgglmcjclbaceaaDoorLxChain
import Derived.Test.YtgglmcjclbaceaaDoorLxAwake
import Derived.Test.YtgglmcjclbaceaaDoorLxRef4
import Derived.Deep.QuietTactic
import Derived.BigQuiet
namespace Go.Proofs.YtgglmcjclbaceaaDoor
open Go Go.RowKit
set_option linter.unusedVariables false

/-- The state of the outer loop. -/
structure PlSt (l : List UInt8) (ts : List Tok) (w wr : World) (g i d line : Nat) : Prop where
  ch : Chain l d line (ts.drop i)
  tk : TkIn wr g ts
  bel : Below w.heap.size w wr
  le : d ≤ l.length
  lines : line ≤ d + 1

set_option maxHeartbeats 1000000 in
set_option maxRecDepth 100000 in
theorem places_main (l : List UInt8) (hl : l.length ≤ 2000) (w : World) (V : Vs w) : Calls Tryd.prog 5 #[.string (str l)] w fun e w' => e = .returned (.bool true) ∧ Below w.heap.size w w' := by
  have hsz : (str l).size = l.length := str_size l
  have HA := Lib.hid fun W V => awake_any W V
  have HX := Lib.hid fun W V => lex_any l (by omega) W V
  have HS := Lib.hid fun i hi W => rSkip_any l i W (by unfold maxLen; omega) hi
  have HV := Lib.hid V
  have HAT : Hid (∀ k (h : k < l.length), (str l)[k]'(by rw [hsz]; exact h) = l[k]) := fun k h => rfl
  have hz2 : decide (2000 < (l.length : Int)) = false := decide_eq_false (by omega)
  have HC := Lib.hid (lexAll_cases l)
  generalize hR : lexAll l = R at *
  obtain ⟨ts, n, er⟩ := R
  clear V hR
  go_enter Tryd.func5, Tryd.ntmps5
  go_wp2_with fail
  refine (HA.out _ HV.out).mono ?_
  rintro e w1 ⟨rfl, hb1⟩
  have HB1 := Lib.hid hb1
  clear hb1 HA
  go_wp2_with fail
  refine (HX.out _ (HV.out.below HB1.out)).mono ?_
  rintro e w2 ⟨v, rfl, hown, hb2⟩
  have HB2 := Lib.hid (HB1.out.trans (hb2.mono HB1.out.size))
  clear HX hb2
  rcases HC.out with ⟨rfl, rfl, _, hch⟩ | ⟨her, _, _⟩
  · have htl := hch.len _ _ _ (by omega)
    have HCH := Lib.hid hch
    clear HC hch
    rcases toks_own hown with ⟨h0, rfl⟩ | ⟨g, c, rfl, hg, hT⟩
    · obtain rfl : ts = [] := h0
      have hend : 0 + skipM false (l.drop 0) = l.length := by
        have h1 : l.length ≤ 0 + skipM false (l.drop 0) := HCH.out
        have h2 := skipM_le (l.drop 0) false
        rw [List.length_drop] at h2
        omega
      have HS0 := Lib.hid fun W => HS.out 0 (by omega) W
      rw [hend, show ((0 : Nat) : Int) = 0 from rfl] at HS0
      clear hown hend
      go_wp2
      go_loop [6, 8] (fun d i => d = .int .i64 0 ∧ i = .int .i64 0) (fun _ _ => 0)
      case atStart => exact ⟨rfl, rfl⟩
      case round =>
        obtain ⟨rfl, rfl⟩ := hrel
        go_wp2_with (go_at_call 17; refine (HS0.out _).mono ?_; rintro e w' ⟨rfl, rfl⟩)
        go_ret
        exact ⟨by simp, HB2.out⟩
    · have hS0 : Hid (PlSt l ts w w2 g 0 0 1) := ⟨HCH.out, hT, HB2.out, by omega, by omega⟩
      clear hown hT HCH hg
      go_wp2
      go_loopw [6, 7, 8] (fun d line i wr => ∃ (dd ll ii : Nat), d = .int .i64 (dd : Int) ∧ line = .int .i64 (ll : Int) ∧ i = .int .i64 (ii : Int) ∧ ii ≤ ts.length ∧ Hid (PlSt l ts w wr g ii dd ll)) (fun _ _ i _ => ts.length - (intOf i).toNat)
      case atStart => exact ⟨0, 1, 0, rfl, rfl, rfl, by omega, hS0⟩
      case round =>
        clear hS0
        obtain ⟨d, line, i, rfl, rfl, rfl, hi, hT⟩ := hrel
        by_cases hlt : i < ts.length
        · obtain ⟨wo, rfl⟩ : ∃ wo : World, wo = wr := ⟨_, rfl⟩
          have hch := hT.out.ch
          rw [drop_tat hlt, ← tat_get hlt] at hch
          obtain ⟨e1, e2, e3, e4, e5, e6, e7, e8, e9, e10, e11⟩ := hch.step
          have hdl := hT.out.le
          obtain ⟨c0, c1, c2, c3, c4⟩ := hT.out.tk.2 i hlt
          have HS1 := Lib.hid fun W => HS.out d hdl W
          rw [← e1] at HS1
          have htx : (str (tat ts i).text).size = tokLen (l.drop (tat ts i).pos) := by rw [str_size, e6]
          have hem : (str (tat ts i).text).toList.isEmpty = false := by
            rw [str_toList]
            cases h : (tat ts i).text with
            | nil => rw [h] at e6; simp at e6; omega
            | cons _ _ => rfl
          have hex : (str l).extract (tat ts i).pos ((tat ts i).pos + tokLen (l.drop (tat ts i).pos)) = str (tat ts i).text := by rw [extract_mid, e5, Nat.add_sub_cancel_left]; rfl
          have hda : d ≤ (tat ts i).pos := by omega
          have HLN := Lib.hid e7
          have HNX := Lib.hid e11
          have hln : (tat ts i).line ≤ (tat ts i).pos + 1 := by
            have h1 := lineFeeds_le ((l.drop d).take ((tat ts i).pos - d))
            rw [List.length_take] at h1
            have h2 := hT.out.lines
            rw [e7]
            omega
          have hll := hT.out.lines
          clear hch e1 e5 e6 e7 e8 e9 e10 e11
          generalize tokLen (l.drop (tat ts i).pos) = L at *
          generalize (tat ts i).pos = a at *
          generalize (tat ts i).line = nl at *
          generalize str (tat ts i).text = T at *
          generalize (tat ts i).kind = K at *
          generalize (tat ts i).num = N at *
          have g1 : decide ((a : Int) < (d : Int)) = false := decide_eq_false (by omega)
          have g2 : decide ((l.length : Int) < (a : Int) + (L : Int)) = false := decide_eq_false (by omega)
          have g3 : decide (a < d) = false := decide_eq_false (by omega)
          have g4 : decide (l.length < a + L) = false := decide_eq_false (by omega)
          have g5 : IntKind.i64.wrap ((a : Int) + (L : Int)) = (a : Int) + (L : Int) := by rw [IntKind.wrap_i64]; omega
          have hHB := hT.out.bel
          have hTK := hT.out.tk
          have HBO := Lib.hid hHB
          have HTK := Lib.hid hTK
          have hwsz := hHB.size
          clear hT hHB hTK
          have HSQ : Hid (∀ W, Calls Tryd.prog 17 #[.string (str l), .int .i64 (d : Int)] W fun e w' => e = .returned (.int .i64 (a : Int)) ∧ w' = W) := fun W => (HS1.out W).mono fun e w' ⟨he, hw⟩ => ⟨he, hw.symm⟩
          go_wp2
          go_quiet ((go_at_call 17; exact Calls.quiet_of_same (HSQ.out _)))
          have hbk : Below wo.heap.size wo ((wo.alloc (.cells #[.int .i64 (K : Int), .string T, .int .u64 (N : Int), .int .i64 (a : Int), .int .i64 (nl : Int)] 29)).drewN nq) := by
            have h1 := (Below.refl wo.heap.size wo).alloc (Nat.le_refl _) (.cells #[.int .i64 (K : Int), .string T, .int .u64 (N : Int), .int .i64 (a : Int), .int .i64 (nl : Int)] 29)
            exact ⟨h1.os, h1.tape, h1.output, h1.size, h1.block⟩
          have hblk : Blk ((wo.alloc (.cells #[.int .i64 (K : Int), .string T, .int .u64 (N : Int), .int .i64 (a : Int), .int .i64 (nl : Int)] 29)).drewN nq) wo.heap.size 29 [.int .i64 (K : Int), .string T, .int .u64 (N : Int), .int .i64 (a : Int), .int .i64 (nl : Int)] := Blk.alloc wo 29 [.int .i64 (K : Int), .string T, .int .u64 (N : Int), .int .i64 (a : Int), .int .i64 (nl : Int)]
          have HBQ := Lib.hid (HBO.out.trans (hbk.mono hwsz))
          have HTQ := Lib.hid (HTK.out.below hbk HTK.out.1)
          have k1 := hblk.cell 1
          have k3 := hblk.cell 3
          have k4 := hblk.cell 4
          clear hbk hblk c0 c1 c2 c3 c4 HTK HBO
          generalize (wo.alloc (.cells #[.int .i64 (K : Int), .string T, .int .u64 (N : Int), .int .i64 (a : Int), .int .i64 (nl : Int)] 29)).drewN nq = wq at *
          go_wp2
          go_loop [6, 7] (fun p q => ∃ (j ln : Nat), p = .int .i64 (j : Int) ∧ q = .int .i64 (ln : Int) ∧ j ≤ a ∧ ln ≤ j + 1 ∧ Hid (nl = ln + lineFeeds ((l.drop j).take (a - j)))) (fun p _ => a - (intOf p).toNat)
          case atStart => exact ⟨d, line, rfl, rfl, hda, hll, HLN⟩
          case round =>
            obtain ⟨j, ln, rfl, rfl, hj, hln2, hE⟩ := hrel
            by_cases hja : j < a
            · obtain ⟨cc, hcc⟩ : ∃ cc, cc = l[j]'(by omega) := ⟨_, rfl⟩
              have hat : ∀ h : j < (str l).size, (str l)[j]'h = cc := fun _ => hcc.symm
              have hst := lf_step (l := l) (j := j) (a := a) (c := cc) (by rw [hcc]; exact List.getElem?_eq_getElem _) hja
              clear hcc
              by_cases hlf : cc.toNat = 10
              · have hne : ((cc.toNat : Nat) : Int) = 10 := by omega
                have hE2 : Hid (nl = (ln + 1) + lineFeeds ((l.drop (j + 1)).take (a - (j + 1)))) := by
                  have := hE.out
                  rw [hst, if_pos hlf] at this
                  show _ = _
                  omega
                clear hst hE hlf
                go_wp2
                go_round
                case rel => exact ⟨j + 1, ln + 1, by go_num, by go_num, by omega, by omega, hE2⟩
                case measure => simp [intOf]; omega
              · have hne : ¬ ((cc.toNat : Nat) : Int) = 10 := by omega
                have hE2 : Hid (nl = ln + lineFeeds ((l.drop (j + 1)).take (a - (j + 1)))) := by
                  have := hE.out
                  rw [hst, if_neg hlf] at this
                  show _ = _
                  omega
                clear hst hE hlf
                go_wp2
                go_round
                case rel => exact ⟨j + 1, ln, by go_num, rfl, by omega, by omega, hE2⟩
                case measure => simp [intOf]; omega
            · obtain rfl : j = a := by omega
              obtain rfl : ln = nl := by
                have := hE.out
                rw [Nat.sub_self] at this
                simpa [lineFeeds] using this.symm
              have hS2 : Hid (PlSt l ts w wq g (i + 1) (j + L) ln) := ⟨HNX.out, HTQ.out, HBQ.out, by omega, by omega⟩
              clear hE HNX HTQ HBQ
              go_wp2
              go_roundw
              case rel => exact ⟨j + L, ln, i + 1, by go_num, rfl, by go_num, by omega, hS2⟩
              case measure => simp [intOf]; omega
        · have hch := hT.out.ch
          rw [List.drop_eq_nil_of_le (by omega)] at hch
          have hdl := hT.out.le
          have hend : d + skipM false (l.drop d) = l.length := by
            have h1 : l.length ≤ d + skipM false (l.drop d) := hch
            have h2 := skipM_le (l.drop d) false
            rw [List.length_drop] at h2
            omega
          have HS1 := Lib.hid fun W => HS.out d hdl W
          rw [hend] at HS1
          have HBO := Lib.hid hT.out.bel
          clear hch hend hT
          go_wp2_with (go_at_call 17; refine (HS1.out _).mono ?_; rintro e w' ⟨rfl, rfl⟩)
          go_ret
          exact ⟨by simp, HBO.out⟩
  · have h0 : ¬ ((er : Nat) : Int) = 0 := by have : er ≠ 0 := her; omega
    clear HC her hown
    go_wp2
    go_ret
    exact ⟨rfl, HB2.out⟩

set_option maxHeartbeats 1000000 in
set_option maxRecDepth 100000 in
theorem places_off (l : List UInt8) (hl : l.length ≤ maxLen) (h : 2000 < l.length) (w : World) (V : Vs w) : Calls Tryd.prog 5 #[.string (str l)] w fun e w' => e = .returned (.bool true) ∧ Below w.heap.size w w' := by
  have hsz : (str l).size = l.length := str_size l
  have HA := Lib.hid fun W V => awake_any W V
  have HV := Lib.hid V
  unfold maxLen at hl
  clear V
  go_enter Tryd.func5, Tryd.ntmps5
  go_wp2_with fail
  refine (HA.out _ HV.out).mono ?_
  rintro e w1 ⟨rfl, hb1⟩
  have HV1 := Lib.hid (HV.out.below hb1)
  go_wp2_with fail
  refine (HA.out _ HV1.out).mono ?_
  rintro e w2 ⟨rfl, hb2⟩
  have hbb := hb1.trans (hb2.mono hb1.size)
  clear hb1 hb2
  go_wp2
  go_ret
  exact ⟨rfl, hbb⟩
theorem lexerPlaces_walk (s : ByteArray) (hs : s.size ≤ maxLen) (w : World) (V : Vs w) : Calls Tryd.prog 5 #[.string s] w fun e w' => e = .returned (.bool true) ∧ Below w.heap.size w w' := by
  obtain ⟨l, rfl⟩ : ∃ l, s = str l := ⟨_, (str_of s).symm⟩
  rw [str_size] at hs
  by_cases h : 2000 < l.length
  · exact places_off l hs h w V
  · exact places_main l (by omega) w V
end Go.Proofs.YtgglmcjclbaceaaDoor
