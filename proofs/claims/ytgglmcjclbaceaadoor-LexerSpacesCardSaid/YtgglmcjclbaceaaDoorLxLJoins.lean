/- The law on joins: the walk. -/
import Derived.Test.YtgglmcjclbaceaaDoorLxJoin
import Derived.Test.YtgglmcjclbaceaaDoorLxChain
import Derived.Test.YtgglmcjclbaceaaDoorLxAwake
namespace Go.Proofs.YtgglmcjclbaceaaDoor
open Go Go.RowKit
set_option linter.unusedVariables false

theorem Chain.sum {l : List UInt8} : ∀ (ts : List Tok) (d line : Nat), d ≤ l.length → Chain l d line ts → d + tsum ts ≤ l.length := by
  intro ts
  induction ts with
  | nil => intro d line h _; exact h
  | cons t ts ih =>
    intro d line h hc
    obtain ⟨e1, e2, e3, e4, _, e6, _, _, _, _, e11⟩ := hc.step
    have := ih _ _ e4 e11
    have e : tsum (t :: ts) = t.text.length + tsum ts := rfl
    rw [e]
    omega
theorem sep_sp : ∀ (ts : List Tok), (∀ t ∈ ts, Good t) → ∀ f : Nat → Tok → List UInt8 × Tok, (∀ i t, f i t = ([32], t)) → SepOK [] (ts.mapIdx f) ∧ brk (sepL (ts.mapIdx f) ++ []) := by
  intro ts
  induction ts with
  | nil => intro _ f _; exact ⟨rfl, .inl rfl⟩
  | cons t ts ih =>
    intro hg f hf
    obtain ⟨h1, h2⟩ := ih (fun u hu => hg u (List.mem_cons_of_mem _ hu)) (fun i => f (i + 1)) (fun i t => hf (i + 1) t)
    rw [List.mapIdx_cons, hf]
    refine ⟨⟨fun X => ?_, hg t (by simp), h2, h1⟩, .inr ⟨32, _, rfl, by decide⟩⟩
    exact skip_blank_cons (by decide)
theorem sep_join {ts : List Tok} (hg : ∀ t ∈ ts, Good t) : SepOK [] (ts.mapIdx joinP) := by
  cases ts with
  | nil => rfl
  | cons t ts =>
    obtain ⟨h1, h2⟩ := sep_sp ts (fun u hu => hg u (List.mem_cons_of_mem _ hu)) (fun i => joinP (i + 1)) (fun i t => rfl)
    rw [List.mapIdx_cons]
    exact ⟨fun X => by simp, hg t (by simp), h2, h1⟩
theorem ktn_join (ts : List Tok) : ((ts.mapIdx joinP).map fun p => ktn p.2) = ts.map ktn := by
  apply List.ext_getElem?
  intro i
  rw [List.getElem?_map, List.getElem?_mapIdx, List.getElem?_map]
  cases ts[i]? <;> rfl
theorem lexAll_join {l : List UInt8} {ts : List Tok} {line : Nat} (hl : l.length ≤ 2000) (hc : Chain l 0 line ts) :
    ∃ us, lexAll (J ts ts.length) = (us, (J ts ts.length).length, 0) ∧ us.map ktn = ts.map ktn := by
  have h1 := hc.len _ _ _ (by omega)
  have h2 := Chain.sum _ _ _ (by omega) hc
  have h3 := J_len (ts := ts) ts.length (Nat.le_refl _)
  have e : J ts ts.length = sepL (ts.mapIdx joinP) ++ [] := by unfold J; rw [List.take_length, List.append_nil]
  rw [e] at h3 ⊢
  obtain ⟨us, q1, q2⟩ := lexAll_sep [] (ts.mapIdx joinP) (sep_join (chain_good ts 0 line hc)) (by omega)
  exact ⟨us, q1, q2.trans (ktn_join ts)⟩

set_option maxHeartbeats 2000000 in
set_option maxRecDepth 100000 in
theorem joins_main (l : List UInt8) (hl : l.length ≤ 2000) (w : World) (V : Vs w) : Calls Tryd.prog 4 #[.string (str l)] w fun e w' => e = .returned (.bool true) ∧ Below w.heap.size w w' := by
  have hsz : (str l).size = l.length := str_size l
  have HA := Lib.hid fun W V => awake_any W V
  have HX := Lib.hid fun W V => lex_any l (by omega) W V
  have HV := Lib.hid V
  have hz2 : decide (2000 < (l.length : Int)) = false := decide_eq_false (by omega)
  have HC := Lib.hid (lexAll_cases l)
  generalize hR : lexAll l = R at *
  obtain ⟨ts, n, er⟩ := R
  clear V hR
  go_enter Tryd.func4, Tryd.ntmps4
  go_wp2_with fail
  refine (HA.out _ HV.out).mono ?_
  rintro e w1 ⟨rfl, hb1⟩
  have HB1 := Lib.hid hb1
  clear hb1 HA
  go_wp2_with fail
  refine (HX.out _ (HV.out.below HB1.out)).mono ?_
  rintro e w2 ⟨v, rfl, hown, hb2⟩
  have HB2 := Lib.hid (HB1.out.trans (hb2.mono HB1.out.size))
  have HT2 := Lib.hid (TkV.own hown)
  clear HX hb2 hown HB1
  rcases HC.out with ⟨rfl, rfl, _, hch⟩ | ⟨her, hts, hnl⟩
  · have htl := hch.len _ _ _ (by omega)
    have htl2 : ts.length ≤ 2000 := by omega
    have hsum := Chain.sum _ _ _ (by omega) hch
    have hsum2 : tsum ts ≤ 2000 := by omega
    obtain ⟨us, hus, hku⟩ := lexAll_join hl hch
    have hJl : (J ts ts.length).length ≤ 4000 := by have := J_len (ts := ts) ts.length (Nat.le_refl _); omega
    have HJ := Lib.hid fun v W (h : TkV W v ts) => join_any ts v W h htl2 hsum2
    have HRJ := Lib.hid fun v W (h : TkV W v ts) => rJoin_any ts v W h htl2 hsum2
    have HX2 := Lib.hid fun W V => lex_any (J ts ts.length) (by omega) W V
    have HSM := Lib.hid fun v1 v2 W (h1 : TkV W v1 ts) (h2 : TkV W v2 us) => same_any ts us v1 v2 W h1 h2 hku.symm htl2
    rw [hus] at HX2
    have hts2 : (str (J ts ts.length)).size = (J ts ts.length).length := str_size _
    clear HC hch htl hsum hsum2 hus hku htl2
    generalize hTT : str (J ts ts.length) = T at *
    generalize (J ts ts.length).length = tn at *
    clear hTT
    go_wp2_with fail
    refine (HJ.out _ _ HT2.out).mono ?_
    rintro e w3 ⟨rfl, hb3⟩
    have HT3 := Lib.hid (HT2.out.below hb3)
    have HB3 := Lib.hid (HB2.out.trans (hb3.mono HB2.out.size))
    clear hb3 HT2 HB2 HJ
    go_wp2_with fail
    refine (HX2.out _ (HV.out.below HB3.out)).mono ?_
    rintro e w4 ⟨v2, rfl, hown, hb4⟩
    have HT4 := Lib.hid (HT3.out.below hb4)
    have HU4 := Lib.hid (TkV.own hown)
    have HB4 := Lib.hid (HB3.out.trans (hb4.mono HB3.out.size))
    clear hb4 HT3 HB3 HX2 hown
    go_wp2_with fail
    refine (HSM.out _ _ _ HT4.out HU4.out).mono ?_
    rintro e w5 ⟨rfl, hb5⟩
    have HT5 := Lib.hid (HT4.out.below hb5)
    have HB5 := Lib.hid (HB4.out.trans (hb5.mono HB4.out.size))
    clear hb5 HT4 HB4 HU4 HSM
    go_wp2_with fail
    refine (HRJ.out _ _ HT5.out).mono ?_
    rintro e w6 ⟨rfl, rfl⟩
    go_wp2
    go_ret
    exact ⟨by simp, HB5.out⟩
  · have h0 : ¬ ((er : Nat) : Int) = 0 := by have : er ≠ 0 := her; omega
    have hn : n ≤ l.length := hnl (by omega)
    have hn1 : decide ((n : Int) ≤ (l.length : Int)) = true := decide_eq_true (by omega)
    have hn2 : decide ((0 : Int) ≤ (n : Int)) = true := decide_eq_true (by omega)
    obtain rfl : ts = [] := hts
    rcases HT2.out with ⟨_, rfl⟩ | ⟨g, c, rfl, _⟩
    all_goals
      clear HC her hnl HT2
      go_wp2
      go_ret
      exact ⟨by simp; try omega, HB2.out⟩

set_option maxHeartbeats 1000000 in
set_option maxRecDepth 100000 in
theorem joins_off (l : List UInt8) (hl : l.length ≤ maxLen) (h : 2000 < l.length) (w : World) (V : Vs w) : Calls Tryd.prog 4 #[.string (str l)] w fun e w' => e = .returned (.bool true) ∧ Below w.heap.size w w' := by
  have hsz : (str l).size = l.length := str_size l
  have HA := Lib.hid fun W V => awake_any W V
  have HV := Lib.hid V
  unfold maxLen at hl
  clear V
  go_enter Tryd.func4, Tryd.ntmps4
  go_wp2_with fail
  refine (HA.out _ HV.out).mono ?_
  rintro e w1 ⟨rfl, hb1⟩
  have HV1 := Lib.hid (HV.out.below hb1)
  go_wp2_with fail
  refine (HA.out _ HV1.out).mono ?_
  rintro e w2 ⟨rfl, hb2⟩
  have hbb := hb1.trans (hb2.mono hb1.size)
  clear hb1 hb2
  go_wp2
  go_ret
  exact ⟨rfl, hbb⟩
theorem lexerJoins_walk (s : ByteArray) (hs : s.size ≤ maxLen) (w : World) (V : Vs w) : Calls Tryd.prog 4 #[.string s] w fun e w' => e = .returned (.bool true) ∧ Below w.heap.size w w' := by
  obtain ⟨l, rfl⟩ : ∃ l, s = str l := ⟨_, (str_of s).symm⟩
  rw [str_size] at hs
  by_cases h : 2000 < l.length
  · exact joins_off l hs h w V
  · exact joins_main l (by omega) w V
end Go.Proofs.YtgglmcjclbaceaaDoor
