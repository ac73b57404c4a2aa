/- The law on spaces: the walk. -/
import Derived.Test.YtgglmcjclbaceaaDoorLxCmt
import Derived.Test.YtgglmcjclbaceaaDoorLxLJoins
namespace Go.Proofs.YtgglmcjclbaceaaDoor
open Go Go.RowKit
set_option linter.unusedVariables false

/-- What the law puts before token i. -/
def bl (len : Nat) (ss : Nat → List UInt8) (i : Nat) : List UInt8 := if i < len then [9, 10] ++ cm (ss i) ++ [32] else [32]
theorem skip_bl (len : Nat) (ss : Nat → List UInt8) (i : Nat) (X : List UInt8) : skipM false (bl len ss i ++ X) = (bl len ss i).length + skipM false X := by
  unfold bl
  by_cases h : i < len
  · rw [if_pos h]
    have e : [9, 10] ++ cm (ss i) ++ [32] ++ X = 9 :: 10 :: 47 :: 47 :: (noLf (ss i) ++ 10 :: (32 :: X)) := by simp [cm]
    have hc : skipM false (47 :: 47 :: (noLf (ss i) ++ 10 :: (32 :: X))) = 1 + skipM true (47 :: (noLf (ss i) ++ 10 :: (32 :: X))) := by
      rw [skipF, if_neg (by decide), if_pos ⟨rfl, rfl⟩]
    rw [e, skip_blank_cons (by decide), skip_blank_cons (by decide), hc, skipT, show (decide ((47 : UInt8).toNat ≠ 10)) = true from rfl, skip_cm, skip_blank_cons (by decide)]
    simp [cm]
    omega
  · rw [if_neg h]
    exact skip_blank_cons (by decide)
theorem bl_head (len : Nat) (ss : Nat → List UInt8) (i : Nat) (X : List UInt8) : brk (bl len ss i ++ X) := by
  unfold bl
  by_cases h : i < len
  · rw [if_pos h]; exact .inr ⟨9, _, rfl, by decide⟩
  · rw [if_neg h]; exact .inr ⟨32, _, rfl, by decide⟩
theorem bl_len {len : Nat} {ss : Nat → List UInt8} {i : Nat} (h : i < len → (ss i).length ≤ 20) : (bl len ss i).length ≤ 26 := by
  unfold bl
  split
  · rename_i hi
    have h1 := h hi
    have h2 := noLf_len (ss i)
    simp [cm]
    omega
  · simp
def endT : List UInt8 := [32, 47, 47, 32, 101, 110, 100]
theorem sep_bl (b : Nat → List UInt8) (hb1 : ∀ i X, skipM false (b i ++ X) = (b i).length + skipM false X) (hb2 : ∀ i X, brk (b i ++ X)) :
    ∀ (ts : List Tok), (∀ t ∈ ts, Good t) → ∀ o, SepOK endT (ts.mapIdx fun i t => (b (i + o), t)) ∧ brk (sepL (ts.mapIdx fun i t => (b (i + o), t)) ++ endT) := by
  intro ts
  induction ts with
  | nil => intro _ o; exact ⟨(by decide : skipM false endT = endT.length), .inr ⟨32, _, rfl, by decide⟩⟩
  | cons t ts ih =>
    intro hg o
    obtain ⟨h1, h2⟩ := ih (fun u hu => hg u (List.mem_cons_of_mem _ hu)) (o + 1)
    have e : (fun i t => (b (i + 1 + o), t) : Nat → Tok → List UInt8 × Tok) = fun i t => (b (i + (o + 1)), t) := by
      funext i t
      rw [show i + 1 + o = i + (o + 1) by omega]
    rw [List.mapIdx_cons, e]
    refine ⟨⟨hb1 _, hg t (by simp), h2, h1⟩, ?_⟩
    show brk (b (0 + o) ++ (t.text ++ sepL _) ++ endT)
    rw [List.append_assoc]
    exact hb2 _ _
/-- The text behind k rounds. -/
def SP (b : Nat → List UInt8) (ts : List Tok) (k : Nat) : List UInt8 := sepL ((ts.take k).mapIdx fun i t => (b i, t))
theorem SP_zero (b : Nat → List UInt8) (ts : List Tok) : SP b ts 0 = [] := by simp [SP, sepL]
theorem SP_succ {b : Nat → List UInt8} {ts : List Tok} {k : Nat} (h : k < ts.length) : SP b ts (k + 1) = SP b ts k ++ (b k ++ (tat ts k).text) := by
  unfold SP
  rw [List.take_succ_eq_append_getElem h, List.mapIdx_concat, sepL_append, tat_get h]
  have hl : (ts.take k).length = k := by rw [List.length_take]; omega
  rw [hl]
  simp [sepL]
theorem SP_len {b : Nat → List UInt8} {ts : List Tok} : ∀ k, k ≤ ts.length → (∀ i, i < k → (b i).length ≤ 26) → (SP b ts k).length + tsum (ts.drop k) ≤ tsum ts + 26 * k := by
  intro k
  induction k with
  | zero => intro _ _; rw [SP_zero]; simp
  | succ k ih =>
    intro h hb
    have := ih (by omega) (fun i hi => hb i (by omega))
    have hk := hb k (by omega)
    rw [SP_succ (by omega)]
    rw [List.drop_eq_getElem_cons (show k < ts.length by omega)] at this
    have e : tsum (ts[k] :: ts.drop (k + 1)) = ts[k].text.length + tsum (ts.drop (k + 1)) := rfl
    rw [e] at this
    rw [tat_get (show k < ts.length by omega)]
    simp only [List.length_append]
    omega
theorem lexAll_spaces {l : List UInt8} {ts : List Tok} {line : Nat} (b : Nat → List UInt8) (hb1 : ∀ i X, skipM false (b i ++ X) = (b i).length + skipM false X) (hb2 : ∀ i X, brk (b i ++ X)) (hc : Chain l 0 line ts)
    (hlen : (SP b ts ts.length).length ≤ 60000) :
    ∃ us, lexAll (SP b ts ts.length ++ endT) = (us, (SP b ts ts.length ++ endT).length, 0) ∧ us.map ktn = ts.map ktn := by
  have e : SP b ts ts.length = sepL (ts.mapIdx fun i t => (b (i + 0), t)) := by unfold SP; rw [List.take_length]; rfl
  rw [e] at hlen ⊢
  obtain ⟨us, q1, q2⟩ := lexAll_sep endT _ (sep_bl b hb1 hb2 ts (chain_good ts 0 line hc) 0).1 (by rw [List.length_append]; have : endT.length = 7 := rfl; omega)
  refine ⟨us, q1, q2.trans ?_⟩
  apply List.ext_getElem?
  intro i
  rw [List.getElem?_map, List.getElem?_mapIdx, List.getElem?_map]
  cases ts[i]? <;> rfl
/-- The state of the loop. -/
structure SpSt (ts : List Tok) (len : Nat) (ss : Nat → List UInt8) (k : Nat) (S : ByteArray) : Prop where
  eq : S = str (SP (bl len ss) ts k)
  few : ∀ i, i < k → i < len → (ss i).length ≤ 20

set_option maxHeartbeats 2000000 in
set_option maxRecDepth 100000 in
theorem spaces_main (l : List UInt8) (hl : l.length ≤ 2000) (x : Option Addr) (len cap : Nat) (hlen : len ≤ 50) (ss : Nat → List UInt8) (hss : ∀ i, i < len → (ss i).length ≤ maxLen) (w : World) (V : Vs w) (hX : TextsAt w x len ss) :
    Calls Tryd.prog 6 #[.string (str l), .slice x len cap] w fun e w' => e = .returned (.bool true) ∧ Below w.heap.size w w' := by
  have hsz : (str l).size = l.length := str_size l
  have HA := Lib.hid fun W V => awake_any W V
  have HX := Lib.hid fun W V => lex_any l (by omega) W V
  have HV := Lib.hid V
  have HXT := Lib.hid hX
  have HSS := Lib.hid hss
  have hz2 : decide (2000 < (l.length : Int)) = false := decide_eq_false (by omega)
  have hz3 : decide (50 < (len : Int)) = false := decide_eq_false (by omega)
  have HC := Lib.hid (lexAll_cases l)
  generalize hR : lexAll l = R at *
  obtain ⟨ts, n, er⟩ := R
  clear V hR hX hss
  go_enter Tryd.func6, Tryd.ntmps6
  go_wp2_with fail
  refine (HA.out _ HV.out).mono ?_
  rintro e w1 ⟨rfl, hb1⟩
  have HB1 := Lib.hid hb1
  clear hb1 HA
  go_wp2_with fail
  refine (HX.out _ (HV.out.below HB1.out)).mono ?_
  rintro e w2 ⟨v, rfl, hown, hb2⟩
  have HB2 := Lib.hid (HB1.out.trans (hb2.mono HB1.out.size))
  have HT2 := Lib.hid (TkV.own hown)
  have HX2 := Lib.hid (HXT.out.below HB2.out)
  clear HX hb2 hown HB1 HXT
  rcases HC.out with ⟨rfl, rfl, _, hch⟩ | ⟨her, hts, hnl⟩
  · have htl := hch.len _ _ _ (by omega)
    have htl2 : ts.length ≤ 2000 := by omega
    have hsum := Chain.sum _ _ _ (by omega) hch
    have HSUM : Hid (tsum ts ≤ 2000) := by show _ ≤ _; omega
    have HCH := Lib.hid hch
    have h0 : Hid (SpSt ts len ss 0 ⟨#[]⟩) := ⟨by rw [SP_zero]; rfl, fun i hi => by omega⟩
    obtain ⟨xv, cv, rfl⟩ : ∃ xv cv, v = .slice xv ts.length cv := by
      rcases HT2.out with ⟨rfl, rfl⟩ | ⟨g, c, rfl, _⟩
      · exact ⟨none, 0, rfl⟩
      · exact ⟨_, _, rfl⟩
    clear HC hch htl hsum
    go_wp2
    go_loop [8, 9, 10] (fun s i bk => ∃ (S : ByteArray) (k : Nat), s = .string S ∧ i = .int .i64 (k : Int) ∧ k ≤ ts.length ∧ S.size ≤ 60000 ∧ Hid (SpSt ts len ss k S)) (fun _ i _ => ts.length - (intOf i).toNat)
    case atStart => exact ⟨_, 0, rfl, rfl, by omega, by show (0 : Nat) ≤ 60000; omega, h0⟩
    case round =>
      clear h0
      obtain ⟨S, k, rfl, rfl, hk, hS, hE⟩ := hrel
      by_cases hlt : k < ts.length
      · rcases HT2.out with ⟨e0, _⟩ | ⟨g, c', hgv, hTk⟩
        · rw [e0] at hlt; simp at hlt
        · obtain ⟨rfl, rfl⟩ : xv = some ⟨g, 0, none⟩ ∧ cv = c' := by injection hgv with q1 q2 q3; exact ⟨q1, q3⟩
          obtain ⟨c0, c1, c2, c3, c4⟩ := hTk.2 k hlt
          clear c0 c2 c3 c4 hgv hTk
          by_cases hkl : k < len
          · rcases HX2.out with h0 | ⟨bx, ox, rfl, hbx, hcx⟩
            · omega
            · have d0 := hcx k hkl
              have hsl := HSS.out k hkl
              have hszk : (str (ss k)).size = (ss k).length := str_size _
              unfold maxLen at hsl
              clear hcx hbx
              by_cases h20 : 20 < (ss k).length
              · have hd : decide (20 < ((ss k).length : Int)) = true := decide_eq_true (by omega)
                clear hE c1
                generalize str (ss k) = SK at *
                generalize (ss k).length = lk at *
                go_wp2
                go_ret
                exact ⟨rfl, HB2.out⟩
              · have hd : decide (20 < ((ss k).length : Int)) = false := decide_eq_false (by omega)
                have HCM := Lib.hid fun W => comment_any (ss k) (by omega) W
                have hbk : (bl len ss k).length ≤ 26 := bl_len fun _ => by omega
                have hfew : ∀ i, i < k + 1 → i < len → (ss i).length ≤ 20 := fun i hi hil => by
                  by_cases e : i = k
                  · subst e; omega
                  · exact hE.out.few i (by omega) hil
                have hlen2 := SP_len (b := bl len ss) (ts := ts) (k + 1) (by omega) fun i hi => bl_len (hfew i hi)
                have hsum := HSUM.out
                have hN : S ++ ((⟨#[9, 10]⟩ : ByteArray) ++ str (cm (ss k)) ++ ⟨#[32]⟩ ++ str (tat ts k).text) = str (SP (bl len ss) ts (k + 1)) := by
                  have e1 : (⟨#[9, 10]⟩ : ByteArray) = str [9, 10] := rfl
                  have e2 : (⟨#[32]⟩ : ByteArray) = str [32] := rfl
                  rw [hE.out.eq, e1, e2, str_append, str_append, str_append, str_append, SP_succ hlt]
                  have e3 : bl len ss k = [9, 10] ++ cm (ss k) ++ [32] := by unfold bl; rw [if_pos hkl]
                  rw [e3]
                have hNs : (S ++ ((⟨#[9, 10]⟩ : ByteArray) ++ str (cm (ss k)) ++ ⟨#[32]⟩ ++ str (tat ts k).text)).size ≤ 60000 := by rw [hN, str_size]; omega
                have hNN : Hid (SpSt ts len ss (k + 1) (S ++ ((⟨#[9, 10]⟩ : ByteArray) ++ str (cm (ss k)) ++ ⟨#[32]⟩ ++ str (tat ts k).text))) := ⟨hN, hfew⟩
                have hcz : (str (cm (ss k))).size ≤ 23 := by
                  rw [str_size]
                  have := noLf_len (ss k)
                  simp [cm]
                  omega
                have htz : (str (tat ts k).text).size ≤ 60000 := by
                  rw [ByteArray.size_append, ByteArray.size_append] at hNs
                  omega
                have hu1 : ((⟨#[9, 10]⟩ : ByteArray) ++ str (cm (ss k))).size ≤ 25 := by rw [ByteArray.size_append]; have : (⟨#[9, 10]⟩ : ByteArray).size = 2 := rfl; omega
                have hu2 : ((⟨#[9, 10]⟩ : ByteArray) ++ str (cm (ss k)) ++ ⟨#[32]⟩).size ≤ 26 := by rw [ByteArray.size_append]; have : (⟨#[32]⟩ : ByteArray).size = 1 := rfl; omega
                have hu3 : ((⟨#[9, 10]⟩ : ByteArray) ++ str (cm (ss k)) ++ ⟨#[32]⟩ ++ str (tat ts k).text).size ≤ 60026 := by rw [ByteArray.size_append]; omega
                clear hE hN hlen2 hsum hfew hbk h20
                generalize str (cm (ss k)) = CK at *
                generalize str (ss k) = SK at *
                generalize (ss k).length = lk at *
                generalize str (tat ts k).text = T at *
                go_wp2_with (go_at_call 18; refine (HCM.out _).mono ?_; rintro e w' ⟨rfl, rfl⟩)
                go_round
                case rel => exact ⟨_, k + 1, rfl, by go_num, by omega, hNs, hNN⟩
                case measure => simp [intOf]; omega
          · have hfew : ∀ i, i < k + 1 → i < len → (ss i).length ≤ 20 := fun i hi hil => hE.out.few i (by omega) hil
            have hlen2 := SP_len (b := bl len ss) (ts := ts) (k + 1) (by omega) fun i hi => bl_len (hfew i hi)
            have hsum := HSUM.out
            have hN : S ++ ((⟨#[32]⟩ : ByteArray) ++ str (tat ts k).text) = str (SP (bl len ss) ts (k + 1)) := by
              have e2 : (⟨#[32]⟩ : ByteArray) = str [32] := rfl
              rw [hE.out.eq, e2, str_append, str_append, SP_succ hlt]
              have e3 : bl len ss k = [32] := by unfold bl; rw [if_neg hkl]
              rw [e3]
            have hNs : (S ++ ((⟨#[32]⟩ : ByteArray) ++ str (tat ts k).text)).size ≤ 60000 := by rw [hN, str_size]; omega
            have hNN : Hid (SpSt ts len ss (k + 1) (S ++ ((⟨#[32]⟩ : ByteArray) ++ str (tat ts k).text))) := ⟨hN, hfew⟩
            have htz : (str (tat ts k).text).size ≤ 60000 := by
              rw [ByteArray.size_append, ByteArray.size_append] at hNs
              omega
            have hu3 : ((⟨#[32]⟩ : ByteArray) ++ str (tat ts k).text).size ≤ 60026 := by rw [ByteArray.size_append]; have : (⟨#[32]⟩ : ByteArray).size = 1 := rfl; omega
            have hd : decide ((k : Int) < (len : Int)) = false := decide_eq_false (by omega)
            clear hE hN hlen2 hsum hfew
            generalize str (tat ts k).text = T at *
            go_wp2
            go_round
            case rel => exact ⟨_, k + 1, rfl, by go_num, by omega, hNs, hNN⟩
            case measure => simp [intOf]; omega
      · obtain rfl : k = ts.length := by omega
        have hlen2 := SP_len (b := bl len ss) (ts := ts) ts.length (Nat.le_refl _) fun i hi => bl_len (hE.out.few i hi)
        have hsum := HSUM.out
        obtain ⟨us, hus, hku⟩ := lexAll_spaces (bl len ss) (skip_bl len ss) (bl_head len ss) HCH.out (by omega)
        have hE3 : Hid (S ++ ⟨#[32, 47, 47, 32, 101, 110, 100]⟩ = str (SP (bl len ss) ts ts.length ++ endT)) := by
          show _ = _
          have e : (⟨#[32, 47, 47, 32, 101, 110, 100]⟩ : ByteArray) = str endT := rfl
          rw [hE.out.eq, e, str_append]
        have HL := Lib.hid fun W V => lex_any (SP (bl len ss) ts ts.length ++ endT) (by rw [List.length_append]; have : endT.length = 7 := rfl; omega) W V
        rw [hus, ← hE3.out] at HL
        have HSM := Lib.hid fun v1 v2 W (h1 : TkV W v1 ts) (h2 : TkV W v2 us) => same_any ts us v1 v2 W h1 h2 hku.symm htl2
        clear hE hlen2 hsum hus hku hE3
        generalize (SP (bl len ss) ts ts.length ++ endT).length = tn at *
        go_wp2_with fail
        refine (HL.out _ (HV.out.below HB2.out)).mono ?_
        rintro e w4 ⟨v2, rfl, hown, hb4⟩
        have HT4 := Lib.hid (HT2.out.below hb4)
        have HU4 := Lib.hid (TkV.own hown)
        have HB4 := Lib.hid (HB2.out.trans (hb4.mono HB2.out.size))
        clear hb4 HT2 HB2 HL hown
        go_wp2_with fail
        refine (HSM.out _ _ _ HT4.out HU4.out).mono ?_
        rintro e w5 ⟨rfl, hb5⟩
        have HB5 := Lib.hid (HB4.out.trans (hb5.mono HB4.out.size))
        clear hb5 HT4 HB4 HU4 HSM
        go_wp2
        go_ret
        exact ⟨by simp, HB5.out⟩
  · have h0 : ¬ ((er : Nat) : Int) = 0 := by have : er ≠ 0 := her; omega
    clear HC her hnl HT2
    go_wp2
    go_ret
    exact ⟨rfl, HB2.out⟩

set_option maxHeartbeats 1000000 in
set_option maxRecDepth 100000 in
theorem spaces_off (l : List UInt8) (hl : l.length ≤ maxLen) (x : Option Addr) (len cap : Nat) (hlen : len ≤ 9223372036854775807) (h : 2000 < l.length ∨ 50 < len) (w : World) (V : Vs w) : Calls Tryd.prog 6 #[.string (str l), .slice x len cap] w fun e w' => e = .returned (.bool true) ∧ Below w.heap.size w w' := by
  have hsz : (str l).size = l.length := str_size l
  have HA := Lib.hid fun W V => awake_any W V
  have HV := Lib.hid V
  unfold maxLen at hl
  clear V
  by_cases h2 : 2000 < l.length
  · have hz2 : decide (2000 < (l.length : Int)) = true := decide_eq_true (by omega)
    clear h
    go_enter Tryd.func6, Tryd.ntmps6
    go_wp2_with fail
    refine (HA.out _ HV.out).mono ?_
    rintro e w1 ⟨rfl, hb1⟩
    have HV1 := Lib.hid (HV.out.below hb1)
    go_wp2_with fail
    refine (HA.out _ HV1.out).mono ?_
    rintro e w2 ⟨rfl, hb2⟩
    have hbb := hb1.trans (hb2.mono hb1.size)
    clear hb1 hb2
    go_wp2
    go_ret
    exact ⟨rfl, hbb⟩
  · have h5 : 50 < len := by omega
    have hz2 : decide (2000 < (l.length : Int)) = false := decide_eq_false (by omega)
    have hz3 : decide (50 < (len : Int)) = true := decide_eq_true (by omega)
    clear h
    go_enter Tryd.func6, Tryd.ntmps6
    go_wp2_with fail
    refine (HA.out _ HV.out).mono ?_
    rintro e w1 ⟨rfl, hb1⟩
    have HV1 := Lib.hid (HV.out.below hb1)
    go_wp2_with fail
    refine (HA.out _ HV1.out).mono ?_
    rintro e w2 ⟨rfl, hb2⟩
    have hbb := hb1.trans (hb2.mono hb1.size)
    clear hb1 hb2
    go_wp2
    go_ret
    exact ⟨rfl, hbb⟩
theorem lexerSpaces_walk (s : ByteArray) (hs : s.size ≤ maxLen) (x : Option Addr) (len cap : Nat) (hlen : len ≤ 9223372036854775807) (ss : Nat → List UInt8) (w : World) (V : Vs w) (hX : TextsAt w x len ss ∧ ∀ i, i < len → (ss i).length ≤ maxLen) :
    Calls Tryd.prog 6 #[.string s, .slice x len cap] w fun e w' => e = .returned (.bool true) ∧ Below w.heap.size w w' := by
  obtain ⟨l, rfl⟩ : ∃ l, s = str l := ⟨_, (str_of s).symm⟩
  rw [str_size] at hs
  by_cases h : 2000 < l.length ∨ 50 < len
  · exact spaces_off l hs x len cap hlen h w V
  · exact spaces_main l (by omega) x len cap (by omega) ss hX.2 w V hX.1
end Go.Proofs.YtgglmcjclbaceaaDoor
