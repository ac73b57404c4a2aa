/- Numbers: contract of the code. -/
import Derived.Test.YtgglmcjclbaceaaDoorLxParse
import Derived.Test.YtgglmcjclbaceaaDoorLxPunct
namespace Go.Proofs.YtgglmcjclbaceaaDoor
open Go Go.RowKit
set_option linter.unusedVariables false

/-- What the library's public function returns at digits. -/
def pub (o : Option Nat) (v : Value) : Prop := match o with
  | some n => v = .tuple #[.int .u64 (n : Int), .nilIface]
  | none => ∃ N, v = .tuple #[.int .u64 18446744073709551615, .iface 82 (.pointer (some ⟨N, 0, none⟩))]
theorem parseIn_any (base : Nat) (hb : base = 16 ∨ base = 10 ∨ base = 2) (t : ByteArray) (hne : t.size ≠ 0) (hmax : t.size ≤ 281474976710656) (hd : ∀ c ∈ t.data.toList, dv c < base) (w : World) :
    Calls Tryd.prog 78 #[.string t, .int .i64 (base : Int), .int .i64 64] w fun e w' => e = .returned (parsed (parseB base 0 t.data.toList)) ∧ Below w.heap.size w w' := by
  rcases hb with rfl | rfl | rfl
  · exact (parse16_any t hne (by omega) hd w).mono fun e w' ⟨he, hw⟩ => ⟨he, by rw [hw]; exact Lib.bytesWorld_below _ _ _⟩
  · exact (Tryd.internal_strconv_ParseUint_10_b64 t hne (by omega) w).mono fun e w' ⟨he, hw⟩ => ⟨by rw [he, parse10_same _ hd], by rw [hw]; exact Lib.bytesWorld_below _ _ _⟩
  · exact (parse2_any t hne (by omega) hd w).mono fun e w' ⟨he, hw⟩ => ⟨he, by rw [hw]; exact Lib.bytesWorld_below _ _ _⟩

set_option maxHeartbeats 1000000 in
set_option maxRecDepth 100000 in
theorem parsePub_any (base : Nat) (hb : base = 16 ∨ base = 10 ∨ base = 2) (t : ByteArray) (hne : t.size ≠ 0) (hmax : t.size ≤ 281474976710656) (hd : ∀ c ∈ t.data.toList, dv c < base) (w : World) (V : Vs w) :
    Calls Tryd.prog 62 #[.string t, .int .i64 (base : Int), .int .i64 64] w fun e w' => (∃ v, e = .returned v ∧ pub (parseB base 0 t.data.toList) v) ∧ Below w.heap.size w w' := by
  have HI := Lib.hid fun W => parseIn_any base hb t hne hmax hd W
  generalize parseB base 0 t.data.toList = o at *
  have HV := Lib.hid V
  clear hd V hb
  cases o with
  | some n =>
    go_enter Tryd.func62, Tryd.ntmps62
    go_wp2_with fail
    refine (HI.out _).mono ?_
    rintro e w1 ⟨rfl, hb1⟩
    unfold parsed
    go_wp2
    go_ret2
    exact ⟨⟨_, rfl, rfl⟩, hb1⟩
  | none =>
    go_enter Tryd.func62, Tryd.ntmps62
    go_wp2_with fail
    refine (HI.out _).mono ?_
    rintro e w1 ⟨rfl, hb1⟩
    unfold parsed
    obtain ⟨te, pe, hv⟩ := (HV.out.below hb1).rng
    have HB := Lib.hid hb1
    have HE := Lib.hid (Tryd.strconv_toError_range ⟨#[80, 97, 114, 115, 101, 85, 105, 110, 116]⟩ t base 64 _ w1 hmax hv (.inr ⟨_, _, rfl⟩))
    clear hv hb1
    go_wp2_with (go_at_call 55; refine HE.out.mono ?_; rintro e w2 ⟨N, rfl, _, _, hb2⟩)
    go_ret2
    exact ⟨⟨_, rfl, N, rfl⟩, HB.out.trans (hb2.mono HB.out.size)⟩

theorem takeWhile_all {p : UInt8 → Bool} {l : List UInt8} : l.takeWhile p = l ↔ l.all p = true := by
  induction l with
  | nil => simp
  | cons c r ih =>
    rw [List.takeWhile_cons, List.all_cons]
    by_cases h : p c = true
    · rw [if_pos h, h, Bool.true_and, List.cons.injEq]
      exact ⟨fun k => ih.1 k.2, fun k => ⟨rfl, ih.2 k⟩⟩
    · rw [if_neg h]
      have : p c = false := by cases hp : p c <;> simp_all
      rw [this]
      constructor <;> intro k <;> simp at k
theorem lead_eq {set : List UInt8} {base : Nat} (hs : ∀ b, set.contains b = isDig base b) (D : List UInt8) : ((str (D.takeWhile (set.contains ·))).toList == (str D).toList) = D.all (isDig base) := by
  rw [str_eq, Bool.eq_iff_iff, decide_eq_true_iff]
  have e : (fun b => set.contains b) = isDig base := funext hs
  rw [e]
  exact ⟨fun h => takeWhile_all.1 (str_inj h), fun h => by rw [takeWhile_all.2 h]⟩
theorem pre_str (l p : List UInt8) : preB (str l) ⟨p.toArray⟩ = p.isPrefixOf l := rfl
theorem lenPre {a b : UInt8} {l : List UInt8} (h : [a, b].isPrefixOf l = true) : 2 ≤ l.length := by
  have := (List.isPrefixOf_iff_prefix.1 h).length_le
  simpa using this
theorem asc_of_all {cs : List UInt8} (h : cs.all (fun b => decide (b.toNat < 128)) = true) (j : Nat) (b : UInt8) (hb : cs[j]? = some b) : b.toNat < 128 := by
  have := List.all_eq_true.1 h b (List.mem_of_getElem? hb)
  simpa using this
theorem leadSet_any (set : List UInt8) (D : List UInt8) (hset : set.all (fun b => decide (b.toNat < 128)) = true) (hl : set.length ≤ 1000) (hD : D.length ≤ 281474976710656) (w : World) :
    Calls Tryd.prog 49 #[.string (str D), .string ⟨set.toArray⟩] w fun e w' => e = .returned (.string (str (D.takeWhile (set.contains ·)))) ∧ Below w.heap.size w w' :=
  leading_any (str D) (str set) w (by rw [str_size]; unfold maxLen; omega) (by rw [str_size]; omega) (asc_of_all hset)

set_option maxHeartbeats 4000000 in
set_option maxRecDepth 100000 in
theorem number16_any (l : List UInt8) (hs : l.length ≤ 281474976710656) (h16 : [48, 120].isPrefixOf l = true) (w : World) (V : Vs w) : Calls Tryd.prog 51 #[.string (str l)] w fun e w' =>
    e = .returned (tkRet (numErr l) 3 l (numVal (baseOf l) (digs l))) ∧ Below w.heap.size w w' := by
  have hK := Blk.alloc w 29 tkZero
  have hb := (Below.refl w.heap.size w).alloc (Nat.le_refl _) (.cells tkZero.toArray 29)
  have hsz : (str l).size = l.length := str_size l
  have hbo : baseOf l = 16 := by unfold baseOf; rw [if_pos h16]
  have hdg : digs l = (l.drop 2) := by unfold digs; rw [hbo]; rfl
  have p1 : preB (str l) ⟨#[48, 120]⟩ = true := h16
  have hex : (str l).extract 2 l.length = str (l.drop 2) := by rw [← hsz, extract_tail]; rfl
  have hl2 : 2 ≤ l.length := lenPre h16
  have hDl : ((l.drop 2)).length ≤ 281474976710656 := by rw [List.length_drop]; omega
  have HL := Lib.hid fun W => leadSet_any [48, 49, 50, 51, 52, 53, 54, 55, 56, 57, 97, 98, 99, 100, 101, 102, 65, 66, 67, 68, 69, 70] (l.drop 2) (by decide) (by decide) hDl W
  have HQ := Lib.hid (lead_eq (set := [48, 49, 50, 51, 52, 53, 54, 55, 56, 57, 97, 98, 99, 100, 101, 102, 65, 66, 67, 68, 69, 70]) (base := 16) hexSet_is (l.drop 2))
  have HP := Lib.hid fun (h1 : (l.drop 2) ≠ []) (h2 : ((l.drop 2)).all (isDig 16) = true) W V => parsePub_any 16 (by omega) (str (l.drop 2)) (by rw [str_size]; exact fun h => h1 (List.eq_nil_of_length_eq_zero h)) (by rw [str_size]; exact hDl) (fun c hc => by have := List.all_eq_true.1 h2 c hc; simpa [isDig] using this) W V
  have HN := Lib.hid (parseB_num (base := 16) (by omega) (l.drop 2))
  have hnum : numErr l = if (l.drop 2) = [] ∨ ¬ ((l.drop 2)).all (isDig 16) = true then 4 else if 18446744073709551616 ≤ numVal 16 (l.drop 2) then 5 else 0 := by unfold numErr; rw [hbo, hdg]
  rw [hnum, hbo, hdg]
  have HV := Lib.hid V
  have hw : (w.alloc (.cells tkZero.toArray 29)).heap.size = w.heap.size + 1 := by simp
  have HW := Lib.hid hw
  have HB := Lib.hid hb
  have HK := Lib.hid hK
  clear hnum hbo hdg hK hb hw V h16
  generalize l.drop 2 = D at *
  by_cases hD : D = []
  · subst hD
    have q0 : (str []).toList.isEmpty = true := by rw [str_toList]; rfl
    clear HL HQ HP HN HV
    rw [if_pos (.inl rfl)]
    generalize numVal 16 [] = nv
    go_enter Tryd.func51, Tryd.ntmps51
    go_wp2_with (go_at_call 45; refine (pre_any _ _ _).mono ?_; rintro e w' ⟨rfl, rfl⟩)
    refine bodyPost_ret (HK.out.res Tryd.results51 Tryd.underlying29 rfl infoTok _ rfl) rfl ?_
    exact ⟨rfl, HB.out⟩
  · have q0 : (str D).toList.isEmpty = false := by rw [str_toList]; cases D with | nil => exact absurd rfl hD | cons _ _ => rfl
    generalize hA : (D).all (isDig 16) = al at *
    generalize numVal 16 D = nv at *
    generalize hPB : parseB 16 0 D = po at *
    generalize hTW : (D).takeWhile ([48, 49, 50, 51, 52, 53, 54, 55, 56, 57, 97, 98, 99, 100, 101, 102, 65, 66, 67, 68, 69, 70].contains ·) = TW at *
    clear hTW hA
    cases al
    · rw [if_pos (.inr (by simp))]
      have hq := HQ.out
      clear HQ HP HN HV hD
      go_enter Tryd.func51, Tryd.ntmps51
      go_wp2_with (go_at_call 45; refine (pre_any _ _ _).mono ?_; rintro e w' ⟨rfl, rfl⟩)
      refine (HL.out _).mono ?_
      rintro e w1 ⟨rfl, hb1⟩
      have hb1' : Below (w.heap.size + 1) (w.alloc (.cells tkZero.toArray 29)) w1 := by rw [← HW.out]; exact hb1
      have hK1 := HK.out.below hb1' (by omega)
      have hbb := HB.out.trans (hb1'.mono (by omega))
      obtain ⟨c0, c1, c2, c3, c4, f0, f1, f2, f3, f4⟩ := hK1.z5
      have HK1 := Lib.hid hK1
      have HBB := Lib.hid hbb
      clear hb1 hb1' hK1 hbb
      go_wp2
      refine bodyPost_ret ((HK1.out.put5 rfl _ _ _ _ _).res Tryd.results51 Tryd.underlying29 rfl infoTok _ rfl) rfl ?_
      exact ⟨rfl, below_put5 HBB.out (Nat.le_refl _) _ _ _ _ _⟩
    · rw [if_neg (by simp [hD])]
      obtain ⟨ne, hne⟩ : ∃ ne : Nat, ne = (if 18446744073709551616 ≤ nv then 5 else 0) := ⟨_, rfl⟩
      rw [← hne]
      have HNE := Lib.hid hne
      clear hne
      have hq := HQ.out
      have HP2 := Lib.hid (HP.out hD rfl)
      clear HQ HP hD
      go_enter Tryd.func51, Tryd.ntmps51
      go_wp2_with (go_at_call 45; refine (pre_any _ _ _).mono ?_; rintro e w' ⟨rfl, rfl⟩)
      refine (HL.out _).mono ?_
      rintro e w1 ⟨rfl, hb1⟩
      have hb1' : Below (w.heap.size + 1) (w.alloc (.cells tkZero.toArray 29)) w1 := by rw [← HW.out]; exact hb1
      have hK1 := HK.out.below hb1' (by omega)
      have hbb := HB.out.trans (hb1'.mono (by omega))
      have HV1 := Lib.hid (HV.out.below hbb)
      have HK1 := Lib.hid hK1
      have HBB := Lib.hid hbb
      have hlt := hK1.lt
      clear hb1 hb1' hK1 hbb HV
      go_wp2_with fail
      refine (HP2.out _ HV1.out).mono ?_
      rintro e w2 ⟨⟨v, rfl, hv⟩, hb2⟩
      have hK2 := HK1.out.below hb2 hlt
      have HBB2 := Lib.hid (HBB.out.trans (hb2.mono (by omega)))
      obtain ⟨c0, c1, c2, c3, c4, f0, f1, f2, f3, f4⟩ := hK2.z5
      have HK2 := Lib.hid hK2
      rw [str_data, hPB, HN.out] at hv
      clear hK2 hb2
      by_cases hov : 18446744073709551616 ≤ nv
      · rw [if_pos hov] at hv
        obtain rfl : ne = 5 := HNE.out.trans (if_pos hov)
        obtain ⟨N, rfl⟩ := hv
        clear hov HNE
        go_wp2
        refine bodyPost_ret ((HK2.out.put5 rfl _ _ _ _ _).res Tryd.results51 Tryd.underlying29 rfl infoTok _ rfl) rfl ?_
        exact ⟨rfl, below_put5 HBB2.out (Nat.le_refl _) _ _ _ _ _⟩
      · rw [if_neg hov] at hv
        obtain rfl : ne = 0 := HNE.out.trans (if_neg hov)
        clear HNE
        have hv' : v = .tuple #[.int .u64 (nv : Int), .nilIface] := hv
        subst hv'
        clear hov hv
        go_wp2
        refine bodyPost_ret ((HK2.out.put5 rfl _ _ _ _ _).res Tryd.results51 Tryd.underlying29 rfl infoTok _ rfl) rfl ?_
        exact ⟨rfl, below_put5 HBB2.out (Nat.le_refl _) _ _ _ _ _⟩

set_option maxHeartbeats 4000000 in
set_option maxRecDepth 100000 in
theorem number2_any (l : List UInt8) (hs : l.length ≤ 281474976710656) (h16 : [48, 120].isPrefixOf l = false) (h2 : [48, 98].isPrefixOf l = true) (w : World) (V : Vs w) : Calls Tryd.prog 51 #[.string (str l)] w fun e w' =>
    e = .returned (tkRet (numErr l) 3 l (numVal (baseOf l) (digs l))) ∧ Below w.heap.size w w' := by
  have hK := Blk.alloc w 29 tkZero
  have hb := (Below.refl w.heap.size w).alloc (Nat.le_refl _) (.cells tkZero.toArray 29)
  have hsz : (str l).size = l.length := str_size l
  have hbo : baseOf l = 2 := by unfold baseOf; rw [if_neg (by rw [h16]; simp), if_pos h2]
  have hdg : digs l = (l.drop 2) := by unfold digs; rw [hbo]; rfl
  have p1 : preB (str l) ⟨#[48, 120]⟩ = false := h16
  have p2 : preB (str l) ⟨#[48, 98]⟩ = true := h2
  have hex : (str l).extract 2 l.length = str (l.drop 2) := by rw [← hsz, extract_tail]; rfl
  have hl2 : 2 ≤ l.length := lenPre h2
  have hDl : ((l.drop 2)).length ≤ 281474976710656 := by rw [List.length_drop]; omega
  have HL := Lib.hid fun W => leadSet_any [48, 49] (l.drop 2) (by decide) (by decide) hDl W
  have HQ := Lib.hid (lead_eq (set := [48, 49]) (base := 2) binSet_is (l.drop 2))
  have HP := Lib.hid fun (h1 : (l.drop 2) ≠ []) (h2 : ((l.drop 2)).all (isDig 2) = true) W V => parsePub_any 2 (by omega) (str (l.drop 2)) (by rw [str_size]; exact fun h => h1 (List.eq_nil_of_length_eq_zero h)) (by rw [str_size]; exact hDl) (fun c hc => by have := List.all_eq_true.1 h2 c hc; simpa [isDig] using this) W V
  have HN := Lib.hid (parseB_num (base := 2) (by omega) (l.drop 2))
  have hnum : numErr l = if (l.drop 2) = [] ∨ ¬ ((l.drop 2)).all (isDig 2) = true then 4 else if 18446744073709551616 ≤ numVal 2 (l.drop 2) then 5 else 0 := by unfold numErr; rw [hbo, hdg]
  rw [hnum, hbo, hdg]
  have HV := Lib.hid V
  have hw : (w.alloc (.cells tkZero.toArray 29)).heap.size = w.heap.size + 1 := by simp
  have HW := Lib.hid hw
  have HB := Lib.hid hb
  have HK := Lib.hid hK
  clear hnum hbo hdg hK hb hw V h16 h2
  generalize l.drop 2 = D at *
  by_cases hD : D = []
  · subst hD
    have q0 : (str []).toList.isEmpty = true := by rw [str_toList]; rfl
    clear HL HQ HP HN HV
    rw [if_pos (.inl rfl)]
    generalize numVal 2 [] = nv
    go_enter Tryd.func51, Tryd.ntmps51
    go_wp2_with (go_at_call 45; refine (pre_any _ _ _).mono ?_; rintro e w' ⟨rfl, rfl⟩)
    refine bodyPost_ret (HK.out.res Tryd.results51 Tryd.underlying29 rfl infoTok _ rfl) rfl ?_
    exact ⟨rfl, HB.out⟩
  · have q0 : (str D).toList.isEmpty = false := by rw [str_toList]; cases D with | nil => exact absurd rfl hD | cons _ _ => rfl
    generalize hA : (D).all (isDig 2) = al at *
    generalize numVal 2 D = nv at *
    generalize hPB : parseB 2 0 D = po at *
    generalize hTW : (D).takeWhile ([48, 49].contains ·) = TW at *
    clear hTW hA
    cases al
    · rw [if_pos (.inr (by simp))]
      have hq := HQ.out
      clear HQ HP HN HV hD
      go_enter Tryd.func51, Tryd.ntmps51
      go_wp2_with (go_at_call 45; refine (pre_any _ _ _).mono ?_; rintro e w' ⟨rfl, rfl⟩)
      refine (HL.out _).mono ?_
      rintro e w1 ⟨rfl, hb1⟩
      have hb1' : Below (w.heap.size + 1) (w.alloc (.cells tkZero.toArray 29)) w1 := by rw [← HW.out]; exact hb1
      have hK1 := HK.out.below hb1' (by omega)
      have hbb := HB.out.trans (hb1'.mono (by omega))
      obtain ⟨c0, c1, c2, c3, c4, f0, f1, f2, f3, f4⟩ := hK1.z5
      have HK1 := Lib.hid hK1
      have HBB := Lib.hid hbb
      clear hb1 hb1' hK1 hbb
      go_wp2
      refine bodyPost_ret ((HK1.out.put5 rfl _ _ _ _ _).res Tryd.results51 Tryd.underlying29 rfl infoTok _ rfl) rfl ?_
      exact ⟨rfl, below_put5 HBB.out (Nat.le_refl _) _ _ _ _ _⟩
    · rw [if_neg (by simp [hD])]
      obtain ⟨ne, hne⟩ : ∃ ne : Nat, ne = (if 18446744073709551616 ≤ nv then 5 else 0) := ⟨_, rfl⟩
      rw [← hne]
      have HNE := Lib.hid hne
      clear hne
      have hq := HQ.out
      have HP2 := Lib.hid (HP.out hD rfl)
      clear HQ HP hD
      go_enter Tryd.func51, Tryd.ntmps51
      go_wp2_with (go_at_call 45; refine (pre_any _ _ _).mono ?_; rintro e w' ⟨rfl, rfl⟩)
      refine (HL.out _).mono ?_
      rintro e w1 ⟨rfl, hb1⟩
      have hb1' : Below (w.heap.size + 1) (w.alloc (.cells tkZero.toArray 29)) w1 := by rw [← HW.out]; exact hb1
      have hK1 := HK.out.below hb1' (by omega)
      have hbb := HB.out.trans (hb1'.mono (by omega))
      have HV1 := Lib.hid (HV.out.below hbb)
      have HK1 := Lib.hid hK1
      have HBB := Lib.hid hbb
      have hlt := hK1.lt
      clear hb1 hb1' hK1 hbb HV
      go_wp2_with fail
      refine (HP2.out _ HV1.out).mono ?_
      rintro e w2 ⟨⟨v, rfl, hv⟩, hb2⟩
      have hK2 := HK1.out.below hb2 hlt
      have HBB2 := Lib.hid (HBB.out.trans (hb2.mono (by omega)))
      obtain ⟨c0, c1, c2, c3, c4, f0, f1, f2, f3, f4⟩ := hK2.z5
      have HK2 := Lib.hid hK2
      rw [str_data, hPB, HN.out] at hv
      clear hK2 hb2
      by_cases hov : 18446744073709551616 ≤ nv
      · rw [if_pos hov] at hv
        obtain rfl : ne = 5 := HNE.out.trans (if_pos hov)
        obtain ⟨N, rfl⟩ := hv
        clear hov HNE
        go_wp2
        refine bodyPost_ret ((HK2.out.put5 rfl _ _ _ _ _).res Tryd.results51 Tryd.underlying29 rfl infoTok _ rfl) rfl ?_
        exact ⟨rfl, below_put5 HBB2.out (Nat.le_refl _) _ _ _ _ _⟩
      · rw [if_neg hov] at hv
        obtain rfl : ne = 0 := HNE.out.trans (if_neg hov)
        clear HNE
        have hv' : v = .tuple #[.int .u64 (nv : Int), .nilIface] := hv
        subst hv'
        clear hov hv
        go_wp2
        refine bodyPost_ret ((HK2.out.put5 rfl _ _ _ _ _).res Tryd.results51 Tryd.underlying29 rfl infoTok _ rfl) rfl ?_
        exact ⟨rfl, below_put5 HBB2.out (Nat.le_refl _) _ _ _ _ _⟩

set_option maxHeartbeats 4000000 in
set_option maxRecDepth 100000 in
theorem number10_any (l : List UInt8) (hs : l.length ≤ 281474976710656) (h16 : [48, 120].isPrefixOf l = false) (h2 : [48, 98].isPrefixOf l = false) (hne : l ≠ []) (w : World) (V : Vs w) : Calls Tryd.prog 51 #[.string (str l)] w fun e w' =>
    e = .returned (tkRet (numErr l) 3 l (numVal (baseOf l) (digs l))) ∧ Below w.heap.size w w' := by
  have hK := Blk.alloc w 29 tkZero
  have hb := (Below.refl w.heap.size w).alloc (Nat.le_refl _) (.cells tkZero.toArray 29)
  have hsz : (str l).size = l.length := str_size l
  have hbo : baseOf l = 10 := by unfold baseOf; rw [if_neg (by rw [h16]; simp), if_neg (by rw [h2]; simp)]
  have hdg : digs l = l := by unfold digs; rw [if_pos hbo]
  have p1 : preB (str l) ⟨#[48, 120]⟩ = false := h16
  have p2 : preB (str l) ⟨#[48, 98]⟩ = false := h2
  have hDl : (l).length ≤ 281474976710656 := by exact hs
  have HL := Lib.hid fun W => leadSet_any [48, 49, 50, 51, 52, 53, 54, 55, 56, 57] l (by decide) (by decide) hDl W
  have HQ := Lib.hid (lead_eq (set := [48, 49, 50, 51, 52, 53, 54, 55, 56, 57]) (base := 10) decSet_is l)
  have HP := Lib.hid fun (h1 : l ≠ []) (h2 : (l).all (isDig 10) = true) W V => parsePub_any 10 (by omega) (str l) (by rw [str_size]; exact fun h => h1 (List.eq_nil_of_length_eq_zero h)) (by rw [str_size]; exact hDl) (fun c hc => by have := List.all_eq_true.1 h2 c hc; simpa [isDig] using this) W V
  have HN := Lib.hid (parseB_num (base := 10) (by omega) l)
  have hnum : numErr l = if l = [] ∨ ¬ (l).all (isDig 10) = true then 4 else if 18446744073709551616 ≤ numVal 10 l then 5 else 0 := by unfold numErr; rw [hbo, hdg]
  rw [hnum, hbo, hdg]
  have HV := Lib.hid V
  have hw : (w.alloc (.cells tkZero.toArray 29)).heap.size = w.heap.size + 1 := by simp
  have HW := Lib.hid hw
  have HB := Lib.hid hb
  have HK := Lib.hid hK
  clear hnum hbo hdg hK hb hw V h16 h2
  obtain ⟨D, hDD⟩ : ∃ D, D = l := ⟨_, rfl⟩
  by_cases hD : l = []
  · exact absurd hD hne
  · have q0 : (str l).toList.isEmpty = false := by rw [str_toList]; cases l with | nil => exact absurd rfl hD | cons _ _ => rfl
    clear hDD hne
    generalize hA : (l).all (isDig 10) = al at *
    generalize numVal 10 l = nv at *
    generalize hPB : parseB 10 0 l = po at *
    generalize hTW : (l).takeWhile ([48, 49, 50, 51, 52, 53, 54, 55, 56, 57].contains ·) = TW at *
    clear hTW hA
    cases al
    · rw [if_pos (.inr (by simp))]
      have hq := HQ.out
      clear HQ HP HN HV hD
      go_enter Tryd.func51, Tryd.ntmps51
      go_wp2_with (go_at_call 45; refine (pre_any _ _ _).mono ?_; rintro e w' ⟨rfl, rfl⟩)
      refine (HL.out _).mono ?_
      rintro e w1 ⟨rfl, hb1⟩
      have hb1' : Below (w.heap.size + 1) (w.alloc (.cells tkZero.toArray 29)) w1 := by rw [← HW.out]; exact hb1
      have hK1 := HK.out.below hb1' (by omega)
      have hbb := HB.out.trans (hb1'.mono (by omega))
      obtain ⟨c0, c1, c2, c3, c4, f0, f1, f2, f3, f4⟩ := hK1.z5
      have HK1 := Lib.hid hK1
      have HBB := Lib.hid hbb
      clear hb1 hb1' hK1 hbb
      go_wp2
      refine bodyPost_ret ((HK1.out.put5 rfl _ _ _ _ _).res Tryd.results51 Tryd.underlying29 rfl infoTok _ rfl) rfl ?_
      exact ⟨rfl, below_put5 HBB.out (Nat.le_refl _) _ _ _ _ _⟩
    · rw [if_neg (by simp [hD])]
      obtain ⟨ne, hne⟩ : ∃ ne : Nat, ne = (if 18446744073709551616 ≤ nv then 5 else 0) := ⟨_, rfl⟩
      rw [← hne]
      have HNE := Lib.hid hne
      clear hne
      have hq := HQ.out
      have HP2 := Lib.hid (HP.out hD rfl)
      clear HQ HP hD
      go_enter Tryd.func51, Tryd.ntmps51
      go_wp2_with (go_at_call 45; refine (pre_any _ _ _).mono ?_; rintro e w' ⟨rfl, rfl⟩)
      refine (HL.out _).mono ?_
      rintro e w1 ⟨rfl, hb1⟩
      have hb1' : Below (w.heap.size + 1) (w.alloc (.cells tkZero.toArray 29)) w1 := by rw [← HW.out]; exact hb1
      have hK1 := HK.out.below hb1' (by omega)
      have hbb := HB.out.trans (hb1'.mono (by omega))
      have HV1 := Lib.hid (HV.out.below hbb)
      have HK1 := Lib.hid hK1
      have HBB := Lib.hid hbb
      have hlt := hK1.lt
      clear hb1 hb1' hK1 hbb HV
      go_wp2_with fail
      refine (HP2.out _ HV1.out).mono ?_
      rintro e w2 ⟨⟨v, rfl, hv⟩, hb2⟩
      have hK2 := HK1.out.below hb2 hlt
      have HBB2 := Lib.hid (HBB.out.trans (hb2.mono (by omega)))
      obtain ⟨c0, c1, c2, c3, c4, f0, f1, f2, f3, f4⟩ := hK2.z5
      have HK2 := Lib.hid hK2
      rw [str_data, hPB, HN.out] at hv
      clear hK2 hb2
      by_cases hov : 18446744073709551616 ≤ nv
      · rw [if_pos hov] at hv
        obtain rfl : ne = 5 := HNE.out.trans (if_pos hov)
        obtain ⟨N, rfl⟩ := hv
        clear hov HNE
        go_wp2
        refine bodyPost_ret ((HK2.out.put5 rfl _ _ _ _ _).res Tryd.results51 Tryd.underlying29 rfl infoTok _ rfl) rfl ?_
        exact ⟨rfl, below_put5 HBB2.out (Nat.le_refl _) _ _ _ _ _⟩
      · rw [if_neg hov] at hv
        obtain rfl : ne = 0 := HNE.out.trans (if_neg hov)
        clear HNE
        have hv' : v = .tuple #[.int .u64 (nv : Int), .nilIface] := hv
        subst hv'
        clear hov hv
        go_wp2
        refine bodyPost_ret ((HK2.out.put5 rfl _ _ _ _ _).res Tryd.results51 Tryd.underlying29 rfl infoTok _ rfl) rfl ?_
        exact ⟨rfl, below_put5 HBB2.out (Nat.le_refl _) _ _ _ _ _⟩

end Go.Proofs.YtgglmcjclbaceaaDoor
