/- Numbers: contract of the code. -/
import Derived.Test.YtkliclihpobmiaaGreatDoorMgLxParse
import Derived.Test.YtkliclihpobmiaaGreatDoorMgLxPunct
namespace Go.Proofs.YtkliclihpobmiaaGreatDoor
open Go Go.RowKit
set_option linter.unusedVariables false

def pub (o : Option Nat) (v : Value) : Prop := match o with
 | some n => v = .tuple #[.int .u64 (n : Int), .nilIface]
 | none => ∃ N, v = .tuple #[.int .u64 18446744073709551615, .iface 151 (.pointer (some ⟨N, 0, none⟩))]
theorem parseIn_any (base : Nat) (hb : base = 16 ∨ base = 10 ∨ base = 2) (t : ByteArray) (hne : t.size ≠ 0) (hmax : t.size ≤ 281474976710656) (hd : ∀ c ∈ t.data.toList, dv c < base) (w : World) :
  Calls Tryz.prog 151 #[.string t, .int .i64 (base : Int), .int .i64 64] w fun e w' => e = .returned (parsed (parseB base 0 t.data.toList)) ∧ Below w.heap.size w w' := by
 rcases hb with rfl | rfl | rfl
 ·exact (parse16_any t hne (by omega) hd w).mono fun e w' ⟨he, hw⟩ => ⟨he, by rw [hw]; exact Lib.bytesWorld_below _ _ _⟩
 ·exact (Tryz.internal_strconv_ParseUint_10_b64 t hne (by omega) w).mono fun e w' ⟨he, hw⟩ => ⟨by rw [he, parse10_same _ hd], by rw [hw]; exact Lib.bytesWorld_below _ _ _⟩
 ·exact (parse2_any t hne (by omega) hd w).mono fun e w' ⟨he, hw⟩ => ⟨he, by rw [hw]; exact Lib.bytesWorld_below _ _ _⟩

set_option maxHeartbeats 1000000 in
set_option maxRecDepth 100000 in
theorem parsePub_any (base : Nat) (hb : base = 16 ∨ base = 10 ∨ base = 2) (t : ByteArray) (hne : t.size ≠ 0) (hmax : t.size ≤ 281474976710656) (hd : ∀ c ∈ t.data.toList, dv c < base) (w : World) (V : Vs w) :
  Calls Tryz.prog 125 #[.string t, .int .i64 (base : Int), .int .i64 64] w fun e w' => (∃ v, e = .returned v ∧ pub (parseB base 0 t.data.toList) v) ∧ Below w.heap.size w w' := by
 have HI := Hd fun W => parseIn_any base hb t hne hmax hd W
 generalize parseB base 0 t.data.toList = o at *
 have HV := Hd V
 clear hd V hb
 cases o with
 | some n =>
  go_enter Tryz.func125, Tryz.ntmps125
  go_wp2_with fail
  refine (HI.out _).mono ?_
  rintro e w1 ⟨rfl, hb1⟩
  unfold parsed
  go_wp2
  go_ret2
  exact ⟨⟨_, rfl, rfl⟩, hb1⟩
 | none =>
  go_enter Tryz.func125, Tryz.ntmps125
  go_wp2_with fail
  refine (HI.out _).mono ?_
  rintro e w1 ⟨rfl, hb1⟩
  unfold parsed
  obtain ⟨te, pe, hv⟩ := (HV.out.below hb1).rng
  have HB := Hd hb1
  have HE := Hd (Tryz.strconv_toError_range ⟨#[80, 97, 114, 115, 101, 85, 105, 110, 116]⟩ t base 64 _ w1 hmax hv (.inr ⟨_, _, rfl⟩))
  clear hv hb1
  go_wp2_with (go_at_call 152; refine HE.out.mono ?_; rintro e w2 ⟨N, rfl, _, _, hb2⟩)
  go_ret2
  exact ⟨⟨_, rfl, N, rfl⟩, HB.out.trans (hb2.mono HB.out.size)⟩

theorem takeWhile_all {p : UInt8 → Bool} {l : List UInt8} : l.takeWhile p = l ↔ l.all p = true := by
 induction l with
 | nil => simp
 | cons c r ih =>
  rw [List.takeWhile_cons, List.all_cons]
  by_cases h : p c = true
  ·rw [if_pos h, h, Bool.true_and, List.cons.injEq]
   exact ⟨fun k => ih.1 k.2, fun k => ⟨rfl, ih.2 k⟩⟩
  ·rw [if_neg h]
   have : p c = false := by cases hp : p c <;> simp_all
   rw [this]
   constructor <;> intro k <;> simp at k
theorem lead_eq {set : List UInt8} {base : Nat} (hs : ∀ b, set.contains b = isDig base b) (D : List UInt8) : ((str (D.takeWhile (set.contains ·))).toList == (str D).toList) = D.all (isDig base) := by
 rw [str_eq, Bool.eq_iff_iff, decide_eq_true_iff]
 have e : (fun b => set.contains b) = isDig base := funext hs
 rw [e]
 exact ⟨fun h => takeWhile_all.1 (str_inj h), fun h => by rw [takeWhile_all.2 h]⟩
theorem lenPre {a b : UInt8} {l : List UInt8} (h : [a, b].isPrefixOf l = true) : 2 ≤ l.length := by
 have := (List.isPrefixOf_iff_prefix.1 h).length_le
 simpa using this
theorem asc_of_all {cs : List UInt8} (h : cs.all (fun b => decide (b.toNat < 128)) = true) (j : Nat) (b : UInt8) (hb : cs[j]? = some b) : b.toNat < 128 := by
 have := List.all_eq_true.1 h b (List.mem_of_getElem? hb)
 simpa using this
theorem leadSet_any (set : List UInt8) (D : List UInt8) (hset : set.all (fun b => decide (b.toNat < 128)) = true) (hl : set.length ≤ 1000) (hD : D.length ≤ 281474976710656) (w : World) :
  Calls Tryz.prog 85 #[.string (str D), .string ⟨set.toArray⟩] w fun e w' => e = .returned (.string (str (D.takeWhile (set.contains ·)))) ∧ Below w.heap.size w w' :=
 leading_any (str D) (str set) w (by rw [str_size]; unfold maxLen; omega) (by rw [str_size]; omega) (asc_of_all hset)

set_option maxHeartbeats 4000000 in
set_option maxRecDepth 100000 in
theorem number16_any (l : List UInt8) (hs : l.length ≤ 281474976710656) (h16 : [48, 120].isPrefixOf l = true) (w : World) (V : Vs w) : Calls Tryz.prog 87 #[.string (str l)] w fun e w' =>
  e = .returned (tkRet (numErr l) 3 l (numVal (baseOf l) (digs l))) ∧ Below w.heap.size w w' := by
 have hK := Blk.alloc w 53 tkZero
 have hb := (Below.refl w.heap.size w).alloc (Nat.le_refl _) (.cells tkZero.toArray 53)
 have hsz : (str l).size = l.length := str_size l
 have hbo : baseOf l = 16 := by unfold baseOf; rw [if_pos h16]
 have hdg : digs l = (l.drop 2) := by unfold digs; rw [hbo]; rfl
 have p1 : preB (str l) ⟨#[48, 120]⟩ = true := h16
 have hex : (str l).extract 2 l.length = str (l.drop 2) := by rw [← hsz, extract_tail]; rfl
 have hl2 : 2 ≤ l.length := lenPre h16
 have hDl : ((l.drop 2)).length ≤ 281474976710656 := by rw [List.length_drop]; omega
 have HL := Hd fun W => leadSet_any [48, 49, 50, 51, 52, 53, 54, 55, 56, 57, 97, 98, 99, 100, 101, 102, 65, 66, 67, 68, 69, 70] (l.drop 2) (by decide) (by decide) hDl W
 have HQ := Hd (lead_eq (set := [48, 49, 50, 51, 52, 53, 54, 55, 56, 57, 97, 98, 99, 100, 101, 102, 65, 66, 67, 68, 69, 70]) (base := 16) hexSet_is (l.drop 2))
 have HP := Hd fun (h1 : (l.drop 2) ≠ []) (h2 : ((l.drop 2)).all (isDig 16) = true) W V => parsePub_any 16 (by omega) (str (l.drop 2)) (by rw [str_size]; exact fun h => h1 (List.eq_nil_of_length_eq_zero h)) (by rw [str_size]; exact hDl) (fun c hc => by have := List.all_eq_true.1 h2 c hc; simpa [isDig] using this) W V
 have HN := Hd (parseB_num (base := 16) (by omega) (l.drop 2))
 have hnum : numErr l = if (l.drop 2) = [] ∨ ¬ ((l.drop 2)).all (isDig 16) = true then 4 else if 18446744073709551616 ≤ numVal 16 (l.drop 2) then 5 else 0 := by unfold numErr; rw [hbo, hdg]
 rw [hnum, hbo, hdg]
 have HV := Hd V
 have hw : (w.alloc (.cells tkZero.toArray 53)).heap.size = w.heap.size + 1 := by simp
 have HW := Hd hw
 have HB := Hd hb
 have HK := Hd hK
 clear hnum hbo hdg hK hb hw V h16
 generalize l.drop 2 = D at *
 by_cases hD : D = []
 ·subst hD
  have q0 : (str []).toList.isEmpty = true := by rw [str_toList]; rfl
  clear HL HQ HP HN HV
  rw [if_pos (.inl rfl)]
  generalize numVal 16 [] = nv
  go_enter Tryz.func87, Tryz.ntmps87
  go_wp2_with (go_at_call 84; refine (pre_any _ _ _).mono ?_; rintro e w' ⟨rfl, rfl⟩)
  refine bodyPost_ret (HK.out.res Tryz.results87 Tryz.underlying53 rfl infoTok _ rfl) rfl ?_
  exact ⟨rfl, HB.out⟩
 ·have q0 : (str D).toList.isEmpty = false := by rw [str_toList]; cases D with | nil => exact absurd rfl hD | cons _ _ => rfl
  generalize hA : (D).all (isDig 16) = al at *
  generalize numVal 16 D = nv at *
  generalize hPB : parseB 16 0 D = po at *
  generalize hTW : (D).takeWhile ([48, 49, 50, 51, 52, 53, 54, 55, 56, 57, 97, 98, 99, 100, 101, 102, 65, 66, 67, 68, 69, 70].contains ·) = TW at *
  clear hTW hA
  cases al
  ·rw [if_pos (.inr (by simp))]
   have hq := HQ.out
   clear HQ HP HN HV hD
   go_enter Tryz.func87, Tryz.ntmps87
   go_wp2_with (go_at_call 84; refine (pre_any _ _ _).mono ?_; rintro e w' ⟨rfl, rfl⟩)
   refine (HL.out _).mono ?_
   rintro e w1 ⟨rfl, hb1⟩
   have hb1' : Below (w.heap.size + 1) (w.alloc (.cells tkZero.toArray 53)) w1 := by rw [← HW.out]; exact hb1
   have hK1 := HK.out.below hb1' (by omega)
   have hbb := HB.out.trans (hb1'.mono (by omega))
   obtain ⟨c0, c1, c2, c3, c4, f0, f1, f2, f3, f4⟩ := hK1.z5
   have HK1 := Hd hK1
   have HBB := Hd hbb
   clear hb1 hb1' hK1 hbb
   go_wp2
   refine bodyPost_ret ((HK1.out.put5 rfl _ _ _ _ _).res Tryz.results87 Tryz.underlying53 rfl infoTok _ rfl) rfl ?_
   exact ⟨rfl, below_put5 HBB.out (Nat.le_refl _) _ _ _ _ _⟩
  ·rw [if_neg (by simp [hD])]
   obtain ⟨ne, hne⟩ : ∃ ne : Nat, ne = (if 18446744073709551616 ≤ nv then 5 else 0) := ⟨_, rfl⟩
   rw [← hne]
   have HNE := Hd hne
   clear hne
   have hq := HQ.out
   have HP2 := Hd (HP.out hD rfl)
   clear HQ HP hD
   go_enter Tryz.func87, Tryz.ntmps87
   go_wp2_with (go_at_call 84; refine (pre_any _ _ _).mono ?_; rintro e w' ⟨rfl, rfl⟩)
   refine (HL.out _).mono ?_
   rintro e w1 ⟨rfl, hb1⟩
   have hb1' : Below (w.heap.size + 1) (w.alloc (.cells tkZero.toArray 53)) w1 := by rw [← HW.out]; exact hb1
   have hK1 := HK.out.below hb1' (by omega)
   have hbb := HB.out.trans (hb1'.mono (by omega))
   have HV1 := Hd (HV.out.below hbb)
   have HK1 := Hd hK1
   have HBB := Hd hbb
   have hlt := hK1.lt
   clear hb1 hb1' hK1 hbb HV
   go_wp2_with fail
   refine (HP2.out _ HV1.out).mono ?_
   rintro e w2 ⟨⟨v, rfl, hv⟩, hb2⟩
   have hK2 := HK1.out.below hb2 hlt
   have HBB2 := Hd (HBB.out.trans (hb2.mono (by omega)))
   obtain ⟨c0, c1, c2, c3, c4, f0, f1, f2, f3, f4⟩ := hK2.z5
   have HK2 := Hd hK2
   rw [str_data, hPB, HN.out] at hv
   clear hK2 hb2
   by_cases hov : 18446744073709551616 ≤ nv
   ·rw [if_pos hov] at hv
    obtain rfl : ne = 5 := HNE.out.trans (if_pos hov)
    obtain ⟨N, rfl⟩ := hv
    clear hov HNE
    go_wp2
    refine bodyPost_ret ((HK2.out.put5 rfl _ _ _ _ _).res Tryz.results87 Tryz.underlying53 rfl infoTok _ rfl) rfl ?_
    exact ⟨rfl, below_put5 HBB2.out (Nat.le_refl _) _ _ _ _ _⟩
   ·rw [if_neg hov] at hv
    obtain rfl : ne = 0 := HNE.out.trans (if_neg hov)
    clear HNE
    have hv' : v = .tuple #[.int .u64 (nv : Int), .nilIface] := hv
    subst hv'
    clear hov hv
    go_wp2
    refine bodyPost_ret ((HK2.out.put5 rfl _ _ _ _ _).res Tryz.results87 Tryz.underlying53 rfl infoTok _ rfl) rfl ?_
    exact ⟨rfl, below_put5 HBB2.out (Nat.le_refl _) _ _ _ _ _⟩

set_option maxHeartbeats 4000000 in
set_option maxRecDepth 100000 in
theorem number2_any (l : List UInt8) (hs : l.length ≤ 281474976710656) (h16 : [48, 120].isPrefixOf l = false) (h2 : [48, 98].isPrefixOf l = true) (w : World) (V : Vs w) : Calls Tryz.prog 87 #[.string (str l)] w fun e w' =>
  e = .returned (tkRet (numErr l) 3 l (numVal (baseOf l) (digs l))) ∧ Below w.heap.size w w' := by
 have hK := Blk.alloc w 53 tkZero
 have hb := (Below.refl w.heap.size w).alloc (Nat.le_refl _) (.cells tkZero.toArray 53)
 have hsz : (str l).size = l.length := str_size l
 have hbo : baseOf l = 2 := by unfold baseOf; rw [if_neg (by rw [h16]; simp), if_pos h2]
 have hdg : digs l = (l.drop 2) := by unfold digs; rw [hbo]; rfl
 have p1 : preB (str l) ⟨#[48, 120]⟩ = false := h16
 have p2 : preB (str l) ⟨#[48, 98]⟩ = true := h2
 have hex : (str l).extract 2 l.length = str (l.drop 2) := by rw [← hsz, extract_tail]; rfl
 have hl2 : 2 ≤ l.length := lenPre h2
 have hDl : ((l.drop 2)).length ≤ 281474976710656 := by rw [List.length_drop]; omega
 have HL := Hd fun W => leadSet_any [48, 49] (l.drop 2) (by decide) (by decide) hDl W
 have HQ := Hd (lead_eq (set := [48, 49]) (base := 2) binSet_is (l.drop 2))
 have HP := Hd fun (h1 : (l.drop 2) ≠ []) (h2 : ((l.drop 2)).all (isDig 2) = true) W V => parsePub_any 2 (by omega) (str (l.drop 2)) (by rw [str_size]; exact fun h => h1 (List.eq_nil_of_length_eq_zero h)) (by rw [str_size]; exact hDl) (fun c hc => by have := List.all_eq_true.1 h2 c hc; simpa [isDig] using this) W V
 have HN := Hd (parseB_num (base := 2) (by omega) (l.drop 2))
 have hnum : numErr l = if (l.drop 2) = [] ∨ ¬ ((l.drop 2)).all (isDig 2) = true then 4 else if 18446744073709551616 ≤ numVal 2 (l.drop 2) then 5 else 0 := by unfold numErr; rw [hbo, hdg]
 rw [hnum, hbo, hdg]
 have HV := Hd V
 have hw : (w.alloc (.cells tkZero.toArray 53)).heap.size = w.heap.size + 1 := by simp
 have HW := Hd hw
 have HB := Hd hb
 have HK := Hd hK
 clear hnum hbo hdg hK hb hw V h16 h2
 generalize l.drop 2 = D at *
 by_cases hD : D = []
 ·subst hD
  have q0 : (str []).toList.isEmpty = true := by rw [str_toList]; rfl
  clear HL HQ HP HN HV
  rw [if_pos (.inl rfl)]
  generalize numVal 2 [] = nv
  go_enter Tryz.func87, Tryz.ntmps87
  go_wp2_with (go_at_call 84; refine (pre_any _ _ _).mono ?_; rintro e w' ⟨rfl, rfl⟩)
  refine bodyPost_ret (HK.out.res Tryz.results87 Tryz.underlying53 rfl infoTok _ rfl) rfl ?_
  exact ⟨rfl, HB.out⟩
 ·have q0 : (str D).toList.isEmpty = false := by rw [str_toList]; cases D with | nil => exact absurd rfl hD | cons _ _ => rfl
  generalize hA : (D).all (isDig 2) = al at *
  generalize numVal 2 D = nv at *
  generalize hPB : parseB 2 0 D = po at *
  generalize hTW : (D).takeWhile ([48, 49].contains ·) = TW at *
  clear hTW hA
  cases al
  ·rw [if_pos (.inr (by simp))]
   have hq := HQ.out
   clear HQ HP HN HV hD
   go_enter Tryz.func87, Tryz.ntmps87
   go_wp2_with (go_at_call 84; refine (pre_any _ _ _).mono ?_; rintro e w' ⟨rfl, rfl⟩)
   refine (HL.out _).mono ?_
   rintro e w1 ⟨rfl, hb1⟩
   have hb1' : Below (w.heap.size + 1) (w.alloc (.cells tkZero.toArray 53)) w1 := by rw [← HW.out]; exact hb1
   have hK1 := HK.out.below hb1' (by omega)
   have hbb := HB.out.trans (hb1'.mono (by omega))
   obtain ⟨c0, c1, c2, c3, c4, f0, f1, f2, f3, f4⟩ := hK1.z5
   have HK1 := Hd hK1
   have HBB := Hd hbb
   clear hb1 hb1' hK1 hbb
   go_wp2
   refine bodyPost_ret ((HK1.out.put5 rfl _ _ _ _ _).res Tryz.results87 Tryz.underlying53 rfl infoTok _ rfl) rfl ?_
   exact ⟨rfl, below_put5 HBB.out (Nat.le_refl _) _ _ _ _ _⟩
  ·rw [if_neg (by simp [hD])]
   obtain ⟨ne, hne⟩ : ∃ ne : Nat, ne = (if 18446744073709551616 ≤ nv then 5 else 0) := ⟨_, rfl⟩
   rw [← hne]
   have HNE := Hd hne
   clear hne
   have hq := HQ.out
   have HP2 := Hd (HP.out hD rfl)
   clear HQ HP hD
   go_enter Tryz.func87, Tryz.ntmps87
   go_wp2_with (go_at_call 84; refine (pre_any _ _ _).mono ?_; rintro e w' ⟨rfl, rfl⟩)
   refine (HL.out _).mono ?_
   rintro e w1 ⟨rfl, hb1⟩
   have hb1' : Below (w.heap.size + 1) (w.alloc (.cells tkZero.toArray 53)) w1 := by rw [← HW.out]; exact hb1
   have hK1 := HK.out.below hb1' (by omega)
   have hbb := HB.out.trans (hb1'.mono (by omega))
   have HV1 := Hd (HV.out.below hbb)
   have HK1 := Hd hK1
   have HBB := Hd hbb
   have hlt := hK1.lt
   clear hb1 hb1' hK1 hbb HV
   go_wp2_with fail
   refine (HP2.out _ HV1.out).mono ?_
   rintro e w2 ⟨⟨v, rfl, hv⟩, hb2⟩
   have hK2 := HK1.out.below hb2 hlt
   have HBB2 := Hd (HBB.out.trans (hb2.mono (by omega)))
   obtain ⟨c0, c1, c2, c3, c4, f0, f1, f2, f3, f4⟩ := hK2.z5
   have HK2 := Hd hK2
   rw [str_data, hPB, HN.out] at hv
   clear hK2 hb2
   by_cases hov : 18446744073709551616 ≤ nv
   ·rw [if_pos hov] at hv
    obtain rfl : ne = 5 := HNE.out.trans (if_pos hov)
    obtain ⟨N, rfl⟩ := hv
    clear hov HNE
    go_wp2
    refine bodyPost_ret ((HK2.out.put5 rfl _ _ _ _ _).res Tryz.results87 Tryz.underlying53 rfl infoTok _ rfl) rfl ?_
    exact ⟨rfl, below_put5 HBB2.out (Nat.le_refl _) _ _ _ _ _⟩
   ·rw [if_neg hov] at hv
    obtain rfl : ne = 0 := HNE.out.trans (if_neg hov)
    clear HNE
    have hv' : v = .tuple #[.int .u64 (nv : Int), .nilIface] := hv
    subst hv'
    clear hov hv
    go_wp2
    refine bodyPost_ret ((HK2.out.put5 rfl _ _ _ _ _).res Tryz.results87 Tryz.underlying53 rfl infoTok _ rfl) rfl ?_
    exact ⟨rfl, below_put5 HBB2.out (Nat.le_refl _) _ _ _ _ _⟩

set_option maxHeartbeats 4000000 in
set_option maxRecDepth 100000 in
theorem number10_any (l : List UInt8) (hs : l.length ≤ 281474976710656) (h16 : [48, 120].isPrefixOf l = false) (h2 : [48, 98].isPrefixOf l = false) (hne : l ≠ []) (w : World) (V : Vs w) : Calls Tryz.prog 87 #[.string (str l)] w fun e w' =>
  e = .returned (tkRet (numErr l) 3 l (numVal (baseOf l) (digs l))) ∧ Below w.heap.size w w' := by
 have hK := Blk.alloc w 53 tkZero
 have hb := (Below.refl w.heap.size w).alloc (Nat.le_refl _) (.cells tkZero.toArray 53)
 have hsz : (str l).size = l.length := str_size l
 have hbo : baseOf l = 10 := by unfold baseOf; rw [if_neg (by rw [h16]; simp), if_neg (by rw [h2]; simp)]
 have hdg : digs l = l := by unfold digs; rw [if_pos hbo]
 have p1 : preB (str l) ⟨#[48, 120]⟩ = false := h16
 have p2 : preB (str l) ⟨#[48, 98]⟩ = false := h2
 have hDl : (l).length ≤ 281474976710656 := by exact hs
 have HL := Hd fun W => leadSet_any [48, 49, 50, 51, 52, 53, 54, 55, 56, 57] l (by decide) (by decide) hDl W
 have HQ := Hd (lead_eq (set := [48, 49, 50, 51, 52, 53, 54, 55, 56, 57]) (base := 10) decSet_is l)
 have HP := Hd fun (h1 : l ≠ []) (h2 : (l).all (isDig 10) = true) W V => parsePub_any 10 (by omega) (str l) (by rw [str_size]; exact fun h => h1 (List.eq_nil_of_length_eq_zero h)) (by rw [str_size]; exact hDl) (fun c hc => by have := List.all_eq_true.1 h2 c hc; simpa [isDig] using this) W V
 have HN := Hd (parseB_num (base := 10) (by omega) l)
 have hnum : numErr l = if l = [] ∨ ¬ (l).all (isDig 10) = true then 4 else if 18446744073709551616 ≤ numVal 10 l then 5 else 0 := by unfold numErr; rw [hbo, hdg]
 rw [hnum, hbo, hdg]
 have HV := Hd V
 have hw : (w.alloc (.cells tkZero.toArray 53)).heap.size = w.heap.size + 1 := by simp
 have HW := Hd hw
 have HB := Hd hb
 have HK := Hd hK
 clear hnum hbo hdg hK hb hw V h16 h2
 obtain ⟨D, hDD⟩ : ∃ D, D = l := ⟨_, rfl⟩
 by_cases hD : l = []
 ·exact absurd hD hne
 ·have q0 : (str l).toList.isEmpty = false := by rw [str_toList]; cases l with | nil => exact absurd rfl hD | cons _ _ => rfl
  clear hDD hne
  generalize hA : (l).all (isDig 10) = al at *
  generalize numVal 10 l = nv at *
  generalize hPB : parseB 10 0 l = po at *
  generalize hTW : (l).takeWhile ([48, 49, 50, 51, 52, 53, 54, 55, 56, 57].contains ·) = TW at *
  clear hTW hA
  cases al
  ·rw [if_pos (.inr (by simp))]
   have hq := HQ.out
   clear HQ HP HN HV hD
   go_enter Tryz.func87, Tryz.ntmps87
   go_wp2_with (go_at_call 84; refine (pre_any _ _ _).mono ?_; rintro e w' ⟨rfl, rfl⟩)
   refine (HL.out _).mono ?_
   rintro e w1 ⟨rfl, hb1⟩
   have hb1' : Below (w.heap.size + 1) (w.alloc (.cells tkZero.toArray 53)) w1 := by rw [← HW.out]; exact hb1
   have hK1 := HK.out.below hb1' (by omega)
   have hbb := HB.out.trans (hb1'.mono (by omega))
   obtain ⟨c0, c1, c2, c3, c4, f0, f1, f2, f3, f4⟩ := hK1.z5
   have HK1 := Hd hK1
   have HBB := Hd hbb
   clear hb1 hb1' hK1 hbb
   go_wp2
   refine bodyPost_ret ((HK1.out.put5 rfl _ _ _ _ _).res Tryz.results87 Tryz.underlying53 rfl infoTok _ rfl) rfl ?_
   exact ⟨rfl, below_put5 HBB.out (Nat.le_refl _) _ _ _ _ _⟩
  ·rw [if_neg (by simp [hD])]
   obtain ⟨ne, hne⟩ : ∃ ne : Nat, ne = (if 18446744073709551616 ≤ nv then 5 else 0) := ⟨_, rfl⟩
   rw [← hne]
   have HNE := Hd hne
   clear hne
   have hq := HQ.out
   have HP2 := Hd (HP.out hD rfl)
   clear HQ HP hD
   go_enter Tryz.func87, Tryz.ntmps87
   go_wp2_with (go_at_call 84; refine (pre_any _ _ _).mono ?_; rintro e w' ⟨rfl, rfl⟩)
   refine (HL.out _).mono ?_
   rintro e w1 ⟨rfl, hb1⟩
   have hb1' : Below (w.heap.size + 1) (w.alloc (.cells tkZero.toArray 53)) w1 := by rw [← HW.out]; exact hb1
   have hK1 := HK.out.below hb1' (by omega)
   have hbb := HB.out.trans (hb1'.mono (by omega))
   have HV1 := Hd (HV.out.below hbb)
   have HK1 := Hd hK1
   have HBB := Hd hbb
   have hlt := hK1.lt
   clear hb1 hb1' hK1 hbb HV
   go_wp2_with fail
   refine (HP2.out _ HV1.out).mono ?_
   rintro e w2 ⟨⟨v, rfl, hv⟩, hb2⟩
   have hK2 := HK1.out.below hb2 hlt
   have HBB2 := Hd (HBB.out.trans (hb2.mono (by omega)))
   obtain ⟨c0, c1, c2, c3, c4, f0, f1, f2, f3, f4⟩ := hK2.z5
   have HK2 := Hd hK2
   rw [str_data, hPB, HN.out] at hv
   clear hK2 hb2
   by_cases hov : 18446744073709551616 ≤ nv
   ·rw [if_pos hov] at hv
    obtain rfl : ne = 5 := HNE.out.trans (if_pos hov)
    obtain ⟨N, rfl⟩ := hv
    clear hov HNE
    go_wp2
    refine bodyPost_ret ((HK2.out.put5 rfl _ _ _ _ _).res Tryz.results87 Tryz.underlying53 rfl infoTok _ rfl) rfl ?_
    exact ⟨rfl, below_put5 HBB2.out (Nat.le_refl _) _ _ _ _ _⟩
   ·rw [if_neg hov] at hv
    obtain rfl : ne = 0 := HNE.out.trans (if_neg hov)
    clear HNE
    have hv' : v = .tuple #[.int .u64 (nv : Int), .nilIface] := hv
    subst hv'
    clear hov hv
    go_wp2
    refine bodyPost_ret ((HK2.out.put5 rfl _ _ _ _ _).res Tryz.results87 Tryz.underlying53 rfl infoTok _ rfl) rfl ?_
    exact ⟨rfl, below_put5 HBB2.out (Nat.le_refl _) _ _ _ _ _⟩

end Go.Proofs.YtkliclihpobmiaaGreatDoor
/- The first token: contract of the code. -/
namespace Go.Proofs.YtkliclihpobmiaaGreatDoor
open Go Go.RowKit
set_option linter.unusedVariables false

theorem tkRet_form (e k n : Nat) (t : List UInt8) : ∃ (K : Int) (T : ByteArray) (N : Int), tkRet e k t n = .tuple #[.agg #[.int .i64 K, .string T, .int .u64 N, .int .i64 0, .int .i64 0], .int .i64 (e : Int)] := by
 unfold tkRet
 by_cases h : e = 0
 ·rw [if_pos h]; exact ⟨_, _, _, rfl⟩
 ·rw [if_neg h]; exact ⟨_, _, _, rfl⟩
theorem run_takeWhile (l : List UInt8) : l.takeWhile ([48, 49, 50, 51, 52, 53, 54, 55, 56, 57, 95, 97, 98, 99, 100, 101, 102, 103, 104, 105, 106, 107, 108, 109, 110, 111, 112, 113, 114, 115, 116, 117, 118, 119, 120, 121, 122, 65, 66, 67, 68, 69, 70, 71, 72, 73, 74, 75, 76, 77, 78, 79, 80, 81, 82, 83, 84, 85, 86, 87, 88, 89, 90].contains ·) = run l := by
 unfold run
 have h : wordSet = [48, 49, 50, 51, 52, 53, 54, 55, 56, 57, 95, 97, 98, 99, 100, 101, 102, 103, 104, 105, 106, 107, 108, 109, 110, 111, 112, 113, 114, 115, 116, 117, 118, 119, 120, 121, 122, 65, 66, 67, 68, 69, 70, 71, 72, 73, 74, 75, 76, 77, 78, 79, 80, 81, 82, 83, 84, 85, 86, 87, 88, 89, 90] := by decide +kernel
 rw [← h]
 congr 1
 exact funext wordSet_is
theorem head_dec (r : List UInt8) : ((str (r.takeWhile ([48, 49, 50, 51, 52, 53, 54, 55, 56, 57].contains ·))).toList.isEmpty) = !(r.head?.any isDec) := by
 rw [str_toList]
 cases r with
 | nil => rfl
 | cons c r =>
  have h : ([48, 49, 50, 51, 52, 53, 54, 55, 56, 57] : List UInt8).contains c = isDec c := (decSet_is c).trans (isDec_dig c).symm
  rw [List.takeWhile_cons, h]
  cases hc : isDec c <;> simp [hc]
theorem number_any (l : List UInt8) (hs : l.length ≤ 281474976710656) (hne : l ≠ []) (w : World) (V : Vs w) : Calls Tryz.prog 87 #[.string (str l)] w fun e w' =>
  e = .returned (tkRet (numErr l) 3 l (numVal (baseOf l) (digs l))) ∧ Below w.heap.size w w' := by
 cases h16 : [48, 120].isPrefixOf l with
 | true => exact number16_any l hs h16 w V
 | false =>
  cases h2 : [48, 98].isPrefixOf l with
  | true => exact number2_any l hs h16 h2 w V
  | false => exact number10_any l hs h16 h2 hne w V
theorem run_nil_first {l : List UInt8} (h : run l = []) : tokErr l = (if punctLen l = 0 then 4 else 0) ∧ tokKind l = 4 ∧ l.take (tokLen l) = l.take (punctLen l) ∧ tokNum l = 0 := by
 refine ⟨by unfold tokErr; rw [if_pos h], by unfold tokKind; rw [if_pos h], by unfold tokLen; rw [if_pos h], ?_⟩
 unfold tokNum
 rw [if_neg (by simp [h])]
theorem run_dec_first {l : List UInt8} (h : run l ≠ []) (hd : (run l).head?.any isDec = true) : tokErr l = numErr (run l) ∧ tokKind l = 3 ∧ l.take (tokLen l) = run l ∧ tokNum l = numVal (baseOf (run l)) (digs (run l)) := by
 refine ⟨by unfold tokErr; rw [if_neg h, if_pos hd], by unfold tokKind; rw [if_neg h, if_pos hd], by unfold tokLen; rw [if_neg h]; exact (run_eq_take l).symm, ?_⟩
 unfold tokNum
 rw [if_pos ⟨h, hd⟩]
theorem run_word_first {l : List UInt8} (h : run l ≠ []) (hd : (run l).head?.any isDec = false) : tokErr l = (if 64 < (run l).length then 5 else 0) ∧ tokKind l = (if isKey (run l) = true then 2 else 1) ∧ l.take (tokLen l) = run l ∧ tokNum l = 0 := by
 refine ⟨by unfold tokErr; rw [if_neg h, hd]; rfl, by unfold tokKind; rw [if_neg h, hd]; rfl, by unfold tokLen; rw [if_neg h]; exact (run_eq_take l).symm, ?_⟩
 unfold tokNum
 rw [if_neg (by simp [hd])]

set_option maxHeartbeats 4000000 in
set_option maxRecDepth 100000 in
theorem first_any (l : List UInt8) (hs : l.length ≤ 1000000) (hne : l ≠ []) (w : World) (V : Vs w) : Calls Tryz.prog 45 #[.string (str l)] w fun e w' =>
  e = .returned (tkRet (tokErr l) (tokKind l) (l.take (tokLen l)) (tokNum l)) ∧ Below w.heap.size w w' := by
 have hK := Blk.alloc w 53 tkZero
 have hb := (Below.refl w.heap.size w).alloc (Nat.le_refl _) (.cells tkZero.toArray 53)
 have hw : (w.alloc (.cells tkZero.toArray 53)).heap.size = w.heap.size + 1 := by simp
 have HL := Hd fun W => leadSet_any [48, 49, 50, 51, 52, 53, 54, 55, 56, 57, 95, 97, 98, 99, 100, 101, 102, 103, 104, 105, 106, 107, 108, 109, 110, 111, 112, 113, 114, 115, 116, 117, 118, 119, 120, 121, 122, 65, 66, 67, 68, 69, 70, 71, 72, 73, 74, 75, 76, 77, 78, 79, 80, 81, 82, 83, 84, 85, 86, 87, 88, 89, 90] l (by decide +kernel) (by decide +kernel) (by omega) W
 rw [run_takeWhile] at HL
 have HW := Hd hw
 have HB := Hd hb
 have HK := Hd hK
 have HV := Hd V
 have hrl := run_le l
 clear hK hb hw V
 by_cases hr : run l = []
 ·obtain ⟨e1, e2, e3, e4⟩ := run_nil_first hr
  rw [e1, e2, e3, e4]
  rw [hr] at HL
  obtain ⟨c, r, rfl⟩ : ∃ c r, l = c :: r := by
   cases l with
   | nil => exact absurd rfl hne
   | cons c r => exact ⟨c, r, rfl⟩
  have HP := Hd fun W => punct_any c r (by rw [List.length_cons] at hs; omega) W
  obtain ⟨K, T, N, hf⟩ := tkRet_form (if punctLen (c :: r) = 0 then 4 else 0) 4 0 ((c :: r).take (punctLen (c :: r)))
  rw [hf] at HP ⊢
  have q0 : (str []).toList.isEmpty = true := by rw [str_toList]; rfl
  clear e1 e2 e3 e4 hf hr hne hrl
  generalize hE : (if punctLen (c :: r) = 0 then 4 else 0) = E at *
  clear hE
  go_enter Tryz.func45, Tryz.ntmps45
  go_wp2_with fail
  refine (HL.out _).mono ?_
  rintro e w1 ⟨rfl, hb1⟩
  have hb1' : Below (w.heap.size + 1) (w.alloc (.cells tkZero.toArray 53)) w1 := by rw [← HW.out]; exact hb1
  have hK1 := HK.out.below hb1' (by omega)
  have hbb := HB.out.trans (hb1'.mono (by omega))
  have HK1 := Hd hK1
  have HBB := Hd hbb
  have hlt := hK1.lt
  clear hb1 hb1' hK1 hbb HV HL
  go_wp2_with fail
  refine (HP.out _).mono ?_
  rintro e w2 ⟨rfl, hb2⟩
  have hK2 := HK1.out.below hb2 hlt
  have HBB2 := Hd (HBB.out.trans (hb2.mono (by omega)))
  obtain ⟨c0, c1, c2, c3, c4, f0, f1, f2, f3, f4⟩ := hK2.z5
  have HK2 := Hd hK2
  clear hK2 hb2
  go_wp2
  refine bodyPost_ret ((HK2.out.put5 rfl _ _ _ _ _).res Tryz.results45 Tryz.underlying53 rfl infoTok _ rfl) rfl ?_
  exact ⟨rfl, below_put5 HBB2.out (Nat.le_refl _) _ _ _ _ _⟩
 ·have q0 : (str (run l)).toList.isEmpty = false := by rw [str_toList]; cases h : run l with | nil => exact absurd h hr | cons _ _ => rfl
  have HD := Hd fun W => leadSet_any [48, 49, 50, 51, 52, 53, 54, 55, 56, 57] (run l) (by decide) (by decide) (by omega) W
  have q1 := head_dec (run l)
  cases hd : (run l).head?.any isDec with
  | true =>
   obtain ⟨e1, e2, e3, e4⟩ := run_dec_first hr hd
   rw [e1, e2, e3, e4]
   rw [hd] at q1
   have HP := Hd fun W V => number_any (run l) (by omega) hr W V
   obtain ⟨K, T, N, hf⟩ := tkRet_form (numErr (run l)) 3 (numVal (baseOf (run l)) (digs (run l))) (run l)
   rw [hf] at HP ⊢
   clear e1 e2 e3 e4 hf hr hne hrl hd
   generalize numErr (run l) = E at *
   generalize (run l).takeWhile ([48, 49, 50, 51, 52, 53, 54, 55, 56, 57].contains ·) = TW at *
   generalize run l = R at *
   go_enter Tryz.func45, Tryz.ntmps45
   go_wp2_with fail
   refine (HL.out _).mono ?_
   rintro e w1 ⟨rfl, hb1⟩
   have hb1' : Below (w.heap.size + 1) (w.alloc (.cells tkZero.toArray 53)) w1 := by rw [← HW.out]; exact hb1
   have hK1 := HK.out.below hb1' (by omega)
   have hbb := HB.out.trans (hb1'.mono (by omega))
   have HK1 := Hd hK1
   have HBB := Hd hbb
   have hlt := hK1.lt
   clear hb1 hb1' hK1 hbb HL
   go_wp2_with fail
   refine (HD.out _).mono ?_
   rintro e w2 ⟨rfl, hb2⟩
   have HK2 := Hd (HK1.out.below hb2 hlt)
   have HBB2 := Hd (HBB.out.trans (hb2.mono (by omega)))
   have hlt2 := HK2.out.lt
   clear hb2
   go_wp2_with fail
   refine (HP.out _ (HV.out.below HBB2.out)).mono ?_
   rintro e w3 ⟨rfl, hb3⟩
   have hK3 := HK2.out.below hb3 hlt2
   have HBB3 := Hd (HBB2.out.trans (hb3.mono (by omega)))
   obtain ⟨c0, c1, c2, c3, c4, f0, f1, f2, f3, f4⟩ := hK3.z5
   have HK3 := Hd hK3
   clear hK3 hb3
   go_wp2
   refine bodyPost_ret ((HK3.out.put5 rfl _ _ _ _ _).res Tryz.results45 Tryz.underlying53 rfl infoTok _ rfl) rfl ?_
   exact ⟨rfl, below_put5 HBB3.out (Nat.le_refl _) _ _ _ _ _⟩
  | false =>
   obtain ⟨e1, e2, e3, e4⟩ := run_word_first hr hd
   rw [e1, e2, e3, e4]
   rw [hd] at q1
   have HP := Hd fun W V => word_any (run l) (by omega) W V
   obtain ⟨K, T, N, hf⟩ := tkRet_form (if 64 < (run l).length then 5 else 0) (if isKey (run l) = true then 2 else 1) 0 (run l)
   rw [hf] at HP ⊢
   clear e1 e2 e3 e4 hf hr hne hrl hd
   generalize (if 64 < (run l).length then 5 else 0) = E at *
   generalize (run l).takeWhile ([48, 49, 50, 51, 52, 53, 54, 55, 56, 57].contains ·) = TW at *
   generalize run l = R at *
   go_enter Tryz.func45, Tryz.ntmps45
   go_wp2_with fail
   refine (HL.out _).mono ?_
   rintro e w1 ⟨rfl, hb1⟩
   have hb1' : Below (w.heap.size + 1) (w.alloc (.cells tkZero.toArray 53)) w1 := by rw [← HW.out]; exact hb1
   have hK1 := HK.out.below hb1' (by omega)
   have hbb := HB.out.trans (hb1'.mono (by omega))
   have HK1 := Hd hK1
   have HBB := Hd hbb
   have hlt := hK1.lt
   clear hb1 hb1' hK1 hbb HL
   go_wp2_with fail
   refine (HD.out _).mono ?_
   rintro e w2 ⟨rfl, hb2⟩
   have HK2 := Hd (HK1.out.below hb2 hlt)
   have HBB2 := Hd (HBB.out.trans (hb2.mono (by omega)))
   have hlt2 := HK2.out.lt
   clear hb2
   go_wp2_with fail
   refine (HP.out _ (HV.out.below HBB2.out)).mono ?_
   rintro e w3 ⟨rfl, hb3⟩
   have hK3 := HK2.out.below hb3 hlt2
   have HBB3 := Hd (HBB2.out.trans (hb3.mono (by omega)))
   obtain ⟨c0, c1, c2, c3, c4, f0, f1, f2, f3, f4⟩ := hK3.z5
   have HK3 := Hd hK3
   clear hK3 hb3
   go_wp2
   refine bodyPost_ret ((HK3.out.put5 rfl _ _ _ _ _).res Tryz.results45 Tryz.underlying53 rfl infoTok _ rfl) rfl ?_
   exact ⟨rfl, below_put5 HBB3.out (Nat.le_refl _) _ _ _ _ _⟩
end Go.Proofs.YtkliclihpobmiaaGreatDoor
