/- The law on types: the walk. -/
import Derived.Test.YtgglmcjclbaceaaDoorLxAwake
import Derived.Test.YtgglmcjclbaceaaDoorLxRef4
import Derived.Deep.RegionHeld3
import Derived.Laws.StructEq
namespace Go.Proofs.YtgglmcjclbaceaaDoor
open Go Go.RowKit
set_option linter.unusedVariables false

theorem keep6 {b3 b5 b7 B : Nat} {a0 a1 x0 x1 y0 y1 : Value} {w w' w'' : World}
    (h : w'.cell? ⟨b3, 0, none⟩ = some a0 ∧ w'.cell? ⟨b3, 1, none⟩ = some a1 ∧ w'.cell? ⟨b5, 0, none⟩ = some x0 ∧ w'.cell? ⟨b5, 1, none⟩ = some x1 ∧ w'.cell? ⟨b7, 0, none⟩ = some y0 ∧ w'.cell? ⟨b7, 1, none⟩ = some y1 ∧ Hid (Vs w' ∧ Below B w w' ∧ B ≤ w'.heap.size))
    (hb : Below w'.heap.size w' w'') :
    w''.cell? ⟨b3, 0, none⟩ = some a0 ∧ w''.cell? ⟨b3, 1, none⟩ = some a1 ∧ w''.cell? ⟨b5, 0, none⟩ = some x0 ∧ w''.cell? ⟨b5, 1, none⟩ = some x1 ∧ w''.cell? ⟨b7, 0, none⟩ = some y0 ∧ w''.cell? ⟨b7, 1, none⟩ = some y1 ∧ Hid (Vs w'' ∧ Below B w w'' ∧ B ≤ w''.heap.size) := by
  obtain ⟨h0, h1, h2, h3, h4, h5, h6⟩ := h
  have k : ∀ {p : Addr} {v : Value}, w'.cell? p = some v → w''.cell? p = some v := fun {p v} e => by rw [hb.cell (World.block_lt_of_cell? _ _ e)]; exact e
  obtain ⟨h7, h8, h9⟩ := h6.out
  exact ⟨k h0, k h1, k h2, k h3, k h4, k h5, h7.below hb, h8.trans (hb.mono h9), Nat.le_trans h9 hb.size⟩
theorem drew6 {b3 b5 b7 B : Nat} {a0 a1 x0 x1 y0 y1 : Value} {w w' : World}
    (h : w'.cell? ⟨b3, 0, none⟩ = some a0 ∧ w'.cell? ⟨b3, 1, none⟩ = some a1 ∧ w'.cell? ⟨b5, 0, none⟩ = some x0 ∧ w'.cell? ⟨b5, 1, none⟩ = some x1 ∧ w'.cell? ⟨b7, 0, none⟩ = some y0 ∧ w'.cell? ⟨b7, 1, none⟩ = some y1 ∧ Hid (Vs w' ∧ Below B w w' ∧ B ≤ w'.heap.size)) :
    w'.drew.cell? ⟨b3, 0, none⟩ = some a0 ∧ w'.drew.cell? ⟨b3, 1, none⟩ = some a1 ∧ w'.drew.cell? ⟨b5, 0, none⟩ = some x0 ∧ w'.drew.cell? ⟨b5, 1, none⟩ = some x1 ∧ w'.drew.cell? ⟨b7, 0, none⟩ = some y0 ∧ w'.drew.cell? ⟨b7, 1, none⟩ = some y1 ∧ Hid (Vs w'.drew ∧ Below B w w'.drew ∧ B ≤ w'.drew.heap.size) :=
  keep6 h (Below.refl w'.heap.size w').drew
theorem vs6 {p : Prop} {B : Nat} {w w' : World} {q0 q1 q2 q3 q4 q5 : Prop} (h : q0 ∧ q1 ∧ q2 ∧ q3 ∧ q4 ∧ q5 ∧ Hid (Vs w' ∧ Below B w w' ∧ B ≤ w'.heap.size)) : Vs w' := h.2.2.2.2.2.2.out.1

set_option maxHeartbeats 1000000 in
set_option maxRecDepth 100000 in
theorem types_main (l : List UInt8) (hl : l.length ≤ 281474976710656) (W : Int) (sg : Bool) (w : World) (V : Vs w) : Calls Tryd.prog 8 #[.string (str l), .agg #[.int .i64 W, .bool sg]] w fun e w' => e = .returned (.bool true) ∧ Below w.heap.size w w' := by
  have hsz : (str l).size = l.length := str_size l
  have HA := Lib.hid fun W V => awake_any W V
  have HT := Lib.hid fun W V => type_any (str l) (by rw [hsz]; exact hl) W V
  have HR := Lib.hid fun W => rType_any l W
  have HK := Lib.hid fun W V => keyword_any (str l) (by rw [hsz]; exact hl) W V
  have HRK := Lib.hid fun W => rKeyword_any l W
  have HN := Lib.hid fun w => typeName_any W sg w
  have HRN := Lib.hid fun w => rTypeName_any W sg w
  rw [str_data] at HT HK
  have htb : tyB l = decide (0 < (typeOf l).1) := rfl
  unfold tyV at HT HR
  generalize tyB l = tb at *
  generalize (typeOf l).1 = x at *
  generalize (typeOf l).2 = y at *
  generalize isKey l = ik at *
  have HV := Lib.hid V
  have hb0 := (Below.refl w.heap.size w).alloc (Nat.le_refl _) (.cells #[.int .i64 W, .bool sg] 41)
  have HB0 := Lib.hid hb0
  have HK0 := Lib.hid (Blk.alloc w 41 [.int .i64 W, .bool sg])
  clear V hl hsz hb0
  go_enter Tryd.func8, Tryd.ntmps8
  go_wp2_with fail
  refine (HA.out _ (HV.out.below HB0.out)).mono ?_
  rintro e w1 ⟨rfl, hb1⟩
  have HB1 := Lib.hid (HB0.out.trans (hb1.mono (by simp)))
  have HK1 := Lib.hid (HK0.out.below hb1 (by simp))
  clear hb1 HA HK0 HB0
  go_wp2_with fail
  refine (HT.out _ (HV.out.below HB1.out)).mono ?_
  rintro e w2 ⟨rfl, hb2⟩
  have HB2 := Lib.hid (HB1.out.trans (hb2.mono HB1.out.size))
  have HK2 := Lib.hid (HK1.out.below hb2 HK1.out.lt)
  clear hb2 HK1 HB1 HT
  go_wp2_with fail
  have hw3 : (w2.alloc (.cells #[.int .i64 (x : Int), .bool y] 41)).heap.size = w2.heap.size + 1 := by simp
  refine (HR.out _).mono ?_
  rintro e w3 ⟨rfl, hb3⟩
  rw [hw3] at hb3
  have HB3 := Lib.hid ((HB2.out.alloc HB2.out.size (.cells #[.int .i64 (x : Int), .bool y] 41)).trans (hb3.mono (by have := HB2.out.size; omega)))
  have HK3 := Lib.hid ((HK2.out.alloc_other (.cells #[.int .i64 (x : Int), .bool y] 41)).below hb3 (by have := HK2.out.lt; omega))
  have HX3 := Lib.hid ((Blk.alloc w2 41 [.int .i64 (x : Int), .bool y]).below hb3 (by omega))
  clear hb3 HK2 HB2 HR hw3
  have S0 : (w3.alloc (.cells #[.int .i64 (x : Int), .bool y] 41)).cell? ⟨w.heap.size, 0, none⟩ = some (.int .i64 W) ∧ (w3.alloc (.cells #[.int .i64 (x : Int), .bool y] 41)).cell? ⟨w.heap.size, 1, none⟩ = some (.bool sg) ∧
      (w3.alloc (.cells #[.int .i64 (x : Int), .bool y] 41)).cell? ⟨w2.heap.size, 0, none⟩ = some (.int .i64 (x : Int)) ∧ (w3.alloc (.cells #[.int .i64 (x : Int), .bool y] 41)).cell? ⟨w2.heap.size, 1, none⟩ = some (.bool y) ∧
      (w3.alloc (.cells #[.int .i64 (x : Int), .bool y] 41)).cell? ⟨w3.heap.size, 0, none⟩ = some (.int .i64 (x : Int)) ∧ (w3.alloc (.cells #[.int .i64 (x : Int), .bool y] 41)).cell? ⟨w3.heap.size, 1, none⟩ = some (.bool y) ∧
      Hid (Vs (w3.alloc (.cells #[.int .i64 (x : Int), .bool y] 41)) ∧ Below w.heap.size w (w3.alloc (.cells #[.int .i64 (x : Int), .bool y] 41)) ∧ w.heap.size ≤ (w3.alloc (.cells #[.int .i64 (x : Int), .bool y] 41)).heap.size) := by
    have hbb := HB3.out.alloc HB3.out.size (.cells #[.int .i64 (x : Int), .bool y] 41)
    exact ⟨(HK3.out.alloc_other _).cell 0, (HK3.out.alloc_other _).cell 1, (HX3.out.alloc_other _).cell 0, (HX3.out.alloc_other _).cell 1, (Blk.alloc w3 41 [.int .i64 (x : Int), .bool y]).cell 0, (Blk.alloc w3 41 [.int .i64 (x : Int), .bool y]).cell 1, HV.out.below hbb, hbb, hbb.size⟩
  go_wp2
  have HS0 := Lib.hid S0
  clear S0 HK3 HX3 HB3
  generalize w3.alloc (.cells #[.int .i64 (x : Int), .bool y] 41) = w4 at *
  generalize w3.heap.size = b7 at *
  generalize w2.heap.size = b5 at *
  have hbt : (tb != decide (0 < x)) = false := by rw [htb]; simp
  have hbt2 : (tb != decide ((0 : Int) < (x : Int))) = false := by rw [htb]; simp
  clear htb
  go_region_held3 (fun w' => w'.cell? ⟨w.heap.size, 0, none⟩ = some (.int .i64 W) ∧ w'.cell? ⟨w.heap.size, 1, none⟩ = some (.bool sg) ∧ w'.cell? ⟨b5, 0, none⟩ = some (.int .i64 (x : Int)) ∧ w'.cell? ⟨b5, 1, none⟩ = some (.bool y) ∧ w'.cell? ⟨b7, 0, none⟩ = some (.int .i64 (x : Int)) ∧ w'.cell? ⟨b7, 1, none⟩ = some (.bool y) ∧ Hid (Vs w' ∧ Below w.heap.size w w' ∧ w.heap.size ≤ w'.heap.size))
    (first
      | exact drew6 HS0.out
      | exact keep6 (by assumption) hb9)
    (first
      | (go_at_call 21; refine (HK.out _ (vs6 (p := True) (by assumption))).mono ?_; rintro e w9 ⟨rfl, hb9⟩)
      | (go_at_call 22; refine (HRK.out _).mono ?_; rintro e w9 ⟨rfl, hb9⟩)
      | (go_at_call 23; refine (HN.out _).mono ?_; rintro e w9 ⟨rfl, hb9⟩)
      | (go_at_call 24; refine (HRN.out _).mono ?_; rintro e w9 ⟨rfl, hb9⟩))
  rename_i hS9
  have HS9 := Lib.hid hS9
  clear hS9
  obtain ⟨c0, c1, -, -, -, -, hrest⟩ := HS9.out
  obtain ⟨hV9, hB9, hz9⟩ := hrest.out
  have HV9 := Lib.hid hV9
  have HB9 := Lib.hid hB9
  have hlt9 := World.block_lt_of_cell? _ _ c0
  clear hrest hV9 hB9 HS9 HS0 hb9
  by_cases hW : 1 ≤ W ∧ W ≤ 64
  · obtain ⟨n, rfl⟩ : ∃ n : Nat, W = (n : Int) := ⟨W.toNat, by omega⟩
    have hn : 1 ≤ n ∧ n ≤ 64 := by omega
    have h1 := hn.1
    have h2 := hn.2
    rw [tn_yes hn] at HN
    have hty : typeOf (nameOf n sg) = (n, sg) := typeOf_name hn
    have hnl : (nameOf n sg).length ≤ 3 := by
      have h3 := dec2_len n
      rw [str_size] at h3
      unfold nameOf
      rw [List.length_cons]
      omega
    have HT := Lib.hid fun W V => type_any (str (nameOf n sg)) (by rw [str_size]; omega) W V
    have HK := Lib.hid fun W V => keyword_any (str (nameOf n sg)) (by rw [str_size]; omega) W V
    rw [str_data] at HT HK
    have hik : isKey (nameOf n sg) = true := by unfold isKey; rw [hty]; simp; right; omega
    have htb : tyB (nameOf n sg) = true := by unfold tyB; rw [hty]; simp; omega
    rw [hik] at HK
    rw [htb] at HT
    unfold tyV at HT
    rw [hty] at HT
    clear hW hn hty hik htb hnl
    generalize str (nameOf n sg) = S at *
    go_wp2_with fail
    refine (HN.out _).mono ?_
    rintro e w10 ⟨rfl, hb10⟩
    have HV10 := Lib.hid (HV9.out.below hb10)
    have HB10 := Lib.hid (HB9.out.trans (hb10.mono hz9))
    have d0 := (hb10.cell (p := ⟨w.heap.size, 0, none⟩) hlt9).trans c0
    have d1 := (hb10.cell (p := ⟨w.heap.size, 1, none⟩) hlt9).trans c1
    have hlt10 := World.block_lt_of_cell? _ _ d0
    clear hb10 c0 c1 HV9 HB9
    go_wp2_with fail
    refine (HT.out _ HV10.out).mono ?_
    rintro e w11 ⟨rfl, hb11⟩
    have HV11 := Lib.hid (HV10.out.below hb11)
    have HB11 := Lib.hid (HB10.out.trans (hb11.mono HB10.out.size))
    have c0 := (hb11.cell (p := ⟨w.heap.size, 0, none⟩) hlt10).trans d0
    have c1 := (hb11.cell (p := ⟨w.heap.size, 1, none⟩) hlt10).trans d1
    have hlt11 := World.block_lt_of_cell? _ _ c0
    clear hb11 d0 d1 HV10 HB10
    have hne : ¬ (w11.heap.size = w.heap.size) := by have : w.heap.size < w11.heap.size := hlt11; omega
    have hlt11' : w.heap.size < w11.heap.size := hlt11
    go_wp2_with fail
    refine (HN.out _).mono ?_
    rintro e w12 ⟨rfl, hb12⟩
    have HBA := Lib.hid ((HB11.out.alloc HB11.out.size (.cells #[.int .i64 (n : Int), .bool sg] 41)))
    have HV12 := Lib.hid ((HV11.out.below ((Below.refl w11.heap.size w11).alloc (Nat.le_refl _) (.cells #[.int .i64 (n : Int), .bool sg] 41))).below hb12)
    have HB12 := Lib.hid (HBA.out.trans (hb12.mono HBA.out.size))
    clear hb12
    go_wp2_with fail
    refine (HK.out _ HV12.out).mono ?_
    rintro e w13 ⟨rfl, hb13⟩
    have HB13 := Lib.hid (HB12.out.trans (hb13.mono HB12.out.size))
    clear hb13
    go_wp2
    go_ret
    exact ⟨by simp, HB13.out⟩
  · by_cases h1 : 1 ≤ W
    all_goals
      go_wp2
      go_ret
      exact ⟨rfl, HB9.out⟩
theorem lexerTypes_walk (s : ByteArray) (hs : s.size ≤ 281474976710656) (W : Int) (sg : Bool) (w : World) (V : Vs w) : Calls Tryd.prog 8 #[.string s, .agg #[.int .i64 W, .bool sg]] w fun e w' => e = .returned (.bool true) ∧ Below w.heap.size w w' := by
  obtain ⟨l, rfl⟩ : ∃ l, s = str l := ⟨_, (str_of s).symm⟩
  rw [str_size] at hs
  exact types_main l hs W sg w V
end Go.Proofs.YtgglmcjclbaceaaDoor
