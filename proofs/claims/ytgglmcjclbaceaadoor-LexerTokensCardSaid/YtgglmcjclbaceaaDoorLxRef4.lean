/- The reference's names of types and keywords: contracts. -/
import Derived.Test.YtgglmcjclbaceaaDoorLxRef3
namespace Go.Proofs.YtgglmcjclbaceaaDoor
open Go Go.RowKit
set_option linter.unusedVariables false

set_option maxHeartbeats 1000000 in
set_option maxRecDepth 100000 in
theorem rTypeName_any (W : Int) (sg : Bool) (w : World) : Calls Tryd.prog 24 #[.agg #[.int .i64 W, .bool sg]] w fun e w' => e = .returned (.string (tn W sg)) ∧ Below w.heap.size w w' := by
  have hb := (Below.refl w.heap.size w).alloc (Nat.le_refl _) (.cells #[.int .i64 W, .bool sg] 41)
  by_cases h : 1 ≤ W ∧ W ≤ 64
  · obtain ⟨n, rfl⟩ : ∃ n : Nat, W = (n : Int) := ⟨W.toNat, by omega⟩
    have hn : 1 ≤ n ∧ n ≤ 64 := by omega
    have hu := Lib.hid (tn_u hn)
    have hs := Lib.hid (tn_s hn)
    have h1 := hn.1
    have h2 := hn.2
    have hl := dec2_len n
    have HD := Lib.hid fun W => rDecimal_any n (by omega) W
    clear h hn
    cases sg
    all_goals
      go_enter Tryd.func24, Tryd.ntmps24
      go_wp2_with (go_at_call 42; refine (HD.out _).mono ?_; rintro e w' ⟨rfl, rfl⟩)
      go_ret
    · exact ⟨ret_s hu.out, hb⟩
    · exact ⟨ret_s hs.out, hb⟩
  · have he := Lib.hid (tn_no (sg := sg) h)
    by_cases h1 : 1 ≤ W
    all_goals
      go_enter Tryd.func24, Tryd.ntmps24
      go_wp2
      go_ret
      exact ⟨ret_s he.out.symm, hb⟩

/-- One result, in a block. -/
theorem Blk.res1 {P : Program} {fn : Func} {p : Tmp} {ty : TypeId} (hr : fn.results = #[.cell p ty]) {w : World} {g : Nat} {cs : List Value} {d : TypeDesc} (h : Blk w g ty cs)
    (hu : P.underlying ty = some d) (hd : (match d with | .struct _ | .array _ _ => true | _ => false) = true) (hi : (P.info? ty).map (·.size) = some cs.length)
    (tmps : Array Value) (hp : tmps.getD p undef = .pointer (some ⟨g, 0, none⟩)) :
    (results fn tmps).run P w = .ok (.agg cs.toArray) w :=
  results_cell_row hr tmps w g ty cs.toArray (0, 0) d hp h hu hd (by simpa using hi)
/-- No name before a width and a sign is the word. -/
def NoName (l : List UInt8) (n k : Nat) : Prop := ∀ v a, 1 ≤ v → v ≤ 64 → (v < n ∨ (v = n ∧ (if a = true then 1 else 0) < k)) → nameOf v a ≠ l
theorem noName_none {l : List UInt8} (hb : l ≠ boolName) (h : NoName l 65 0) : typeOf l = (0, false) := by
  rcases typeOf_cases l with h1 | ⟨h1, _⟩ | ⟨w, a, hw, h1, _⟩
  · exact h1
  · exact absurd h1 hb
  · exact absurd h1.symm (h w a hw.1 hw.2 (.inl (by omega)))
theorem noName_one {l : List UInt8} {n : Nat} (h : NoName l n 0) (h0 : nameOf n false ≠ l) : NoName l n 1 := by
  intro v a h1 h2 h3
  rcases h3 with h3 | ⟨rfl, h3⟩
  · exact h v a h1 h2 (.inl h3)
  · cases a
    · exact h0
    · simp at h3
theorem noName_two {l : List UInt8} {n : Nat} (h : NoName l n 1) (h0 : nameOf n true ≠ l) : NoName l n 2 := by
  intro v a h1 h2 h3
  rcases h3 with h3 | ⟨rfl, h3⟩
  · exact h v a h1 h2 (.inl h3)
  · cases a
    · exact h v false h1 h2 (.inr ⟨rfl, by simp⟩)
    · exact h0
theorem noName_next {l : List UInt8} {n : Nat} (h : NoName l n 2) : NoName l (n + 1) 0 := by
  intro v a h1 h2 h3
  rcases h3 with h3 | ⟨_, h3⟩
  · by_cases hv : v = n
    · subst hv; exact h v a h1 h2 (.inr ⟨rfl, by cases a <;> simp⟩)
    · exact h v a h1 h2 (.inl (by omega))
  · omega

set_option maxHeartbeats 2000000 in
set_option maxRecDepth 100000 in
theorem rType_any (l : List UInt8) (w : World) : Calls Tryd.prog 20 #[.string (str l)] w fun e w' => e = .returned (tyV l) ∧ Below w.heap.size w w' := by
  by_cases hbo : l = boolName
  · have q1 : ((str l).toList == [98, 111, 111, 108]) = true := by rw [str_toList, hbo]; rfl
    have E : Hid (typeOf l = (1, false)) := by rw [hbo]; exact type_bool
    clear hbo
    go_enter Tryd.func20, Tryd.ntmps20
    go_wp2
    refine bodyPost_ret ((Blk.alloc w 41 [.int .i64 1, .bool false]).res1 Tryd.results20 Tryd.underlying41 rfl (by kernel_rfl) _ rfl) rfl ?_
    exact ⟨by simp only [tyV, E.out]; rfl, (Below.refl w.heap.size w).alloc (Nat.le_refl _) _⟩
  · have q1 : ((str l).toList == [98, 111, 111, 108]) = false := by rw [str_toList]; exact beq_eq_false_iff_ne.2 hbo
    have hb := (Below.refl w.heap.size w).alloc (Nat.le_refl _) (.cells #[.int .i64 0, .bool false] 41)
    have hK := Blk.alloc w 41 [.int .i64 0, .bool false]
    have h0 : Hid (NoName l 1 0 ∧ Blk (w.alloc (.cells #[.int .i64 0, .bool false] 41)) w.heap.size 41 [.int .i64 0, .bool false] ∧ Below w.heap.size w (w.alloc (.cells #[.int .i64 0, .bool false] 41))) := ⟨fun v a h1 h2 h3 => by rcases h3 with h3 | ⟨_, h3⟩ <;> omega, hK, hb⟩
    have HBO := Lib.hid hbo
    have HN := Lib.hid fun W sg (w : World) => rTypeName_any W sg w
    clear hb hK hbo
    go_enter Tryd.func20, Tryd.ntmps20
    go_wp2
    go_loopw [3] (fun i wr => ∃ n : Nat, 1 ≤ n ∧ n ≤ 65 ∧ i = .int .i64 (n : Int) ∧ Hid (NoName l n 0 ∧ Blk wr w.heap.size 41 [.int .i64 0, .bool false] ∧ Below w.heap.size w wr)) (fun i _ => 65 - (intOf i).toNat)
    case atStart => exact ⟨1, by omega, by omega, rfl, h0⟩
    case round =>
      clear h0
      obtain ⟨n, hn1, hn, rfl, hR⟩ := hrel
      obtain ⟨wo, rfl⟩ : ∃ wo : World, wo = wr := ⟨_, rfl⟩
      by_cases hlt : n ≤ 64
      · have htn : ∀ a, tn (n : Int) a = str (nameOf n a) := fun a => tn_yes ⟨hn1, hlt⟩
        have HTN := Lib.hid htn
        have HTY := Lib.hid fun a => typeOf_name (w := n) (a := a) ⟨hn1, hlt⟩
        have hd : decide ((n : Int) ≤ 64) = true := decide_eq_true (by omega)
        have HLT := Lib.hid hlt
        clear htn hlt
        go_wp2
        go_loopw [4] (fun i wr => ∃ k : Nat, k ≤ 2 ∧ i = .int .i64 (k : Int) ∧ Hid (NoName l n k ∧ Blk wr w.heap.size 41 [.int .i64 0, .bool false] ∧ Below w.heap.size w wr)) (fun i _ => 2 - (intOf i).toNat)
        case atStart => exact ⟨0, by omega, rfl, hR⟩
        case round =>
          clear hR
          obtain ⟨k, hk, rfl, hR⟩ := hrel
          rcases (show k = 0 ∨ k = 1 ∨ k = 2 by omega) with hk0 | hk0 | hk0
          · have hkb : ((k : Int) == 1) = false := by rw [hk0]; rfl
            have hk2 : k < 2 := by omega
            have HKK := Lib.hid hk0
            rw [hk0] at hR
            clear hk0
            have htn := HTN.out false
            obtain ⟨hN, hB, hbb⟩ := hR.out
            have hwl := hB.lt
            have HB := Lib.hid hB
            have HNO := Lib.hid hN
            clear hB hN hR
            have HT := Lib.hid fun W => rTypeName_any (n : Int) false W
            rw [htn] at HT
            by_cases he : nameOf n false = l
            · have hq : ((str (nameOf n false)).toList == (str l).toList) = true := by rw [str_eq, he]; simp
              have E : Hid (typeOf l = (n, false)) := by rw [← he]; exact HTY.out false
              clear he htn HTY HTN HNO
              generalize str (nameOf n false) = S at *
              go_wp2_with fail
              refine (HT.out _).mono ?_
              rintro e w2 ⟨rfl, hb2⟩
              have hsz1 : (wr.alloc (.cells #[.int .i64 (n : Int), .bool false] 41)).heap.size = wr.heap.size + 1 := by simp
              rw [hsz1] at hb2
              have hB2 := (HB.out.alloc_other (.cells #[.int .i64 (n : Int), .bool false] 41)).below hb2 (by omega)
              have hT2 := (Blk.alloc wr 41 [.int .i64 (n : Int), .bool false]).below hb2 (by omega)
              have hbb2 := (hbb.alloc (by omega) (.cells #[.int .i64 (n : Int), .bool false] 41)).trans (hb2.mono (by omega))
              have c0 := hB2.cell 0
              have c1 := hB2.cell 1
              have f0 := hB2.frozen 0
              have f1 := hB2.frozen 1
              have d0 := hT2.cell 0
              have d1 := hT2.cell 1
              have HB := Lib.hid hB2
              clear hb2 hB2 hT2 hsz1
              go_wp2
              refine bodyPost_ret (((HB.out.set 0 _).set 1 _).res1 Tryd.results20 Tryd.underlying41 rfl (by kernel_rfl) _ rfl) rfl ?_
              exact ⟨by simp only [tyV, E.out]; rfl, (hbb2.setCell (p := ⟨w.heap.size, 0, none⟩) (Nat.le_refl _) _).setCell (p := ⟨w.heap.size, 1, none⟩) (Nat.le_refl _) _⟩
            · have hq : ((str (nameOf n false)).toList == (str l).toList) = false := by rw [str_eq]; exact decide_eq_false fun h => he (str_inj h)
              have HN2 := Lib.hid (noName_one HNO.out he)
              clear he htn HTY HTN HNO
              generalize str (nameOf n false) = S at *
              go_wp2_with fail
              refine (HT.out _).mono ?_
              rintro e w2 ⟨rfl, hb2⟩
              have hsz1 : (wr.alloc (.cells #[.int .i64 (n : Int), .bool false] 41)).heap.size = wr.heap.size + 1 := by simp
              rw [hsz1] at hb2
              have hB2 := (HB.out.alloc_other (.cells #[.int .i64 (n : Int), .bool false] 41)).below hb2 (by omega)
              have hbb2 := (hbb.alloc (by omega) (.cells #[.int .i64 (n : Int), .bool false] 41)).trans (hb2.mono (by omega))
              have hR2 : Hid (NoName l n 1 ∧ Blk w2 w.heap.size 41 [.int .i64 0, .bool false] ∧ Below w.heap.size w w2) := ⟨HN2.out, hB2, hbb2⟩
              clear hb2 hB2 hsz1 hbb2
              go_wp2
              go_roundw
              case rel => exact ⟨k + 1, by omega, by go_num, by rw [HKK.out]; exact hR2⟩
              case measure => simp [intOf]; omega
          · have hkb : ((k : Int) == 1) = true := by rw [hk0]; rfl
            have hk2 : k < 2 := by omega
            have HKK := Lib.hid hk0
            rw [hk0] at hR
            clear hk0
            have htn := HTN.out true
            obtain ⟨hN, hB, hbb⟩ := hR.out
            have hwl := hB.lt
            have HB := Lib.hid hB
            have HNO := Lib.hid hN
            clear hB hN hR
            have HT := Lib.hid fun W => rTypeName_any (n : Int) true W
            rw [htn] at HT
            by_cases he : nameOf n true = l
            · have hq : ((str (nameOf n true)).toList == (str l).toList) = true := by rw [str_eq, he]; simp
              have E : Hid (typeOf l = (n, true)) := by rw [← he]; exact HTY.out true
              clear he htn HTY HTN HNO
              generalize str (nameOf n true) = S at *
              go_wp2_with fail
              refine (HT.out _).mono ?_
              rintro e w2 ⟨rfl, hb2⟩
              have hsz1 : (wr.alloc (.cells #[.int .i64 (n : Int), .bool true] 41)).heap.size = wr.heap.size + 1 := by simp
              rw [hsz1] at hb2
              have hB2 := (HB.out.alloc_other (.cells #[.int .i64 (n : Int), .bool true] 41)).below hb2 (by omega)
              have hT2 := (Blk.alloc wr 41 [.int .i64 (n : Int), .bool true]).below hb2 (by omega)
              have hbb2 := (hbb.alloc (by omega) (.cells #[.int .i64 (n : Int), .bool true] 41)).trans (hb2.mono (by omega))
              have c0 := hB2.cell 0
              have c1 := hB2.cell 1
              have f0 := hB2.frozen 0
              have f1 := hB2.frozen 1
              have d0 := hT2.cell 0
              have d1 := hT2.cell 1
              have HB := Lib.hid hB2
              clear hb2 hB2 hT2 hsz1
              go_wp2
              refine bodyPost_ret (((HB.out.set 0 _).set 1 _).res1 Tryd.results20 Tryd.underlying41 rfl (by kernel_rfl) _ rfl) rfl ?_
              exact ⟨by simp only [tyV, E.out]; rfl, (hbb2.setCell (p := ⟨w.heap.size, 0, none⟩) (Nat.le_refl _) _).setCell (p := ⟨w.heap.size, 1, none⟩) (Nat.le_refl _) _⟩
            · have hq : ((str (nameOf n true)).toList == (str l).toList) = false := by rw [str_eq]; exact decide_eq_false fun h => he (str_inj h)
              have HN2 := Lib.hid (noName_two HNO.out he)
              clear he htn HTY HTN HNO
              generalize str (nameOf n true) = S at *
              go_wp2_with fail
              refine (HT.out _).mono ?_
              rintro e w2 ⟨rfl, hb2⟩
              have hsz1 : (wr.alloc (.cells #[.int .i64 (n : Int), .bool true] 41)).heap.size = wr.heap.size + 1 := by simp
              rw [hsz1] at hb2
              have hB2 := (HB.out.alloc_other (.cells #[.int .i64 (n : Int), .bool true] 41)).below hb2 (by omega)
              have hbb2 := (hbb.alloc (by omega) (.cells #[.int .i64 (n : Int), .bool true] 41)).trans (hb2.mono (by omega))
              have hR2 : Hid (NoName l n 2 ∧ Blk w2 w.heap.size 41 [.int .i64 0, .bool false] ∧ Below w.heap.size w w2) := ⟨HN2.out, hB2, hbb2⟩
              clear hb2 hB2 hsz1 hbb2
              go_wp2
              go_roundw
              case rel => exact ⟨k + 1, by omega, by go_num, by rw [HKK.out]; exact hR2⟩
              case measure => simp [intOf]; omega
          · have hR2 : Hid (NoName l (n + 1) 0 ∧ Blk wr w.heap.size 41 [.int .i64 0, .bool false] ∧ Below w.heap.size w wr) := ⟨noName_next (by rw [← hk0]; exact hR.out.1), hR.out.2⟩
            have hk2 : ¬ k < 2 := by omega
            clear hR hk0
            go_wp2
            go_roundw
            case rel => exact ⟨n + 1, by omega, by have := HLT.out; omega, by go_num, hR2⟩
            case measure => have := HLT.out; simp [intOf]; omega
      · obtain rfl : n = 65 := by omega
        obtain ⟨hN, hB, hbb⟩ := hR.out
        have E := Lib.hid (noName_none HBO.out hN)
        have c0 := hB.cell 0
        have c1 := hB.cell 1
        have f0 := hB.frozen 0
        have f1 := hB.frozen 1
        have HB := Lib.hid hB
        clear hN hB hR
        go_wp2
        refine bodyPost_ret (((HB.out.set 0 _).set 1 _).res1 Tryd.results20 Tryd.underlying41 rfl (by kernel_rfl) _ rfl) rfl ?_
        exact ⟨by simp only [tyV, E.out]; rfl, (hbb.setCell (p := ⟨w.heap.size, 0, none⟩) (Nat.le_refl _) _).setCell (p := ⟨w.heap.size, 1, none⟩) (Nat.le_refl _) _⟩

theorem fldW (x : Nat) (y : Bool) (W : World) : Sem.run Tryd.prog (Instr.field 41 (Value.agg #[Value.int IntKind.i64 (x : Int), Value.bool y]) 0) W = Result.ok (Value.int IntKind.i64 (x : Int)) W := by kernel_rfl
set_option maxHeartbeats 1000000 in
set_option maxRecDepth 100000 in
theorem rKeyword_any (l : List UInt8) (w : World) : Calls Tryd.prog 22 #[.string (str l)] w fun e w' => e = .returned (.bool (isKey l)) ∧ Below w.heap.size w w' := by
  have HK := Lib.hid fun W => rKeywords_any W
  have HO := Lib.hid fun (W : World) g h => rOne_any keywords g 19 9 l W rfl (by omega) h
  have HT := Lib.hid fun W => rType_any l W
  have hik : isKey l = (keywords.contains l || decide (0 < (typeOf l).1)) := rfl
  rw [hik]
  unfold tyV at HT
  clear hik
  generalize (typeOf l).2 = y at *
  generalize (typeOf l).1 = x at *
  cases hc : keywords.contains l
  all_goals first | rw [Bool.true_or] | rw [Bool.false_or]
  all_goals
    rw [hc] at HO
    go_enter Tryd.func22, Tryd.ntmps22
    go_wp2_with fail
    refine (HK.out _).mono ?_
    rintro e w1 ⟨rfl, hB, hb⟩
    have HO1 := Lib.hid (HO.out w1 _ hB)
    clear HO HK hB
    go_wp2_with fail
    refine HO1.out.mono ?_
    rintro e w' ⟨rfl, rfl⟩
  · go_wp2_with fail
    refine (HT.out _).mono ?_
    rintro e w2 ⟨rfl, hb2⟩
    have hbb := hb.trans (hb2.mono hb.size)
    have hfw := fldW x y w2
    clear hb2
    go_wp2
    go_ret
    exact ⟨by simp, hbb⟩
  · go_wp2
    go_ret
    exact ⟨by simp, hb⟩
end Go.Proofs.YtgglmcjclbaceaaDoor
