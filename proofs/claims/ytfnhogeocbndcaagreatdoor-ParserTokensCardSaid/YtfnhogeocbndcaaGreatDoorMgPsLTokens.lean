/- The law on tokens: the walk. -/
import Derived.Test.YtfnhogeocbndcaaGreatDoorMgPsFz
import Derived.Test.YtfnhogeocbndcaaGreatDoorMgPsAny
import Derived.Test.YtfnhogeocbndcaaGreatDoorMgLxJoin
import Derived.Test.YtfnhogeocbndcaaGreatDoorMgPsPair
import Derived.Test.YtfnhogeocbndcaaGreatDoorMgPsLLevels
import Derived.BigRegion
namespace Go.Proofs.YtfnhogeocbndcaaGreatDoor
open Go Go.RowKit
set_option linter.unusedVariables false
set_option linter.unusedSimpArgs false

set_option maxHeartbeats 2000000 in
set_option maxRecDepth 100000 in
theorem tokens_off (l : List UInt8) (hl : l.length ≤ maxLen) (h : 3000 < l.length) (w : World) (V : Vs w) (LV : Lv w) : Calls Tryz.prog 6 #[.string (str l)] w fun e w' => e = .returned (.bool true) ∧ Below w.heap.size w w' := by
  have hsz : (str l).size = l.length := str_size l
  have HA := Lib.hid fun W V L => awake_any W V L
  have HV := Lib.hid (And.intro V LV)
  unfold maxLen at hl
  clear V LV
  go_enter Tryz.func6, Tryz.ntmps6
  go_wp2_with fail
  refine (HA.out _ HV.out.1 HV.out.2).mono ?_
  rintro e w1 ⟨rfl, hb1⟩
  have HV1 := Lib.hid (And.intro (HV.out.1.below hb1) (HV.out.2.below hb1))
  go_wp2_with fail
  refine (HA.out _ HV1.out.1 HV1.out.2).mono ?_
  rintro e w2 ⟨rfl, hb2⟩
  have hbb := hb1.trans (hb2.mono hb1.size)
  clear hb1 hb2
  go_wp2
  go_ret
  exact ⟨rfl, hbb⟩
set_option maxHeartbeats 2000000 in
set_option maxRecDepth 100000 in
theorem tokens_err (l : List UInt8) (hl : l.length ≤ 3000) (he : (lexAll l).2.2 ≠ 0) (w : World) (V : Vs w) (LV : Lv w) : Calls Tryz.prog 6 #[.string (str l)] w fun e w' => e = .returned (.bool true) ∧ Below w.heap.size w w' := by
  have hsz : (str l).size = l.length := str_size l
  have HA := Lib.hid (awake_any w V LV)
  have HV := Lib.hid (And.intro V LV)
  have HX := Lib.hid fun W V => lex_any l (by omega) W V
  have HP := Lib.hid fun W V L => parse_any l (by omega) W V L
  have hM : parseM l = (tree0, lineAt l (lexAll l).2.1, (lexAll l).2.2) := by unfold parseM; dsimp only; rw [if_pos he]
  rw [hM] at HP
  have hz3 : decide (3000 < (l.length : Int)) = false := decide_eq_false (by omega)
  generalize lineAt l (lexAll l).2.1 = LA at *
  generalize (lexAll l).2.1 = A at *
  generalize (lexAll l).1 = ts at *
  generalize (lexAll l).2.2 = E at *
  have q : ((E : Int) != 0) = true := by simp; omega
  have q0 : ¬ (E : Int) = 0 := by omega
  clear V LV hM he
  go_enter Tryz.func6, Tryz.ntmps6
  go_wp2_with fail
  refine HA.out.mono ?_
  rintro e w1 ⟨rfl, hb1⟩
  have HB1 := Lib.hid hb1
  clear hb1 HA
  go_wp2_with fail
  refine (HX.out _ (HV.out.1.below HB1.out)).mono ?_
  rintro e w2 ⟨v, rfl, hown, hb2⟩
  have HB2 := Lib.hid (HB1.out.trans (hb2.mono HB1.out.size))
  clear HX hb2 hown HB1
  go_wp2_with fail
  refine (HP.out _ (HV.out.1.below HB2.out) (HV.out.2.below HB2.out)).mono ?_
  rintro e w3 ⟨l1, x1, n1, k1, rfl, hT1, hb3⟩
  have HB3 := Lib.hid ((HB2.out.trans (hb3.mono HB2.out.size)).alloc (HB2.out.trans (hb3.mono HB2.out.size)).size (.cells #[.int .i64 l1.kind, .string (str l1.name), .int .u64 l1.num, .int .i64 l1.wd, .bool l1.sg, .int .i64 l1.op, .int .i64 l1.fac, .int .i64 l1.pip, .int .i64 l1.unr, .int .i64 l1.line, .slice x1 n1 k1] 28))
  clear hb3 hT1 HB2 HP
  go_wp2
  go_ret
  exact ⟨by simp, HB3.out⟩
set_option maxHeartbeats 4000000 in
set_option maxRecDepth 100000 in
theorem tokens_ok (l : List UInt8) (hl : l.length ≤ 3000) (he : (lexAll l).2.2 = 0) (w : World) (V : Vs w) (LV : Lv w) : Calls Tryz.prog 6 #[.string (str l)] w fun e w' => e = .returned (.bool true) ∧ Below w.heap.size w w' := by
  have hsz : (str l).size = l.length := str_size l
  obtain ⟨f1, f2, f3, f4, f5⟩ := tk_facts hl he
  have HA := Lib.hid (awake_any w V LV)
  have HV := Lib.hid (And.intro V LV)
  have HX := Lib.hid fun W V => lex_any l (by omega) W V
  have HP := Lib.hid fun W V L => parse_any l (by omega) W V L
  have hz3 : decide (3000 < (l.length : Int)) = false := decide_eq_false (by omega)
  rw [he] at HX
  generalize (lexAll l).2.1 = A at *
  generalize (lexAll l).1 = ts at *
  have hJl : (J ts ts.length).length ≤ 6000 := by have := J_len (ts := ts) ts.length (Nat.le_refl _); omega
  have HJ := Lib.hid fun v W (h : TkV W v ts) => join_any ts v W h (by omega) (by omega)
  have HPJ := Lib.hid fun W V L => parse_any (J ts ts.length) (by omega) W V L
  have HSM := Lib.hid (rSame_any (depth (parseM l).1) (parseM l).1 (parseM (J ts ts.length)).1 (Nat.le_refl _))
  unfold rSameOK at HSM
  rw [f2] at HSM
  generalize str (J ts ts.length) = T at *
  generalize parseM (J ts ts.length) = Q at *
  generalize parseM l = P at *
  obtain ⟨t1, a1, e1⟩ := P
  obtain ⟨t2, a2, e2⟩ := Q
  simp only at f1 f3
  obtain rfl : e2 = e1 := f1
  have qa : ((e2 : Int) = 0 ∧ a2 = 0) ∨ (¬ (e2 : Int) = 0 ∧ a2 = 1) := by
    by_cases h : e2 = 0
    · rw [if_pos h] at f3; exact .inl ⟨by omega, f3⟩
    · rw [if_neg h] at f3; exact .inr ⟨by omega, f3⟩
  clear V LV he f2 f3 f4 f5 hJl
  go_enter Tryz.func6, Tryz.ntmps6
  go_wp2_with fail
  refine HA.out.mono ?_
  rintro e w1 ⟨rfl, hb1⟩
  have HB1 := Lib.hid hb1
  clear hb1 HA
  go_wp2_with fail
  refine (HX.out _ (HV.out.1.below HB1.out)).mono ?_
  rintro e w2 ⟨v, rfl, hown, hb2⟩
  have HB2 := Lib.hid (HB1.out.trans (hb2.mono HB1.out.size))
  have HT2 := Lib.hid (TkV.own hown)
  clear HX hb2 hown HB1
  go_wp2_with fail
  refine (HP.out _ (HV.out.1.below HB2.out) (HV.out.2.below HB2.out)).mono ?_
  rintro e w3 ⟨l1, x1, n1, k1, rfl, hT1, hb3⟩
  have hb3a := (HB2.out.trans (hb3.mono HB2.out.size))
  have HB3 := Lib.hid (hb3a.alloc hb3a.size (.cells #[.int .i64 l1.kind, .string (str l1.name), .int .u64 l1.num, .int .i64 l1.wd, .bool l1.sg, .int .i64 l1.op, .int .i64 l1.fac, .int .i64 l1.pip, .int .i64 l1.unr, .int .i64 l1.line, .slice x1 n1 k1] 28))
  have HT3 := Lib.hid ((HT2.out.below hb3).below ((Below.refl w3.heap.size w3).alloc (Nat.le_refl _) (.cells #[.int .i64 l1.kind, .string (str l1.name), .int .u64 l1.num, .int .i64 l1.wd, .bool l1.sg, .int .i64 l1.op, .int .i64 l1.fac, .int .i64 l1.pip, .int .i64 l1.unr, .int .i64 l1.line, .slice x1 n1 k1] 28)))
  have HN3 := Lib.hid (Blk.alloc w3 28 [.int .i64 l1.kind, .string (str l1.name), .int .u64 l1.num, .int .i64 l1.wd, .bool l1.sg, .int .i64 l1.op, .int .i64 l1.fac, .int .i64 l1.pip, .int .i64 l1.unr, .int .i64 l1.line, .slice x1 n1 k1])
  have HR3 := Lib.hid (TreeAt.keep (w' := w3.alloc (.cells #[.int .i64 l1.kind, .string (str l1.name), .int .u64 l1.num, .int .i64 l1.wd, .bool l1.sg, .int .i64 l1.op, .int .i64 l1.fac, .int .i64 l1.pip, .int .i64 l1.unr, .int .i64 l1.line, .slice x1 n1 k1] 28)) (Q := fun _ => True) hT1 (fun k _ hl => Below.heap_alloc w3 _ k hl) fun k hk _ => trivial)
  clear hb3 hb3a hT1 HB2 HP HT2
  go_wp2_with fail
  refine (HJ.out _ _ HT3.out).mono ?_
  rintro e w4 ⟨rfl, hb4⟩
  have HB4 := Lib.hid (HB3.out.trans (hb4.mono HB3.out.size))
  have HN4 := Lib.hid (HN3.out.below hb4 HN3.out.lt)
  have HR4 := Lib.hid (TreeAt.keep (Q := fun _ => True) HR3.out (fun k _ hl => hb4.block k hl) fun k hk _ => trivial)
  clear hb4 HB3 HT3 HN3 HR3 HJ
  go_wp2_with fail
  refine (HPJ.out _ (HV.out.1.below HB4.out) (HV.out.2.below HB4.out)).mono ?_
  rintro e w5 ⟨l2, x2, n2, k2, rfl, hT2, hb5⟩
  have hb5a := (HB4.out.trans (hb5.mono HB4.out.size))
  have HB5 := Lib.hid (hb5a.alloc hb5a.size (.cells #[.int .i64 l2.kind, .string (str l2.name), .int .u64 l2.num, .int .i64 l2.wd, .bool l2.sg, .int .i64 l2.op, .int .i64 l2.fac, .int .i64 l2.pip, .int .i64 l2.unr, .int .i64 l2.line, .slice x2 n2 k2] 28))
  have HN5 := Lib.hid (HN4.out.below hb5 HN4.out.lt)
  have HR5 := Lib.hid (TreeAt.keep (w' := w5.alloc (.cells #[.int .i64 l2.kind, .string (str l2.name), .int .u64 l2.num, .int .i64 l2.wd, .bool l2.sg, .int .i64 l2.op, .int .i64 l2.fac, .int .i64 l2.pip, .int .i64 l2.unr, .int .i64 l2.line, .slice x2 n2 k2] 28)) (Q := fun _ => True) (TreeAt.keep (Q := fun _ => True) HR4.out (fun k _ hl => hb5.block k hl) fun k hk _ => trivial) (fun k _ hl => Below.heap_alloc w5 _ k hl) fun k hk _ => trivial)
  have HS5 := Lib.hid (TreeAt.keep (w' := w5.alloc (.cells #[.int .i64 l2.kind, .string (str l2.name), .int .u64 l2.num, .int .i64 l2.wd, .bool l2.sg, .int .i64 l2.op, .int .i64 l2.fac, .int .i64 l2.pip, .int .i64 l2.unr, .int .i64 l2.line, .slice x2 n2 k2] 28)) (Q := fun _ => True) hT2 (fun k _ hl => Below.heap_alloc w5 _ k hl) fun k hk _ => trivial)
  obtain ⟨hc, hf⟩ := HN5.out.all
  have hz := HN5.out.lt
  clear hb5 hb5a hT2 HB4 HN4 HR4 HPJ
  rcases qa with ⟨qe, rfl⟩ | ⟨qe, rfl⟩
  all_goals
    go_wp2_with fail
    refine (HSM.out _ _ _ _ _ _ _ _ _ HR5.out HS5.out).mono ?_
    rintro e w6 ⟨rfl, hb6⟩
    go_wp2
    go_ret
    exact ⟨by simp [qe]; try omega, HB5.out.trans (hb6.mono HB5.out.size)⟩
theorem parserTokens_walk (s : ByteArray) (hs : s.size ≤ maxLen) (w : World) (V : Vs w) (LV : Lv w) : Calls Tryz.prog 6 #[.string s] w fun e w' => e = .returned (.bool true) ∧ Below w.heap.size w w' := by
  obtain ⟨l, rfl⟩ : ∃ l, s = str l := ⟨_, (str_of s).symm⟩
  rw [str_size] at hs
  by_cases h : 3000 < l.length
  · exact tokens_off l hs h w V LV
  · by_cases he : (lexAll l).2.2 = 0
    · exact tokens_ok l (by omega) he w V LV
    · exact tokens_err l (by omega) he w V LV
end Go.Proofs.YtfnhogeocbndcaaGreatDoor
