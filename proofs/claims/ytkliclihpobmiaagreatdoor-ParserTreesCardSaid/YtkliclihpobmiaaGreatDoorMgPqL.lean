/- The law on trees: the walk. -/
import Derived.Test.YtkliclihpobmiaaGreatDoorMgPqParse
import Derived.Test.YtkliclihpobmiaaGreatDoorMgPsAny
import Derived.Test.YtkliclihpobmiaaGreatDoorMgPsPair
import Derived.Test.YtkliclihpobmiaaGreatDoorMgPsAwake
import Derived.BigRegion
namespace Go.Proofs.YtkliclihpobmiaaGreatDoor
open Go Go.RowKit
set_option linter.unusedVariables false
set_option linter.unusedSimpArgs false

theorem Lv.belowQ {w w' : World} (h : Lv w) (hb : Below w.heap.size w w') : Lv w' := by
 intro l hl
 obtain ⟨v, h1, a, c, rfl, h2⟩ := h l hl
 refine ⟨_, by rw [hb.cell (World.block_lt_of_cell? _ _ h1)]; exact h1, a, c, rfl, fun j hj => ?_⟩
 obtain ⟨e1, e2⟩ := h2 j hj
 exact ⟨by rw [hb.cell (World.block_lt_of_cell? _ _ e1)]; exact e1, by rw [hb.cell (World.block_lt_of_cell? _ _ e2)]; exact e2⟩
mutual
theorem sameT_refl : ∀ t : Tree, sameT t t = true
 | .node a ks => by rw [sameT, sameL_refl, sameTs_refl ks]; rfl
theorem sameTs_refl : ∀ ks : List Tree, sameTs ks ks = true
 | [] => by rw [sameTs]
 | t :: r => by rw [sameTs, sameT_refl t, sameTs_refl r]; rfl
end
mutual
theorem lineT_refl : ∀ t : Tree, lineT t t = true
 | .node a ks => by rw [lineT, lineTs_refl ks]; simp
theorem lineTs_refl : ∀ ks : List Tree, lineTs ks ks = true
 | [] => by rw [lineTs]
 | t :: r => by rw [lineTs, lineT_refl t, lineTs_refl r]; rfl
end
set_option maxHeartbeats 2000000 in
set_option maxRecDepth 100000 in
theorem trees_off (l : List UInt8) (hl : l.length ≤ maxLen) (h : 3000 < l.length) (w : World) (V : Vs w) (LV : Lv w) : Calls Tryz.prog 3 #[.string (str l)] w fun e w' => e = .returned (.bool true) ∧ Below w.heap.size w w' := by
 have hsz : (str l).size = l.length := str_size l
 have HA := Hd fun W V L => awake_any W V L
 have HV := Hd (And.intro V LV)
 unfold maxLen at hl
 clear V LV
 go_enter Tryz.func3, Tryz.ntmps3
 go_wp2_with fail
 refine (HA.out _ HV.out.1 HV.out.2).mono ?_
 rintro e w1 ⟨rfl, hb1⟩
 have HV1 := Hd (And.intro (HV.out.1.below hb1) (HV.out.2.belowQ hb1))
 go_wp2_with fail
 refine (HA.out _ HV1.out.1 HV1.out.2).mono ?_
 rintro e w2 ⟨rfl, hb2⟩
 have hbb := hb1.trans (hb2.mono hb1.size)
 clear hb1 hb2
 go_wp2
 go_ret
 exact ⟨rfl, hbb⟩
set_option maxHeartbeats 4000000 in
set_option maxRecDepth 100000 in
theorem trees_ok (l : List UInt8) (hl : l.length ≤ 3000) (w : World) (V : Vs w) (LV : Lv w) : Calls Tryz.prog 3 #[.string (str l)] w fun e w' => e = .returned (.bool true) ∧ Below w.heap.size w w' := by
 have hsz : (str l).size = l.length := str_size l
 have HA := Hd (awake_any w V LV)
 have HV := Hd (And.intro V LV)
 have HP := Hd fun W V L => parse_any l (by omega) W V L
 have HQ := Hd fun W V L => Q.parse_any l hl W V L
 have hz3 : decide (3000 < (l.length : Int)) = false := decide_eq_false (by omega)
 have HSM := Hd (rSame_any (depth (parseM l).1) (parseM l).1 (parseM l).1 (Nat.le_refl _))
 have HLN := Hd (lines_any (depth (parseM l).1) (parseM l).1 (parseM l).1 (Nat.le_refl _))
 unfold rSameOK at HSM
 unfold linesOK at HLN
 rw [sameT_refl] at HSM
 rw [lineT_refl] at HLN
 generalize parseM l = P at *
 obtain ⟨t1, a1, e1⟩ := P
 have qe : ((e1 : Int) == (e1 : Int)) = true := by simp
 have qa : ((a1 : Int) == (a1 : Int)) = true := by simp
 clear V LV
 go_enter Tryz.func3, Tryz.ntmps3
 go_wp2_with fail
 refine HA.out.mono ?_
 rintro e w1 ⟨rfl, hb1⟩
 have HB1 := Hd hb1
 clear hb1 HA
 go_wp2_with fail
 refine (HP.out _ (HV.out.1.below HB1.out) (HV.out.2.belowQ HB1.out)).mono ?_
 rintro e w3 ⟨l1, x1, n1, k1, rfl, hT1, hb3⟩
 have hb3a := (HB1.out.trans (hb3.mono HB1.out.size))
 have HB3 := Hd (hb3a.alloc hb3a.size (.cells #[.int .i64 l1.kind, .string (str l1.name), .int .u64 l1.num, .int .i64 l1.wd, .bool l1.sg, .int .i64 l1.op, .int .i64 l1.fac, .int .i64 l1.pip, .int .i64 l1.unr, .int .i64 l1.line, .slice x1 n1 k1] 28))
 have HN3 := Hd (Blk.alloc w3 28 [.int .i64 l1.kind, .string (str l1.name), .int .u64 l1.num, .int .i64 l1.wd, .bool l1.sg, .int .i64 l1.op, .int .i64 l1.fac, .int .i64 l1.pip, .int .i64 l1.unr, .int .i64 l1.line, .slice x1 n1 k1])
 have HR3 := Hd (TreeAt.keep (w' := w3.alloc (.cells #[.int .i64 l1.kind, .string (str l1.name), .int .u64 l1.num, .int .i64 l1.wd, .bool l1.sg, .int .i64 l1.op, .int .i64 l1.fac, .int .i64 l1.pip, .int .i64 l1.unr, .int .i64 l1.line, .slice x1 n1 k1] 28)) (Q := fun _ => True) hT1 (fun k _ hl => Below.heap_alloc w3 _ k hl) fun k hk _ => trivial)
 clear hb3 hb3a hT1 HB1 HP
 go_wp2_with fail
 refine (HQ.out _ (HV.out.1.below HB3.out) (HV.out.2.belowQ HB3.out)).mono ?_
 rintro e w5 ⟨l2, x2, n2, k2, rfl, hT2, hb5⟩
 have hb5a := (HB3.out.trans (hb5.mono HB3.out.size))
 have HB5 := Hd (hb5a.alloc hb5a.size (.cells #[.int .i64 l2.kind, .string (str l2.name), .int .u64 l2.num, .int .i64 l2.wd, .bool l2.sg, .int .i64 l2.op, .int .i64 l2.fac, .int .i64 l2.pip, .int .i64 l2.unr, .int .i64 l2.line, .slice x2 n2 k2] 28))
 have HN5 := Hd ((HN3.out.below hb5 HN3.out.lt).alloc_other (.cells #[.int .i64 l2.kind, .string (str l2.name), .int .u64 l2.num, .int .i64 l2.wd, .bool l2.sg, .int .i64 l2.op, .int .i64 l2.fac, .int .i64 l2.pip, .int .i64 l2.unr, .int .i64 l2.line, .slice x2 n2 k2] 28))
 have HM5 := Hd (Blk.alloc w5 28 [.int .i64 l2.kind, .string (str l2.name), .int .u64 l2.num, .int .i64 l2.wd, .bool l2.sg, .int .i64 l2.op, .int .i64 l2.fac, .int .i64 l2.pip, .int .i64 l2.unr, .int .i64 l2.line, .slice x2 n2 k2])
 have HR5 := Hd (TreeAt.keep (w' := w5.alloc (.cells #[.int .i64 l2.kind, .string (str l2.name), .int .u64 l2.num, .int .i64 l2.wd, .bool l2.sg, .int .i64 l2.op, .int .i64 l2.fac, .int .i64 l2.pip, .int .i64 l2.unr, .int .i64 l2.line, .slice x2 n2 k2] 28)) (Q := fun _ => True) (TreeAt.keep (Q := fun _ => True) HR3.out (fun k _ hl => hb5.block k hl) fun k hk _ => trivial) (fun k _ hl => Below.heap_alloc w5 _ k hl) fun k hk _ => trivial)
 have HS5 := Hd (TreeAt.keep (w' := w5.alloc (.cells #[.int .i64 l2.kind, .string (str l2.name), .int .u64 l2.num, .int .i64 l2.wd, .bool l2.sg, .int .i64 l2.op, .int .i64 l2.fac, .int .i64 l2.pip, .int .i64 l2.unr, .int .i64 l2.line, .slice x2 n2 k2] 28)) (Q := fun _ => True) hT2 (fun k _ hl => Below.heap_alloc w5 _ k hl) fun k hk _ => trivial)
 have hz1 := HN3.out.lt
 have hz5 : w3.heap.size < w5.heap.size := Nat.lt_of_lt_of_le hz1 hb5.size
 obtain ⟨hc, hf⟩ := (HN3.out.below hb5 HN3.out.lt).all
 clear hb5 hb5a hT2 HB3 HN3 HR3 HQ
 go_wp2_with fail
 refine (HSM.out _ _ _ _ _ _ _ _ _ HR5.out HS5.out).mono ?_
 rintro e w6 ⟨rfl, hb6⟩
 have HB6 := Hd (HB5.out.trans (hb6.mono HB5.out.size))
 have HR6 := Hd (TreeAt.keep (Q := fun _ => True) HR5.out (fun k _ hl => hb6.block k hl) fun k hk _ => trivial)
 have HS6 := Hd (TreeAt.keep (Q := fun _ => True) HS5.out (fun k _ hl => hb6.block k hl) fun k hk _ => trivial)
 obtain ⟨hc2, hf2⟩ := (HN5.out.below hb6 HN5.out.lt).all
 obtain ⟨hd2, he2⟩ := (HM5.out.below hb6 HM5.out.lt).all
 clear hb6 HR5 HS5 HB5 HSM hc hf
 go_wp2_with fail
 refine (HLN.out _ _ _ _ _ _ _ _ _ HR6.out HS6.out).mono ?_
 rintro e w7 ⟨rfl, hb7⟩
 have HB7 := Hd (HB6.out.trans (hb7.mono HB6.out.size))
 go_wp2
 go_ret
 exact ⟨by simp, HB7.out⟩
theorem parserTrees_walk (s : ByteArray) (hs : s.size ≤ maxLen) (w : World) (V : Vs w) (LV : Lv w) : Calls Tryz.prog 3 #[.string s] w fun e w' => e = .returned (.bool true) ∧ Below w.heap.size w w' := by
 obtain ⟨l, rfl⟩ : ∃ l, s = str l := ⟨_, (str_of s).symm⟩
 rw [str_size] at hs
 by_cases h : 3000 < l.length
 ·exact trees_off l hs h w V LV
 ·exact trees_ok l (by omega) w V LV
end Go.Proofs.YtkliclihpobmiaaGreatDoor
