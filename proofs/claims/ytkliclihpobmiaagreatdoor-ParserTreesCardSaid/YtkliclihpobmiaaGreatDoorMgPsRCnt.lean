/- Parse: contract, for sources with tokens. -/
import Derived.Test.YtkliclihpobmiaaGreatDoorMgPsPg
import Derived.Test.YtkliclihpobmiaaGreatDoorMgPsWo
import Derived.Test.YtkliclihpobmiaaGreatDoorMgPqDp
import Derived.Test.YtkliclihpobmiaaGreatDoorMgLxTk
import Derived.Test.YtkliclihpobmiaaGreatDoorMgLxChain
import Derived.BigRegion
import Derived.Test.YtkliclihpobmiaaGreatDoorMgLxTk0
import Derived.Test.YtkliclihpobmiaaGreatDoorMgLawKit
import Derived.Test.YtkliclihpobmiaaGreatDoorRows
import Derived.ChangeArms
import Derived.Deep.Slices
import Derived.Test.YtkliclihpobmiaaGreatDoorMgPsWi
namespace Go.Proofs.YtkliclihpobmiaaGreatDoor
open Go Go.RowKit
set_option linter.unusedVariables false

theorem results_cell3 {fn : Func} {p a b : Tmp} {ty : TypeId} (h : fn.results = #[.cell p ty, .tmp a, .tmp b]) (tmps : Array Value) (P : Program) (w : World) :
  (results fn tmps).run P w = ((asAddr (tmps.getD p undef)).run P w).andThen fun q w₁ => ((loadVar ty q).run P w₁).andThen fun v w₂ => .ok (.tuple #[v, tmps.getD a undef, tmps.getD b undef]) w₂ := by
 simp only [results, h]
 simp [Sem.run_bind, Result.andThen]
theorem Blk.res3 {P : Program} {fn : Func} {p a b : Tmp} {ty : TypeId} (hr : fn.results = #[.cell p ty, .tmp a, .tmp b]) {w : World} {g : Nat} {cs : List Value} {d : TypeDesc} (h : Blk w g ty cs)
  (hu : P.underlying ty = some d) (hd : (match d with | .struct _ | .array _ _ => true | _ => false) = true) (hi : (P.info? ty).map (·.size) = some cs.length)
  (tmps : Array Value) (hp : tmps.getD p undef = .pointer (some ⟨g, 0, none⟩)) :
  (results fn tmps).run P w = .ok (.tuple #[.agg cs.toArray, tmps.getD a undef, tmps.getD b undef]) w := by
 rw [results_cell3 hr, hp]
 simp [asAddr, Result.andThen, run_loadVar_row w g ty ty cs.toArray (0, 0) d h hu hd (by simpa using hi)]
def PP (w : World) (z : Tree × Nat × Nat) (e : Ending) (w' : World) : Prop :=
 ∃ (l : Lab) (x : Option Addr) (n k : Nat), e = .returned (.tuple #[.agg #[.int .i64 l.kind, .string (str l.name), .int .u64 l.num, .int .i64 l.wd, .bool l.sg, .int .i64 l.op, .int .i64 l.fac, .int .i64 l.pip, .int .i64 l.unr, .int .i64 l.line, .slice x n k], .int .i64 (z.2.1 : Int), .int .i64 (z.2.2 : Int)]) ∧
  TreeAt w' (w.heap.size ≤ ·) [.int .i64 l.kind, .string (str l.name), .int .u64 l.num, .int .i64 l.wd, .bool l.sg, .int .i64 l.op, .int .i64 l.fac, .int .i64 l.pip, .int .i64 l.unr, .int .i64 l.line, .slice x n k] z.1 ∧ Below w.heap.size w w'
theorem pp_zero {w w' : World} {L e : Nat} {v u : Int} (hb : Below w.heap.size w w') (hv : v = (L : Int)) (hu : u = (e : Int)) : PP w (tree0, L, e) (.returned (.tuple #[.agg ncz.toArray, .int .i64 v, .int .i64 u])) w' := by
 subst hv hu
 exact ⟨lab0, none, 0, 0, rfl, .nil _ lab0, hb⟩
theorem numErr_num {r : List UInt8} (h : numErr r = 0) : numVal (baseOf r) (digs r) < 18446744073709551616 := by
 unfold numErr at h
 split at h
 ·simp at h
 ·split at h
  ·simp at h
  ·omega
theorem tokNum_lt {l : List UInt8} (h : tokErr l = 0) : tokNum l < 18446744073709551616 := by
 unfold tokNum
 split
 ·rename_i hc
  unfold tokErr at h
  rw [if_neg hc.1, if_pos hc.2] at h
  exact numErr_num h
 ·omega
theorem chain_ctx {l : List UInt8} : ∀ (ts : List Tok) (d line : Nat), d ≤ l.length → 0 < line → line ≤ d + 1 → Chain l d line ts → ∀ t ∈ ts, (0 < t.line ∧ t.line ≤ l.length + 1) ∧ t.num < 18446744073709551616 ∧ t.text ≠ [] ∧ t.text.length ≤ l.length := by
 intro ts
 induction ts with
 | nil => intro d line _ _ _ _ t ht; simp at ht
 | cons a ts ih =>
  intro d line hd hl hld hc t ht
  obtain ⟨e1, e2, e3, e4, e5, e6, e7, e8, e9, e10, e11⟩ := hc.step
  have hlf := lineFeeds_le ((l.drop d).take (a.pos - d))
  rw [List.length_take, List.length_drop] at hlf
  have hline : a.line ≤ a.pos + 1 := by omega
  rcases List.mem_cons.1 ht with rfl | ht
  ·refine ⟨⟨by omega, by omega⟩, by rw [e10]; exact tokNum_lt e8, fun h => ?_, by omega⟩
   rw [h] at e6
   simp at e6
   omega
  ·exact ih _ _ e4 (by omega) (by omega) e11 t ht
theorem lexAll_ctx (l : List UInt8) (h : (lexAll l).2.2 = 0) : l.length ≤ 65536 ∧ (lexAll l).1.length ≤ l.length ∧ ∀ t ∈ (lexAll l).1, (0 < t.line ∧ t.line ≤ l.length + 1) ∧ t.num < 18446744073709551616 ∧ t.text ≠ [] ∧ t.text.length ≤ l.length := by
 rcases lexAll_cases l with ⟨_, _, h3, h4⟩ | ⟨h1, _⟩
 ·exact ⟨h3, by have := Chain.len _ 0 1 (by omega) h4; omega, chain_ctx _ 0 1 (by omega) (by omega) (by omega) h4⟩
 ·exact absurd h h1
theorem below_st {w0 w w' : World} {R : Nat} (h : Below w0.heap.size w0 w) (hs : St w w' R) (hR : w0.heap.size ≤ R) : Below w0.heap.size w0 w' :=
 ⟨hs.os.trans h.os, hs.tape.trans h.tape, hs.output.trans h.output, Nat.le_trans h.size hs.size, fun k hk => (hs.block k (Nat.lt_of_lt_of_le hk h.size) (fun e => by injection e with e; omega)).trans (h.block k hk)⟩
theorem extract_zero (l : List UInt8) (a : Nat) : (str l).extract 0 a = str (l.take a) := by rw [extract_head]; rfl

set_option maxHeartbeats 4000000 in
set_option maxRecDepth 100000 in
theorem parse_err (l : List UInt8) (hs : l.length ≤ 1000000) (w : World) (V : Vs w) (he : (lexAll l).2.2 ≠ 0) (hsmall : l.length ≤ 65536) : Calls Tryz.prog 11 #[.string (str l)] w (PP w (parseM l)) := by
 have hM : parseM l = (tree0, lineAt l (lexAll l).2.1, (lexAll l).2.2) := by unfold parseM; dsimp only; rw [if_pos he]
 rw [hM]
 have hb0 := (Below.refl w.heap.size w).alloc (Nat.le_refl _) (.cells ncz.toArray 28)
 have HK := Hd (Blk.alloc w 28 ncz)
 have HB := Hd hb0
 have HLX := Hd (lex_any l (by omega) _ (V.below (hb0.mono (Nat.le_refl _))))
 have hat : (lexAll l).2.1 ≤ l.length := by
  rcases lexAll_cases l with ⟨h1, _⟩ | ⟨_, _, h3⟩
  ·exact absurd h1 he
  ·exact h3 hsmall
 have HCN := Hd fun W => count_any (l.take (lexAll l).2.1) W
 have hx := extract_zero l (lexAll l).2.1
 have hlf := lineFeeds_le (l.take (lexAll l).2.1)
 have hla : lineAt l (lexAll l).2.1 = 1 + lineFeeds (l.take (lexAll l).2.1) := rfl
 have HLA := Hd hla
 have hsz := str_size l
 rw [List.length_take] at hlf
 generalize (lexAll l).2.1 = A at *
 generalize hE : (lexAll l).2.2 = E at *
 generalize lineFeeds (l.take A) = NF at *
 generalize lineAt l A = LA at *
 have q : ((E : Int) != 0) = true := by simp; omega
 clear hb0 V hM hE hla
 have hA1 : (A : Int) ≤ ((str l).size : Int) := by rw [hsz]; omega
 go_enter Tryz.func11, Tryz.ntmps11
 go_wp2_with fail
 refine HLX.out.mono ?_
 rintro e w1 ⟨v, rfl, hown, hb1⟩
 have HK1 := Hd (HK.out.below hb1 HK.out.lt)
 have HB1 := Hd (HB.out.trans (hb1.mono (by simp)))
 obtain ⟨hc, hf⟩ := HK1.out.all
 unfold ncz at hc
 clear hown hb1 HLX HK HB
 go_wp2_with fail
 refine (HCN.out _).mono ?_
 rintro e w2 ⟨rfl, rfl⟩
 go_wp2
 refine bodyPost_ret ((HK1.out.stor11 rfl _ _ _ _ _ _ _ _ _ _ _).res3 Tryz.results11 Tryz.underlying28 rfl infoNd _ rfl) rfl ?_
 exact pp_zero (below_stor11 HB1.out (Nat.le_refl _) _ _ _ _ _ _ _ _ _ _ _) (by rw [HLA.out]; show 1 + (NF : Int) = _; omega) rfl

set_option maxHeartbeats 4000000 in
set_option maxRecDepth 100000 in
theorem parse_mainX (l : List UInt8) (w : World) (V : Vs w) (LV : Lv w) (he : (lexAll l).2.2 = 0) (hne : (lexAll l).1 ≠ []) (HLP : ∀ R g c, Ctx (lexAll l).1 R g c → LoopOK (lexAll l).1 R g c) : Calls Tryz.prog 11 #[.string (str l)] w (PP w (parseM l)) := by
 obtain ⟨hlen, htl, hctx⟩ := lexAll_ctx l he
 have hM : parseM l = (if 0 < crowd 0 (lexAll l).1 then (tree0, crowd 0 (lexAll l).1, 5) else if (progT (lexAll l).1).2.bad then (tree0, (tat (lexAll l).1 (min (progT (lexAll l).1).2.i ((lexAll l).1.length - 1))).line, 4)
   else if 20000 < count (progT (lexAll l).1).1 ∨ 200 < depth (progT (lexAll l).1).1 then (tree0, 1, 5) else ((progT (lexAll l).1).1, 0, 0)) := by
  unfold parseM
  dsimp only
  rw [if_neg (by simp [he])]
 obtain ⟨Z, hZ⟩ : ∃ Z, Z = parseM l := ⟨_, rfl⟩
 rw [← hZ]
 rw [hM] at hZ
 have hb0 := (Below.refl w.heap.size w).alloc (Nat.le_refl _) (.cells ncz.toArray 28)
 have hw1 : (w.alloc (.cells ncz.toArray 28)).heap.size = w.heap.size + 1 := by simp
 have HK := Hd (Blk.alloc w 28 ncz)
 have HB := Hd hb0
 have HLX := Hd (lex_any l (by omega) _ (V.below (hb0.mono (Nat.le_refl _))))
 generalize (lexAll l).2.1 = A at *
 rw [he] at HLX
 generalize hT : (lexAll l).1 = ts at *
 have HV := Hd (And.intro V LV)
 have HW1 := Hd hw1
 have HZ := Hd hZ
 clear hb0 V LV hM hw1 he hZ
 go_enter Tryz.func11, Tryz.ntmps11
 go_wp2_with fail
 refine HLX.out.mono ?_
 rintro e w1 ⟨v, rfl, hown, hb1⟩
 rcases toks_own hown with ⟨h, _⟩ | ⟨g, c, rfl, hg, hTk⟩
 ·exact absurd h hne
 ·have hgc : ts.length ≤ c ∧ c ≤ maxLen := by
   rcases hown.2 with ⟨h, _⟩ | ⟨g2, cap, cur, h, _, _, h3, h4, _⟩
   ·simp at h
   ·injection h with h1 h2 h3'
    subst h3'
    exact ⟨h3, h4⟩
  have HTk := Hd hTk
  have HK1 := Hd (HK.out.below hb1 HK.out.lt)
  have HB1 := Hd (HB.out.trans (hb1.mono (by simp)))
  have HCR := Hd (crowded_any ts g c (by omega) (fun t ht => by have := (hctx t ht).1.2; omega) w1 hTk)
  have hgw : w.heap.size ≤ g := by rw [HW1.out] at hg; omega
  have hgl := hTk.1
  have HENV : Hid (Env w1 g) := Hd ⟨w, HV.out.1, HV.out.2, hgw, HB1.out.size, fun k hk => HB1.out.block k hk⟩
  have HCTX : Hid (∀ R, g < R → Ctx ts R g c) := Hd fun R hR => ⟨hne, hR, by omega, hgc, fun t ht => ⟨(hctx t ht).1.1, by have := (hctx t ht).1.2; omega⟩, fun t ht => (hctx t ht).2.1, fun t ht => ⟨(hctx t ht).2.2.1, by have := (hctx t ht).2.2.2; omega⟩⟩
  have HLPH := Hd HLP
  clear hown hb1 HLX HK HB hTk hg hctx hgc HLP HV HW1
  by_cases hcr : 0 < crowd 0 ts
  ·have HZ1 : Hid (Z = (tree0, crowd 0 ts, 5)) := Hd (by rw [HZ.out, if_pos hcr])
   have qc : (0 : Int) < (crowd 0 ts : Int) := by omega
   clear hcr HLPH HCTX HENV HZ
   generalize crowd 0 ts = CR at *
   go_wp2_with fail
   refine HCR.out.mono ?_
   rintro e w2 ⟨rfl, hb2⟩
   have HK2 := Hd (HK1.out.below hb2 HK1.out.lt)
   have HB2 := Hd (HB1.out.trans (hb2.mono HB1.out.size))
   obtain ⟨hc, hf⟩ := HK2.out.all
   unfold ncz at hc
   clear hb2 HK1 HB1 HCR
   go_wp2
   refine bodyPost_ret ((HK2.out.stor11 rfl _ _ _ _ _ _ _ _ _ _ _).res3 Tryz.results11 Tryz.underlying28 rfl infoNd _ rfl) rfl ?_
   rw [HZ1.out]
   exact pp_zero (below_stor11 HB2.out (Nat.le_refl _) _ _ _ _ _ _ _ _ _ _ _) rfl rfl
  ·have HZ1 := Hd (HZ.out.trans (if_neg hcr))
   have hc0 : crowd 0 ts = 0 := by omega
   rw [hc0] at HCR
   clear hcr hc0 HZ
   go_wp2_with fail
   refine HCR.out.mono ?_
   rintro e w2 ⟨rfl, hb2⟩
   have HK2 := Hd (HK1.out.below hb2 HK1.out.lt)
   have HB2 := Hd (HB1.out.trans (hb2.mono HB1.out.size))
   have hsz2 := hb2.size
   have hg2 : g < w2.heap.size := by omega
   have HRD : Hid (Rd (w2.alloc (.cells #[.slice (some ⟨g, 0, none⟩) ts.length c, .int .i64 0, .int .i64 0] 47)) w2.heap.size g c ts ⟨0, false⟩) := Hd ⟨Blk.alloc w2 47 [.slice (some ⟨g, 0, none⟩) ts.length c, .int .i64 0, .int .i64 0],
    (HTk.out.below hb2 hgl).below ((Below.refl w2.heap.size w2).alloc (Nat.le_refl _) _) hg2, Nat.zero_le _, (HENV.out.of_blocks (fun k hk => hb2.block k (by omega)) hb2.size).of_blocks (fun k hk => Below.heap_alloc w2 _ k (by omega)) (by simp)⟩
   have HPG := Hd (program_any (HCTX.out _ hg2) (HLPH.out _ _ _ (HCTX.out _ hg2)) _ HRD.out)
   have HBR := Hd (HB2.out.alloc HB2.out.size (.cells #[.slice (some ⟨g, 0, none⟩) ts.length c, .int .i64 0, .int .i64 0] 47))
   have HKR := Hd (HK2.out.alloc_other (.cells #[.slice (some ⟨g, 0, none⟩) ts.length c, .int .i64 0, .int .i64 0] 47))
   have hwk := HK2.out.lt
   clear hb2 HK1 HB1 HCR HRD HLPH HENV HTk HB2 HK2
   generalize hP : progT ts = PT at *
   go_wp2_with fail
   refine HPG.out.mono ?_
   rintro e w3 ⟨l1, x1, n1, k1, rfl, hT3, hr3, hs3⟩
   have HB3p := Hd (below_st HBR.out hs3 (by omega))
   have HB3 := Hd ((below_st HBR.out hs3 (by omega)).alloc (Nat.le_trans HBR.out.size (St.size hs3)) (.cells #[.int .i64 l1.kind, .string (str l1.name), .int .u64 l1.num, .int .i64 l1.wd, .bool l1.sg, .int .i64 l1.op, .int .i64 l1.fac, .int .i64 l1.pip, .int .i64 l1.unr, .int .i64 l1.line, .slice x1 n1 k1] 28))
   have HK3 := Hd (St.blk hs3 HKR.out (by omega))
   have HT4 : Hid (TreeAt (w3.alloc (.cells #[.int .i64 l1.kind, .string (str l1.name), .int .u64 l1.num, .int .i64 l1.wd, .bool l1.sg, .int .i64 l1.op, .int .i64 l1.fac, .int .i64 l1.pip, .int .i64 l1.unr, .int .i64 l1.line, .slice x1 n1 k1] 28)) (w2.heap.size + 1 ≤ ·) [.int .i64 l1.kind, .string (str l1.name), .int .u64 l1.num, .int .i64 l1.wd, .bool l1.sg, .int .i64 l1.op, .int .i64 l1.fac, .int .i64 l1.pip, .int .i64 l1.unr, .int .i64 l1.line, .slice x1 n1 k1] PT.1) := Hd (hT3.keep (fun k _ hl => Below.heap_alloc w3 _ k hl) fun k hk _ => by simpa using hk)
   obtain ⟨c0, c1, c2, f1, f2⟩ := hr3.cells
   have hR3 := hr3.lt
   obtain ⟨hc, hf⟩ := HK3.out.all
   unfold ncz at hc
   have hk3 := HK3.out.lt
   have HBAD : Hid (badOf ts PT.2 = if PT.2.bad then (tat ts (min PT.2.i (ts.length - 1))).line else 0) := Hd rfl
   have HPOS : Hid (PT.2.bad = true → 0 < badOf ts PT.2) := Hd fun h => by
    have h1 := fail_at (HCTX.out _ hg2) hr3.hi
    rw [HBAD.out, if_pos h, tat_get h1]
    exact ((HCTX.out _ hg2).line _ (List.getElem_mem h1)).1
   clear hT3 hr3 hs3 HPG HBR HKR c0 c1 f1 f2
   cases hbad : PT.2.bad with
   | true =>
    have hb := HBAD.out
    rw [hbad, if_pos rfl] at hb
    have hp := HPOS.out hbad
    have HZ2 : Hid (Z = (tree0, badOf ts PT.2, 4)) := Hd (by rw [HZ1.out, if_pos hbad, hb])
    have qb : (0 : Int) < (badOf ts PT.2 : Int) := by omega
    clear hb hp hbad HBAD HPOS HZ1
    generalize badOf ts PT.2 = BD at *
    go_wp2
    go_region
    go_wp2
    have HKF := Hd fun o x0 x1 x2 x3 x4 x5 x6 x7 x8 x9 x10 => (((HK3.out.stor11 rfl x0 x1 x2 x3 x4 x5 x6 x7 x8 x9 x10).alloc_other o).drew)
    have HBF := Hd fun o x0 x1 x2 x3 x4 x5 x6 x7 x8 x9 x10 => ((below_stor11 HB3p.out (Nat.le_refl _) x0 x1 x2 x3 x4 x5 x6 x7 x8 x9 x10).alloc (below_stor11 HB3p.out (Nat.le_refl _) x0 x1 x2 x3 x4 x5 x6 x7 x8 x9 x10).size o).drew
    refine bodyPost_ret ((HKF.out _ _ _ _ _ _ _ _ _ _ _ _).res3 Tryz.results11 Tryz.underlying28 rfl infoNd _ rfl) rfl ?_
    rw [HZ2.out]
    exact pp_zero (HBF.out _ _ _ _ _ _ _ _ _ _ _ _) rfl rfl
   | false =>
    have hb := HBAD.out
    rw [hbad] at hb
    simp only [Bool.false_eq_true, if_false] at hb
    rw [hb] at c2
    have HZ2 := Hd (HZ1.out.trans (if_neg (by rw [hbad]; simp)))
    have HWI := Hd (within_any PT.1 l1 x1 n1 k1 _ (HT4.out.mono fun _ _ _ => trivial))
    have HKW := Hd (HK3.out.alloc_other (.cells #[.int .i64 l1.kind, .string (str l1.name), .int .u64 l1.num, .int .i64 l1.wd, .bool l1.sg, .int .i64 l1.op, .int .i64 l1.fac, .int .i64 l1.pip, .int .i64 l1.unr, .int .i64 l1.line, .slice x1 n1 k1] 28))
    have HLW := Hd (Blk.alloc w3 28 [.int .i64 l1.kind, .string (str l1.name), .int .u64 l1.num, .int .i64 l1.wd, .bool l1.sg, .int .i64 l1.op, .int .i64 l1.fac, .int .i64 l1.pip, .int .i64 l1.unr, .int .i64 l1.line, .slice x1 n1 k1])
    clear hb hbad HBAD HPOS HZ1
    by_cases hwi : count PT.1 ≤ 20000 ∧ depth PT.1 ≤ 200
    ·have HZ3 : Hid (Z = (PT.1, 0, 0)) := Hd (by rw [HZ2.out, if_neg (by omega)])
     rw [show decide (count PT.1 ≤ 20000 ∧ depth PT.1 ≤ 200) = true by simpa using hwi] at HWI
     clear hwi HZ2
     go_wp2_with fail
     refine HWI.out.mono ?_
     rintro e w4 ⟨rfl, hb4⟩
     have HK4 := Hd (HKW.out.below hb4 HKW.out.lt)
     have HL4 := Hd (HLW.out.below hb4 HLW.out.lt)
     have HT5 := Hd (HT4.out.keep (Q := (w2.heap.size + 1 ≤ ·)) (fun k _ hl => hb4.block k hl) fun _ hk _ => hk)
     have HB4 := Hd (HB3.out.trans (hb4.mono HB3.out.size))
     clear hc hf
     obtain ⟨hc, hf⟩ := HK4.out.all
     unfold ncz at hc
     obtain ⟨hd, he⟩ := HL4.out.all
     have hz4 := HK4.out.lt
     clear hb4 HT4 HB3 HWI HKW HLW HK3 c2
     go_wp2
     refine bodyPost_ret ((HK4.out.stor11 rfl _ _ _ _ _ _ _ _ _ _ _).res3 Tryz.results11 Tryz.underlying28 rfl infoNd _ rfl) rfl ?_
     rw [HZ3.out]
     exact ⟨l1, x1, n1, k1, rfl, HT5.out.keep (fun k hk _ => stor11_other _ (by omega) _ _ _ _ _ _ _ _ _ _ _) (fun k hk _ => by omega), below_stor11 HB4.out (Nat.le_refl _) _ _ _ _ _ _ _ _ _ _ _⟩
    ·have HZ3 : Hid (Z = (tree0, 1, 5)) := Hd (by rw [HZ2.out, if_pos (by omega)])
     rw [show decide (count PT.1 ≤ 20000 ∧ depth PT.1 ≤ 200) = false by simpa using hwi] at HWI
     clear hwi HZ2
     go_wp2_with fail
     refine HWI.out.mono ?_
     rintro e w4 ⟨rfl, hb4⟩
     have HK4 := Hd (HKW.out.below hb4 HKW.out.lt)
     have HB4 := Hd (HB3.out.trans (hb4.mono HB3.out.size))
     clear hc hf
     obtain ⟨hc, hf⟩ := HK4.out.all
     unfold ncz at hc
     clear hb4 HT4 HB3 HWI HKW HLW HK3 c2
     go_wp2
     refine bodyPost_ret ((HK4.out.stor11 rfl _ _ _ _ _ _ _ _ _ _ _).res3 Tryz.results11 Tryz.underlying28 rfl infoNd _ rfl) rfl ?_
     rw [HZ3.out]
     exact pp_zero (below_stor11 HB4.out (Nat.le_refl _) _ _ _ _ _ _ _ _ _ _ _) rfl rfl
theorem parse_main (l : List UInt8) (w : World) (V : Vs w) (LV : Lv w) (he : (lexAll l).2.2 = 0) (hne : (lexAll l).1 ≠ []) (HLP : ∀ R g c, LoopOK (lexAll l).1 R g c) : Calls Tryz.prog 11 #[.string (str l)] w (PP w (parseM l)) :=
 parse_mainX l w V LV he hne fun R g c _ => HLP R g c
end Go.Proofs.YtkliclihpobmiaaGreatDoor
/- Parse of a source without tokens. -/
namespace Go.Proofs.YtkliclihpobmiaaGreatDoor
open Go Go.RowKit
set_option linter.unusedVariables false
set_option linter.unusedSimpArgs false

theorem Blk.drewN {w : World} {g : Nat} {t : TypeId} {cs : List Value} (h : Blk w g t cs) (n : Nat) : Blk (w.drewN n) g t cs := h
theorem below_drewN {B : Nat} {w w' : World} (h : Below B w w') (n : Nat) : Below B w (w'.drewN n) := ⟨h.os, h.tape, h.output, h.size, h.block⟩
def tk0 : Tok := ⟨0, [], 0, 0, 0⟩
def rdN (x : Option Addr) (c : Nat) : List Value := [.slice x 0 c, .int .i64 0, .int .i64 0]
set_option maxHeartbeats 1000000 in
set_option maxRecDepth 100000 in
theorem next_nil {R c : Nat} {x : Option Addr} (w : World) (hR : Blk w R 47 (rdN x c)) : Calls Tryz.prog 56 #[.pointer (some ⟨R, 0, none⟩)] w fun e w' => e = .returned (tkv tk0) ∧ Below w.heap.size w w' := by
 have hb := (Below.refl w.heap.size w).alloc (Nat.le_refl _) (.cells tkz.toArray 53)
 have hK := Blk.alloc w 53 tkz
 have HK := Hd fun n => (show Blk ((w.alloc (.cells tkz.toArray 53)).drewN n) w.heap.size 53 tkz from hK)
 have HB := Hd fun n => (⟨hb.os, hb.tape, hb.output, hb.size, hb.block⟩ : Below w.heap.size w ((w.alloc (.cells tkz.toArray 53)).drewN n))
 clear hb hK
 obtain ⟨hc, hf⟩ := hR.all
 unfold rdN at hc
 have hlt := hR.lt
 clear hR
 go_enter Tryz.func56, Tryz.ntmps56
 go_wp2
 go_quiet (fail)
 go_wp2
 refine bodyPost_ret (((HK.out _).stor5 rfl _ _ _ _ _).res1 Tryz.results56 Tryz.underlying53 rfl infoTk _ rfl) rfl ?_
 exact ⟨rfl, below_stor5 (HB.out _) (Nat.le_refl _) _ _ _ _ _⟩
set_option maxHeartbeats 1000000 in
set_option maxRecDepth 100000 in
theorem node_nil {R c : Nat} {x : Option Addr} (k : Int) (w : World) (hR : Blk w R 47 (rdN x c)) :
  Calls Tryz.prog 55 #[.pointer (some ⟨R, 0, none⟩), .int .i64 k] w fun e w' => e = .returned (.agg (nc (labK k 0)).toArray) ∧ Below w.heap.size w w' := by
 have hb0 := (Below.refl w.heap.size w).alloc (Nat.le_refl _) (.cells ncz.toArray 28)
 have hK := Blk.alloc w 28 ncz
 have HN := Hd (next_nil _ (hR.alloc_other (.cells ncz.toArray 28)))
 have HB := Hd hb0
 have HK := Hd hK
 have hF : ∀ W, Sem.run Tryz.prog (Instr.field 53 (tkv tk0) 4) W = Result.ok (.int .i64 0) W := fldL tk0
 generalize tkv tk0 = V1 at *
 clear hK hb0 hR
 go_enter Tryz.func55, Tryz.ntmps55
 go_wp2_with fail
 refine HN.out.mono ?_
 rintro e w1 ⟨rfl, hb1⟩
 have HB1 := Hd (HB.out.trans (hb1.mono (by simp)))
 have HK1 := Hd (HK.out.below hb1 HK.out.lt)
 obtain ⟨hc, hf⟩ := HK1.out.all
 unfold ncz at hc
 clear hb1 HN
 go_wp2
 refine bodyPost_ret ((HK1.out.stor11 rfl _ _ _ _ _ _ _ _ _ _ _).res1 Tryz.results55 Tryz.underlying28 rfl infoNd _ rfl) rfl ?_
 exact ⟨rfl, below_stor11 HB1.out (Nat.le_refl _) _ _ _ _ _ _ _ _ _ _ _⟩
set_option maxHeartbeats 1000000 in
set_option maxRecDepth 100000 in
theorem crowded_nil (x : Option Addr) (c : Nat) (w : World) : Calls Tryz.prog 29 #[.slice x 0 c] w fun e w' => e = .returned (.int .i64 0) ∧ w' = w := by
 go_enter Tryz.func29, Tryz.ntmps29
 go_wp2
 go_loopw [3, 8] (fun o i wr => o = .int .i64 0 ∧ i = .int .i64 0 ∧ wr = w) (fun _ i _ => 0)
 case atStart => exact ⟨rfl, rfl, rfl⟩
 case round =>
  obtain ⟨rfl, rfl, rfl⟩ := hrel
  go_wp2
  go_ret
  exact ⟨rfl, rfl⟩
def nd1 : List Value := [.int .i64 1, .string ⟨#[]⟩, .int .u64 0, .int .i64 0, .bool false, .int .i64 0, .int .i64 0, .int .i64 0, .int .i64 0, .int .i64 1, .slice none 0 0]
set_option maxHeartbeats 1000000 in
set_option maxRecDepth 100000 in
theorem program_nil {R c : Nat} {x : Option Addr} (w : World) (hR : Blk w R 47 (rdN x c)) : Calls Tryz.prog 30 #[.pointer (some ⟨R, 0, none⟩)] w fun e w' => e = .returned (.agg nd1.toArray) ∧ Below w.heap.size w w' := by
 have hb0 := (Below.refl w.heap.size w).alloc (Nat.le_refl _) (.cells ncz.toArray 28)
 have hK := Blk.alloc w 28 ncz
 have hX := hR.alloc_other (.cells ncz.toArray 28)
 have HN := Hd (node_nil 1 _ hX)
 have HB := Hd hb0
 have HK := Hd hK
 have HX := Hd hX
 have HL : Hid (nc (labK 1 0) = [.int .i64 1, .string ⟨#[]⟩, .int .u64 0, .int .i64 0, .bool false, .int .i64 0, .int .i64 0, .int .i64 0, .int .i64 0, .int .i64 0, .slice none 0 0]) := Hd rfl
 rw [HL.out] at HN
 clear hK hb0 hR hX
 go_enter Tryz.func30, Tryz.ntmps30
 go_wp2_with fail
 refine HN.out.mono ?_
 rintro e w1 ⟨rfl, hb1⟩
 have HB1 := Hd ((HB.out.trans (hb1.mono (by simp))).alloc (Below.size (HB.out.trans (hb1.mono (by simp)))) (.cells nd1.toArray 28))
 have HK1 := Hd ((HK.out.below hb1 HK.out.lt).alloc_other (.cells nd1.toArray 28))
 have hX1 := HX.out.below hb1 HX.out.lt
 obtain ⟨hc, hf⟩ := (HK.out.below hb1 HK.out.lt).all
 have hz := (HK.out.below hb1 HK.out.lt).lt
 obtain ⟨hd, he⟩ := hX1.all
 have hzd := hX1.lt
 unfold ncz at hc
 unfold rdN at hd
 clear hb1 HN HB HK HX HL hX1
 go_wp2
 go_loopw [10] (fun _ wr => wr = w1.alloc (.cells #[.int .i64 1, .string ⟨#[]⟩, .int .u64 0, .int .i64 0, .bool false, .int .i64 0, .int .i64 0, .int .i64 0, .int .i64 0, .int .i64 1, .slice none 0 0] 28)) (fun _ wr => 0)
 case atStart => exact rfl
 case round =>
  obtain rfl := hrel
  go_wp2
  go_quiet (fail)
  go_wp2
  refine bodyPost_ret (((HK1.out.drewN nq).stor11 rfl _ _ _ _ _ _ _ _ _ _ _).res1 Tryz.results30 Tryz.underlying28 rfl infoNd _ rfl) rfl ?_
  exact ⟨rfl, below_stor11 (below_drewN HB1.out nq) (Nat.le_refl _) _ _ _ _ _ _ _ _ _ _ _⟩
theorem parseM_nil {l : List UInt8} (he : (lexAll l).2.2 = 0) (hno : (lexAll l).1 = []) : parseM l = (.node (labK 1 1) [], 0, 0) := by
 unfold parseM
 dsimp only
 rw [if_neg (by simp [he]), hno]
 rfl
set_option maxHeartbeats 4000000 in
set_option maxRecDepth 100000 in
theorem parse_nil (l : List UInt8) (w : World) (V : Vs w) (he : (lexAll l).2.2 = 0) (hno : (lexAll l).1 = []) : Calls Tryz.prog 11 #[.string (str l)] w (PP w (parseM l)) := by
 obtain ⟨hlen, htl, hctx⟩ := lexAll_ctx l he
 rw [parseM_nil he hno]
 have hb0 := (Below.refl w.heap.size w).alloc (Nat.le_refl _) (.cells ncz.toArray 28)
 have hw1 : (w.alloc (.cells ncz.toArray 28)).heap.size = w.heap.size + 1 := by simp
 have HK := Hd (Blk.alloc w 28 ncz)
 have HB := Hd hb0
 have HLX := Hd (lex_any l (by omega) _ (V.below (hb0.mono (Nat.le_refl _))))
 generalize (lexAll l).2.1 = A at *
 rw [he, hno] at HLX
 clear hb0 V hw1 he hno hctx hlen htl
 go_enter Tryz.func11, Tryz.ntmps11
 go_wp2_with fail
 refine HLX.out.mono ?_
 rintro e w1 ⟨v, rfl, hown, hb1⟩
 have HK1 := Hd (HK.out.below hb1 HK.out.lt)
 have HB1 := Hd (HB.out.trans (hb1.mono (by simp)))
 obtain ⟨x, c, rfl⟩ : ∃ (x : Option Addr) (c : Nat), v = .slice x 0 c := by
  rcases toks_own hown with ⟨_, h⟩ | ⟨g, c, h, _⟩
  ·exact ⟨_, _, h⟩
  ·exact ⟨_, _, h⟩
 have HCR := Hd (crowded_nil x c w1)
 have HPG := Hd (program_nil _ (Blk.alloc w1 47 (rdN x c)))
 unfold nd1 at HPG
 have HBR := Hd (HB1.out.alloc HB1.out.size (.cells (rdN x c).toArray 47))
 have HKR := Hd (HK1.out.alloc_other (.cells (rdN x c).toArray 47))
 have HRR := Hd (Blk.alloc w1 47 (rdN x c))
 have hsz : (w1.alloc (.cells (rdN x c).toArray 47)).heap.size = w1.heap.size + 1 := by simp
 have HSZ := Hd hsz
 clear hown hb1 HLX HK HB hsz
 go_wp2_with fail
 refine HCR.out.mono ?_
 rintro e w2 ⟨rfl, rfl⟩
 go_wp2_with fail
 refine HPG.out.mono ?_
 rintro e w3 ⟨rfl, hb3⟩
 have HB3 := Hd (HBR.out.trans (hb3.mono HBR.out.size))
 have HK3 := Hd (HKR.out.below hb3 HKR.out.lt)
 have HR3 := Hd (HRR.out.below hb3 HRR.out.lt)
 have hsz3 := hb3.size
 rw [HSZ.out] at hsz3
 obtain ⟨hc, hf⟩ := HK3.out.all
 unfold ncz at hc
 have hk3 := HK3.out.lt
 obtain ⟨hd, he⟩ := HR3.out.all
 unfold rdN at hd
 have hr3 := HR3.out.lt
 have HBN := Hd (HB3.out.alloc HB3.out.size (.cells nd1.toArray 28))
 have HKN := Hd (HK3.out.alloc_other (.cells nd1.toArray 28))
 have HLN := Hd (Blk.alloc w3 28 nd1)
 have HWI := Hd (within_any (.node (labK 1 1) []) (labK 1 1) none 0 0 (w3.alloc (.cells nd1.toArray 28)) (.nil _ _))
 rw [show decide (count (.node (labK 1 1) []) ≤ 20000 ∧ depth (.node (labK 1 1) []) ≤ 200) = true by rfl] at HWI
 unfold nd1 at HBN HKN HLN HWI
 clear hb3 HPG HBR HKR HRR HCR HSZ HK1 HB1
 go_wp2_with fail
 refine HWI.out.mono ?_
 rintro e w4 ⟨rfl, hb4⟩
 have HK4 := Hd (HKN.out.below hb4 HKN.out.lt)
 have HL4 := Hd (HLN.out.below hb4 HLN.out.lt)
 have HB4 := Hd (HBN.out.trans (hb4.mono HBN.out.size))
 clear hc hf hd he
 obtain ⟨hc, hf⟩ := HK4.out.all
 unfold ncz at hc
 obtain ⟨hd, he⟩ := HL4.out.all
 have hz4 := HK4.out.lt
 clear hb4 HWI HKN HLN HBN HK3 HB3 HR3
 go_wp2
 refine bodyPost_ret ((HK4.out.stor11 rfl _ _ _ _ _ _ _ _ _ _ _).res3 Tryz.results11 Tryz.underlying28 rfl infoNd _ rfl) rfl ?_
 exact ⟨labK 1 1, none, 0, 0, rfl, .nil _ (labK 1 1), below_stor11 HB4.out (Nat.le_refl _) _ _ _ _ _ _ _ _ _ _ _⟩
end Go.Proofs.YtkliclihpobmiaaGreatDoor
/- A syntax tree that comes in as an argument, opened. -/
namespace Go.Proofs.YtkliclihpobmiaaGreatDoor
open Go Go.RowKit Go.ChangeShapes Go.WideShapes Go.ChangeAt
set_option linter.unusedVariables false

structure Lab.Wf (N : Nat) (l : Lab) : Prop where
 kind : -9223372036854775808 ≤ l.kind ∧ l.kind ≤ 9223372036854775807
 name : l.name.length ≤ N
 num : 0 ≤ l.num ∧ l.num ≤ 18446744073709551615
 wd : -9223372036854775808 ≤ l.wd ∧ l.wd ≤ 9223372036854775807
 op : -9223372036854775808 ≤ l.op ∧ l.op ≤ 9223372036854775807
 fac : -9223372036854775808 ≤ l.fac ∧ l.fac ≤ 9223372036854775807
 pip : -9223372036854775808 ≤ l.pip ∧ l.pip ≤ 9223372036854775807
 unr : -9223372036854775808 ≤ l.unr ∧ l.unr ≤ 9223372036854775807
 line : -9223372036854775808 ≤ l.line ∧ l.line ≤ 9223372036854775807
inductive TreeWf (N : Nat) : Tree → Prop
 | mk (l : Lab) (ks : List Tree) (h : l.Wf N) (hk : ∀ i (hi : i < ks.length), TreeWf N ks[i]) : TreeWf N (.node l ks)
theorem Lab.Wf.mono {N M : Nat} {l : Lab} (h : l.Wf N) (hm : N ≤ M) : l.Wf M := { h with name := Nat.le_trans h.name hm }
theorem TreeWf.mono {N M : Nat} {t : Tree} (h : TreeWf N t) (hm : N ≤ M) : TreeWf M t := by
 induction h with
 | mk l ks h hk ih => exact .mk l ks (h.mono hm) ih
theorem counts_app : ∀ (a b : List Tree), counts (a ++ b) = counts a + counts b
 | [], b => by rw [List.nil_append, counts, Nat.zero_add]
 | t :: r, b => by rw [List.cons_append, counts, counts, counts_app r b]; omega
end Go.Proofs.YtkliclihpobmiaaGreatDoor
/- Count and Depth: contracts. -/
namespace Go.Proofs.YtkliclihpobmiaaGreatDoor
open Go Go.RowKit
set_option linter.unusedVariables false

def csum (ks : List Tree) (i : Nat) : Nat := counts (ks.take i)
def dmax (ks : List Tree) (i : Nat) : Nat := depths (ks.take i)
theorem depths_app : ∀ (a b : List Tree), depths (a ++ b) = max (depths a) (depths b)
 | [], b => by rw [List.nil_append, depths]; omega
 | t :: r, b => by rw [List.cons_append, depths, depths, depths_app r b]; omega
theorem take_kat {ks : List Tree} {i : Nat} (h : i < ks.length) : ks.take (i + 1) = ks.take i ++ [kat ks i] := by rw [kat_get h]; exact List.take_succ_eq_append_getElem h
theorem csum_succ {ks : List Tree} {i : Nat} (h : i < ks.length) : csum ks (i + 1) = csum ks i + count (kat ks i) := by
 unfold csum
 rw [take_kat h, counts_app, counts, counts]
 omega
theorem dmax_succ {ks : List Tree} {i : Nat} (h : i < ks.length) : dmax ks (i + 1) = max (dmax ks i) (depth (kat ks i)) := by
 unfold dmax
 rw [take_kat h, depths_app, depths, depths]
 omega
theorem csum_all (ks : List Tree) : csum ks ks.length = counts ks := by unfold csum; rw [List.take_length]
theorem dmax_all (ks : List Tree) : dmax ks ks.length = depths ks := by unfold dmax; rw [List.take_length]
theorem csum_le (ks : List Tree) (i : Nat) : csum ks i ≤ counts ks := by
 have := counts_app (ks.take i) (ks.drop i)
 rw [List.take_append_drop] at this
 unfold csum
 omega
theorem dmax_le (ks : List Tree) (i : Nat) : dmax ks i ≤ depths ks := by
 have := depths_app (ks.take i) (ks.drop i)
 rw [List.take_append_drop] at this
 unfold dmax
 omega
theorem depth_kat {ks : List Tree} {i : Nat} (h : i < ks.length) : depth (kat ks i) ≤ depths ks := by
 have := dmax_le ks (i + 1)
 rw [dmax_succ h] at this
 omega
theorem count_kat {ks : List Tree} {i : Nat} (h : i < ks.length) : count (kat ks i) ≤ counts ks := by
 have := csum_le ks (i + 1)
 rw [csum_succ h] at this
 omega
structure CnSt (w wr : World) (acc i v : Nat) : Prop where
 eq : acc = v
 bel : Below w.heap.size w wr

end Go.Proofs.YtkliclihpobmiaaGreatDoor
/- The reference's Count and Depth: contracts. -/
namespace Go.Proofs.YtkliclihpobmiaaGreatDoor
open Go Go.RowKit
set_option linter.unusedVariables false


def rCountOK (t : Tree) : Prop := ∀ (l : Lab) (x : Option Addr) (n k : Nat) (w : World), TreeAt w (fun _ => True) [.int .i64 l.kind, .string (str l.name), .int .u64 l.num, .int .i64 l.wd, .bool l.sg, .int .i64 l.op, .int .i64 l.fac, .int .i64 l.pip, .int .i64 l.unr, .int .i64 l.line, .slice x n k] t →
 Calls Tryz.prog 25 #[.agg #[.int .i64 l.kind, .string (str l.name), .int .u64 l.num, .int .i64 l.wd, .bool l.sg, .int .i64 l.op, .int .i64 l.fac, .int .i64 l.pip, .int .i64 l.unr, .int .i64 l.line, .slice x n k]] w fun e w' => e = .returned (.int .i64 (count t : Int)) ∧ Below w.heap.size w w'
set_option maxHeartbeats 1000000 in
set_option maxRecDepth 100000 in
theorem rcount_step (lt : Lab) (ks : List Tree) (hc : count (.node lt ks) ≤ 1000000) (ih : ∀ i, i < ks.length → rCountOK (kat ks i)) : rCountOK (.node lt ks) := by
 intro l x n k w hT
 obtain ⟨xk, kk, hcs, hnk, hkm, hkids⟩ := TreeAt.kids hT
 obtain ⟨rfl, rfl, rfl⟩ : x = xk ∧ n = ks.length ∧ k = kk := by
  have h10 := congrArg (fun c : List Value => c[10]?) hcs
  simp [lcells] at h10
  exact h10
 rw [count] at hc ⊢
 have HK := Hd hkids
 have HIH := Hd ih
 have hW : Below w.heap.size w (w.alloc (.cells #[.int .i64 l.kind, .string (str l.name), .int .u64 l.num, .int .i64 l.wd, .bool l.sg, .int .i64 l.op, .int .i64 l.fac, .int .i64 l.pip, .int .i64 l.unr, .int .i64 l.line, .slice x ks.length k] 28)) := (Below.refl w.heap.size w).alloc (Nat.le_refl _) _
 have hbx : (w.alloc (.cells #[.int .i64 l.kind, .string (str l.name), .int .u64 l.num, .int .i64 l.wd, .bool l.sg, .int .i64 l.op, .int .i64 l.fac, .int .i64 l.pip, .int .i64 l.unr, .int .i64 l.line, .slice x ks.length k] 28)).cell? ⟨w.heap.size, 10, none⟩ = some (.slice x ks.length k) := by clear hcs; go_simp
 have hlt : w.heap.size < (w.alloc (.cells #[.int .i64 l.kind, .string (str l.name), .int .u64 l.num, .int .i64 l.wd, .bool l.sg, .int .i64 l.op, .int .i64 l.fac, .int .i64 l.pip, .int .i64 l.unr, .int .i64 l.line, .slice x ks.length k] 28)).heap.size := by simp
 have h0 : Hid (CnSt (w.alloc (.cells #[.int .i64 l.kind, .string (str l.name), .int .u64 l.num, .int .i64 l.wd, .bool l.sg, .int .i64 l.op, .int .i64 l.fac, .int .i64 l.pip, .int .i64 l.unr, .int .i64 l.line, .slice x ks.length k] 28)) (w.alloc (.cells #[.int .i64 l.kind, .string (str l.name), .int .u64 l.num, .int .i64 l.wd, .bool l.sg, .int .i64 l.op, .int .i64 l.fac, .int .i64 l.pip, .int .i64 l.unr, .int .i64 l.line, .slice x ks.length k] 28)) 1 0 (1 + csum ks 0)) := Hd ⟨by unfold csum; rw [List.take_zero]; rfl, Below.refl _ _⟩
 have HALL : Hid (1 + counts ks = 1 + csum ks ks.length) := Hd (by rw [csum_all])
 rw [HALL.out]
 have HLE := Hd fun i => csum_le ks i
 unfold maxLen at hkm
 clear hT hcs hkids ih HALL
 generalize hN : ks.length = N at *
 have HN := Hd hN
 clear hN
 go_enter Tryz.func25, Tryz.ntmps25
 go_wp2
 generalize (w.alloc (.cells #[.int .i64 l.kind, .string (str l.name), .int .u64 l.num, .int .i64 l.wd, .bool l.sg, .int .i64 l.op, .int .i64 l.fac, .int .i64 l.pip, .int .i64 l.unr, .int .i64 l.line, .slice x N k] 28)) = W1 at *
 have HW := Hd hW
 have HBX := Hd hbx
 clear hW hbx
 go_loopw [3, 4] (fun o i wr => ∃ p j : Nat, j ≤ N ∧ o = .int .i64 (p : Int) ∧ i = .int .i64 (j : Int) ∧ Hid (CnSt W1 wr p j (1 + csum ks j))) (fun _ i _ => N - (intOf i).toNat)
 case atStart => exact ⟨1, 0, by omega, rfl, rfl, h0⟩
 case round =>
  clear h0
  obtain ⟨p, j, hj, rfl, rfl, hX⟩ := hrel
  have hpe := hX.out.eq
  have hb1 : wr.cell? ⟨w.heap.size, 10, none⟩ = some (.slice x N k) := (hX.out.bel.cell (p := ⟨w.heap.size, 10, none⟩) (by exact hlt)).trans HBX.out
  have hbw := HW.out.trans (hX.out.bel.mono (Nat.le_of_lt hlt))
  by_cases hjn : j < N
  ·have hjk : j < ks.length := by rw [HN.out]; exact hjn
   obtain ⟨a, hxa, hab, hkid⟩ := HK.out j hjn
   subst hxa
   obtain ⟨l2, x2, n2, k2, ⟨e0, e1, e2, e3, e4, e5, e6, e7, e8, e9, e10⟩, hT3⟩ := hkid.keep (w' := wr) (Q := fun _ => True) hab (fun g hg hl => hbw.block g hl) fun _ hg _ => trivial
   have HC := Hd (HIH.out j hjn l2 x2 n2 k2 wr hT3)
   have hs := csum_succ hjk
   have hl1 := HLE.out (j + 1)
   have HBW := Hd hX.out.bel
   have hj0 : (0 : Int) ≤ (j : Int) := by omega
   have hj1 : (j : Int) < (N : Int) := by omega
   clear hT3 hkid hbw
   generalize count (kat ks j) = ck at *
   go_wp2_with fail
   refine HC.out.mono ?_
   rintro e w1 ⟨rfl, hb⟩
   have HX : Hid (CnSt W1 w1 (p + ck) (j + 1) (1 + csum ks (j + 1))) := Hd ⟨by omega, HBW.out.trans (hb.mono HBW.out.size)⟩
   clear hb HC
   
   go_wp2
   go_roundw
   case rel => exact ⟨_, j + 1, by omega, by go_num, by go_num, HX⟩
   case measure => simp [intOf]; omega
  ·obtain rfl : j = N := by omega
   have HB := Hd hbw
   have hl1 := HLE.out j
   go_wp2
   go_ret
   exact ⟨by rw [hpe]; rfl, HB.out⟩
theorem rcountT_any : ∀ d t, depth t ≤ d → count t ≤ 1000000 → rCountOK t := by
 intro d
 induction d with
 | zero => intro t h; obtain ⟨lt, ks⟩ := t; rw [depth] at h; omega
 | succ d ih =>
  intro t h hc
  obtain ⟨lt, ks⟩ := t
  refine rcount_step lt ks hc fun i hi => ih _ ?_ ?_
  ·have := depth_kat hi
   rw [depth] at h
   omega
  ·have := count_kat hi
   rw [count] at hc
   omega

def rDepthOK (t : Tree) : Prop := ∀ (l : Lab) (x : Option Addr) (n k : Nat) (w : World), TreeAt w (fun _ => True) [.int .i64 l.kind, .string (str l.name), .int .u64 l.num, .int .i64 l.wd, .bool l.sg, .int .i64 l.op, .int .i64 l.fac, .int .i64 l.pip, .int .i64 l.unr, .int .i64 l.line, .slice x n k] t →
 Calls Tryz.prog 27 #[.agg #[.int .i64 l.kind, .string (str l.name), .int .u64 l.num, .int .i64 l.wd, .bool l.sg, .int .i64 l.op, .int .i64 l.fac, .int .i64 l.pip, .int .i64 l.unr, .int .i64 l.line, .slice x n k]] w fun e w' => e = .returned (.int .i64 (depth t : Int)) ∧ Below w.heap.size w w'
set_option maxHeartbeats 1000000 in
set_option maxRecDepth 100000 in
theorem rdepth_step (lt : Lab) (ks : List Tree) (hc : depth (.node lt ks) ≤ 1000000) (ih : ∀ i, i < ks.length → rDepthOK (kat ks i)) : rDepthOK (.node lt ks) := by
 intro l x n k w hT
 obtain ⟨xk, kk, hcs, hnk, hkm, hkids⟩ := TreeAt.kids hT
 obtain ⟨rfl, rfl, rfl⟩ : x = xk ∧ n = ks.length ∧ k = kk := by
  have h10 := congrArg (fun c : List Value => c[10]?) hcs
  simp [lcells] at h10
  exact h10
 rw [depth] at hc ⊢
 have HK := Hd hkids
 have HIH := Hd ih
 have hW : Below w.heap.size w (w.alloc (.cells #[.int .i64 l.kind, .string (str l.name), .int .u64 l.num, .int .i64 l.wd, .bool l.sg, .int .i64 l.op, .int .i64 l.fac, .int .i64 l.pip, .int .i64 l.unr, .int .i64 l.line, .slice x ks.length k] 28)) := (Below.refl w.heap.size w).alloc (Nat.le_refl _) _
 have hbx : (w.alloc (.cells #[.int .i64 l.kind, .string (str l.name), .int .u64 l.num, .int .i64 l.wd, .bool l.sg, .int .i64 l.op, .int .i64 l.fac, .int .i64 l.pip, .int .i64 l.unr, .int .i64 l.line, .slice x ks.length k] 28)).cell? ⟨w.heap.size, 10, none⟩ = some (.slice x ks.length k) := by clear hcs; go_simp
 have hlt : w.heap.size < (w.alloc (.cells #[.int .i64 l.kind, .string (str l.name), .int .u64 l.num, .int .i64 l.wd, .bool l.sg, .int .i64 l.op, .int .i64 l.fac, .int .i64 l.pip, .int .i64 l.unr, .int .i64 l.line, .slice x ks.length k] 28)).heap.size := by simp
 have h0 : Hid (CnSt (w.alloc (.cells #[.int .i64 l.kind, .string (str l.name), .int .u64 l.num, .int .i64 l.wd, .bool l.sg, .int .i64 l.op, .int .i64 l.fac, .int .i64 l.pip, .int .i64 l.unr, .int .i64 l.line, .slice x ks.length k] 28)) (w.alloc (.cells #[.int .i64 l.kind, .string (str l.name), .int .u64 l.num, .int .i64 l.wd, .bool l.sg, .int .i64 l.op, .int .i64 l.fac, .int .i64 l.pip, .int .i64 l.unr, .int .i64 l.line, .slice x ks.length k] 28)) 0 0 (dmax ks 0)) := Hd ⟨by unfold dmax; rw [List.take_zero]; rfl, Below.refl _ _⟩
 have HALL : Hid (1 + depths ks = 1 + dmax ks ks.length) := Hd (by rw [dmax_all])
 rw [HALL.out]
 have HLE := Hd fun i => dmax_le ks i
 unfold maxLen at hkm
 clear hT hcs hkids ih HALL
 generalize hN : ks.length = N at *
 have HN := Hd hN
 clear hN
 go_enter Tryz.func27, Tryz.ntmps27
 go_wp2
 generalize (w.alloc (.cells #[.int .i64 l.kind, .string (str l.name), .int .u64 l.num, .int .i64 l.wd, .bool l.sg, .int .i64 l.op, .int .i64 l.fac, .int .i64 l.pip, .int .i64 l.unr, .int .i64 l.line, .slice x N k] 28)) = W1 at *
 have HW := Hd hW
 have HBX := Hd hbx
 clear hW hbx
 go_loopw [3, 4] (fun o i wr => ∃ p j : Nat, j ≤ N ∧ o = .int .i64 (p : Int) ∧ i = .int .i64 (j : Int) ∧ Hid (CnSt W1 wr p j (dmax ks j))) (fun _ i _ => N - (intOf i).toNat)
 case atStart => exact ⟨0, 0, by omega, rfl, rfl, h0⟩
 case round =>
  clear h0
  obtain ⟨p, j, hj, rfl, rfl, hX⟩ := hrel
  have hpe := hX.out.eq
  have hb1 : wr.cell? ⟨w.heap.size, 10, none⟩ = some (.slice x N k) := (hX.out.bel.cell (p := ⟨w.heap.size, 10, none⟩) (by exact hlt)).trans HBX.out
  have hbw := HW.out.trans (hX.out.bel.mono (Nat.le_of_lt hlt))
  by_cases hjn : j < N
  ·have hjk : j < ks.length := by rw [HN.out]; exact hjn
   obtain ⟨a, hxa, hab, hkid⟩ := HK.out j hjn
   subst hxa
   obtain ⟨l2, x2, n2, k2, ⟨e0, e1, e2, e3, e4, e5, e6, e7, e8, e9, e10⟩, hT3⟩ := hkid.keep (w' := wr) (Q := fun _ => True) hab (fun g hg hl => hbw.block g hl) fun _ hg _ => trivial
   have HC := Hd (HIH.out j hjn l2 x2 n2 k2 wr hT3)
   have hs := dmax_succ hjk
   have hl1 := HLE.out (j + 1)
   have HBW := Hd hX.out.bel
   have hj0 : (0 : Int) ≤ (j : Int) := by omega
   have hj1 : (j : Int) < (N : Int) := by omega
   clear hT3 hkid hbw
   generalize depth (kat ks j) = ck at *
   go_wp2_with fail
   refine HC.out.mono ?_
   rintro e w1 ⟨rfl, hb⟩
   have HX : Hid (CnSt W1 w1 (max p ck) (j + 1) (dmax ks (j + 1))) := Hd ⟨by omega, HBW.out.trans (hb.mono HBW.out.size)⟩
   clear hb HC
   have hmx : max (p : Int) (ck : Int) = ((max p ck : Nat) : Int) := by omega
   go_wp2
   go_roundw
   case rel => exact ⟨_, j + 1, by omega, by rw [← hpe, hmx], by go_num, HX⟩
   case measure => simp [intOf]; omega
  ·obtain rfl : j = N := by omega
   have HB := Hd hbw
   have hl1 := HLE.out j
   go_wp2
   go_ret
   exact ⟨by rw [hpe]; simp; omega, HB.out⟩
theorem rdepthT_any : ∀ d t, depth t ≤ d → depth t ≤ 1000000 → rDepthOK t := by
 intro d
 induction d with
 | zero => intro t h; obtain ⟨lt, ks⟩ := t; rw [depth] at h; omega
 | succ d ih =>
  intro t h hc
  obtain ⟨lt, ks⟩ := t
  refine rdepth_step lt ks hc fun i hi => ih _ ?_ ?_
  ·have := depth_kat hi
   rw [depth] at h
   omega
  ·have := depth_kat hi
   rw [depth] at hc
   omega
end Go.Proofs.YtkliclihpobmiaaGreatDoor
