/- Parse: contract, for sources with tokens. -/
import Derived.Test.YthdbaligapdbeaaGreatDoorMgPsCr
import Derived.Test.YthdbaligapdbeaaGreatDoorMgPsWo
import Derived.Test.YthdbaligapdbeaaGreatDoorMgLxTk
import Derived.Test.YthdbaligapdbeaaGreatDoorMgLxChain
import Derived.BigRegion
import Derived.Test.YthdbaligapdbeaaGreatDoorMgLxTk0
namespace Go.Proofs.YthdbaligapdbeaaGreatDoor
open Go Go.RowKit
set_option linter.unusedVariables false

theorem results_cell3 {fn : Func} {p a b : Tmp} {ty : TypeId} (h : fn.results = #[.cell p ty, .tmp a, .tmp b]) (tmps : Array Value) (P : Program) (w : World) :
  (results fn tmps).run P w = ((asAddr (tmps.getD p undef)).run P w).andThen fun q w₁ => ((loadVar ty q).run P w₁).andThen fun v w₂ => .ok (.tuple #[v, tmps.getD a undef, tmps.getD b undef]) w₂ := by
 simp only [results, h]
 simp [Sem.run_bind, Result.andThen]
theorem Blk.res3 {P : Program} {fn : Func} {p a b : Tmp} {ty : TypeId} (hr : fn.results = #[.cell p ty, .tmp a, .tmp b]) {w : World} {g : Nat} {cs : List Value} {d : TypeDesc} (h : Blk w g ty cs)
  (hu : P.underlying ty = some d) (hd : (match d with | .struct _ | .array _ _ => true | _ => false) = true) (hi : (P.info? ty).map (·.size) = some cs.length)
  (tmps : Array Value) (hp : tmps.getD p undef = .pointer (some ⟨g, 0, none⟩)) :
  (results fn tmps).run P w = .ok (.tuple #[.agg cs.toArray, tmps.getD a undef, tmps.getD b undef]) w := by
 rw [results_cell3 hr, hp]
 simp [asAddr, Result.andThen, run_loadVar_row w g ty ty cs.toArray (0, 0) d h hu hd (by simpa using hi)]
def PP (w : World) (z : Tree × Nat × Nat) (e : Ending) (w' : World) : Prop :=
 ∃ (l : Lab) (x : Option Addr) (n k : Nat), e = .returned (.tuple #[.agg #[.int .i64 l.kind, .string (str l.name), .int .u64 l.num, .int .i64 l.wd, .bool l.sg, .int .i64 l.op, .int .i64 l.fac, .int .i64 l.pip, .int .i64 l.unr, .int .i64 l.line, .slice x n k], .int .i64 (z.2.1 : Int), .int .i64 (z.2.2 : Int)]) ∧
  TreeAt w' (w.heap.size ≤ ·) [.int .i64 l.kind, .string (str l.name), .int .u64 l.num, .int .i64 l.wd, .bool l.sg, .int .i64 l.op, .int .i64 l.fac, .int .i64 l.pip, .int .i64 l.unr, .int .i64 l.line, .slice x n k] z.1 ∧ Below w.heap.size w w'
theorem pp_zero {w w' : World} {L e : Nat} {v u : Int} (hb : Below w.heap.size w w') (hv : v = (L : Int)) (hu : u = (e : Int)) : PP w (tree0, L, e) (.returned (.tuple #[.agg ncz.toArray, .int .i64 v, .int .i64 u])) w' := by
 subst hv hu
 exact ⟨lab0, none, 0, 0, rfl, .nil _ lab0, hb⟩
theorem numErr_num {r : List UInt8} (h : numErr r = 0) : numVal (baseOf r) (digs r) < 18446744073709551616 := by
 unfold numErr at h
 split at h
 ·simp at h
 ·split at h
  ·simp at h
  ·omega
theorem tokNum_lt {l : List UInt8} (h : tokErr l = 0) : tokNum l < 18446744073709551616 := by
 unfold tokNum
 split
 ·rename_i hc
  unfold tokErr at h
  rw [if_neg hc.1, if_pos hc.2] at h
  exact numErr_num h
 ·omega
theorem chain_ctx {l : List UInt8} : ∀ (ts : List Tok) (d line : Nat), d ≤ l.length → 0 < line → line ≤ d + 1 → Chain l d line ts → ∀ t ∈ ts, (0 < t.line ∧ t.line ≤ l.length + 1) ∧ t.num < 18446744073709551616 ∧ t.text ≠ [] ∧ t.text.length ≤ l.length := by
 intro ts
 induction ts with
 | nil => intro d line _ _ _ _ t ht; simp at ht
 | cons a ts ih =>
  intro d line hd hl hld hc t ht
  obtain ⟨e1, e2, e3, e4, e5, e6, e7, e8, e9, e10, e11⟩ := hc.step
  have hlf := lineFeeds_le ((l.drop d).take (a.pos - d))
  rw [List.length_take, List.length_drop] at hlf
  have hline : a.line ≤ a.pos + 1 := by omega
  rcases List.mem_cons.1 ht with rfl | ht
  ·refine ⟨⟨by omega, by omega⟩, by rw [e10]; exact tokNum_lt e8, fun h => ?_, by omega⟩
   rw [h] at e6
   simp at e6
   omega
  ·exact ih _ _ e4 (by omega) (by omega) e11 t ht
theorem lexAll_ctx (l : List UInt8) (h : (lexAll l).2.2 = 0) : l.length ≤ 65536 ∧ (lexAll l).1.length ≤ l.length ∧ ∀ t ∈ (lexAll l).1, (0 < t.line ∧ t.line ≤ l.length + 1) ∧ t.num < 18446744073709551616 ∧ t.text ≠ [] ∧ t.text.length ≤ l.length := by
 rcases lexAll_cases l with ⟨_, _, h3, h4⟩ | ⟨h1, _⟩
 ·exact ⟨h3, by have := Chain.len _ 0 1 (by omega) h4; omega, chain_ctx _ 0 1 (by omega) (by omega) (by omega) h4⟩
 ·exact absurd h h1
theorem below_st {w0 w w' : World} {R : Nat} (h : Below w0.heap.size w0 w) (hs : St w w' R) (hR : w0.heap.size ≤ R) : Below w0.heap.size w0 w' :=
 ⟨hs.os.trans h.os, hs.tape.trans h.tape, hs.output.trans h.output, Nat.le_trans h.size hs.size, fun k hk => (hs.block k (Nat.lt_of_lt_of_le hk h.size) (fun e => by injection e with e; omega)).trans (h.block k hk)⟩
set_option maxHeartbeats 4000000 in
set_option maxRecDepth 100000 in
theorem parse_mainX (l : List UInt8) (w : World) (V : Vs w) (LV : Lv w) (he : (lexAll l).2.2 = 0) (hne : (lexAll l).1 ≠ []) (HLP : ∀ R g c, Ctx (lexAll l).1 R g c → LoopOK (lexAll l).1 R g c) : Calls Tryz.prog 26 #[.string (str l)] w (PP w (parseM l)) := by
 obtain ⟨hlen, htl, hctx⟩ := lexAll_ctx l he
 have hM : parseM l = (if 0 < crowd 0 (lexAll l).1 then (tree0, crowd 0 (lexAll l).1, 5) else if (progT (lexAll l).1).2.bad then (tree0, (tat (lexAll l).1 (min (progT (lexAll l).1).2.i ((lexAll l).1.length - 1))).line, 4)
   else if 20000 < count (progT (lexAll l).1).1 ∨ 200 < depth (progT (lexAll l).1).1 then (tree0, 1, 5) else ((progT (lexAll l).1).1, 0, 0)) := by
  unfold parseM
  dsimp only
  rw [if_neg (by simp [he])]
 obtain ⟨Z, hZ⟩ : ∃ Z, Z = parseM l := ⟨_, rfl⟩
 rw [← hZ]
 rw [hM] at hZ
 have hb0 := (Below.refl w.heap.size w).alloc (Nat.le_refl _) (.cells ncz.toArray 27)
 have hw1 : (w.alloc (.cells ncz.toArray 27)).heap.size = w.heap.size + 1 := by simp
 have HK := Hd (Blk.alloc w 27 ncz)
 have HB := Hd hb0
 have HLX := Hd (lex_any l (by omega) _ (V.below (hb0.mono (Nat.le_refl _))))
 generalize (lexAll l).2.1 = A at *
 rw [he] at HLX
 generalize hT : (lexAll l).1 = ts at *
 have HV := Hd (And.intro V LV)
 have HW1 := Hd hw1
 have HZ := Hd hZ
 clear hb0 V LV hM hw1 he hZ
 go_enter Tryz.func26, Tryz.ntmps26
 go_wp2_with fail
 refine HLX.out.mono ?_
 rintro e w1 ⟨v, rfl, hown, hb1⟩
 rcases toks_own hown with ⟨h, _⟩ | ⟨g, c, rfl, hg, hTk⟩
 ·exact absurd h hne
 ·have hgc : ts.length ≤ c ∧ c ≤ maxLen := by
   rcases hown.2 with ⟨h, _⟩ | ⟨g2, cap, cur, h, _, _, h3, h4, _⟩
   ·simp at h
   ·injection h with h1 h2 h3'
    subst h3'
    exact ⟨h3, h4⟩
  have HTk := Hd hTk
  have HK1 := Hd (HK.out.below hb1 HK.out.lt)
  have HB1 := Hd (HB.out.trans (hb1.mono (by simp)))
  have HCR := Hd (crowded_any ts g c (by omega) (fun t ht => by have := (hctx t ht).1.2; omega) w1 hTk)
  have hgw : w.heap.size ≤ g := by rw [HW1.out] at hg; omega
  have hgl := hTk.1
  have HENV : Hid (Env w1 g) := Hd ⟨w, HV.out.1, HV.out.2, hgw, HB1.out.size, fun k hk => HB1.out.block k hk⟩
  have HCTX : Hid (∀ R, g < R → Ctx ts R g c) := Hd fun R hR => ⟨hne, hR, by omega, hgc, fun t ht => ⟨(hctx t ht).1.1, by have := (hctx t ht).1.2; omega⟩, fun t ht => (hctx t ht).2.1, fun t ht => ⟨(hctx t ht).2.2.1, by have := (hctx t ht).2.2.2; omega⟩⟩
  have HLPH := Hd HLP
  clear hown hb1 HLX HK HB hTk hg hctx hgc HLP HV HW1
  by_cases hcr : 0 < crowd 0 ts
  ·have HZ1 : Hid (Z = (tree0, crowd 0 ts, 5)) := Hd (by rw [HZ.out, if_pos hcr])
   have qc : (0 : Int) < (crowd 0 ts : Int) := by omega
   clear hcr HLPH HCTX HENV HZ
   generalize crowd 0 ts = CR at *
   go_wp2_with fail
   refine HCR.out.mono ?_
   rintro e w2 ⟨rfl, hb2⟩
   have HK2 := Hd (HK1.out.below hb2 HK1.out.lt)
   have HB2 := Hd (HB1.out.trans (hb2.mono HB1.out.size))
   obtain ⟨hc, hf⟩ := HK2.out.all
   unfold ncz at hc
   clear hb2 HK1 HB1 HCR
   go_wp2
   refine bodyPost_ret ((HK2.out.stor11 rfl _ _ _ _ _ _ _ _ _ _ _).res3 Tryz.results26 Tryz.underlying27 rfl infoNd _ rfl) rfl ?_
   rw [HZ1.out]
   exact pp_zero (below_stor11 HB2.out (Nat.le_refl _) _ _ _ _ _ _ _ _ _ _ _) rfl rfl
  ·have HZ1 := Hd (HZ.out.trans (if_neg hcr))
   have hc0 : crowd 0 ts = 0 := by omega
   rw [hc0] at HCR
   clear hcr hc0 HZ
   go_wp2_with fail
   refine HCR.out.mono ?_
   rintro e w2 ⟨rfl, hb2⟩
   have HK2 := Hd (HK1.out.below hb2 HK1.out.lt)
   have HB2 := Hd (HB1.out.trans (hb2.mono HB1.out.size))
   have hsz2 := hb2.size
   have hg2 : g < w2.heap.size := by omega
   have HRD : Hid (Rd (w2.alloc (.cells #[.slice (some ⟨g, 0, none⟩) ts.length c, .int .i64 0, .int .i64 0] 65)) w2.heap.size g c ts ⟨0, false⟩) := Hd ⟨Blk.alloc w2 65 [.slice (some ⟨g, 0, none⟩) ts.length c, .int .i64 0, .int .i64 0],
    (HTk.out.below hb2 hgl).below ((Below.refl w2.heap.size w2).alloc (Nat.le_refl _) _) hg2, Nat.zero_le _, (HENV.out.of_blocks (fun k hk => hb2.block k (by omega)) hb2.size).of_blocks (fun k hk => Below.heap_alloc w2 _ k (by omega)) (by simp)⟩
   have HPG := Hd (program_any (HCTX.out _ hg2) (HLPH.out _ _ _ (HCTX.out _ hg2)) _ HRD.out)
   have HBR := Hd (HB2.out.alloc HB2.out.size (.cells #[.slice (some ⟨g, 0, none⟩) ts.length c, .int .i64 0, .int .i64 0] 65))
   have HKR := Hd (HK2.out.alloc_other (.cells #[.slice (some ⟨g, 0, none⟩) ts.length c, .int .i64 0, .int .i64 0] 65))
   have hwk := HK2.out.lt
   clear hb2 HK1 HB1 HCR HRD HLPH HENV HTk HB2 HK2
   generalize hP : progT ts = PT at *
   go_wp2_with fail
   refine HPG.out.mono ?_
   rintro e w3 ⟨l1, x1, n1, k1, rfl, hT3, hr3, hs3⟩
   have HB3p := Hd (below_st HBR.out hs3 (by omega))
   have HB3 := Hd ((below_st HBR.out hs3 (by omega)).alloc (Nat.le_trans HBR.out.size (St.size hs3)) (.cells #[.int .i64 l1.kind, .string (str l1.name), .int .u64 l1.num, .int .i64 l1.wd, .bool l1.sg, .int .i64 l1.op, .int .i64 l1.fac, .int .i64 l1.pip, .int .i64 l1.unr, .int .i64 l1.line, .slice x1 n1 k1] 27))
   have HK3 := Hd (St.blk hs3 HKR.out (by omega))
   have HT4 : Hid (TreeAt (w3.alloc (.cells #[.int .i64 l1.kind, .string (str l1.name), .int .u64 l1.num, .int .i64 l1.wd, .bool l1.sg, .int .i64 l1.op, .int .i64 l1.fac, .int .i64 l1.pip, .int .i64 l1.unr, .int .i64 l1.line, .slice x1 n1 k1] 27)) (w2.heap.size + 1 ≤ ·) [.int .i64 l1.kind, .string (str l1.name), .int .u64 l1.num, .int .i64 l1.wd, .bool l1.sg, .int .i64 l1.op, .int .i64 l1.fac, .int .i64 l1.pip, .int .i64 l1.unr, .int .i64 l1.line, .slice x1 n1 k1] PT.1) := Hd (hT3.keep (fun k _ hl => Below.heap_alloc w3 _ k hl) fun k hk _ => by simpa using hk)
   obtain ⟨c0, c1, c2, f1, f2⟩ := hr3.cells
   have hR3 := hr3.lt
   obtain ⟨hc, hf⟩ := HK3.out.all
   unfold ncz at hc
   have hk3 := HK3.out.lt
   have HBAD : Hid (badOf ts PT.2 = if PT.2.bad then (tat ts (min PT.2.i (ts.length - 1))).line else 0) := Hd rfl
   have HPOS : Hid (PT.2.bad = true → 0 < badOf ts PT.2) := Hd fun h => by
    have h1 := fail_at (HCTX.out _ hg2) hr3.hi
    rw [HBAD.out, if_pos h, tat_get h1]
    exact ((HCTX.out _ hg2).line _ (List.getElem_mem h1)).1
   clear hT3 hr3 hs3 HPG HBR HKR c0 c1 f1 f2
   cases hbad : PT.2.bad with
   | true =>
    have hb := HBAD.out
    rw [hbad, if_pos rfl] at hb
    have hp := HPOS.out hbad
    have HZ2 : Hid (Z = (tree0, badOf ts PT.2, 4)) := Hd (by rw [HZ1.out, if_pos hbad, hb])
    have qb : (0 : Int) < (badOf ts PT.2 : Int) := by omega
    clear hb hp hbad HBAD HPOS HZ1
    generalize badOf ts PT.2 = BD at *
    go_wp2
    go_region
    go_wp2
    have HKF := Hd fun o x0 x1 x2 x3 x4 x5 x6 x7 x8 x9 x10 => (((HK3.out.stor11 rfl x0 x1 x2 x3 x4 x5 x6 x7 x8 x9 x10).alloc_other o).drew)
    have HBF := Hd fun o x0 x1 x2 x3 x4 x5 x6 x7 x8 x9 x10 => ((below_stor11 HB3p.out (Nat.le_refl _) x0 x1 x2 x3 x4 x5 x6 x7 x8 x9 x10).alloc (below_stor11 HB3p.out (Nat.le_refl _) x0 x1 x2 x3 x4 x5 x6 x7 x8 x9 x10).size o).drew
    refine bodyPost_ret ((HKF.out _ _ _ _ _ _ _ _ _ _ _ _).res3 Tryz.results26 Tryz.underlying27 rfl infoNd _ rfl) rfl ?_
    rw [HZ2.out]
    exact pp_zero (HBF.out _ _ _ _ _ _ _ _ _ _ _ _) rfl rfl
   | false =>
    have hb := HBAD.out
    rw [hbad] at hb
    simp only [Bool.false_eq_true, if_false] at hb
    rw [hb] at c2
    have HZ2 := Hd (HZ1.out.trans (if_neg (by rw [hbad]; simp)))
    have HWI := Hd (within_any PT.1 l1 x1 n1 k1 _ (HT4.out.mono fun _ _ _ => trivial))
    have HKW := Hd (HK3.out.alloc_other (.cells #[.int .i64 l1.kind, .string (str l1.name), .int .u64 l1.num, .int .i64 l1.wd, .bool l1.sg, .int .i64 l1.op, .int .i64 l1.fac, .int .i64 l1.pip, .int .i64 l1.unr, .int .i64 l1.line, .slice x1 n1 k1] 27))
    have HLW := Hd (Blk.alloc w3 27 [.int .i64 l1.kind, .string (str l1.name), .int .u64 l1.num, .int .i64 l1.wd, .bool l1.sg, .int .i64 l1.op, .int .i64 l1.fac, .int .i64 l1.pip, .int .i64 l1.unr, .int .i64 l1.line, .slice x1 n1 k1])
    clear hb hbad HBAD HPOS HZ1
    by_cases hwi : count PT.1 ≤ 20000 ∧ depth PT.1 ≤ 200
    ·have HZ3 : Hid (Z = (PT.1, 0, 0)) := Hd (by rw [HZ2.out, if_neg (by omega)])
     rw [show decide (count PT.1 ≤ 20000 ∧ depth PT.1 ≤ 200) = true by simpa using hwi] at HWI
     clear hwi HZ2
     go_wp2_with fail
     refine HWI.out.mono ?_
     rintro e w4 ⟨rfl, hb4⟩
     have HK4 := Hd (HKW.out.below hb4 HKW.out.lt)
     have HL4 := Hd (HLW.out.below hb4 HLW.out.lt)
     have HT5 := Hd (HT4.out.keep (Q := (w2.heap.size + 1 ≤ ·)) (fun k _ hl => hb4.block k hl) fun _ hk _ => hk)
     have HB4 := Hd (HB3.out.trans (hb4.mono HB3.out.size))
     clear hc hf
     obtain ⟨hc, hf⟩ := HK4.out.all
     unfold ncz at hc
     obtain ⟨hd, he⟩ := HL4.out.all
     have hz4 := HK4.out.lt
     clear hb4 HT4 HB3 HWI HKW HLW HK3 c2
     go_wp2
     refine bodyPost_ret ((HK4.out.stor11 rfl _ _ _ _ _ _ _ _ _ _ _).res3 Tryz.results26 Tryz.underlying27 rfl infoNd _ rfl) rfl ?_
     rw [HZ3.out]
     exact ⟨l1, x1, n1, k1, rfl, HT5.out.keep (fun k hk _ => stor11_other _ (by omega) _ _ _ _ _ _ _ _ _ _ _) (fun k hk _ => by omega), below_stor11 HB4.out (Nat.le_refl _) _ _ _ _ _ _ _ _ _ _ _⟩
    ·have HZ3 : Hid (Z = (tree0, 1, 5)) := Hd (by rw [HZ2.out, if_pos (by omega)])
     rw [show decide (count PT.1 ≤ 20000 ∧ depth PT.1 ≤ 200) = false by simpa using hwi] at HWI
     clear hwi HZ2
     go_wp2_with fail
     refine HWI.out.mono ?_
     rintro e w4 ⟨rfl, hb4⟩
     have HK4 := Hd (HKW.out.below hb4 HKW.out.lt)
     have HB4 := Hd (HB3.out.trans (hb4.mono HB3.out.size))
     clear hc hf
     obtain ⟨hc, hf⟩ := HK4.out.all
     unfold ncz at hc
     clear hb4 HT4 HB3 HWI HKW HLW HK3 c2
     go_wp2
     refine bodyPost_ret ((HK4.out.stor11 rfl _ _ _ _ _ _ _ _ _ _ _).res3 Tryz.results26 Tryz.underlying27 rfl infoNd _ rfl) rfl ?_
     rw [HZ3.out]
     exact pp_zero (below_stor11 HB4.out (Nat.le_refl _) _ _ _ _ _ _ _ _ _ _ _) rfl rfl
theorem parse_main (l : List UInt8) (w : World) (V : Vs w) (LV : Lv w) (he : (lexAll l).2.2 = 0) (hne : (lexAll l).1 ≠ []) (HLP : ∀ R g c, LoopOK (lexAll l).1 R g c) : Calls Tryz.prog 26 #[.string (str l)] w (PP w (parseM l)) :=
 parse_mainX l w V LV he hne fun R g c _ => HLP R g c
end Go.Proofs.YthdbaligapdbeaaGreatDoor
/- Blanks behind a text: its error stays. -/
namespace Go.Proofs.YthdbaligapdbeaaGreatDoor
open Go Go.RowKit
set_option linter.unusedVariables false

theorem skipF (c : UInt8) (r : List UInt8) : skipM false (c :: r) = if isBlank c = true then 1 + skipM false r else if c = 47 ∧ r.head? = some 47 then 1 + skipM true r else 0 := rfl
end Go.Proofs.YthdbaligapdbeaaGreatDoor
/- Texts whose tokens are known, and the trees of a kernel with one declaration. Nothing of the program stands here. -/
namespace Go.Proofs.YthdbaligapdbeaaGreatDoor
open Go Go.RowKit
set_option linter.unusedVariables false

abbrev Sp := Nat × List UInt8 × Nat × Nat
def key (t : Tok) : Sp := (t.kind, t.text, t.num, t.line)
inductive LX : List UInt8 → Nat → List Sp → Prop
 | nil {r : List UInt8} {line : Nat} (h : skipM false r = r.length) : LX r line []
 | cons {r v : List UInt8} {line : Nat} {sp : List Sp} (g t : List UInt8) (k num ln : Nat) (hr : r = g ++ (t ++ v)) (hs : skipM false r = g.length) (hne : t ≠ []) (he : tokErr (t ++ v) = 0) (hl : tokLen (t ++ v) = t.length)
   (hk : tokKind (t ++ v) = k) (hn : tokNum (t ++ v) = num) (hln : line + lineFeeds g = ln) (h : LX v ln sp) : LX r line ((k, t, num, ln) :: sp)
end Go.Proofs.YthdbaligapdbeaaGreatDoor
