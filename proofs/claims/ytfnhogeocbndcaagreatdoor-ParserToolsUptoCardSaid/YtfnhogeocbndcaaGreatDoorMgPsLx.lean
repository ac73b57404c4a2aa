/- Parse: contract, for sources with tokens. -/
import Derived.Test.YtfnhogeocbndcaaGreatDoorMgPsPg
import Derived.Test.YtfnhogeocbndcaaGreatDoorMgPsCr
import Derived.Test.YtfnhogeocbndcaaGreatDoorMgLxChain
import Derived.BigRegion
import Derived.Test.YtfnhogeocbndcaaGreatDoorMgLxTk0
namespace Go.Proofs.YtfnhogeocbndcaaGreatDoor
open Go Go.RowKit
set_option linter.unusedVariables false

theorem results_cell3 {fn : Func} {p a b : Tmp} {ty : TypeId} (h : fn.results = #[.cell p ty, .tmp a, .tmp b]) (tmps : Array Value) (P : Program) (w : World) :
    (results fn tmps).run P w = ((asAddr (tmps.getD p undef)).run P w).andThen fun q w₁ => ((loadVar ty q).run P w₁).andThen fun v w₂ => .ok (.tuple #[v, tmps.getD a undef, tmps.getD b undef]) w₂ := by
  simp only [results, h]
  simp [Sem.run_bind, Result.andThen]
/-- Three results, the first of which lies in a block. -/
theorem Blk.res3 {P : Program} {fn : Func} {p a b : Tmp} {ty : TypeId} (hr : fn.results = #[.cell p ty, .tmp a, .tmp b]) {w : World} {g : Nat} {cs : List Value} {d : TypeDesc} (h : Blk w g ty cs)
    (hu : P.underlying ty = some d) (hd : (match d with | .struct _ | .array _ _ => true | _ => false) = true) (hi : (P.info? ty).map (·.size) = some cs.length)
    (tmps : Array Value) (hp : tmps.getD p undef = .pointer (some ⟨g, 0, none⟩)) :
    (results fn tmps).run P w = .ok (.tuple #[.agg cs.toArray, tmps.getD a undef, tmps.getD b undef]) w := by
  rw [results_cell3 hr, hp]
  simp [asAddr, Result.andThen, run_loadVar_row w g ty ty cs.toArray (0, 0) d h hu hd (by simpa using hi)]
/-- What Parse leaves. -/
def PP (w : World) (z : Tree × Nat × Nat) (e : Ending) (w' : World) : Prop :=
  ∃ (l : Lab) (x : Option Addr) (n k : Nat), e = .returned (.tuple #[.agg #[.int .i64 l.kind, .string (str l.name), .int .u64 l.num, .int .i64 l.wd, .bool l.sg, .int .i64 l.op, .int .i64 l.fac, .int .i64 l.pip, .int .i64 l.unr, .int .i64 l.line, .slice x n k], .int .i64 (z.2.1 : Int), .int .i64 (z.2.2 : Int)]) ∧
    TreeAt w' (w.heap.size ≤ ·) [.int .i64 l.kind, .string (str l.name), .int .u64 l.num, .int .i64 l.wd, .bool l.sg, .int .i64 l.op, .int .i64 l.fac, .int .i64 l.pip, .int .i64 l.unr, .int .i64 l.line, .slice x n k] z.1 ∧ Below w.heap.size w w'
theorem pp_zero {w w' : World} {L e : Nat} {v u : Int} (hb : Below w.heap.size w w') (hv : v = (L : Int)) (hu : u = (e : Int)) : PP w (tree0, L, e) (.returned (.tuple #[.agg ncz.toArray, .int .i64 v, .int .i64 u])) w' := by
  subst hv hu
  exact ⟨lab0, none, 0, 0, rfl, .nil _ lab0, hb⟩
theorem numErr_num {r : List UInt8} (h : numErr r = 0) : numVal (baseOf r) (digs r) < 18446744073709551616 := by
  unfold numErr at h
  split at h
  · simp at h
  · split at h
    · simp at h
    · omega
theorem tokNum_lt {l : List UInt8} (h : tokErr l = 0) : tokNum l < 18446744073709551616 := by
  unfold tokNum
  split
  · rename_i hc
    unfold tokErr at h
    rw [if_neg hc.1, if_pos hc.2] at h
    exact numErr_num h
  · omega
/-- What the tokens of a source are like. -/
theorem chain_ctx {l : List UInt8} : ∀ (ts : List Tok) (d line : Nat), d ≤ l.length → 0 < line → line ≤ d + 1 → Chain l d line ts → ∀ t ∈ ts, (0 < t.line ∧ t.line ≤ l.length + 1) ∧ t.num < 18446744073709551616 ∧ t.text ≠ [] ∧ t.text.length ≤ l.length := by
  intro ts
  induction ts with
  | nil => intro d line _ _ _ _ t ht; simp at ht
  | cons a ts ih =>
    intro d line hd hl hld hc t ht
    obtain ⟨e1, e2, e3, e4, e5, e6, e7, e8, e9, e10, e11⟩ := hc.step
    have hlf := lineFeeds_le ((l.drop d).take (a.pos - d))
    rw [List.length_take, List.length_drop] at hlf
    have hline : a.line ≤ a.pos + 1 := by omega
    rcases List.mem_cons.1 ht with rfl | ht
    · refine ⟨⟨by omega, by omega⟩, by rw [e10]; exact tokNum_lt e8, fun h => ?_, by omega⟩
      rw [h] at e6
      simp at e6
      omega
    · exact ih _ _ e4 (by omega) (by omega) e11 t ht
theorem lexAll_ctx (l : List UInt8) (h : (lexAll l).2.2 = 0) : l.length ≤ 65536 ∧ (lexAll l).1.length ≤ l.length ∧ ∀ t ∈ (lexAll l).1, (0 < t.line ∧ t.line ≤ l.length + 1) ∧ t.num < 18446744073709551616 ∧ t.text ≠ [] ∧ t.text.length ≤ l.length := by
  rcases lexAll_cases l with ⟨_, _, h3, h4⟩ | ⟨h1, _⟩
  · exact ⟨h3, by have := Chain.len _ 0 1 (by omega) h4; omega, chain_ctx _ 0 1 (by omega) (by omega) (by omega) h4⟩
  · exact absurd h h1
theorem below_st {w0 w w' : World} {R : Nat} (h : Below w0.heap.size w0 w) (hs : St w w' R) (hR : w0.heap.size ≤ R) : Below w0.heap.size w0 w' :=
  ⟨hs.os.trans h.os, hs.tape.trans h.tape, hs.output.trans h.output, Nat.le_trans h.size hs.size, fun k hk => (hs.block k (Nat.lt_of_lt_of_le hk h.size) (fun e => by injection e with e; omega)).trans (h.block k hk)⟩
theorem extract_zero (l : List UInt8) (a : Nat) : (str l).extract 0 a = str (l.take a) := by rw [extract_head]; rfl

set_option maxHeartbeats 4000000 in
set_option maxRecDepth 100000 in
theorem parse_err (l : List UInt8) (hs : l.length ≤ 1000000) (w : World) (V : Vs w) (he : (lexAll l).2.2 ≠ 0) (hsmall : l.length ≤ 65536) : Calls Tryz.prog 11 #[.string (str l)] w (PP w (parseM l)) := by
  have hM : parseM l = (tree0, lineAt l (lexAll l).2.1, (lexAll l).2.2) := by unfold parseM; dsimp only; rw [if_pos he]
  rw [hM]
  have hb0 := (Below.refl w.heap.size w).alloc (Nat.le_refl _) (.cells ncz.toArray 28)
  have HK := Lib.hid (Blk.alloc w 28 ncz)
  have HB := Lib.hid hb0
  have HLX := Lib.hid (lex_any l (by omega) _ (V.below (hb0.mono (Nat.le_refl _))))
  have hat : (lexAll l).2.1 ≤ l.length := by
    rcases lexAll_cases l with ⟨h1, _⟩ | ⟨_, _, h3⟩
    · exact absurd h1 he
    · exact h3 hsmall
  have HCN := Lib.hid fun W => count_any (l.take (lexAll l).2.1) W
  have hx := extract_zero l (lexAll l).2.1
  have hlf := lineFeeds_le (l.take (lexAll l).2.1)
  have hla : lineAt l (lexAll l).2.1 = 1 + lineFeeds (l.take (lexAll l).2.1) := rfl
  have HLA := Lib.hid hla
  have hsz := str_size l
  rw [List.length_take] at hlf
  generalize (lexAll l).2.1 = A at *
  generalize hE : (lexAll l).2.2 = E at *
  generalize lineFeeds (l.take A) = NF at *
  generalize lineAt l A = LA at *
  have q : ((E : Int) != 0) = true := by simp; omega
  clear hb0 V hM hE hla
  have hA1 : (A : Int) ≤ ((str l).size : Int) := by rw [hsz]; omega
  go_enter Tryz.func11, Tryz.ntmps11
  go_wp2_with fail
  refine HLX.out.mono ?_
  rintro e w1 ⟨v, rfl, hown, hb1⟩
  have HK1 := Lib.hid (HK.out.below hb1 HK.out.lt)
  have HB1 := Lib.hid (HB.out.trans (hb1.mono (by simp)))
  obtain ⟨hc, hf⟩ := HK1.out.all
  unfold ncz at hc
  clear hown hb1 HLX HK HB
  go_wp2_with fail
  refine (HCN.out _).mono ?_
  rintro e w2 ⟨rfl, rfl⟩
  go_wp2
  refine bodyPost_ret ((HK1.out.stor11 rfl _ _ _ _ _ _ _ _ _ _ _).res3 Tryz.results11 Tryz.underlying28 rfl infoNd _ rfl) rfl ?_
  exact pp_zero (below_stor11 HB1.out (Nat.le_refl _) _ _ _ _ _ _ _ _ _ _ _) (by rw [HLA.out]; show 1 + (NF : Int) = _; omega) rfl

set_option maxHeartbeats 4000000 in
set_option maxRecDepth 100000 in
theorem parse_main (l : List UInt8) (w : World) (V : Vs w) (LV : Lv w) (he : (lexAll l).2.2 = 0) (hne : (lexAll l).1 ≠ []) (HLP : ∀ R g c, LoopOK (lexAll l).1 R g c) : Calls Tryz.prog 11 #[.string (str l)] w (PP w (parseM l)) := by
  obtain ⟨hlen, htl, hctx⟩ := lexAll_ctx l he
  have hM : parseM l = (if 0 < crowd 0 (lexAll l).1 then (tree0, crowd 0 (lexAll l).1, 5) else if (progT (lexAll l).1).2.bad then (tree0, (tat (lexAll l).1 (min (progT (lexAll l).1).2.i ((lexAll l).1.length - 1))).line, 4)
      else if 20000 < count (progT (lexAll l).1).1 ∨ 200 < depth (progT (lexAll l).1).1 then (tree0, 1, 5) else ((progT (lexAll l).1).1, 0, 0)) := by
    unfold parseM
    dsimp only
    rw [if_neg (by simp [he])]
  obtain ⟨Z, hZ⟩ : ∃ Z, Z = parseM l := ⟨_, rfl⟩
  rw [← hZ]
  rw [hM] at hZ
  have hb0 := (Below.refl w.heap.size w).alloc (Nat.le_refl _) (.cells ncz.toArray 28)
  have hw1 : (w.alloc (.cells ncz.toArray 28)).heap.size = w.heap.size + 1 := by simp
  have HK := Lib.hid (Blk.alloc w 28 ncz)
  have HB := Lib.hid hb0
  have HLX := Lib.hid (lex_any l (by omega) _ (V.below (hb0.mono (Nat.le_refl _))))
  generalize (lexAll l).2.1 = A at *
  rw [he] at HLX
  generalize hT : (lexAll l).1 = ts at *
  have HV := Lib.hid (And.intro V LV)
  have HW1 := Lib.hid hw1
  have HZ := Lib.hid hZ
  clear hb0 V LV hM hw1 he hZ
  go_enter Tryz.func11, Tryz.ntmps11
  go_wp2_with fail
  refine HLX.out.mono ?_
  rintro e w1 ⟨v, rfl, hown, hb1⟩
  rcases toks_own hown with ⟨h, _⟩ | ⟨g, c, rfl, hg, hTk⟩
  · exact absurd h hne
  · have hgc : ts.length ≤ c ∧ c ≤ maxLen := by
      rcases hown.2 with ⟨h, _⟩ | ⟨g2, cap, cur, h, _, _, h3, h4, _⟩
      · simp at h
      · injection h with h1 h2 h3'
        subst h3'
        exact ⟨h3, h4⟩
    have HTk := Lib.hid hTk
    have HK1 := Lib.hid (HK.out.below hb1 HK.out.lt)
    have HB1 := Lib.hid (HB.out.trans (hb1.mono (by simp)))
    have HCR := Lib.hid (crowded_any ts g c (by omega) (fun t ht => by have := (hctx t ht).1.2; omega) w1 hTk)
    have hgw : w.heap.size ≤ g := by rw [HW1.out] at hg; omega
    have hgl := hTk.1
    have HENV : Hid (Env w1 g) := Lib.hid ⟨w, HV.out.1, HV.out.2, hgw, HB1.out.size, fun k hk => HB1.out.block k hk⟩
    have HCTX : Hid (∀ R, g < R → Ctx ts R g c) := Lib.hid fun R hR => ⟨hne, hR, by omega, hgc, fun t ht => ⟨(hctx t ht).1.1, by have := (hctx t ht).1.2; omega⟩, fun t ht => (hctx t ht).2.1, fun t ht => ⟨(hctx t ht).2.2.1, by have := (hctx t ht).2.2.2; omega⟩⟩
    have HLPH := Lib.hid HLP
    clear hown hb1 HLX HK HB hTk hg hctx hgc HLP HV HW1
    by_cases hcr : 0 < crowd 0 ts
    · have HZ1 : Hid (Z = (tree0, crowd 0 ts, 5)) := Lib.hid (by rw [HZ.out, if_pos hcr])
      have qc : (0 : Int) < (crowd 0 ts : Int) := by omega
      clear hcr HLPH HCTX HENV HZ
      generalize crowd 0 ts = CR at *
      go_wp2_with fail
      refine HCR.out.mono ?_
      rintro e w2 ⟨rfl, hb2⟩
      have HK2 := Lib.hid (HK1.out.below hb2 HK1.out.lt)
      have HB2 := Lib.hid (HB1.out.trans (hb2.mono HB1.out.size))
      obtain ⟨hc, hf⟩ := HK2.out.all
      unfold ncz at hc
      clear hb2 HK1 HB1 HCR
      go_wp2
      refine bodyPost_ret ((HK2.out.stor11 rfl _ _ _ _ _ _ _ _ _ _ _).res3 Tryz.results11 Tryz.underlying28 rfl infoNd _ rfl) rfl ?_
      rw [HZ1.out]
      exact pp_zero (below_stor11 HB2.out (Nat.le_refl _) _ _ _ _ _ _ _ _ _ _ _) rfl rfl
    · have HZ1 := Lib.hid (HZ.out.trans (if_neg hcr))
      have hc0 : crowd 0 ts = 0 := by omega
      rw [hc0] at HCR
      clear hcr hc0 HZ
      go_wp2_with fail
      refine HCR.out.mono ?_
      rintro e w2 ⟨rfl, hb2⟩
      have HK2 := Lib.hid (HK1.out.below hb2 HK1.out.lt)
      have HB2 := Lib.hid (HB1.out.trans (hb2.mono HB1.out.size))
      have hsz2 := hb2.size
      have hg2 : g < w2.heap.size := by omega
      have HRD : Hid (Rd (w2.alloc (.cells #[.slice (some ⟨g, 0, none⟩) ts.length c, .int .i64 0, .int .i64 0] 47)) w2.heap.size g c ts ⟨0, false⟩) := Lib.hid ⟨Blk.alloc w2 47 [.slice (some ⟨g, 0, none⟩) ts.length c, .int .i64 0, .int .i64 0],
        (HTk.out.below hb2 hgl).below ((Below.refl w2.heap.size w2).alloc (Nat.le_refl _) _) hg2, Nat.zero_le _, (HENV.out.of_blocks (fun k hk => hb2.block k (by omega)) hb2.size).of_blocks (fun k hk => Below.heap_alloc w2 _ k (by omega)) (by simp)⟩
      have HPG := Lib.hid (program_any (HCTX.out _ hg2) (HLPH.out _ _ _) _ HRD.out)
      have HBR := Lib.hid (HB2.out.alloc HB2.out.size (.cells #[.slice (some ⟨g, 0, none⟩) ts.length c, .int .i64 0, .int .i64 0] 47))
      have HKR := Lib.hid (HK2.out.alloc_other (.cells #[.slice (some ⟨g, 0, none⟩) ts.length c, .int .i64 0, .int .i64 0] 47))
      have hwk := HK2.out.lt
      clear hb2 HK1 HB1 HCR HRD HLPH HENV HTk HB2 HK2
      generalize hP : progT ts = PT at *
      go_wp2_with fail
      refine HPG.out.mono ?_
      rintro e w3 ⟨l1, x1, n1, k1, rfl, hT3, hr3, hs3⟩
      have HB3p := Lib.hid (below_st HBR.out hs3 (by omega))
      have HB3 := Lib.hid ((below_st HBR.out hs3 (by omega)).alloc (Nat.le_trans HBR.out.size (St.size hs3)) (.cells #[.int .i64 l1.kind, .string (str l1.name), .int .u64 l1.num, .int .i64 l1.wd, .bool l1.sg, .int .i64 l1.op, .int .i64 l1.fac, .int .i64 l1.pip, .int .i64 l1.unr, .int .i64 l1.line, .slice x1 n1 k1] 28))
      have HK3 := Lib.hid (St.blk hs3 HKR.out (by omega))
      have HT4 : Hid (TreeAt (w3.alloc (.cells #[.int .i64 l1.kind, .string (str l1.name), .int .u64 l1.num, .int .i64 l1.wd, .bool l1.sg, .int .i64 l1.op, .int .i64 l1.fac, .int .i64 l1.pip, .int .i64 l1.unr, .int .i64 l1.line, .slice x1 n1 k1] 28)) (w2.heap.size + 1 ≤ ·) [.int .i64 l1.kind, .string (str l1.name), .int .u64 l1.num, .int .i64 l1.wd, .bool l1.sg, .int .i64 l1.op, .int .i64 l1.fac, .int .i64 l1.pip, .int .i64 l1.unr, .int .i64 l1.line, .slice x1 n1 k1] PT.1) := Lib.hid (hT3.keep (fun k _ hl => Below.heap_alloc w3 _ k hl) fun k hk _ => by simpa using hk)
      obtain ⟨c0, c1, c2, f1, f2⟩ := hr3.cells
      have hR3 := hr3.lt
      obtain ⟨hc, hf⟩ := HK3.out.all
      unfold ncz at hc
      have hk3 := HK3.out.lt
      have HBAD : Hid (badOf ts PT.2 = if PT.2.bad then (tat ts (min PT.2.i (ts.length - 1))).line else 0) := Lib.hid rfl
      have HPOS : Hid (PT.2.bad = true → 0 < badOf ts PT.2) := Lib.hid fun h => by
        have h1 := fail_at (HCTX.out _ hg2) hr3.hi
        rw [HBAD.out, if_pos h, tat_get h1]
        exact ((HCTX.out _ hg2).line _ (List.getElem_mem h1)).1
      clear hT3 hr3 hs3 HPG HBR HKR c0 c1 f1 f2
      cases hbad : PT.2.bad with
      | true =>
        have hb := HBAD.out
        rw [hbad, if_pos rfl] at hb
        have hp := HPOS.out hbad
        have HZ2 : Hid (Z = (tree0, badOf ts PT.2, 4)) := Lib.hid (by rw [HZ1.out, if_pos hbad, hb])
        have qb : (0 : Int) < (badOf ts PT.2 : Int) := by omega
        clear hb hp hbad HBAD HPOS HZ1
        generalize badOf ts PT.2 = BD at *
        go_wp2
        go_region
        go_wp2
        have HKF := Lib.hid fun o x0 x1 x2 x3 x4 x5 x6 x7 x8 x9 x10 => (((HK3.out.stor11 rfl x0 x1 x2 x3 x4 x5 x6 x7 x8 x9 x10).alloc_other o).drew)
        have HBF := Lib.hid fun o x0 x1 x2 x3 x4 x5 x6 x7 x8 x9 x10 => ((below_stor11 HB3p.out (Nat.le_refl _) x0 x1 x2 x3 x4 x5 x6 x7 x8 x9 x10).alloc (below_stor11 HB3p.out (Nat.le_refl _) x0 x1 x2 x3 x4 x5 x6 x7 x8 x9 x10).size o).drew
        refine bodyPost_ret ((HKF.out _ _ _ _ _ _ _ _ _ _ _ _).res3 Tryz.results11 Tryz.underlying28 rfl infoNd _ rfl) rfl ?_
        rw [HZ2.out]
        exact pp_zero (HBF.out _ _ _ _ _ _ _ _ _ _ _ _) rfl rfl
      | false =>
        have hb := HBAD.out
        rw [hbad] at hb
        simp only [Bool.false_eq_true, if_false] at hb
        rw [hb] at c2
        have HZ2 := Lib.hid (HZ1.out.trans (if_neg (by rw [hbad]; simp)))
        have HWI := Lib.hid (within_any PT.1 l1 x1 n1 k1 _ (HT4.out.mono fun _ _ _ => trivial))
        have HKW := Lib.hid (HK3.out.alloc_other (.cells #[.int .i64 l1.kind, .string (str l1.name), .int .u64 l1.num, .int .i64 l1.wd, .bool l1.sg, .int .i64 l1.op, .int .i64 l1.fac, .int .i64 l1.pip, .int .i64 l1.unr, .int .i64 l1.line, .slice x1 n1 k1] 28))
        have HLW := Lib.hid (Blk.alloc w3 28 [.int .i64 l1.kind, .string (str l1.name), .int .u64 l1.num, .int .i64 l1.wd, .bool l1.sg, .int .i64 l1.op, .int .i64 l1.fac, .int .i64 l1.pip, .int .i64 l1.unr, .int .i64 l1.line, .slice x1 n1 k1])
        clear hb hbad HBAD HPOS HZ1
        by_cases hwi : count PT.1 ≤ 20000 ∧ depth PT.1 ≤ 200
        · have HZ3 : Hid (Z = (PT.1, 0, 0)) := Lib.hid (by rw [HZ2.out, if_neg (by omega)])
          rw [show decide (count PT.1 ≤ 20000 ∧ depth PT.1 ≤ 200) = true by simpa using hwi] at HWI
          clear hwi HZ2
          go_wp2_with fail
          refine HWI.out.mono ?_
          rintro e w4 ⟨rfl, hb4⟩
          have HK4 := Lib.hid (HKW.out.below hb4 HKW.out.lt)
          have HL4 := Lib.hid (HLW.out.below hb4 HLW.out.lt)
          have HT5 := Lib.hid (HT4.out.keep (Q := (w2.heap.size + 1 ≤ ·)) (fun k _ hl => hb4.block k hl) fun _ hk _ => hk)
          have HB4 := Lib.hid (HB3.out.trans (hb4.mono HB3.out.size))
          clear hc hf
          obtain ⟨hc, hf⟩ := HK4.out.all
          unfold ncz at hc
          obtain ⟨hd, he⟩ := HL4.out.all
          have hz4 := HK4.out.lt
          clear hb4 HT4 HB3 HWI HKW HLW HK3 c2
          go_wp2
          refine bodyPost_ret ((HK4.out.stor11 rfl _ _ _ _ _ _ _ _ _ _ _).res3 Tryz.results11 Tryz.underlying28 rfl infoNd _ rfl) rfl ?_
          rw [HZ3.out]
          exact ⟨l1, x1, n1, k1, rfl, HT5.out.keep (fun k hk _ => stor11_other _ (by omega) _ _ _ _ _ _ _ _ _ _ _) (fun k hk _ => by omega), below_stor11 HB4.out (Nat.le_refl _) _ _ _ _ _ _ _ _ _ _ _⟩
        · have HZ3 : Hid (Z = (tree0, 1, 5)) := Lib.hid (by rw [HZ2.out, if_pos (by omega)])
          rw [show decide (count PT.1 ≤ 20000 ∧ depth PT.1 ≤ 200) = false by simpa using hwi] at HWI
          clear hwi HZ2
          go_wp2_with fail
          refine HWI.out.mono ?_
          rintro e w4 ⟨rfl, hb4⟩
          have HK4 := Lib.hid (HKW.out.below hb4 HKW.out.lt)
          have HB4 := Lib.hid (HB3.out.trans (hb4.mono HB3.out.size))
          clear hc hf
          obtain ⟨hc, hf⟩ := HK4.out.all
          unfold ncz at hc
          clear hb4 HT4 HB3 HWI HKW HLW HK3 c2
          go_wp2
          refine bodyPost_ret ((HK4.out.stor11 rfl _ _ _ _ _ _ _ _ _ _ _).res3 Tryz.results11 Tryz.underlying28 rfl infoNd _ rfl) rfl ?_
          rw [HZ3.out]
          exact pp_zero (below_stor11 HB4.out (Nat.le_refl _) _ _ _ _ _ _ _ _ _ _ _) rfl rfl
end Go.Proofs.YtfnhogeocbndcaaGreatDoor
/- Blanks behind a text: its error stays. -/
namespace Go.Proofs.YtfnhogeocbndcaaGreatDoor
open Go Go.RowKit
set_option linter.unusedVariables false

theorem skip_sp : ∀ (n : Nat) (m : Bool), skipM m (List.replicate n 32) = n := by
  intro n
  induction n with
  | zero => intro m; cases m <;> rfl
  | succ n ih =>
    intro m
    rw [List.replicate_succ]
    cases m with
    | true => simp only [skipM]; rw [show (decide ((32 : UInt8).toNat ≠ 10)) = true from rfl, ih true]; omega
    | false => simp only [skipM]; rw [if_pos (show isBlank 32 = true from by decide), ih false]; omega
theorem skipT (c : UInt8) (r : List UInt8) : skipM true (c :: r) = 1 + skipM (decide (c.toNat ≠ 10)) r := rfl
theorem skipF (c : UInt8) (r : List UInt8) : skipM false (c :: r) = if isBlank c = true then 1 + skipM false r else if c = 47 ∧ r.head? = some 47 then 1 + skipM true r else 0 := rfl
theorem skip_app (n : Nat) : ∀ (M : List UInt8) (m : Bool), skipM m (M ++ List.replicate n 32) = if skipM m M < M.length then skipM m M else M.length + n := by
  intro M
  induction M with
  | nil =>
    intro m
    rw [List.nil_append, skip_sp]
    cases m <;> simp [skipM]
  | cons c r ih =>
    intro m
    rw [List.cons_append]
    cases m with
    | true =>
      rw [skipT, skipT, List.length_cons, ih]
      split <;> rename_i h
      · rw [if_pos (by omega)]
      · rw [if_neg (by omega)]; omega
    | false =>
      rw [skipF, skipF, List.length_cons]
      have hh : ((r ++ List.replicate n 32).head? = some 47) ↔ (r.head? = some 47) := by
        cases r with
        | nil =>
          cases n with
          | zero => simp
          | succ n => rw [List.nil_append, List.replicate_succ]; simp
        | cons a b => simp
      by_cases hb : isBlank c = true
      · simp only [if_pos hb]
        rw [ih]
        split <;> rename_i h
        · rw [if_pos (by omega)]
        · rw [if_neg (by omega)]; omega
      · simp only [if_neg hb]
        by_cases hc : c = 47 ∧ r.head? = some 47
        · have hc2 : c = 47 ∧ (r ++ List.replicate n (32 : UInt8)).head? = some 47 := ⟨hc.1, hh.2 hc.2⟩
          simp only [if_pos hc, if_pos hc2]
          rw [ih]
          split <;> rename_i h
          · rw [if_pos (by omega)]
          · rw [if_neg (by omega)]; omega
        · have hc2 : ¬ (c = 47 ∧ (r ++ List.replicate n (32 : UInt8)).head? = some 47) := fun h => hc ⟨h.1, hh.1 h.2⟩
          simp only [if_neg hc, if_neg hc2]
          rw [if_pos (by omega)]
theorem run_app (n : Nat) : ∀ (N : List UInt8), run (N ++ List.replicate n 32) = run N := by
  intro N
  induction N with
  | nil =>
    cases n with
    | zero => rfl
    | succ n =>
      rw [List.nil_append, List.replicate_succ]
      unfold run
      rw [List.takeWhile_cons, if_neg (by decide)]
      rfl
  | cons c r ih =>
    unfold run at ih ⊢
    rw [List.cons_append, List.takeWhile_cons, List.takeWhile_cons, ih]
theorem no_pair_sp (c : UInt8) : pairs.contains [c, 32] = false := by
  have := all_u8 (fun c => !(pairs.contains [c, 32])) (by decide +kernel) c
  simpa using this
theorem punct_app (n : Nat) {N : List UInt8} (h : N ≠ []) : punctLen (N ++ List.replicate n 32) = punctLen N := by
  cases N with
  | nil => exact absurd rfl h
  | cons a N =>
    cases N with
    | nil =>
      have h1 : ¬ (1 < [a].length ∧ pairs.contains ([a].take 2) = true) := by simp
      have h2 : ¬ (1 < ([a] ++ List.replicate n 32).length ∧ pairs.contains (([a] ++ List.replicate n 32).take 2) = true) := by
        rintro ⟨q1, q2⟩
        cases n with
        | zero => simp at q1
        | succ n =>
          rw [List.replicate_succ] at q2
          have : pairs.contains [a, 32] = true := q2
          rw [no_pair_sp] at this
          cases this
      unfold punctLen
      rw [if_neg h1, if_neg h2]
      rfl
    | cons b N =>
      unfold punctLen
      have h3 : 1 < (a :: b :: N ++ List.replicate n 32).length := by simp
      have h4 : 1 < (a :: b :: N).length := by simp
      have h5 : (a :: b :: N ++ List.replicate n 32).take 2 = (a :: b :: N).take 2 := rfl
      rw [h5]
      by_cases hp : pairs.contains ((a :: b :: N).take 2) = true
      · rw [if_pos ⟨h3, hp⟩, if_pos ⟨h4, hp⟩]
      · rw [if_neg (fun h => hp h.2), if_neg (fun h => hp h.2)]
        rfl
theorem tok_app (n : Nat) {N : List UInt8} (h : N ≠ []) : tokErr (N ++ List.replicate n 32) = tokErr N ∧ tokLen (N ++ List.replicate n 32) = tokLen N := by
  unfold tokErr tokLen
  rw [run_app, punct_app n h]
  exact ⟨rfl, rfl⟩
theorem lexR_app (l : List UInt8) (n : Nat) : ∀ (f d f' line line' : Nat) (acc acc' : List Tok), d ≤ l.length → l.length < f + d → l.length + n < f' + d →
    (lexR (l ++ List.replicate n 32) f' d line' acc').2.2 = (lexR l f d line acc).2.2 := by
  intro f
  induction f with
  | zero => intro d f' line line' acc acc' h1 h2; omega
  | succ f ih =>
    intro d f' line line' acc acc' h1 h2 h3
    have hlen : (l ++ List.replicate n 32).length = l.length + n := by simp
    have hd : (l ++ List.replicate n 32).drop d = l.drop d ++ List.replicate n 32 := List.drop_append_of_le_length h1
    have hk := skip_app n (l.drop d) false
    rw [List.length_drop] at hk
    by_cases he : l.length ≤ d + skipM false (l.drop d)
    · rw [if_neg (by omega)] at hk
      rw [lexR_end (by omega) he, lexR_end (by omega) (by rw [hd, hk, hlen]; omega)]
    · rw [if_pos (by omega)] at hk
      have hd2 : (l ++ List.replicate n 32).drop (d + skipM false (l.drop d)) = l.drop (d + skipM false (l.drop d)) ++ List.replicate n 32 := List.drop_append_of_le_length (by omega)
      have hne : l.drop (d + skipM false (l.drop d)) ≠ [] := by
        intro h
        have := congrArg List.length h
        rw [List.length_drop] at this
        simp at this
        omega
      obtain ⟨t1, t2⟩ := tok_app n hne
      have he2 : ¬ (l ++ List.replicate n 32).length ≤ d + skipM false ((l ++ List.replicate n 32).drop d) := by rw [hd, hk, hlen]; omega
      have e1 : tokErr ((l ++ List.replicate n 32).drop (d + skipM false ((l ++ List.replicate n 32).drop d))) = tokErr (l.drop (d + skipM false (l.drop d))) := by rw [hd, hk, hd2, t1]
      have e2 : tokLen ((l ++ List.replicate n 32).drop (d + skipM false ((l ++ List.replicate n 32).drop d))) = tokLen (l.drop (d + skipM false (l.drop d))) := by rw [hd, hk, hd2, t2]
      by_cases hz : tokErr (l.drop (d + skipM false (l.drop d))) = 0
      · obtain ⟨g, rfl⟩ : ∃ g, f' = g + 1 := ⟨f' - 1, by omega⟩
        have hp := tokLen_pos hz
        have hq := tokLen_le (l.drop (d + skipM false (l.drop d)))
        rw [List.length_drop] at hq
        rw [lexR_tok he hz, lexR_tok he2 (by rw [e1]; exact hz), e2, hd, hk]
        exact ih _ _ _ _ _ _ (by omega) (by omega) (by omega)
      · rw [lexR_err (by omega) he hz, lexR_err (by omega) he2 (by rw [e1]; exact hz)]
        exact e1
theorem lexAll_app (l : List UInt8) (n : Nat) (h : l.length + n ≤ 65536) : (lexAll (l ++ List.replicate n 32)).2.2 = (lexAll l).2.2 := by
  unfold lexAll
  rw [if_neg (by simp; omega), if_neg (by omega)]
  exact lexR_app l n _ _ _ _ _ _ _ (by omega) (by omega) (by simp)
end Go.Proofs.YtfnhogeocbndcaaGreatDoor
/- Texts whose tokens are known, and the trees of a kernel with one declaration. Nothing of the program stands here. -/
namespace Go.Proofs.YtfnhogeocbndcaaGreatDoor
open Go Go.RowKit
set_option linter.unusedVariables false

abbrev Sp := Nat × List UInt8 × Nat × Nat
def key (t : Tok) : Sp := (t.kind, t.text, t.num, t.line)
def sp0 : Sp := (0, [], 0, 0)
/-- The tokens of a rest of a text, from a line on. -/
inductive LX : List UInt8 → Nat → List Sp → Prop
  | nil {r : List UInt8} {line : Nat} (h : skipM false r = r.length) : LX r line []
  | cons {r v : List UInt8} {line : Nat} {sp : List Sp} (g t : List UInt8) (k num ln : Nat) (hr : r = g ++ (t ++ v)) (hs : skipM false r = g.length) (hne : t ≠ []) (he : tokErr (t ++ v) = 0) (hl : tokLen (t ++ v) = t.length)
      (hk : tokKind (t ++ v) = k) (hn : tokNum (t ++ v) = num) (hln : line + lineFeeds g = ln) (h : LX v ln sp) : LX r line ((k, t, num, ln) :: sp)
theorem lx_lexR (l : List UInt8) {r : List UInt8} {line : Nat} {sp : List Sp} (h : LX r line sp) : ∀ (f d : Nat) (acc : List Tok), l.drop d = r → d ≤ l.length → l.length < f + d →
    ∃ ts, lexR l f d line acc = (acc ++ ts, l.length, 0) ∧ ts.map key = sp := by
  induction h with
  | @nil r line h =>
    intro f d acc hd hdl hf
    obtain ⟨f, rfl⟩ : ∃ g, f = g + 1 := ⟨f - 1, by omega⟩
    refine ⟨[], ?_, rfl⟩
    have hlen : r.length = l.length - d := by rw [← hd, List.length_drop]
    rw [lexR_end (by omega) (by rw [hd, h]; omega), List.append_nil]
  | @cons r v line sp g t k num ln hr hs hne he hl hk hn hln h ih =>
    intro f d acc hd hdl hf
    obtain ⟨f, rfl⟩ : ∃ g, f = g + 1 := ⟨f - 1, by omega⟩
    have hlen : r.length = l.length - d := by rw [← hd, List.length_drop]
    have hlr : r.length = g.length + (t.length + v.length) := by rw [hr, List.length_append, List.length_append]
    have htl := List.length_pos_iff.2 hne
    have hdg : l.drop (d + g.length) = t ++ v := by rw [← List.drop_drop, hd, hr, List.drop_left]
    have hdt : l.drop (d + g.length + t.length) = v := by rw [← List.drop_drop, hdg, List.drop_left]
    have htk : r.take g.length = g := by rw [hr, List.take_left]
    have htt : (t ++ v).take t.length = t := List.take_left
    have hend : ¬ l.length ≤ d + skipM false (l.drop d) := by rw [hd, hs]; omega
    obtain ⟨ts, e1, e2⟩ := ih f (d + g.length + t.length) (acc ++ [tokAt l (d + g.length) ln]) hdt (by omega) (by omega)
    refine ⟨tokAt l (d + g.length) ln :: ts, ?_, ?_⟩
    · rw [lexR_tok hend (by rw [hd, hs, hdg]; exact he), hd, hs, hdg, hl, htk, hln, e1, List.append_assoc]
      rfl
    · rw [List.map_cons, e2]
      unfold key tokAt
      simp only
      rw [hdg, hl, hk, hn, htt]
theorem lx_all {l : List UInt8} {sp : List Sp} (h : LX l 1 sp) (hl : l.length ≤ 65536) : (lexAll l).2.2 = 0 ∧ (lexAll l).1.map key = sp := by
  obtain ⟨ts, e1, e2⟩ := lx_lexR l h (l.length + 1) 0 [] rfl (by omega) (by omega)
  unfold lexAll
  rw [if_neg (by omega), e1]
  exact ⟨rfl, e2⟩
theorem punct_len1 {c : UInt8} {r : List UInt8} (h1 : isPunct c = true) (h2 : ∀ x r', r = x :: r' → pairs.contains [c, x] = false) : punctLen (c :: r) = 1 := by
  unfold punctLen
  rw [if_neg]
  · simp only
    rw [if_pos h1]
  · intro h
    match r, h, h2 with
    | [], h, _ => simp at h
    | x :: r', h, h2 =>
      have := h2 x r' rfl
      have h3 : pairs.contains [c, x] = true := h.2
      rw [this] at h3
      cases h3
theorem punct_tok {c : UInt8} {r : List UInt8} (hw : inW c = false) (h1 : isPunct c = true) (h2 : ∀ x r', r = x :: r' → pairs.contains [c, x] = false) : tokErr ([c] ++ r) = 0 ∧ tokLen ([c] ++ r) = 1 ∧ tokKind ([c] ++ r) = 4 ∧ tokNum ([c] ++ r) = 0 := by
  have hrun : run (c :: r) = [] := by unfold run; rw [List.takeWhile_cons, if_neg (by rw [hw]; simp)]
  have hp := punct_len1 h1 h2
  refine ⟨?_, ?_, ?_, ?_⟩
  · show tokErr (c :: r) = 0
    unfold tokErr
    rw [if_pos hrun, hp, if_neg (by omega)]
  · show tokLen (c :: r) = 1
    unfold tokLen
    rw [if_pos hrun, hp]
  · show tokKind (c :: r) = 4
    unfold tokKind
    rw [if_pos hrun]
  · show tokNum (c :: r) = 0
    unfold tokNum
    rw [if_neg (by rw [hrun]; simp)]
/-- A token of one byte of punctuation. -/
theorem LX.punct {c : UInt8} {v g : List UInt8} {line : Nat} {sp : List Sp} (hs : skipM false (g ++ ([c] ++ v)) = g.length) (hw : inW c = false) (h1 : isPunct c = true) (h2 : ∀ x r', v = x :: r' → pairs.contains [c, x] = false)
    (h : LX v (line + lineFeeds g) sp) : LX (g ++ ([c] ++ v)) line ((4, [c], 0, line + lineFeeds g) :: sp) := by
  obtain ⟨e1, e2, e3, e4⟩ := punct_tok hw h1 h2
  exact .cons g [c] 4 0 _ rfl hs (by simp) e1 e2 e3 e4 rfl h

theorem tat_key {ts : List Tok} {sp : List Sp} (h : ts.map key = sp) (i : Nat) : key (tat ts i) = sp.getD i sp0 := by
  rw [← h]
  unfold tat
  rw [List.getD_eq_getElem?_getD, List.getD_eq_getElem?_getD, List.getElem?_map]
  cases ts[i]? <;> rfl
/-- What a state sees. -/
theorem see {ts : List Tok} {sp : List Sp} (h : ts.map key = sp) {i k num ln : Nat} {t : List UInt8} (hi : sp.getD i sp0 = (k, t, num, ln)) : kd ts ⟨i, false⟩ = k ∧ tx ts ⟨i, false⟩ = t ∧ (nxt ts ⟨i, false⟩).num = num ∧ Go.Proofs.YtfnhogeocbndcaaGreatDoor.ln ts ⟨i, false⟩ = ln := by
  have hk := tat_key h i
  rw [hi] at hk
  unfold key at hk
  have e : nxt ts ⟨i, false⟩ = tat ts i := rfl
  injection hk with a1 a2
  injection a2 with a2 a3
  injection a3 with a3 a4
  exact ⟨by unfold kd; rw [e]; exact a1, by unfold tx; rw [e]; exact a2, by rw [e]; exact a3, by unfold Go.Proofs.YtfnhogeocbndcaaGreatDoor.ln; rw [e]; exact a4⟩
theorem has_of {ts : List Tok} {s : Sg} {t : List UInt8} (h : tx ts s = t) (u : List UInt8) : hasT ts s u = decide (t = u) := by unfold hasT; rw [h]
theorem opV_of {ts : List Tok} {s : Sg} {t : List UInt8} (h : tx ts s = t) (l : Nat) : opV ts s l = (((levelOps l).find? fun p => decide (t = p.1)).map (·.2)).getD 0 := by unfold opV; rw [h]
theorem exc_of {ts : List Tok} {i : Nat} {t : List UInt8} (h : tx ts ⟨i, false⟩ = t) : exc ts ⟨i, false⟩ t = ⟨i + 1, false⟩ := by
  unfold exc
  rw [if_pos (by rw [has_of h]; simp)]
  rfl
theorem nmS_of {ts : List Tok} {i : Nat} (h : kd ts ⟨i, false⟩ = 1) : nmS ts ⟨i, false⟩ = ⟨i + 1, false⟩ := by unfold nmS; rw [if_pos h]; rfl
theorem nmV_of {ts : List Tok} {i : Nat} (h : kd ts ⟨i, false⟩ = 1) : nmV ts ⟨i, false⟩ = tx ts ⟨i, false⟩ := by unfold nmV; rw [if_pos h]

/-- An operand behind which a bracket or a semicolon stands is an expression. -/
theorem pass_up {ts : List Tok} {f : Nat} {s s' : Sg} {t : Tree} (hn : tx ts s' = [41] ∨ tx ts s' = [59]) (hf : 0 < f) (h : E ts f .un s = (t, s')) : E ts (f + 12) .ex s = (t, s') := by
  have hop : ∀ l, l < 9 → opV ts s' l = 0 := by
    intro l hl
    rcases hn with h | h
    · rw [opV_of h]
      exact (show ∀ l, l < 9 → (((levelOps l).find? fun p => decide (([41] : List UInt8) = p.1)).map (·.2)).getD 0 = 0 by decide) l hl
    · rw [opV_of h]
      exact (show ∀ l, l < 9 → (((levelOps l).find? fun p => decide (([59] : List UInt8) = p.1)).map (·.2)).getD 0 = 0 by decide) l hl
  have has : hasT ts s' [97, 115] = false := by rcases hn with h | h <;> rw [has_of h] <;> decide
  have hq : hasT ts s' [63] = false := by rcases hn with h | h <;> rw [has_of h] <;> decide
  obtain ⟨f, rfl⟩ : ∃ g, f = g + 1 := ⟨f - 1, by omega⟩
  have hca : E ts (f + 1 + 1) .ca s = (t, s') := by
    rw [E, h]
    simp only
    rw [E, has]
    rfl
  have hb9 : E ts (f + 1 + 2) (.bn 9) s = (t, s') := by
    rw [show f + 1 + 2 = (f + 1 + 1) + 1 from rfl, E, if_pos rfl, hca]
  have step : ∀ l q, l < 9 → 0 < q → E ts q (.bn (l + 1)) s = (t, s') → E ts (q + 1) (.bn l) s = (t, s') := by
    intro l q hl hq2 h2
    obtain ⟨q, rfl⟩ : ∃ g, q = g + 1 := ⟨q - 1, by omega⟩
    rw [E, if_neg (by omega), h2]
    simp only
    rw [E, if_pos (hop l hl)]
  have hb0 : E ts (f + 1 + 2 + 9) (.bn 0) s = (t, s') :=
    step 0 _ (by omega) (by omega) (step 1 _ (by omega) (by omega) (step 2 _ (by omega) (by omega) (step 3 _ (by omega) (by omega) (step 4 _ (by omega) (by omega) (step 5 _ (by omega) (by omega) (step 6 _ (by omega) (by omega) (step 7 _ (by omega) (by omega) (step 8 _ (by omega) (by omega) hb9))))))))
  rw [show f + 1 + 12 = (f + 1 + 2 + 9) + 1 from rfl, E, hb0]
  simp only
  rw [hq]
  rfl
/-- The tree of a kernel with one declaration. -/
def oneT (L L2 : Nat) (t : Tree) : Tree := .node (labK 1 L) [.node { labK 3 L with name := [107] } [.node (labK 8 L) [.node { labK 10 L2 with name := [97] } [t]]]]
def preS (L L2 : Nat) : List Sp := [(2, [107, 101, 114, 110, 101, 108], 0, L), (1, [107], 0, L), (4, [40], 0, L), (4, [41], 0, L), (4, [123], 0, L), (2, [108, 101, 116], 0, L2), (1, [97], 0, L2), (4, [61], 0, L2)]
theorem one_prog {ts : List Tok} {L L2 m : Nat} {X : List Sp} {t : Tree} (hL : 1 ≤ L) (h : ts.map key = preS L L2 ++ X) (hx : xpr ts ⟨8, false⟩ = (t, ⟨m, false⟩)) (h1 : (preS L L2 ++ X).getD m sp0 = (4, [59], 0, L2)) (h2 : (preS L L2 ++ X).getD (m + 1) sp0 = (4, [125], 0, L2))
    (hlen : ts.length = m + 2) : progT ts = (oneT L L2 t, ⟨m + 2, false⟩) := by
  obtain ⟨a0, b0, c0, d0⟩ := see h (show (preS L L2 ++ X).getD 0 sp0 = (2, [107, 101, 114, 110, 101, 108], 0, L) from rfl)
  obtain ⟨a1, b1, c1, d1⟩ := see h (show (preS L L2 ++ X).getD 1 sp0 = (1, [107], 0, L) from rfl)
  obtain ⟨a2, b2, c2, d2⟩ := see h (show (preS L L2 ++ X).getD 2 sp0 = (4, [40], 0, L) from rfl)
  obtain ⟨a3, b3, c3, d3⟩ := see h (show (preS L L2 ++ X).getD 3 sp0 = (4, [41], 0, L) from rfl)
  obtain ⟨a4, b4, c4, d4⟩ := see h (show (preS L L2 ++ X).getD 4 sp0 = (4, [123], 0, L) from rfl)
  obtain ⟨a5, b5, c5, d5⟩ := see h (show (preS L L2 ++ X).getD 5 sp0 = (2, [108, 101, 116], 0, L2) from rfl)
  obtain ⟨a6, b6, c6, d6⟩ := see h (show (preS L L2 ++ X).getD 6 sp0 = (1, [97], 0, L2) from rfl)
  obtain ⟨a7, b7, c7, d7⟩ := see h (show (preS L L2 ++ X).getD 7 sp0 = (4, [61], 0, L2) from rfl)
  obtain ⟨am, bm, cm, dm⟩ := see h h1
  obtain ⟨an, bn, cn, dn⟩ := see h h2
  have hdecl : declL ts ⟨5, false⟩ = (.node { labK 10 L2 with name := [97] } [t], ⟨m + 1, false⟩) := by
    unfold declL
    have e1 : adv ⟨5, false⟩ = ⟨6, false⟩ := rfl
    have e2 := nmS_of a6
    have e4 := exc_of b7
    have e5 := exc_of bm
    have e6 := nmV_of a6
    dsimp only
    have e7 : hasT ts ⟨7, false⟩ [58] = false := by rw [has_of b7]; decide
    rw [e1, e2, e7]
    simp only [Bool.false_eq_true, if_false]
    rw [e4, hx, e6, b6, d5]
    simp only
    rw [e5]
    rfl
  have hst : ∀ f, S ts (f + 1) .st ⟨5, false⟩ = ([.node { labK 10 L2 with name := [97] } [t]], ⟨m + 1, false⟩) := by
    intro f
    have e1 : hasT ts ⟨5, false⟩ [118, 97, 114] = false := by rw [has_of b5]; decide
    have e2 : hasT ts ⟨5, false⟩ [108, 101, 116] = true := by rw [has_of b5]; decide
    rw [S, e1, e2]
    simp only [Bool.false_eq_true, if_false, if_true]
    rw [hdecl]
  have hbk : ∀ f, S ts (f + 4) .bk ⟨4, false⟩ = ([.node (labK 8 L) [.node { labK 10 L2 with name := [97] } [t]]], ⟨m + 2, false⟩) := by
    intro f
    have e4 := exc_of b4
    have e2 : S ts (f + 3) (.bs []) ⟨5, false⟩ = ([.node { labK 10 L2 with name := [97] } [t]], ⟨m + 1, false⟩) := by
      rw [S, if_pos ⟨rfl, by show 5 < ts.length; have := congrArg List.length h; rw [List.length_map, List.length_append] at this; simp [preS] at this; omega, by rw [has_of b5]; decide⟩, hst]
      simp only
      rw [S, if_neg (by rw [has_of bn]; simp)]
      rfl
    rw [S, e4, e2, d4]
    simp only
    rw [exc_of bn]
  have hblk : blk ts ⟨4, false⟩ = (.node (labK 8 L) [.node { labK 10 L2 with name := [97] } [t]], ⟨m + 2, false⟩) := by
    unfold blk
    have : ∃ f, big ts = f + 4 := ⟨big ts - 4, by unfold big; omega⟩
    obtain ⟨f, hf⟩ := this
    rw [hf, hbk f]
    rfl
  have hlist : listM ts (prm ts) (big ts) ⟨2, false⟩ = ([], ⟨4, false⟩) := by
    unfold listM
    rw [exc_of b2, if_pos (by rw [has_of b3]; decide)]
    rfl
  have hk : kern ts ⟨0, false⟩ = (.node { labK 3 L with name := [107] } [.node (labK 8 L) [.node { labK 10 L2 with name := [97] } [t]]], ⟨m + 2, false⟩) := by
    unfold kern
    dsimp only
    have e4 : hasT ts ⟨4, false⟩ [45, 62] = false := by rw [has_of b4]; decide
    rw [exc_of b0, nmS_of a1, hlist]
    dsimp only
    rw [e4]
    simp only [Bool.false_eq_true, if_false]
    rw [hblk, nmV_of a1, b1, d0]
    rfl
  unfold progT
  have hu : units ts (ts.length + 1) [] ⟨0, false⟩ = ([.node { labK 3 L with name := [107] } [.node (labK 8 L) [.node { labK 10 L2 with name := [97] } [t]]]], ⟨m + 2, false⟩) := by
    have e0 : hasT ts ⟨0, false⟩ [102, 110] = false := by rw [has_of b0]; decide
    rw [units, if_pos ⟨rfl, by show 0 < ts.length; omega⟩, e0]
    simp only [Bool.false_eq_true, if_false]
    rw [hk]
    rw [hlen, units, if_neg (by rw [hlen]; simp)]
    rfl
  dsimp only
  rw [hu, d0, show max L 1 = L by omega]
  rfl
end Go.Proofs.YtfnhogeocbndcaaGreatDoor
