/- within: the walk of all levels. -/
import Derived.Test.YtfnhogeocbndcaaGreatDoorMgPsWi
import Derived.Laws.EntriesVeiled
import Derived.Test.YtfnhogeocbndcaaGreatDoorMgPsPut
import Derived.WalkSpells
import Derived.Test.YtfnhogeocbndcaaGreatDoorMgLxType
import Derived.Shelf.Strconv.ParseUint10b64
namespace Go.Proofs.YtfnhogeocbndcaaGreatDoor
open Go Go.RowKit
set_option linter.unusedVariables false

set_option maxHeartbeats 1000000 in
set_option maxRecDepth 100000 in
theorem contains_kids {Lf Lw lv : Nat} (H : WalkOK Lf Lw lv) (hlv : lv < 200) (left : Nat) (hleft : left ≤ 20000) (ks : List Tree) (x : Option Addr) (k : Nat) (hk : ks.length ≤ maxLen) (L5 : Nat) (w : World)
    (hT : ∀ i (hi : i < ks.length), ∃ a, x = some a ∧ a.block < Lf ∧ KidAt w (· < Lf) a i (kat ks i)) (hS : WS w Lf Lw left) (h5 : w.cell? ⟨L5, 0, none⟩ = some (.int .i64 ((lv : Int) + 1))) (hl5 : Lf < L5 ∧ L5 < w.heap.size) :
    Calls Tryz.prog 60 #[.slice x ks.length k, .func (Fn.func 61) #[] #[.pointer (some ⟨Lw, 0, none⟩), .pointer (some ⟨L5, 0, none⟩)]] w fun e w' => e = .returned (.bool !(wIns left lv ks).1) ∧ WS w' Lf Lw (wIns left lv ks).2 ∧ St w w' Lf := by
  have HI := Lib.hid (index_any H hlv left hleft ks x k hk L5 w hT hS h5 hl5)
  clear hT hS h5 H
  generalize wIns left lv ks = W2 at *
  generalize ks.length = N at *
  obtain ⟨b, l3⟩ := W2
  go_enter Tryz.func60, Tryz.ntmps60
  go_wp2_with fail
  refine HI.out.mono ?_
  rintro e w1 ⟨⟨r, rfl, hr⟩, hs, hst⟩
  have H1 := Lib.hid (And.intro hs hst)
  have HR := Lib.hid hr
  clear hs hst hr HI
  go_wp2
  go_ret
  refine ⟨?_, H1.out.1, H1.out.2⟩
  show Ending.returned (.bool (decide (0 ≤ r))) = _
  rw [HR.out]

set_option maxHeartbeats 1000000 in
set_option maxRecDepth 100000 in
theorem walk_all (Lf Lw : Nat) (hfw : Lf < Lw) : ∀ lv, lv ≤ 200 → WalkOK Lf Lw lv := by
  intro lv
  induction lv with
  | zero =>
    intro _ left t l x n k w hleft hT hS
    obtain ⟨lt, ks⟩ := t
    rw [wIn_node, if_pos (.inr rfl)]
    have hcf := hS.cf
    have hlf := hS.lf
    have HS := Lib.hid ((hS.alloc (.cells #[.int .i64 l.kind, .string (str l.name), .int .u64 l.num, .int .i64 l.wd, .bool l.sg, .int .i64 l.op, .int .i64 l.fac, .int .i64 l.pip, .int .i64 l.unr, .int .i64 l.line, .slice x n k] 28)).alloc (.cells #[.int .i64 ((0 : Nat) : Int)] 3))
    have HST := Lib.hid (((St.refl w Lf).alloc (.cells #[.int .i64 l.kind, .string (str l.name), .int .u64 l.num, .int .i64 l.wd, .bool l.sg, .int .i64 l.op, .int .i64 l.fac, .int .i64 l.pip, .int .i64 l.unr, .int .i64 l.line, .slice x n k] 28)).alloc (.cells #[.int .i64 ((0 : Nat) : Int)] 3))
    clear hT hS
    by_cases h0 : left = 0
    · subst h0
      go_enter Tryz.func59, Tryz.ntmps59
      go_wp2
      go_ret
      exact ⟨rfl, HS.out, HST.out⟩
    · have q0 : ((left : Int) == 0) = false := by simp; omega
      clear h0
      go_enter Tryz.func59, Tryz.ntmps59
      go_wp2
      go_ret
      exact ⟨rfl, HS.out, HST.out⟩
  | succ lv ih =>
    intro hlv left t l x n k w hleft hT hS
    have H := ih (by omega)
    obtain ⟨lt, ks⟩ := t
    obtain ⟨xk, kk, hcs, hnk, hkm, hkids⟩ := TreeAt.kids hT
    obtain ⟨rfl, rfl, rfl⟩ : x = xk ∧ n = ks.length ∧ k = kk := by
      have h10 := congrArg (fun c : List Value => c[10]?) hcs
      simp [lcells] at h10
      exact h10
    rw [wIn_node]
    have hcf := hS.cf
    have hff := hS.ff
    have hlf := hS.lf
    by_cases h0 : left = 0
    · have HS := Lib.hid ((hS.alloc (.cells #[.int .i64 l.kind, .string (str l.name), .int .u64 l.num, .int .i64 l.wd, .bool l.sg, .int .i64 l.op, .int .i64 l.fac, .int .i64 l.pip, .int .i64 l.unr, .int .i64 l.line, .slice x ks.length k] 28)).alloc (.cells #[.int .i64 ((lv + 1 : Nat) : Int)] 3))
      have HST := Lib.hid (((St.refl w Lf).alloc (.cells #[.int .i64 l.kind, .string (str l.name), .int .u64 l.num, .int .i64 l.wd, .bool l.sg, .int .i64 l.op, .int .i64 l.fac, .int .i64 l.pip, .int .i64 l.unr, .int .i64 l.line, .slice x ks.length k] 28)).alloc (.cells #[.int .i64 ((lv + 1 : Nat) : Int)] 3))
      rw [if_pos (.inl h0)]
      subst h0
      clear hT hS hkids H ih hcs
      generalize ks.length = N at *
      go_enter Tryz.func59, Tryz.ntmps59
      go_wp2
      go_ret
      exact ⟨rfl, HS.out, HST.out⟩
    · rw [if_neg (by omega)]
      have q0 : ((left : Int) == 0) = false := by simp; omega
      have q1 : (((lv + 1 : Nat) : Int) == 0) = false := by simp; omega
      have hl1 : 1 ≤ left := by omega
      have hcast : (left : Int) - 1 = ((left - 1 : Nat) : Int) := by omega
      have hsw := hS.dec (by omega) (left - 1)
      have hsz : (w.setCell ⟨Lf, 0, none⟩ (.int .i64 ((left - 1 : Nat) : Int))).heap.size = w.heap.size := size_setCell _ _ _
      have HS2 := Lib.hid ((hsw.alloc (.cells #[.int .i64 l.kind, .string (str l.name), .int .u64 l.num, .int .i64 l.wd, .bool l.sg, .int .i64 l.op, .int .i64 l.fac, .int .i64 l.pip, .int .i64 l.unr, .int .i64 l.line, .slice x ks.length k] 28)).alloc (.cells #[.int .i64 ((lv : Int) + 1)] 3))
      have hst : St w (w.setCell ⟨Lf, 0, none⟩ (.int .i64 ((left - 1 : Nat) : Int))) Lf := St.setR (St.refl _ _) rfl _
      have HST := Lib.hid ((hst.alloc (.cells #[.int .i64 l.kind, .string (str l.name), .int .u64 l.num, .int .i64 l.wd, .bool l.sg, .int .i64 l.op, .int .i64 l.fac, .int .i64 l.pip, .int .i64 l.unr, .int .i64 l.line, .slice x ks.length k] 28)).alloc (.cells #[.int .i64 ((lv : Int) + 1)] 3))
      have HK := Lib.hid fun i (hi : i < ks.length) => (show ∃ a, x = some a ∧ a.block < Lf ∧ KidAt (((w.setCell ⟨Lf, 0, none⟩ (.int .i64 ((left - 1 : Nat) : Int))).alloc (.cells #[.int .i64 l.kind, .string (str l.name), .int .u64 l.num, .int .i64 l.wd, .bool l.sg, .int .i64 l.op, .int .i64 l.fac, .int .i64 l.pip, .int .i64 l.unr, .int .i64 l.line, .slice x ks.length k] 28)).alloc (.cells #[.int .i64 ((lv : Int) + 1)] 3)) (· < Lf) a i (kat ks i) by
        obtain ⟨a, ha, hp, hkid⟩ := hkids i hi
        exact ⟨a, ha, hp, hkid.keep hp (fun g hg hl => World.grownBy.block HST.out g hl (fun e => by injection e with e; omega)) fun _ hg _ => hg⟩)
      have HB5 : Hid ((((w.setCell ⟨Lf, 0, none⟩ (.int .i64 ((left - 1 : Nat) : Int))).alloc (.cells #[.int .i64 l.kind, .string (str l.name), .int .u64 l.num, .int .i64 l.wd, .bool l.sg, .int .i64 l.op, .int .i64 l.fac, .int .i64 l.pip, .int .i64 l.unr, .int .i64 l.line, .slice x ks.length k] 28)).alloc (.cells #[.int .i64 ((lv : Int) + 1)] 3)).cell? ⟨w.heap.size + 1, 0, none⟩ = some (.int .i64 ((lv : Int) + 1)) ∧ Lf < w.heap.size + 1 ∧ w.heap.size + 1 < (((w.setCell ⟨Lf, 0, none⟩ (.int .i64 ((left - 1 : Nat) : Int))).alloc (.cells #[.int .i64 l.kind, .string (str l.name), .int .u64 l.num, .int .i64 l.wd, .bool l.sg, .int .i64 l.op, .int .i64 l.fac, .int .i64 l.pip, .int .i64 l.unr, .int .i64 l.line, .slice x ks.length k] 28)).alloc (.cells #[.int .i64 ((lv : Int) + 1)] 3)).heap.size) := by
        have hBk := Blk.alloc ((w.setCell ⟨Lf, 0, none⟩ (.int .i64 ((left - 1 : Nat) : Int))).alloc (.cells #[.int .i64 l.kind, .string (str l.name), .int .u64 l.num, .int .i64 l.wd, .bool l.sg, .int .i64 l.op, .int .i64 l.fac, .int .i64 l.pip, .int .i64 l.unr, .int .i64 l.line, .slice x ks.length k] 28)) 3 [.int .i64 ((lv : Int) + 1)]
        have hz2 : ((w.setCell ⟨Lf, 0, none⟩ (.int .i64 ((left - 1 : Nat) : Int))).alloc (.cells #[.int .i64 l.kind, .string (str l.name), .int .u64 l.num, .int .i64 l.wd, .bool l.sg, .int .i64 l.op, .int .i64 l.fac, .int .i64 l.pip, .int .i64 l.unr, .int .i64 l.line, .slice x ks.length k] 28)).heap.size = w.heap.size + 1 := by rw [← hsz]; simp
        rw [hz2] at hBk
        exact ⟨hBk.cell 0, by omega, by rw [← hz2]; simp⟩
      have HC := Lib.hid (contains_kids H (by omega) (left - 1) (by omega) ks x k (by unfold maxLen at hkm ⊢; omega) (w.heap.size + 1) _ HK.out HS2.out HB5.out.1 HB5.out.2)
      have hlvs : lv + 1 - 1 = lv := by omega
      rw [hlvs]
      have HCA := Lib.hid hcast
      clear hT hS hkids H ih hcs hsw hst HK HB5 HS2 hcast hsz hlvs h0 hnk hkm
      generalize wIns (left - 1) lv ks = W2 at *
      generalize ks.length = N at *
      obtain ⟨b, l3⟩ := W2
      generalize ((left - 1 : Nat) : Int) = lm at *
      have hca := HCA.out
      go_enter Tryz.func59, Tryz.ntmps59
      go_wp2_with fail
      refine HC.out.mono ?_
      rintro e w1 ⟨rfl, hs, hst⟩
      have H1 := Lib.hid (And.intro hs (St.trans HST.out hst))
      clear hs hst
      go_wp2
      go_ret
      exact ⟨by cases b <;> rfl, H1.out.1, H1.out.2⟩

set_option maxHeartbeats 1000000 in
set_option maxRecDepth 100000 in
theorem within_any (t : Tree) (l : Lab) (x : Option Addr) (n k : Nat) (w : World) (hT : TreeAt w (fun _ => True) [.int .i64 l.kind, .string (str l.name), .int .u64 l.num, .int .i64 l.wd, .bool l.sg, .int .i64 l.op, .int .i64 l.fac, .int .i64 l.pip, .int .i64 l.unr, .int .i64 l.line, .slice x n k] t) :
    Calls Tryz.prog 31 #[.agg #[.int .i64 l.kind, .string (str l.name), .int .u64 l.num, .int .i64 l.wd, .bool l.sg, .int .i64 l.op, .int .i64 l.fac, .int .i64 l.pip, .int .i64 l.unr, .int .i64 l.line, .slice x n k]] w fun e w' => e = .returned (.bool (decide (count t ≤ 20000 ∧ depth t ≤ 200))) ∧ Below w.heap.size w w' := by
  have hW := (wIn_iff 20000 200 t).1
  have hb : (wIn 20000 200 t).1 = decide (count t ≤ 20000 ∧ depth t ≤ 200) := by
    rw [Bool.eq_iff_iff, hW, decide_eq_true_iff]
  rw [← hb]
  have HB := Lib.hid ((((Below.refl w.heap.size w).alloc (Nat.le_refl _) (.cells #[.int .i64 l.kind, .string (str l.name), .int .u64 l.num, .int .i64 l.wd, .bool l.sg, .int .i64 l.op, .int .i64 l.fac, .int .i64 l.pip, .int .i64 l.unr, .int .i64 l.line, .slice x n k] 28)).alloc (by simp) (.cells #[.int .i64 20000] 3)).alloc (by simp; omega) (.cells #[.func (Fn.func 59) #[] #[.pointer (some ⟨w.heap.size + 1, 0, none⟩), .pointer (some ⟨w.heap.size + 1 + 1, 0, none⟩)]] 82))
  have hz1 : (w.alloc (.cells #[.int .i64 l.kind, .string (str l.name), .int .u64 l.num, .int .i64 l.wd, .bool l.sg, .int .i64 l.op, .int .i64 l.fac, .int .i64 l.pip, .int .i64 l.unr, .int .i64 l.line, .slice x n k] 28)).heap.size = w.heap.size + 1 := by simp
  have hz2 : ((w.alloc (.cells #[.int .i64 l.kind, .string (str l.name), .int .u64 l.num, .int .i64 l.wd, .bool l.sg, .int .i64 l.op, .int .i64 l.fac, .int .i64 l.pip, .int .i64 l.unr, .int .i64 l.line, .slice x n k] 28)).alloc (.cells #[.int .i64 20000] 3)).heap.size = w.heap.size + 1 + 1 := by simp
  have hT3 : TW (((w.alloc (.cells #[.int .i64 l.kind, .string (str l.name), .int .u64 l.num, .int .i64 l.wd, .bool l.sg, .int .i64 l.op, .int .i64 l.fac, .int .i64 l.pip, .int .i64 l.unr, .int .i64 l.line, .slice x n k] 28)).alloc (.cells #[.int .i64 20000] 3)).alloc (.cells #[.func (Fn.func 59) #[] #[.pointer (some ⟨w.heap.size + 1, 0, none⟩), .pointer (some ⟨w.heap.size + 1 + 1, 0, none⟩)]] 82)) (w.heap.size + 1) [.int .i64 l.kind, .string (str l.name), .int .u64 l.num, .int .i64 l.wd, .bool l.sg, .int .i64 l.op, .int .i64 l.fac, .int .i64 l.pip, .int .i64 l.unr, .int .i64 l.line, .slice x n k] t :=
    hT.keep (fun g _ hl => HB.out.block g hl) fun g _ hl => by omega
  have hS3 : WS (((w.alloc (.cells #[.int .i64 l.kind, .string (str l.name), .int .u64 l.num, .int .i64 l.wd, .bool l.sg, .int .i64 l.op, .int .i64 l.fac, .int .i64 l.pip, .int .i64 l.unr, .int .i64 l.line, .slice x n k] 28)).alloc (.cells #[.int .i64 20000] 3)).alloc (.cells #[.func (Fn.func 59) #[] #[.pointer (some ⟨w.heap.size + 1, 0, none⟩), .pointer (some ⟨w.heap.size + 1 + 1, 0, none⟩)]] 82)) (w.heap.size + 1) (w.heap.size + 1 + 1) 20000 := by
    have b1 := Blk.alloc (w.alloc (.cells #[.int .i64 l.kind, .string (str l.name), .int .u64 l.num, .int .i64 l.wd, .bool l.sg, .int .i64 l.op, .int .i64 l.fac, .int .i64 l.pip, .int .i64 l.unr, .int .i64 l.line, .slice x n k] 28)) 3 [.int .i64 20000]
    rw [hz1] at b1
    have b2 := b1.alloc_other (.cells #[.func (Fn.func 59) #[] #[.pointer (some ⟨w.heap.size + 1, 0, none⟩), .pointer (some ⟨w.heap.size + 1 + 1, 0, none⟩)]] 82)
    have b3 := Blk.alloc ((w.alloc (.cells #[.int .i64 l.kind, .string (str l.name), .int .u64 l.num, .int .i64 l.wd, .bool l.sg, .int .i64 l.op, .int .i64 l.fac, .int .i64 l.pip, .int .i64 l.unr, .int .i64 l.line, .slice x n k] 28)).alloc (.cells #[.int .i64 20000] 3)) 82 [.func (Fn.func 59) #[] #[.pointer (some ⟨w.heap.size + 1, 0, none⟩), .pointer (some ⟨w.heap.size + 1 + 1, 0, none⟩)]]
    rw [hz2] at b3
    exact ⟨b2.cell 0, b2.frozen 0, b3.cell 0, b2.lt, b3.lt⟩
  have HC := Lib.hid (walk_all (w.heap.size + 1) (w.heap.size + 1 + 1) (by omega) 200 (Nat.le_refl _) 20000 t l x n k _ (Nat.le_refl _) hT3 hS3)
  clear hT hT3 hS3 hW hb hz1 hz2
  generalize (wIn 20000 200 t) = W2 at *
  obtain ⟨b, l3⟩ := W2
  go_enter Tryz.func31, Tryz.ntmps31
  go_wp2_with fail
  refine HC.out.mono ?_
  rintro e w1 ⟨rfl, hs, hst⟩
  have H1 : Hid (Below w.heap.size w w1) := Lib.hid ⟨hst.os.trans HB.out.os, hst.tape.trans HB.out.tape, hst.output.trans HB.out.output, Nat.le_trans HB.out.size hst.size, fun g hg => (hst.block g (Nat.lt_of_lt_of_le hg HB.out.size) (fun e => by injection e with e; omega)).trans (HB.out.block g hg)⟩
  clear hs hst
  go_wp2
  go_ret
  exact ⟨rfl, H1.out⟩
end Go.Proofs.YtfnhogeocbndcaaGreatDoor
/- crowded: contract. -/
namespace Go.Proofs.YtfnhogeocbndcaaGreatDoor
open Go Go.RowKit
set_option linter.unusedVariables false

theorem crowd_nil (o : Nat) : crowd o [] = 0 := by rw [crowd]
theorem crowd_cons (o : Nat) (t : Tok) (r : List Tok) : crowd o (t :: r) = if 200 < opens o t then t.line else crowd (opens o t) r := by rw [crowd]
theorem drop_tat' {ts : List Tok} {i : Nat} (h : i < ts.length) : ts.drop i = tat ts i :: ts.drop (i + 1) := by rw [tat_get h]; exact List.drop_eq_getElem_cons h
theorem text_bytes (t u : List UInt8) : ((str t).toList == u) = decide (t = u) := by
  rw [← str_toList u, str_eq, str_toList, decide_eq_decide]
  exact ⟨str_inj, fun h => by rw [h]⟩
/-- How far the loop has come. -/
structure CrSt (ts : List Tok) (Z : Nat) (w wr : World) (o k : Nat) : Prop where
  eq : Z = crowd o (ts.drop k)
  bel : Below w.heap.size w wr
  le : o ≤ 200

set_option maxHeartbeats 2000000 in
set_option maxRecDepth 100000 in
theorem crowded_any (ts : List Tok) (g c : Nat) (hlen : ts.length ≤ 65536) (hl : ∀ t ∈ ts, t.line ≤ 1000000) (w : World) (hT : TkIn w g ts) :
    Calls Tryz.prog 29 #[.slice (some ⟨g, 0, none⟩) ts.length c] w fun e w' => e = .returned (.int .i64 (crowd 0 ts : Int)) ∧ Below w.heap.size w w' := by
  obtain ⟨Z, hZ⟩ : ∃ Z, Z = crowd 0 ts := ⟨_, rfl⟩
  rw [← hZ]
  have h0 : Hid (CrSt ts Z w w 0 0) := ⟨hZ, Below.refl _ _, by omega⟩
  have HT := Lib.hid hT
  have HL := Lib.hid hl
  clear hZ hT hl
  generalize hN : ts.length = N at *
  have HN := Lib.hid hN
  clear hN
  go_enter Tryz.func29, Tryz.ntmps29
  go_wp2
  go_loopw [3, 8] (fun o i wr => ∃ p k : Nat, k ≤ N ∧ o = .int .i64 (p : Int) ∧ i = .int .i64 (k : Int) ∧ Hid (CrSt ts Z w wr p k)) (fun _ i _ => N - (intOf i).toNat)
  case atStart => exact ⟨0, 0, by omega, rfl, rfl, h0⟩
  case round =>
    clear h0
    obtain ⟨p, k, hk, rfl, rfl, hX⟩ := hrel
    by_cases hkn : k < N
    · have hkl : k < ts.length := by rw [HN.out]; exact hkn
      obtain ⟨d0, d1, d2, d3, d4⟩ := (HT.out.below hX.out.bel HT.out.1).2 k hkl
      have HB := Lib.hid (hX.out.bel.alloc hX.out.bel.size (.cells #[.int .i64 ((tat ts k).kind : Int), .string (str (tat ts k).text), .int .u64 ((tat ts k).num : Int), .int .i64 ((tat ts k).pos : Int), .int .i64 ((tat ts k).line : Int)] 53))
      have hle := hX.out.le
      have hZ : Hid (Z = if 200 < opens p (tat ts k) then (tat ts k).line else crowd (opens p (tat ts k)) (ts.drop (k + 1))) := Lib.hid (by rw [hX.out.eq, drop_tat' hkl, crowd_cons])
      have hop : opens p (tat ts k) = if isOpen (tat ts k).text then p + 1 else if isShut (tat ts k).text then p - 1 else p := rfl
      have hz := text_bytes (tat ts k).text
      have hm : max ((p : Int) - 1) 0 = ((p - 1 : Nat) : Int) := by omega
      generalize (tat ts k).text = tx at *
      generalize ((tat ts k).line) = ln9 at *
      generalize ((tat ts k).kind : Int) = n1 at *
      generalize ((tat ts k).num : Int) = n2 at *
      generalize ((tat ts k).pos : Int) = n3 at *
      generalize opens p (tat ts k) = o2 at *
      by_cases g0 : tx = [40]
      · have q0 : ((str tx).toList == [40]) = true := by rw [hz]; rw [g0]; rfl
        have q1 : ((str tx).toList == [91]) = false := by rw [hz]; rw [g0]; decide
        have q2 : ((str tx).toList == [123]) = false := by rw [hz]; rw [g0]; decide
        have q3 : ((str tx).toList == [41]) = false := by rw [hz]; rw [g0]; decide
        have q4 : ((str tx).toList == [93]) = false := by rw [hz]; rw [g0]; decide
        have q5 : ((str tx).toList == [125]) = false := by rw [hz]; rw [g0]; decide
        have ho : o2 = p + 1 := by rw [hop, g0]; rfl
        have hov : (p : Int) + 1 = ((p + 1 : Nat) : Int) := by omega
        subst ho
        clear hop hz g0
        by_cases hbig : 200 < p + 1
        · have hz2 : Z = ln9 := by rw [hZ.out, if_pos hbig]
          subst hz2
          have qb : (200 : Int) < (p : Int) + 1 := by omega
          clear hZ hm hov
          go_wp2
          go_ret
          exact ⟨rfl, HB.out⟩
        · have HX : Hid (CrSt ts Z w _ (p + 1) (k + 1)) := Lib.hid ⟨by rw [hZ.out, if_neg hbig], HB.out, by omega⟩
          have qb : (p : Int) + 1 ≤ 200 := by omega
          clear hZ hm hov
          go_wp2
          go_roundw
          case rel => exact ⟨p + 1, k + 1, by omega, by go_num, by go_num, HX⟩
          case measure => simp [intOf]; omega
      by_cases g1 : tx = [91]
      · have q0 : ((str tx).toList == [40]) = false := by rw [hz]; rw [g1]; decide
        have q1 : ((str tx).toList == [91]) = true := by rw [hz]; rw [g1]; rfl
        have q2 : ((str tx).toList == [123]) = false := by rw [hz]; rw [g1]; decide
        have q3 : ((str tx).toList == [41]) = false := by rw [hz]; rw [g1]; decide
        have q4 : ((str tx).toList == [93]) = false := by rw [hz]; rw [g1]; decide
        have q5 : ((str tx).toList == [125]) = false := by rw [hz]; rw [g1]; decide
        have ho : o2 = p + 1 := by rw [hop, g1]; rfl
        have hov : (p : Int) + 1 = ((p + 1 : Nat) : Int) := by omega
        subst ho
        clear hop hz g0 g1
        by_cases hbig : 200 < p + 1
        · have hz2 : Z = ln9 := by rw [hZ.out, if_pos hbig]
          subst hz2
          have qb : (200 : Int) < (p : Int) + 1 := by omega
          clear hZ hm hov
          go_wp2
          go_ret
          exact ⟨rfl, HB.out⟩
        · have HX : Hid (CrSt ts Z w _ (p + 1) (k + 1)) := Lib.hid ⟨by rw [hZ.out, if_neg hbig], HB.out, by omega⟩
          have qb : (p : Int) + 1 ≤ 200 := by omega
          clear hZ hm hov
          go_wp2
          go_roundw
          case rel => exact ⟨p + 1, k + 1, by omega, by go_num, by go_num, HX⟩
          case measure => simp [intOf]; omega
      by_cases g2 : tx = [123]
      · have q0 : ((str tx).toList == [40]) = false := by rw [hz]; rw [g2]; decide
        have q1 : ((str tx).toList == [91]) = false := by rw [hz]; rw [g2]; decide
        have q2 : ((str tx).toList == [123]) = true := by rw [hz]; rw [g2]; rfl
        have q3 : ((str tx).toList == [41]) = false := by rw [hz]; rw [g2]; decide
        have q4 : ((str tx).toList == [93]) = false := by rw [hz]; rw [g2]; decide
        have q5 : ((str tx).toList == [125]) = false := by rw [hz]; rw [g2]; decide
        have ho : o2 = p + 1 := by rw [hop, g2]; rfl
        have hov : (p : Int) + 1 = ((p + 1 : Nat) : Int) := by omega
        subst ho
        clear hop hz g0 g1 g2
        by_cases hbig : 200 < p + 1
        · have hz2 : Z = ln9 := by rw [hZ.out, if_pos hbig]
          subst hz2
          have qb : (200 : Int) < (p : Int) + 1 := by omega
          clear hZ hm hov
          go_wp2
          go_ret
          exact ⟨rfl, HB.out⟩
        · have HX : Hid (CrSt ts Z w _ (p + 1) (k + 1)) := Lib.hid ⟨by rw [hZ.out, if_neg hbig], HB.out, by omega⟩
          have qb : (p : Int) + 1 ≤ 200 := by omega
          clear hZ hm hov
          go_wp2
          go_roundw
          case rel => exact ⟨p + 1, k + 1, by omega, by go_num, by go_num, HX⟩
          case measure => simp [intOf]; omega
      by_cases g3 : tx = [41]
      · have q0 : ((str tx).toList == [40]) = false := by rw [hz]; rw [g3]; decide
        have q1 : ((str tx).toList == [91]) = false := by rw [hz]; rw [g3]; decide
        have q2 : ((str tx).toList == [123]) = false := by rw [hz]; rw [g3]; decide
        have q3 : ((str tx).toList == [41]) = true := by rw [hz]; rw [g3]; rfl
        have q4 : ((str tx).toList == [93]) = false := by rw [hz]; rw [g3]; decide
        have q5 : ((str tx).toList == [125]) = false := by rw [hz]; rw [g3]; decide
        have ho : o2 = p - 1 := by rw [hop, g3]; rfl
        subst ho
        clear hop hz g0 g1 g2 g3
        have hp1 : (((p - 1 : Nat) : Nat) : Int) ≤ 200 := by omega
        have HX : Hid (CrSt ts Z w _ (p - 1) (k + 1)) := Lib.hid ⟨by rw [hZ.out, if_neg (by omega)], HB.out, by omega⟩
        clear hZ
        go_wp2
        go_roundw
        case rel => exact ⟨p - 1, k + 1, by omega, by first | rfl | (rw [hm]) | go_num, by go_num, HX⟩
        case measure => simp [intOf]; omega
      by_cases g4 : tx = [93]
      · have q0 : ((str tx).toList == [40]) = false := by rw [hz]; rw [g4]; decide
        have q1 : ((str tx).toList == [91]) = false := by rw [hz]; rw [g4]; decide
        have q2 : ((str tx).toList == [123]) = false := by rw [hz]; rw [g4]; decide
        have q3 : ((str tx).toList == [41]) = false := by rw [hz]; rw [g4]; decide
        have q4 : ((str tx).toList == [93]) = true := by rw [hz]; rw [g4]; rfl
        have q5 : ((str tx).toList == [125]) = false := by rw [hz]; rw [g4]; decide
        have ho : o2 = p - 1 := by rw [hop, g4]; rfl
        subst ho
        clear hop hz g0 g1 g2 g3 g4
        have hp1 : (((p - 1 : Nat) : Nat) : Int) ≤ 200 := by omega
        have HX : Hid (CrSt ts Z w _ (p - 1) (k + 1)) := Lib.hid ⟨by rw [hZ.out, if_neg (by omega)], HB.out, by omega⟩
        clear hZ
        go_wp2
        go_roundw
        case rel => exact ⟨p - 1, k + 1, by omega, by first | rfl | (rw [hm]) | go_num, by go_num, HX⟩
        case measure => simp [intOf]; omega
      by_cases g5 : tx = [125]
      · have q0 : ((str tx).toList == [40]) = false := by rw [hz]; rw [g5]; decide
        have q1 : ((str tx).toList == [91]) = false := by rw [hz]; rw [g5]; decide
        have q2 : ((str tx).toList == [123]) = false := by rw [hz]; rw [g5]; decide
        have q3 : ((str tx).toList == [41]) = false := by rw [hz]; rw [g5]; decide
        have q4 : ((str tx).toList == [93]) = false := by rw [hz]; rw [g5]; decide
        have q5 : ((str tx).toList == [125]) = true := by rw [hz]; rw [g5]; rfl
        have ho : o2 = p - 1 := by rw [hop, g5]; rfl
        subst ho
        clear hop hz g0 g1 g2 g3 g4 g5
        have hp1 : (((p - 1 : Nat) : Nat) : Int) ≤ 200 := by omega
        have HX : Hid (CrSt ts Z w _ (p - 1) (k + 1)) := Lib.hid ⟨by rw [hZ.out, if_neg (by omega)], HB.out, by omega⟩
        clear hZ
        go_wp2
        go_roundw
        case rel => exact ⟨p - 1, k + 1, by omega, by first | rfl | (rw [hm]) | go_num, by go_num, HX⟩
        case measure => simp [intOf]; omega
      have q0 : ((str tx).toList == [40]) = false := by rw [hz]; simp [g0]
      have q1 : ((str tx).toList == [91]) = false := by rw [hz]; simp [g1]
      have q2 : ((str tx).toList == [123]) = false := by rw [hz]; simp [g2]
      have q3 : ((str tx).toList == [41]) = false := by rw [hz]; simp [g3]
      have q4 : ((str tx).toList == [93]) = false := by rw [hz]; simp [g4]
      have q5 : ((str tx).toList == [125]) = false := by rw [hz]; simp [g5]
      have ho : p = o2 := by rw [hop]; simp [isOpen, isShut, g0, g1, g2, g3, g4, g5]
      subst ho
      clear hop hz g0 g1 g2 g3 g4 g5
      have hp1 : (p : Int) ≤ 200 := by omega
      have HX : Hid (CrSt ts Z w _ (p) (k + 1)) := Lib.hid ⟨by rw [hZ.out, if_neg (by omega)], HB.out, by omega⟩
      clear hm
      clear hZ
      go_wp2
      go_roundw
      case rel => exact ⟨p, k + 1, by omega, by first | rfl | (rw [hm]) | go_num, by go_num, HX⟩
      case measure => simp [intOf]; omega
    · have hz : Z = 0 := by rw [hX.out.eq, List.drop_of_length_le (by rw [HN.out]; omega), crowd_nil]
      subst hz
      go_wp2
      go_ret
      exact ⟨rfl, hX.out.bel⟩
end Go.Proofs.YtfnhogeocbndcaaGreatDoor
/- Numbers of base 2, 10 and 16: mathematics, and contracts of the library's ParseUint at digits alone. -/
namespace Go.Proofs.YtfnhogeocbndcaaGreatDoor
open Go Go.RowKit
set_option linter.unusedVariables false

/-- The number that digits spell, none if it is 2 to the 64 or more. -/
def parseB (base : Nat) : Nat → List UInt8 → Option Nat
  | acc, [] => some acc
  | acc, c :: r => if 18446744073709551616 ≤ acc * base + dv c then none else parseB base (acc * base + dv c) r
theorem fold_ge {base : Nat} (hb : 1 ≤ base) : ∀ (l : List UInt8) (acc : Nat), acc ≤ l.foldl (fun n b => n * base + dv b) acc := by
  intro l
  induction l with
  | nil => intro acc; exact Nat.le_refl _
  | cons c r ih =>
    intro acc
    have h1 : acc * 1 ≤ acc * base := Nat.mul_le_mul_left acc hb
    exact Nat.le_trans (by omega) (ih (acc * base + dv c))
theorem parseB_is {base : Nat} (hb : 1 ≤ base) : ∀ (l : List UInt8) (acc : Nat), acc < 18446744073709551616 → parseB base acc l = if 18446744073709551616 ≤ l.foldl (fun n b => n * base + dv b) acc then none else some (l.foldl (fun n b => n * base + dv b) acc) := by
  intro l
  induction l with
  | nil => intro acc h; rw [parseB]; show _ = if 18446744073709551616 ≤ acc then none else some acc; rw [if_neg (by omega)]
  | cons c r ih =>
    intro acc h
    rw [parseB, List.foldl_cons]
    by_cases h2 : 18446744073709551616 ≤ acc * base + dv c
    · have := fold_ge hb r (acc * base + dv c)
      rw [if_pos h2, if_pos (by omega)]
    · rw [if_neg h2]
      exact ih _ (by omega)
theorem parseB_num {base : Nat} (hb : 1 ≤ base) (l : List UInt8) : parseB base 0 l = if 18446744073709551616 ≤ numVal base l then none else some (numVal base l) := parseB_is hb l 0 (by omega)

theorem or_hex : ∀ b : UInt8, dv b < 16 → ¬ (48 ≤ b.toNat ∧ b.toNat ≤ 57) → bits .or .u8 ((b.toNat : Nat) : Int) 32 = ((dv b + 87 : Nat) : Int) := by
  intro b h1 h2
  have := all_u8 (fun b => !(decide (dv b < 16) && !(decide (48 ≤ b.toNat ∧ b.toNat ≤ 57))) || decide (bits .or .u8 ((b.toNat : Nat) : Int) 32 = ((dv b + 87 : Nat) : Int))) (by decide +kernel) b
  rw [decide_eq_true h1, decide_eq_false h2] at this
  simpa using this
theorem lower_any (b : UInt8) (h1 : dv b < 16) (h2 : ¬ (48 ≤ b.toNat ∧ b.toNat ≤ 57)) (w : World) : Calls Tryz.prog 169 #[.int .u8 (b.toNat : Int)] w fun e w' => e = .returned (.int .u8 ((dv b : Nat) + 87 : Int)) ∧ w = w' :=
  (Tryz.internal_strconv_lower (b.toNat : Int) w).mono fun e w' ⟨he, hw⟩ => ⟨by rw [he, or_hex b h1 h2]; rfl, hw.symm⟩
/-- What the library's inner function returns. -/
def parsed : Option Nat → Value
  | some n => .tuple #[.int .u64 (n : Int), .nilIface]
  | none => .tuple #[.int .u64 18446744073709551615, .iface 149 (.int .i64 1)]

set_option maxHeartbeats 32000000 in
set_option maxRecDepth 100000 in
theorem parse16_any (t : ByteArray) (hne : t.size ≠ 0) (hmax : t.size ≤ 9223372036854775806) (hd : ∀ c ∈ t.data.toList, dv c < 16) (w : World) :
    Calls Tryz.prog 151 #[.string t, .int .i64 16, .int .i64 64] w fun e w' => e = .returned (parsed (parseB 16 0 t.data.toList)) ∧ w' = Lib.bytesWorld w 5 t := by
  have hemp : t.toList.isEmpty = false := by
    rw [← decide_eq_emptyBytes]
    exact decide_eq_false (fun h => hne (by rw [h]; rfl))
  have hcv := Lib.run_convert_string_bytes (P := Tryz.prog) w 9 63 5 t (u := .string) Tryz.underlying9 Tryz.underlying63 Tryz.underlying5
  have hB : ∀ j, j < t.size → (Lib.bytesWorld w 5 t).cell? ⟨w.heap.size, j, none⟩ = some (.int .u8 (t.data.toList.getD j 0).toNat) := fun j hj => Lib.bytesWorld_cell w 5 t j hj
  obtain ⟨W1, hW1⟩ : ∃ W1, W1 = Lib.bytesWorld w 5 t := ⟨_, rfl⟩
  rw [← hW1] at hcv hB ⊢
  clear hW1
  obtain ⟨bs, hL⟩ : ∃ bs, bs = t.data.toList := ⟨_, rfl⟩
  have hLn : bs.length = t.size := by rw [hL, Lib.size_eq]
  rw [← hL] at hB hd ⊢
  clear hL
  have hmv : IntKind.u64.wrap (IntKind.u64.wrap 18446744073709551616 - 1) = 18446744073709551615 := by
    rw [IntKind.wrap_u64, IntKind.wrap_u64]
    decide
  have HD := Lib.hid hd
  clear hd
  go_enter Tryz.func151, Tryz.ntmps151
  go_wp2
  go_loop [12, 13, 101] (fun vu vn vi => ∃ (k acc : Nat) (a : Int), vu = .bool false ∧ vn = .int .u64 a ∧ vi = .int .i64 k ∧ k ≤ t.size ∧ Hid (a = (acc : Int) ∧ acc < 18446744073709551616 ∧ parseB 16 0 bs = parseB 16 acc (bs.drop k)))
    (fun _ _ vi => t.size - (intOf vi).toNat)
  case atStart => exact ⟨0, 0, 0, rfl, rfl, rfl, by omega, rfl, by omega, rfl⟩
  case round =>
    obtain ⟨k, acc, a, rfl, rfl, rfl, hk, hh⟩ := hrel
    obtain ⟨ha, hacc, hdec⟩ := hh.out
    clear hh
    have a0 : 0 ≤ a := by omega
    have a1 : a < 18446744073709551616 := by omega
    by_cases hkn : k < t.size
    · have hc := hB k hkn
      have hdrop : bs.drop k = bs[k]'(by omega) :: bs.drop (k + 1) := List.drop_eq_getElem_cons (by omega)
      have hget : bs.getD k 0 = bs[k]'(by omega) := by simp [List.getD, List.getElem?_eq_getElem (show k < bs.length by omega)]
      have hdv := HD.out (bs[k]'(by omega)) (List.getElem_mem _)
      rw [hdrop] at hdec
      rw [hget] at hc
      generalize bs[k]'(by omega) = c at hc hdec hdv
      have hc256 : c.toNat < 256 := c.toNat_lt
      clear hB hdrop hget
      have HPN := Lib.hid fun (h : 18446744073709551616 ≤ acc * 16 + dv c) => (show parseB 16 acc (c :: bs.drop (k + 1)) = none by rw [parseB, if_pos h])
      have HPS := Lib.hid fun (h : ¬ 18446744073709551616 ≤ acc * 16 + dv c) => (show parseB 16 acc (c :: bs.drop (k + 1)) = parseB 16 (acc * 16 + dv c) (bs.drop (k + 1)) by rw [parseB, if_neg h])
      by_cases hdig : 48 ≤ c.toNat ∧ c.toNat ≤ 57
      · have hdvc : dv c = c.toNat - 48 := by unfold dv; rw [if_pos hdig]
        obtain ⟨hd0, hd1⟩ := hdig
        have hdl : c.toNat < 48 + dv c + 1 := by omega
        have hdm : c.toNat ≤ 48 + (16 - 1) := by omega
        clear hdl
        by_cases hov : 18446744073709551616 ≤ acc * 16 + dv c
        · have hF : parseB 16 acc (c :: bs.drop (k + 1)) = none := by rw [parseB, if_pos hov]
          rw [hF] at hdec
          have icut : 1152921504606846976 ≤ a := by omega
          clear hacc hF ha hov hdvc hdv
          go_wp2
          go_ret2
          exact ⟨rfl, rfl⟩
        · have hF : parseB 16 acc (c :: bs.drop (k + 1)) = parseB 16 (acc * 16 + dv c) (bs.drop (k + 1)) := by rw [parseB, if_neg hov]
          have HN : Hid (a * 16 + ((c.toNat : Int) - 48) = ((acc * 16 + dv c : Nat) : Int) ∧ acc * 16 + dv c < 18446744073709551616 ∧ parseB 16 0 bs = parseB 16 (acc * 16 + dv c) (bs.drop (k + 1))) := Lib.hid ⟨by omega, by omega, hdec.trans hF⟩
          have icut : a < 1152921504606846976 := by omega
          have iov : a * 16 + ((c.toNat : Int) - 48) < 18446744073709551616 := by omega
          clear hacc hF hov hdec ha hdvc hdv
          go_wp2
          refine ⟨⟨k + 1, acc * 16 + dv c, a * 16 + ((c.toNat : Int) - 48), rfl, (by first | rfl | (congr 1; omega)), (by first | rfl | (congr 1; omega)), by omega, HN⟩, by simp [intOf]; omega⟩
      · have h95 : (((c.toNat : Nat) : Int) == 95) = false := by
          have : c.toNat ≠ 95 := by
            unfold dv at hdv
            split at hdv
            · contradiction
            · split at hdv
              · omega
              · split at hdv <;> omega
          simp
          omega
        have hhex : 58 ≤ c.toNat ∧ 10 ≤ dv c := by
          unfold dv at hdv ⊢
          split at hdv
          · contradiction
          · split at hdv
            · rename_i h1 h2; rw [if_neg h1, if_pos h2]; omega
            · split at hdv
              · rename_i h1 h2 h3; rw [if_neg h1, if_neg h2, if_pos h3]; omega
              · omega
        have h58 := hhex.1
        have h10 := hhex.2
        have HLW := Lib.hid fun W => lower_any c hdv hdig W
        clear hhex hdig
        generalize dv c = d at *
        by_cases hov : 18446744073709551616 ≤ acc * 16 + d
        · have hF : parseB 16 acc (c :: bs.drop (k + 1)) = none := HPN.out hov
          rw [hF] at hdec
          have icut : 1152921504606846976 ≤ a := by omega
          clear hacc hF ha hov HPN HPS
          go_wp2_with (go_at_call 169; refine (HLW.out _).mono ?_; rintro e w' ⟨rfl, rfl⟩)
          go_ret2
          exact ⟨by rw [hdec]; rfl, rfl⟩
        · have hF : parseB 16 acc (c :: bs.drop (k + 1)) = parseB 16 (acc * 16 + d) (bs.drop (k + 1)) := HPS.out hov
          have HN : Hid (a * 16 + (d : Int) = ((acc * 16 + d : Nat) : Int) ∧ acc * 16 + d < 18446744073709551616 ∧ parseB 16 0 bs = parseB 16 (acc * 16 + d) (bs.drop (k + 1))) := Lib.hid ⟨by omega, by omega, hdec.trans hF⟩
          have icut : a < 1152921504606846976 := by omega
          have iov : a * 16 + (d : Int) < 18446744073709551616 := by omega
          clear hacc hF hov hdec ha HPN HPS
          go_wp2_with (go_at_call 169; refine (HLW.out _).mono ?_; rintro e w' ⟨rfl, rfl⟩)
          refine ⟨⟨k + 1, acc * 16 + d, a * 16 + (d : Int), rfl, (by first | rfl | (congr 1; omega)), (by first | rfl | (congr 1; omega)), by omega, HN⟩, by simp [intOf]; omega⟩
    · have hkk : k = t.size := by omega
      subst hkk
      have hF : parseB 16 acc (bs.drop t.size) = some acc := by rw [List.drop_eq_nil_of_le (by omega)]; rfl
      rw [hF] at hdec
      subst ha
      clear hacc hF a0 a1
      go_wp2
      go_ret2
      exact ⟨rfl, rfl⟩

theorem parse10_same : ∀ (l : List UInt8), (∀ c ∈ l, dv c < 10) → ∀ acc, Lib.uintTuple 149 (Lib.parseUint10 acc l) = parsed (parseB 10 acc l) := by
  intro l
  induction l with
  | nil => intro _ acc; rfl
  | cons c r ih =>
    intro h acc
    have hc := h c (by simp)
    have hr : ∀ x ∈ r, dv x < 10 := fun x hx => h x (List.mem_cons_of_mem _ hx)
    have hd : 48 ≤ c.toNat ∧ c.toNat ≤ 57 ∧ dv c = c.toNat - 48 := by
      unfold dv at hc ⊢
      split at hc
      · rename_i h1; rw [if_pos h1]; omega
      · split at hc
        · omega
        · split at hc <;> omega
    rw [Lib.parseUint10, parseB, if_pos ⟨hd.1, hd.2.1⟩, hd.2.2]
    by_cases h1 : 1844674407370955162 ≤ acc
    · rw [if_pos h1, if_pos (by omega)]; rfl
    · rw [if_neg h1]
      by_cases h2 : 18446744073709551616 ≤ acc * 10 + (c.toNat - 48)
      · rw [if_pos h2, if_pos h2]; rfl
      · rw [if_neg h2, if_neg h2]
        exact ih hr _

set_option maxHeartbeats 32000000 in
set_option maxRecDepth 100000 in
theorem parse2_any (t : ByteArray) (hne : t.size ≠ 0) (hmax : t.size ≤ 9223372036854775806) (hd : ∀ c ∈ t.data.toList, dv c < 2) (w : World) :
    Calls Tryz.prog 151 #[.string t, .int .i64 2, .int .i64 64] w fun e w' => e = .returned (parsed (parseB 2 0 t.data.toList)) ∧ w' = Lib.bytesWorld w 5 t := by
  have hemp : t.toList.isEmpty = false := by
    rw [← decide_eq_emptyBytes]
    exact decide_eq_false (fun h => hne (by rw [h]; rfl))
  have hcv := Lib.run_convert_string_bytes (P := Tryz.prog) w 9 63 5 t (u := .string) Tryz.underlying9 Tryz.underlying63 Tryz.underlying5
  have hB : ∀ j, j < t.size → (Lib.bytesWorld w 5 t).cell? ⟨w.heap.size, j, none⟩ = some (.int .u8 (t.data.toList.getD j 0).toNat) := fun j hj => Lib.bytesWorld_cell w 5 t j hj
  obtain ⟨W1, hW1⟩ : ∃ W1, W1 = Lib.bytesWorld w 5 t := ⟨_, rfl⟩
  rw [← hW1] at hcv hB ⊢
  clear hW1
  obtain ⟨bs, hL⟩ : ∃ bs, bs = t.data.toList := ⟨_, rfl⟩
  have hLn : bs.length = t.size := by rw [hL, Lib.size_eq]
  rw [← hL] at hB hd ⊢
  clear hL
  have hmv : IntKind.u64.wrap (IntKind.u64.wrap 18446744073709551616 - 1) = 18446744073709551615 := by
    rw [IntKind.wrap_u64, IntKind.wrap_u64]
    decide
  have HD := Lib.hid hd
  clear hd
  go_enter Tryz.func151, Tryz.ntmps151
  go_wp2
  go_loop [12, 13, 101] (fun vu vn vi => ∃ (k acc : Nat) (a : Int), vu = .bool false ∧ vn = .int .u64 a ∧ vi = .int .i64 k ∧ k ≤ t.size ∧ Hid (a = (acc : Int) ∧ acc < 18446744073709551616 ∧ parseB 2 0 bs = parseB 2 acc (bs.drop k)))
    (fun _ _ vi => t.size - (intOf vi).toNat)
  case atStart => exact ⟨0, 0, 0, rfl, rfl, rfl, by omega, rfl, by omega, rfl⟩
  case round =>
    obtain ⟨k, acc, a, rfl, rfl, rfl, hk, hh⟩ := hrel
    obtain ⟨ha, hacc, hdec⟩ := hh.out
    clear hh
    have a0 : 0 ≤ a := by omega
    have a1 : a < 18446744073709551616 := by omega
    by_cases hkn : k < t.size
    · have hc := hB k hkn
      have hdrop : bs.drop k = bs[k]'(by omega) :: bs.drop (k + 1) := List.drop_eq_getElem_cons (by omega)
      have hget : bs.getD k 0 = bs[k]'(by omega) := by simp [List.getD, List.getElem?_eq_getElem (show k < bs.length by omega)]
      have hdv := HD.out (bs[k]'(by omega)) (List.getElem_mem _)
      rw [hdrop] at hdec
      rw [hget] at hc
      generalize bs[k]'(by omega) = c at hc hdec hdv
      have hc256 : c.toNat < 256 := c.toNat_lt
      clear hB hdrop hget
      by_cases hdig : 48 ≤ c.toNat ∧ c.toNat ≤ 57
      · have hdvc : dv c = c.toNat - 48 := by unfold dv; rw [if_pos hdig]
        obtain ⟨hd0, hd1⟩ := hdig
        have hdl : c.toNat < 48 + dv c + 1 := by omega
        have hdm : c.toNat ≤ 48 + (2 - 1) := by omega
        clear hdl
        by_cases hov : 18446744073709551616 ≤ acc * 2 + dv c
        · have hF : parseB 2 acc (c :: bs.drop (k + 1)) = none := by rw [parseB, if_pos hov]
          rw [hF] at hdec
          have icut : 9223372036854775808 ≤ a := by omega
          clear hacc hF ha hov hdvc hdv
          go_wp2
          go_ret2
          exact ⟨rfl, rfl⟩
        · have hF : parseB 2 acc (c :: bs.drop (k + 1)) = parseB 2 (acc * 2 + dv c) (bs.drop (k + 1)) := by rw [parseB, if_neg hov]
          have HN : Hid (a * 2 + ((c.toNat : Int) - 48) = ((acc * 2 + dv c : Nat) : Int) ∧ acc * 2 + dv c < 18446744073709551616 ∧ parseB 2 0 bs = parseB 2 (acc * 2 + dv c) (bs.drop (k + 1))) := Lib.hid ⟨by omega, by omega, hdec.trans hF⟩
          have icut : a < 9223372036854775808 := by omega
          have iov : a * 2 + ((c.toNat : Int) - 48) < 18446744073709551616 := by omega
          clear hacc hF hov hdec ha hdvc hdv
          go_wp2
          refine ⟨⟨k + 1, acc * 2 + dv c, a * 2 + ((c.toNat : Int) - 48), rfl, (by first | rfl | (congr 1; omega)), (by first | rfl | (congr 1; omega)), by omega, HN⟩, by simp [intOf]; omega⟩
      · exfalso
        apply hdig
        unfold dv at hdv
        split at hdv
        · assumption
        · split at hdv
          · omega
          · split at hdv <;> omega
    · have hkk : k = t.size := by omega
      subst hkk
      have hF : parseB 2 acc (bs.drop t.size) = some acc := by rw [List.drop_eq_nil_of_le (by omega)]; rfl
      rw [hF] at hdec
      subst ha
      clear hacc hF a0 a1
      go_wp2
      go_ret2
      exact ⟨rfl, rfl⟩
end Go.Proofs.YtfnhogeocbndcaaGreatDoor
/- Keywords, words and punctuation: contracts of the code. -/
namespace Go.Proofs.YtfnhogeocbndcaaGreatDoor
open Go Go.RowKit
set_option linter.unusedVariables false

/-- Is the string one of a list? -/
def has (zs : List (List UInt8)) (x : ByteArray) : Bool := zs.contains x.data.toList
theorem strs_getD (zs : List (List UInt8)) (j : Nat) (h : j < zs.length) : (zs.map str).getD j ByteArray.empty = str zs[j] := by
  rw [List.getD, List.getElem?_map, List.getElem?_eq_getElem h]
  rfl
theorem contains_any (zs : List (List UInt8)) (g n : Nat) (t : TypeId) (x : ByteArray) (w : World) (hn : n = zs.length) (hb : n ≤ 1000) (hB : Blk w g t (zs.map fun l => .string (str l))) :
    Calls Tryz.prog 124 #[.slice (some ⟨g, 0, none⟩) n n, .string x] w fun e w' => e = .returned (.bool (has zs x)) ∧ w = w' := by
  subst hn
  refine (Tryz.slices_Contains_string g 0 zs.length zs.length (zs.map str) x w (by simp) (by omega) (fun j hj => ?_)).mono ?_
  · rw [List.length_map] at hj
    rw [Nat.zero_add, hB.cell j, List.getElem?_map, List.getElem?_eq_getElem hj, strs_getD zs j hj]
    rfl
  · rintro e w' ⟨rfl, rfl⟩
    refine ⟨?_, rfl⟩
    have : Lib.containsS ((zs.map str).take zs.length) x = has zs x := by
      rw [Bool.eq_iff_iff, Lib.containsS_iff]
      have e1 : (zs.map str).take zs.length = zs.map str := List.take_of_length_le (by simp)
      rw [e1, has, List.contains_iff_mem, List.mem_map]
      constructor
      · rintro ⟨a, ha, rfl⟩; exact ha
      · intro h; exact ⟨_, h, str_of x⟩
    rw [this]

set_option maxHeartbeats 2000000 in
set_option maxRecDepth 100000 in
theorem keyword_any (s : ByteArray) (hs : s.size ≤ 281474976710656) (w : World) (V : Vs w) : Calls Tryz.prog 126 #[.string s] w fun e w' =>
    e = .returned (.bool (isKey s.data.toList)) ∧ Below w.heap.size w w' := by
  have hK := Blk.alloc w 9 (keywords.map fun l => .string (str l))
  have hb := (Below.refl w.heap.size w).alloc (Nat.le_refl _) (.cells (keywords.map fun l => .string (str l)).toArray 9)
  have HT := Lib.hid fun W V => type_any s hs W V
  have HV := Lib.hid V
  have hik : isKey s.data.toList = (tyB s.data.toList || has keywords s) := by unfold isKey tyB has; rw [Bool.or_comm]
  rw [hik]
  clear V hik
  have HK := Lib.hid hK
  have HB := Lib.hid hb
  have hw : (w.alloc (.cells (keywords.map fun l => Value.string (str l)).toArray 9)).heap.size = w.heap.size + 1 := by simp
  have HW := Lib.hid hw
  clear hK hb hw
  obtain ⟨ty1, hty1⟩ : ∃ ty1, ty1 = (typeOf s.data.toList).1 := ⟨_, rfl⟩
  obtain ⟨ty2, hty2⟩ : ∃ ty2, ty2 = (typeOf s.data.toList).2 := ⟨_, rfl⟩
  rcases htb : tyB s.data.toList with _ | _
  all_goals
    go_enter Tryz.func126, Tryz.ntmps126
    go_wp2_with fail
    refine (HT.out _ (HV.out.below HB.out)).mono ?_
    rintro e w1 ⟨rfl, hb1⟩
    rw [htb]
    unfold tyV
    rw [← hty1, ← hty2]
    have hb1' : Below (w.heap.size + 1) (w.alloc (.cells (keywords.map fun l => Value.string (str l)).toArray 9)) w1 := by rw [← HW.out]; exact hb1
    have hK1 := HK.out.below hb1' (by omega)
    have hbb := HB.out.trans (hb1'.mono (by omega))
    have HK1 := Lib.hid hK1
    have HBB := Lib.hid hbb
    have hs1 := hK1.lt
    clear hb1 hb1' hK1 hbb HT HV hty1 hty2
  · have HC := Lib.hid fun W (h : Blk W w.heap.size 9 (keywords.map fun l => .string (str l))) => contains_any keywords w.heap.size 19 9 s W rfl (by omega) h
    go_wp2_with (go_at_call 124; refine (HC.out _ (HK1.out.alloc_other _)).mono ?_; rintro e w' ⟨rfl, rfl⟩)
    go_ret
    exact ⟨by simp, HBB.out.alloc (by omega) _⟩
  · go_wp2
    go_ret
    exact ⟨by simp, HBB.out.alloc (by omega) _⟩
end Go.Proofs.YtfnhogeocbndcaaGreatDoor
