/- The reference's Bare: contract. -/
import Derived.Test.YthdbaligapdbeaaGreatDoorMgPsWi
import Derived.Deep.CutBlock
namespace Go.Proofs.YthdbaligapdbeaaGreatDoor
open Go Go.RowKit
set_option linter.unusedVariables false

theorem len_counts : ∀ ks : List Tree, ks.length ≤ counts ks
 | [] => by simp
 | t :: r => by
  obtain ⟨l2, ks2⟩ := t
  have := len_counts r
  rw [counts, count, List.length_cons]
  omega
structure RbSt (w0 wr : World) (A : Nat) (cs : List Value) (vo : Value) (ks : List Tree) (j : Nat) : Prop where
 bs : BS w0 wr A cs
 kd : Kids wr (A + 2) vo ((bareTs ks).take j)
theorem rb_append {P : Program} {ops : Array Oper} {rest : List Oper} {o : Oper} {a : Act} {Q : Exit → Act → World → Prop} {w0 wr w7 : World} {A : Nat} {cs vs : List Value} {vo : Value} {ks : List Tree} {j : Nat}
  (h : RbSt w0 wr A cs vo ks j) (hj : j < ks.length) (hn : ks.length ≤ 1000000) (hb : Below wr.heap.size wr w7) (hT : TreeAt w7 (fun g => wr.heap.size ≤ g) vs (bareT (kat ks j))) (hgd : o.guard = none) (sl x : Operand) (ty : TypeId)
  (ho : o.op = .call { callee := .builtin .append, args := #[sl, x], argTypes := #[ty, ty] }) (hty : P.underlying ty = some (.slice 27))
  (hinfo : (P.info? 27).map (fun i => (i.zero, i.size, i.bytes)) = some (some (.agg #[.int .i64 0, .string ⟨#[]⟩, .int .u64 0, .int .i64 0, .bool false, .int .i64 0, .int .i64 0, .int .i64 0, .int .i64 0, .int .i64 0, .slice none 0 0]), 11, 112))
  (hs : a.eval sl = vo) (hx : a.eval x = .slice (some ⟨w7.heap.size, 0, none⟩) 1 1)
  (K : ∀ (g3 c3 : Nat) (w' : World), RbSt w0 w' A cs (.slice (some ⟨g3, 0, none⟩) (j + 1) c3) ks (j + 1) → wpList P ops Q rest (a.put o.dst (.slice (some ⟨g3, 0, none⟩) (j + 1) c3)) w') :
  wpList P ops Q (o :: rest) a (w7.alloc (.cells vs.toArray 27)) := by
 have hlen : ((bareTs ks).take j).length = j := by rw [List.length_take, bareTs_length]; omega
 obtain ⟨C, o1, o2⟩ := h.kd
 have hA := h.bs.r.lt
 have hown := (own_below o1 hb (Nat.le_refl _)).alloc (.cells vs.toArray 27)
 have hsz := hb.size
 have hl := hT.length
 obtain ⟨i0, hi0, hz0, hz1, hz2⟩ := info_parts hinfo
 have hza : (w7.alloc (.cells vs.toArray 27)).heap.size = w7.heap.size + 1 := by simp
 refine wpList_append_lies (w := w7.alloc (.cells vs.toArray 27)) hgd sl x ty ho (A + 2) 27 i0 _ 11 112 hty hi0 hz0 hz1 hz2 (by rfl) (by decide) vo _ _ hs hown ⟨w7.heap.size, 0, none⟩ 1 1 vs hx (by omega)
  (World.news_of_block (cs := vs.toArray) (t := 27) (fr := (0, 0)) (heap_alloc_new w7 _)) ?_ (by decide) (by unfold maxLen; omega) (by omega) (by omega) (w7.heap.size + 1) hza ?_
 ·obtain ⟨l, xx, n, k, rfl⟩ := hT.form
  intro u hu
  simp at hu
  rcases hu with rfl | rfl | rfl | rfl | rfl | rfl | rfl | rfl | rfl | rfl | rfl <;> rfl
 ·intro g cap w' hown' hg hloc _
  rw [hlen] at hown' ⊢
  have hkat : bareT (kat ks j) = kat (bareTs ks) j := (bareTs_kat hj).symm
  have hblk : ∀ q, q < w7.heap.size → (w7.alloc (.cells vs.toArray 27)).heap[q]? = w7.heap[q]? := fun q hq => Below.heap_alloc _ _ q hq
  refine K g cap w' ⟨?_, ?_⟩
  ·have h7 := (h.bs.call hb).alloc (.cells vs.toArray 27)
   have hno : ∀ q, q < A + 2 → some q ≠ vo.ownBlock := fun q hq e => by have := (o1.lt q e.symm).1; omega
   refine ⟨(hg.block A h7.a.lt (hno A (by omega))).trans h7.a, (hg.block (A + 1) h7.r.lt (hno (A + 1) (by omega))).trans h7.r, ?_⟩
   exact h7.bel.grown hg (Nat.le_of_lt h7.a.lt) (fun q hq => by have := (o1.lt q hq).1; omega)
  ·have hk := kids_push (w := w7.alloc (.cells vs.toArray 27)) (w' := w') (g := g) (c := cap) o1 o2 (fun q hq hlt => (hblk q (by omega)).trans (hb.block q hlt)) (by omega) (by omega) (hT.keep (fun q hq hlt => hblk q hlt) fun q hq _ => hq) hg (by
    rcases hloc with h1 | h1
    ·exact .inl h1
    ·exact .inr (by omega)) (by rw [hlen]; exact hown')
   rw [hlen, hkat] at hk
   have e : (bareTs ks).take (j + 1) = (bareTs ks).take j ++ [kat (bareTs ks) j] := take_kat (by rw [bareTs_length]; exact hj)
   rw [e]
   exact hk
def rBareOK (t : Tree) : Prop := ∀ (l : Lab) (x : Option Addr) (n k : Nat) (w : World), TreeAt w (fun _ => True) [.int .i64 l.kind, .string (str l.name), .int .u64 l.num, .int .i64 l.wd, .bool l.sg, .int .i64 l.op, .int .i64 l.fac, .int .i64 l.pip, .int .i64 l.unr, .int .i64 l.line, .slice x n k] t →
 Calls Tryz.prog 21 #[.agg #[.int .i64 l.kind, .string (str l.name), .int .u64 l.num, .int .i64 l.wd, .bool l.sg, .int .i64 l.op, .int .i64 l.fac, .int .i64 l.pip, .int .i64 l.unr, .int .i64 l.line, .slice x n k]] w fun e w' => ∃ (l2 : Lab) (x2 : Option Addr) (n2 k2 : Nat), e = .returned (.agg #[.int .i64 l2.kind, .string (str l2.name), .int .u64 l2.num, .int .i64 l2.wd, .bool l2.sg, .int .i64 l2.op, .int .i64 l2.fac, .int .i64 l2.pip, .int .i64 l2.unr, .int .i64 l2.line, .slice x2 n2 k2]) ∧ TreeAt w' (fun g => w.heap.size ≤ g) [.int .i64 l2.kind, .string (str l2.name), .int .u64 l2.num, .int .i64 l2.wd, .bool l2.sg, .int .i64 l2.op, .int .i64 l2.fac, .int .i64 l2.pip, .int .i64 l2.unr, .int .i64 l2.line, .slice x2 n2 k2] (bareT t) ∧ Below w.heap.size w w'
set_option maxHeartbeats 4000000 in
set_option maxRecDepth 100000 in
theorem rbare_step (lt : Lab) (ks : List Tree) (hks : ks.length ≤ 1000000) (ih : ∀ i, i < ks.length → rBareOK (kat ks i)) : rBareOK (.node lt ks) := by
 intro l x n k w hT
 obtain ⟨xk, kk, hcs, hnk, hkm, hkids⟩ := TreeAt.kids hT
 obtain ⟨rfl, hv⟩ := lab_of (l := l) (m := lt) hcs
 simp only [Value.slice.injEq] at hv
 obtain ⟨rfl, rfl, rfl⟩ := hv
 have HK := Hd hkids
 have HIH := Hd ih
 clear hT hcs hkids ih
 unfold maxLen at hkm
 have hbl : bareL l = { l with line := 0, wd := (bareL l).wd, sg := (bareL l).sg } := rfl
 have hw1 : (bareL l).wd = if keepsT l then l.wd else 0 := rfl
 have hw2 : (bareL l).sg = if keepsT l then l.sg else false := rfl
 have hk : keepsT l = (!(inG 18 26 l.kind) || (decide (l.kind = 24) || isTr l.kind l.wd l.sg)) := rfl
 have hbt : bareT (.node l ks) = .node (bareL l) (bareTs ks) := by rw [bareT]
 generalize keepsT l = kt at *
 generalize (bareL l).wd = bw at *
 generalize (bareL l).sg = bs at *
 generalize bareL l = BL at *
 obtain ⟨a0, a1, a2, a3, a4, a5, a6, a7, a8, a9⟩ := l
 dsimp only at *
 have HBT := Hd (And.intro hbl hbt)
 have HKT := Hd (And.intro hw1 (And.intro hw2 hk))
 clear hbl hbt hw1 hw2 hk
 have HRA := Hd hks
 generalize hN : ks.length = N at *
 have HN := Hd hN
 clear hN
 have HS1 : Hid (BS w ((w.alloc (.cells #[.int .i64 a0, .string (str a1), .int .u64 a2, .int .i64 a3, .bool a4, .int .i64 a5, .int .i64 a6, .int .i64 a7, .int .i64 a8, .int .i64 0, .slice x N k] 27)).alloc (.cells #[.int .i64 0, .string ⟨#[]⟩, .int .u64 0, .int .i64 0, .bool false, .int .i64 0, .int .i64 0, .int .i64 0, .int .i64 0, .int .i64 0, .slice none 0 0] 27)) w.heap.size [.int .i64 a0, .string (str a1), .int .u64 a2, .int .i64 a3, .bool a4, .int .i64 a5, .int .i64 a6, .int .i64 a7, .int .i64 a8, .int .i64 0, .slice x N k]) := Hd ⟨(Blk.alloc w 27 [.int .i64 a0, .string (str a1), .int .u64 a2, .int .i64 a3, .bool a4, .int .i64 a5, .int .i64 a6, .int .i64 a7, .int .i64 a8, .int .i64 0, .slice x N k]).alloc_other _, blk_two _ 27 zN, ((Below.refl w.heap.size w).alloc (Nat.le_refl _) _).alloc (by simp) _⟩
 go_enter Tryz.func21, Tryz.ntmps21
 go_upto_region 2 with fail
 generalize ((w.alloc (.cells #[.int .i64 a0, .string (str a1), .int .u64 a2, .int .i64 a3, .bool a4, .int .i64 a5, .int .i64 a6, .int .i64 a7, .int .i64 a8, .int .i64 0, .slice x N k] 27)).alloc (.cells #[.int .i64 0, .string ⟨#[]⟩, .int .u64 0, .int .i64 0, .bool false, .int .i64 0, .int .i64 0, .int .i64 0, .int .i64 0, .int .i64 0, .slice none 0 0] 27)) = W2 at *
 have c0 := HS1.out.a.cell
 have f0 := HS1.out.a.frozen
 go_cut [30] from 6 to 29 (fun s30 wx => s30 = .bool (!kt) ∧ Hid (wx = W2))
 case first =>
  have HQ := Hd HKT.out.2.2
  clear HKT HS1 HBT
  by_cases h1 : 18 ≤ a0
  ·by_cases h2 : a0 ≤ 26
   ·have hin : inG 18 26 a0 = true := by simp [inG, h1, h2]
    by_cases h3 : a0 = 24
    ·have hkt := Hd (HQ.out.trans (by rw [hin, decide_eq_true h3]; simp : _ = true))
     clear hin
     subst h3
     go_wp2
     go_meet
     exact ⟨by rw [hkt.out]; first | rfl | simp [h3], Hd rfl⟩
    ·by_cases h4 : a0 = 18
     ·by_cases h5 : a3 = 1
      ·have hkt := Hd (HQ.out.trans (by rw [hin, decide_eq_false h3, isTr, decide_eq_true h4, decide_eq_true h5]; simp : _ = !a4))
       clear hin
       subst h4 h5
       cases a4
       all_goals
        go_wp2
        go_meet
        exact ⟨by rw [hkt.out]; first | rfl | simp [h3], Hd rfl⟩
      ·have hkt := Hd (HQ.out.trans (by rw [hin, decide_eq_false h3, isTr, decide_eq_false h5]; simp : _ = false))
       clear hin
       subst h4
       go_wp2
       go_meet
       exact ⟨by rw [hkt.out]; first | rfl | simp [h3], Hd rfl⟩
     ·have hkt := Hd (HQ.out.trans (by rw [hin, decide_eq_false h3, isTr, decide_eq_false h4]; simp : _ = false))
      clear hin
      go_wp2
      go_meet
      exact ⟨by rw [hkt.out]; first | rfl | simp [h3], Hd rfl⟩
   ·have hin : inG 18 26 a0 = false := by simp [inG, h2]
    have hkt := Hd (HQ.out.trans (by rw [hin]; simp : _ = true))
    clear hin
    go_wp2
    go_meet
    exact ⟨by rw [hkt.out]; first | rfl | simp [h3], Hd rfl⟩
  ·have hin : inG 18 26 a0 = false := by simp [inG, h1]
   have hkt := Hd (HQ.out.trans (by rw [hin]; simp : _ = true))
   clear hin
   go_wp2
   go_meet
   exact ⟨by rw [hkt.out]; first | rfl | simp [h3], Hd rfl⟩
 case rest =>
  obtain ⟨hs30, hwc⟩ := hcut
  subst hs30
  have hw2 := hwc.out
  subst hw2
  clear hwc
  go_upto_if 30 with fail
  go_cut [] from 31 to 32 (fun wx => Hid (BS w wx w.heap.size [.int .i64 a0, .string (str a1), .int .u64 a2, .int .i64 bw, .bool bs, .int .i64 a5, .int .i64 a6, .int .i64 a7, .int .i64 a8, .int .i64 0, .slice x N k]))
  case first =>
   have h1 := HKT.out.1
   have h2 := HKT.out.2.1
   cases kt with
   | true =>
    simp at h1 h2
    subst h1 h2
    go_wp2
    go_meet
    exact HS1
   | false =>
    simp at h1 h2
    subst h1 h2
    have HZ : Hid (BS w ((wc.setCell ⟨w.heap.size, 3, none⟩ (.int .i64 0)).setCell ⟨w.heap.size, 4, none⟩ (.bool false)) w.heap.size _) := Hd ((HS1.out.set 3 (.int .i64 0)).set 4 (.bool false))
    go_wp2
    go_meet
    exact HZ
  case rest =>
   clear c0 f0 HS1 HKT
   have HS2 := Hd hcut.out
   clear hcut
   have h0 : Hid (RbSt w wc w.heap.size [.int .i64 a0, .string (str a1), .int .u64 a2, .int .i64 bw, .bool bs, .int .i64 a5, .int .i64 a6, .int .i64 a7, .int .i64 a8, .int .i64 0, .slice x N k] (.slice none 0 0) ks 0) := Hd ⟨HS2.out, by rw [List.take_zero]; exact kids_nil _ _⟩
   go_wp2
   go_loopw [3, 4] (fun o i wr => ∃ (j : Nat) (vo : Value), j ≤ N ∧ o = vo ∧ i = .int .i64 (j : Int) ∧ Hid (RbSt w wr w.heap.size [.int .i64 a0, .string (str a1), .int .u64 a2, .int .i64 bw, .bool bs, .int .i64 a5, .int .i64 a6, .int .i64 a7, .int .i64 a8, .int .i64 0, .slice x N k] vo ks j)) (fun _ i _ => N - (intOf i).toNat)
   case atStart => exact ⟨0, _, by omega, rfl, rfl, h0⟩
   case round =>
    clear h0
    obtain ⟨j, vo, hj, rfl, rfl, hX⟩ := hrel
    have c0 := hX.out.bs.a.cell
    by_cases hjn : j < N
    ·obtain ⟨ad, hxa, hab, hkid⟩ := HK.out j hjn
     subst hxa
     have hbw := hX.out.bs.bel
     obtain ⟨l3, x3, n3, k3, ⟨e0, e1, e2, e3, e4, e5, e6, e7, e8, e9, e10⟩, hT3⟩ := hkid.keep (w' := wr) (Q := fun _ => True) hab (fun g hg hl => hbw.block g hl) fun _ hg _ => trivial
     have HC := Hd (HIH.out j hjn l3 x3 n3 k3 wr hT3)
     have hj0 : (0 : Int) ≤ (j : Int) := by omega
     have hj1 : (j : Int) < (N : Int) := by omega
     clear hT3 hkid hbw
     go_wp2_with fail
     refine HC.out.mono ?_
     rintro e w7 ⟨l4, x4, n4, k4, rfl, hT4, hb7⟩
     have HT4 := Hd hT4
     have HB7 := Hd hb7
     clear hT4 hb7 HC e0 e1 e2 e3 e4 e5 e6 e7 e8 e9 e10 c0
     go_wp2_with (at_builtin; (refine rb_append (vs := [.int .i64 l4.kind, .string (str l4.name), .int .u64 l4.num, .int .i64 l4.wd, .bool l4.sg, .int .i64 l4.op, .int .i64 l4.fac, .int .i64 l4.pip, .int .i64 l4.unr, .int .i64 l4.line, .slice x4 n4 k4]) hX.out (by rw [HN.out]; exact hjn) (by rw [HN.out]; exact hks) HB7.out HT4.out (by rfl) _ _ _ (by rfl) Tryz.underlying25 infoNd2 (by rfl) (by rfl) ?_; intro g3 c3 w8 hX2; have HX2 := Hd hX2; clear hX2))
     go_roundw
     case rel => exact ⟨j + 1, _, by omega, rfl, by go_num, HX2⟩
     case measure => simp [intOf]; omega
    ·obtain rfl : j = N := by omega
     have hkd := hX.out.kd
     rw [List.take_of_length_le (by rw [bareTs_length, HN.out]; exact Nat.le_refl _)] at hkd
     obtain ⟨xv, cv, hvo⟩ := hkd.shape
     generalize (bareTs ks).length = nv at *
     subst hvo
     have HF := Hd (hX.out.bs.set 10 (.slice xv nv cv))
     have f0 := hX.out.bs.a.frozen
     have c1 := hX.out.bs.r.cell
     have f1 := hX.out.bs.r.frozen
     unfold zN at c1
     have hTT : TreeAt (stor11 (wr.setCell ⟨w.heap.size, 10, none⟩ (.slice xv nv cv)) (w.heap.size + 1) (.int .i64 a0) (.string (str a1)) (.int .u64 a2) (.int .i64 bw) (.bool bs) (.int .i64 a5) (.int .i64 a6) (.int .i64 a7) (.int .i64 a8) (.int .i64 0) (.slice xv nv cv)) (fun g => w.heap.size ≤ g) [.int .i64 a0, .string (str a1), .int .u64 a2, .int .i64 bw, .bool bs, .int .i64 a5, .int .i64 a6, .int .i64 a7, .int .i64 a8, .int .i64 0, .slice xv nv cv] (bareT (.node ⟨a0, a1, a2, a3, a4, a5, a6, a7, a8, a9⟩ ks)) := by
      rw [HBT.out.2, HBT.out.1]
      have hks2 : ∀ g, w.heap.size + 2 ≤ g → g < wr.heap.size → (stor11 (wr.setCell ⟨w.heap.size, 10, none⟩ (.slice xv nv cv)) (w.heap.size + 1) (.int .i64 a0) (.string (str a1)) (.int .u64 a2) (.int .i64 bw) (.bool bs) (.int .i64 a5) (.int .i64 a6) (.int .i64 a7) (.int .i64 a8) (.int .i64 0) (.slice xv nv cv)).heap[g]? = wr.heap[g]? := fun g hg _ => by
       have e1 := stor11_other (wr.setCell ⟨w.heap.size, 10, none⟩ (.slice xv nv cv)) (g := w.heap.size + 1) (k := g) (by omega) (.int .i64 a0) (.string (str a1)) (.int .u64 a2) (.int .i64 bw) (.bool bs) (.int .i64 a5) (.int .i64 a6) (.int .i64 a7) (.int .i64 a8) (.int .i64 0) (.slice xv nv cv)
       exact e1.trans (Below.heap_setCell _ _ _ _ (by show g ≠ w.heap.size; omega))
      exact (hkd.tree ⟨a0, a1, a2, bw, bs, a5, a6, a7, a8, 0⟩).keep hks2 fun g hg _ => by omega
     have HTT := Hd hTT
     have hbe : Below w.heap.size w (stor11 (wr.setCell ⟨w.heap.size, 10, none⟩ (.slice xv nv cv)) (w.heap.size + 1) (.int .i64 a0) (.string (str a1)) (.int .u64 a2) (.int .i64 bw) (.bool bs) (.int .i64 a5) (.int .i64 a6) (.int .i64 a7) (.int .i64 a8) (.int .i64 0) (.slice xv nv cv)) := by
      rw [stor11_eq]
      exact put_below (by omega) _ _ _ (hX.out.bs.bel.setCell (p := ⟨w.heap.size, 10, none⟩) (Nat.le_refl _) _)
     have HBE := Hd hbe
     clear hX hTT hbe hkd
     go_wp2
     refine bodyPost_ret ((HF.out.r.stor11 rfl (.int .i64 a0) (.string (str a1)) (.int .u64 a2) (.int .i64 bw) (.bool bs) (.int .i64 a5) (.int .i64 a6) (.int .i64 a7) (.int .i64 a8) (.int .i64 0) (.slice xv nv cv)).res1 Tryz.results21 Tryz.underlying27 rfl infoNd _ rfl) rfl ?_
     exact ⟨⟨a0, a1, a2, bw, bs, a5, a6, a7, a8, 0⟩, xv, nv, cv, rfl, HTT.out, HBE.out⟩
theorem rbareTree_any : ∀ d t, depth t ≤ d → count t ≤ 1000000 → rBareOK t := by
 intro d
 induction d with
 | zero => intro t h; obtain ⟨lt, ks⟩ := t; rw [depth] at h; omega
 | succ d ih =>
  intro t h hc
  obtain ⟨lt, ks⟩ := t
  refine rbare_step lt ks (by have := len_counts ks; rw [count] at hc; omega) fun i hi => ih _ ?_ ?_
  ·have := depth_kat hi
   rw [depth] at h
   omega
  ·have := count_kat hi
   rw [count] at hc
   omega
end Go.Proofs.YthdbaligapdbeaaGreatDoor
/- The reference's Count and Depth: contracts. -/
namespace Go.Proofs.YthdbaligapdbeaaGreatDoor
open Go Go.RowKit
set_option linter.unusedVariables false


def rCountOK (t : Tree) : Prop := ∀ (l : Lab) (x : Option Addr) (n k : Nat) (w : World), TreeAt w (fun _ => True) [.int .i64 l.kind, .string (str l.name), .int .u64 l.num, .int .i64 l.wd, .bool l.sg, .int .i64 l.op, .int .i64 l.fac, .int .i64 l.pip, .int .i64 l.unr, .int .i64 l.line, .slice x n k] t →
 Calls Tryz.prog 28 #[.agg #[.int .i64 l.kind, .string (str l.name), .int .u64 l.num, .int .i64 l.wd, .bool l.sg, .int .i64 l.op, .int .i64 l.fac, .int .i64 l.pip, .int .i64 l.unr, .int .i64 l.line, .slice x n k]] w fun e w' => e = .returned (.int .i64 (count t : Int)) ∧ Below w.heap.size w w'
set_option maxHeartbeats 1000000 in
set_option maxRecDepth 100000 in
theorem rcount_step (lt : Lab) (ks : List Tree) (hc : count (.node lt ks) ≤ 1000000) (ih : ∀ i, i < ks.length → rCountOK (kat ks i)) : rCountOK (.node lt ks) := by
 intro l x n k w hT
 obtain ⟨xk, kk, hcs, hnk, hkm, hkids⟩ := TreeAt.kids hT
 obtain ⟨rfl, rfl, rfl⟩ : x = xk ∧ n = ks.length ∧ k = kk := by
  have h10 := congrArg (fun c : List Value => c[10]?) hcs
  simp [lcells] at h10
  exact h10
 rw [count] at hc ⊢
 have HK := Hd hkids
 have HIH := Hd ih
 have hW : Below w.heap.size w (w.alloc (.cells #[.int .i64 l.kind, .string (str l.name), .int .u64 l.num, .int .i64 l.wd, .bool l.sg, .int .i64 l.op, .int .i64 l.fac, .int .i64 l.pip, .int .i64 l.unr, .int .i64 l.line, .slice x ks.length k] 27)) := (Below.refl w.heap.size w).alloc (Nat.le_refl _) _
 have hbx : (w.alloc (.cells #[.int .i64 l.kind, .string (str l.name), .int .u64 l.num, .int .i64 l.wd, .bool l.sg, .int .i64 l.op, .int .i64 l.fac, .int .i64 l.pip, .int .i64 l.unr, .int .i64 l.line, .slice x ks.length k] 27)).cell? ⟨w.heap.size, 10, none⟩ = some (.slice x ks.length k) := by clear hcs; go_simp
 have hlt : w.heap.size < (w.alloc (.cells #[.int .i64 l.kind, .string (str l.name), .int .u64 l.num, .int .i64 l.wd, .bool l.sg, .int .i64 l.op, .int .i64 l.fac, .int .i64 l.pip, .int .i64 l.unr, .int .i64 l.line, .slice x ks.length k] 27)).heap.size := by simp
 have h0 : Hid (CnSt (w.alloc (.cells #[.int .i64 l.kind, .string (str l.name), .int .u64 l.num, .int .i64 l.wd, .bool l.sg, .int .i64 l.op, .int .i64 l.fac, .int .i64 l.pip, .int .i64 l.unr, .int .i64 l.line, .slice x ks.length k] 27)) (w.alloc (.cells #[.int .i64 l.kind, .string (str l.name), .int .u64 l.num, .int .i64 l.wd, .bool l.sg, .int .i64 l.op, .int .i64 l.fac, .int .i64 l.pip, .int .i64 l.unr, .int .i64 l.line, .slice x ks.length k] 27)) 1 0 (1 + csum ks 0)) := Hd ⟨by unfold csum; rw [List.take_zero]; rfl, Below.refl _ _⟩
 have HALL : Hid (1 + counts ks = 1 + csum ks ks.length) := Hd (by rw [csum_all])
 rw [HALL.out]
 have HLE := Hd fun i => csum_le ks i
 unfold maxLen at hkm
 clear hT hcs hkids ih HALL
 generalize hN : ks.length = N at *
 have HN := Hd hN
 clear hN
 go_enter Tryz.func28, Tryz.ntmps28
 go_wp2
 generalize (w.alloc (.cells #[.int .i64 l.kind, .string (str l.name), .int .u64 l.num, .int .i64 l.wd, .bool l.sg, .int .i64 l.op, .int .i64 l.fac, .int .i64 l.pip, .int .i64 l.unr, .int .i64 l.line, .slice x N k] 27)) = W1 at *
 have HW := Hd hW
 have HBX := Hd hbx
 clear hW hbx
 go_loopw [3, 4] (fun o i wr => ∃ p j : Nat, j ≤ N ∧ o = .int .i64 (p : Int) ∧ i = .int .i64 (j : Int) ∧ Hid (CnSt W1 wr p j (1 + csum ks j))) (fun _ i _ => N - (intOf i).toNat)
 case atStart => exact ⟨1, 0, by omega, rfl, rfl, h0⟩
 case round =>
  clear h0
  obtain ⟨p, j, hj, rfl, rfl, hX⟩ := hrel
  have hpe := hX.out.eq
  have hb1 : wr.cell? ⟨w.heap.size, 10, none⟩ = some (.slice x N k) := (hX.out.bel.cell (p := ⟨w.heap.size, 10, none⟩) (by exact hlt)).trans HBX.out
  have hbw := HW.out.trans (hX.out.bel.mono (Nat.le_of_lt hlt))
  by_cases hjn : j < N
  ·have hjk : j < ks.length := by rw [HN.out]; exact hjn
   obtain ⟨a, hxa, hab, hkid⟩ := HK.out j hjn
   subst hxa
   obtain ⟨l2, x2, n2, k2, ⟨e0, e1, e2, e3, e4, e5, e6, e7, e8, e9, e10⟩, hT3⟩ := hkid.keep (w' := wr) (Q := fun _ => True) hab (fun g hg hl => hbw.block g hl) fun _ hg _ => trivial
   have HC := Hd (HIH.out j hjn l2 x2 n2 k2 wr hT3)
   have hs := csum_succ hjk
   have hl1 := HLE.out (j + 1)
   have HBW := Hd hX.out.bel
   have hj0 : (0 : Int) ≤ (j : Int) := by omega
   have hj1 : (j : Int) < (N : Int) := by omega
   clear hT3 hkid hbw
   generalize count (kat ks j) = ck at *
   go_wp2_with fail
   refine HC.out.mono ?_
   rintro e w1 ⟨rfl, hb⟩
   have HX : Hid (CnSt W1 w1 (p + ck) (j + 1) (1 + csum ks (j + 1))) := Hd ⟨by omega, HBW.out.trans (hb.mono HBW.out.size)⟩
   clear hb HC
   
   go_wp2
   go_roundw
   case rel => exact ⟨_, j + 1, by omega, by go_num, by go_num, HX⟩
   case measure => simp [intOf]; omega
  ·obtain rfl : j = N := by omega
   have HB := Hd hbw
   have hl1 := HLE.out j
   go_wp2
   go_ret
   exact ⟨by rw [hpe]; rfl, HB.out⟩
theorem rcountT_any : ∀ d t, depth t ≤ d → count t ≤ 1000000 → rCountOK t := by
 intro d
 induction d with
 | zero => intro t h; obtain ⟨lt, ks⟩ := t; rw [depth] at h; omega
 | succ d ih =>
  intro t h hc
  obtain ⟨lt, ks⟩ := t
  refine rcount_step lt ks hc fun i hi => ih _ ?_ ?_
  ·have := depth_kat hi
   rw [depth] at h
   omega
  ·have := count_kat hi
   rw [count] at hc
   omega

def rDepthOK (t : Tree) : Prop := ∀ (l : Lab) (x : Option Addr) (n k : Nat) (w : World), TreeAt w (fun _ => True) [.int .i64 l.kind, .string (str l.name), .int .u64 l.num, .int .i64 l.wd, .bool l.sg, .int .i64 l.op, .int .i64 l.fac, .int .i64 l.pip, .int .i64 l.unr, .int .i64 l.line, .slice x n k] t →
 Calls Tryz.prog 27 #[.agg #[.int .i64 l.kind, .string (str l.name), .int .u64 l.num, .int .i64 l.wd, .bool l.sg, .int .i64 l.op, .int .i64 l.fac, .int .i64 l.pip, .int .i64 l.unr, .int .i64 l.line, .slice x n k]] w fun e w' => e = .returned (.int .i64 (depth t : Int)) ∧ Below w.heap.size w w'
set_option maxHeartbeats 1000000 in
set_option maxRecDepth 100000 in
theorem rdepth_step (lt : Lab) (ks : List Tree) (hc : depth (.node lt ks) ≤ 1000000) (ih : ∀ i, i < ks.length → rDepthOK (kat ks i)) : rDepthOK (.node lt ks) := by
 intro l x n k w hT
 obtain ⟨xk, kk, hcs, hnk, hkm, hkids⟩ := TreeAt.kids hT
 obtain ⟨rfl, rfl, rfl⟩ : x = xk ∧ n = ks.length ∧ k = kk := by
  have h10 := congrArg (fun c : List Value => c[10]?) hcs
  simp [lcells] at h10
  exact h10
 rw [depth] at hc ⊢
 have HK := Hd hkids
 have HIH := Hd ih
 have hW : Below w.heap.size w (w.alloc (.cells #[.int .i64 l.kind, .string (str l.name), .int .u64 l.num, .int .i64 l.wd, .bool l.sg, .int .i64 l.op, .int .i64 l.fac, .int .i64 l.pip, .int .i64 l.unr, .int .i64 l.line, .slice x ks.length k] 27)) := (Below.refl w.heap.size w).alloc (Nat.le_refl _) _
 have hbx : (w.alloc (.cells #[.int .i64 l.kind, .string (str l.name), .int .u64 l.num, .int .i64 l.wd, .bool l.sg, .int .i64 l.op, .int .i64 l.fac, .int .i64 l.pip, .int .i64 l.unr, .int .i64 l.line, .slice x ks.length k] 27)).cell? ⟨w.heap.size, 10, none⟩ = some (.slice x ks.length k) := by clear hcs; go_simp
 have hlt : w.heap.size < (w.alloc (.cells #[.int .i64 l.kind, .string (str l.name), .int .u64 l.num, .int .i64 l.wd, .bool l.sg, .int .i64 l.op, .int .i64 l.fac, .int .i64 l.pip, .int .i64 l.unr, .int .i64 l.line, .slice x ks.length k] 27)).heap.size := by simp
 have h0 : Hid (CnSt (w.alloc (.cells #[.int .i64 l.kind, .string (str l.name), .int .u64 l.num, .int .i64 l.wd, .bool l.sg, .int .i64 l.op, .int .i64 l.fac, .int .i64 l.pip, .int .i64 l.unr, .int .i64 l.line, .slice x ks.length k] 27)) (w.alloc (.cells #[.int .i64 l.kind, .string (str l.name), .int .u64 l.num, .int .i64 l.wd, .bool l.sg, .int .i64 l.op, .int .i64 l.fac, .int .i64 l.pip, .int .i64 l.unr, .int .i64 l.line, .slice x ks.length k] 27)) 0 0 (dmax ks 0)) := Hd ⟨by unfold dmax; rw [List.take_zero]; rfl, Below.refl _ _⟩
 have HALL : Hid (1 + depths ks = 1 + dmax ks ks.length) := Hd (by rw [dmax_all])
 rw [HALL.out]
 have HLE := Hd fun i => dmax_le ks i
 unfold maxLen at hkm
 clear hT hcs hkids ih HALL
 generalize hN : ks.length = N at *
 have HN := Hd hN
 clear hN
 go_enter Tryz.func27, Tryz.ntmps27
 go_wp2
 generalize (w.alloc (.cells #[.int .i64 l.kind, .string (str l.name), .int .u64 l.num, .int .i64 l.wd, .bool l.sg, .int .i64 l.op, .int .i64 l.fac, .int .i64 l.pip, .int .i64 l.unr, .int .i64 l.line, .slice x N k] 27)) = W1 at *
 have HW := Hd hW
 have HBX := Hd hbx
 clear hW hbx
 go_loopw [3, 4] (fun o i wr => ∃ p j : Nat, j ≤ N ∧ o = .int .i64 (p : Int) ∧ i = .int .i64 (j : Int) ∧ Hid (CnSt W1 wr p j (dmax ks j))) (fun _ i _ => N - (intOf i).toNat)
 case atStart => exact ⟨0, 0, by omega, rfl, rfl, h0⟩
 case round =>
  clear h0
  obtain ⟨p, j, hj, rfl, rfl, hX⟩ := hrel
  have hpe := hX.out.eq
  have hb1 : wr.cell? ⟨w.heap.size, 10, none⟩ = some (.slice x N k) := (hX.out.bel.cell (p := ⟨w.heap.size, 10, none⟩) (by exact hlt)).trans HBX.out
  have hbw := HW.out.trans (hX.out.bel.mono (Nat.le_of_lt hlt))
  by_cases hjn : j < N
  ·have hjk : j < ks.length := by rw [HN.out]; exact hjn
   obtain ⟨a, hxa, hab, hkid⟩ := HK.out j hjn
   subst hxa
   obtain ⟨l2, x2, n2, k2, ⟨e0, e1, e2, e3, e4, e5, e6, e7, e8, e9, e10⟩, hT3⟩ := hkid.keep (w' := wr) (Q := fun _ => True) hab (fun g hg hl => hbw.block g hl) fun _ hg _ => trivial
   have HC := Hd (HIH.out j hjn l2 x2 n2 k2 wr hT3)
   have hs := dmax_succ hjk
   have hl1 := HLE.out (j + 1)
   have HBW := Hd hX.out.bel
   have hj0 : (0 : Int) ≤ (j : Int) := by omega
   have hj1 : (j : Int) < (N : Int) := by omega
   clear hT3 hkid hbw
   generalize depth (kat ks j) = ck at *
   go_wp2_with fail
   refine HC.out.mono ?_
   rintro e w1 ⟨rfl, hb⟩
   have HX : Hid (CnSt W1 w1 (max p ck) (j + 1) (dmax ks (j + 1))) := Hd ⟨by omega, HBW.out.trans (hb.mono HBW.out.size)⟩
   clear hb HC
   have hmx : max (p : Int) (ck : Int) = ((max p ck : Nat) : Int) := by omega
   go_wp2
   go_roundw
   case rel => exact ⟨_, j + 1, by omega, by rw [← hpe, hmx], by go_num, HX⟩
   case measure => simp [intOf]; omega
  ·obtain rfl : j = N := by omega
   have HB := Hd hbw
   have hl1 := HLE.out j
   go_wp2
   go_ret
   exact ⟨by rw [hpe]; simp; omega, HB.out⟩
theorem rdepthT_any : ∀ d t, depth t ≤ d → depth t ≤ 1000000 → rDepthOK t := by
 intro d
 induction d with
 | zero => intro t h; obtain ⟨lt, ks⟩ := t; rw [depth] at h; omega
 | succ d ih =>
  intro t h hc
  obtain ⟨lt, ks⟩ := t
  refine rdepth_step lt ks hc fun i hi => ih _ ?_ ?_
  ·have := depth_kat hi
   rw [depth] at h
   omega
  ·have := depth_kat hi
   rw [depth] at hc
   omega
end Go.Proofs.YthdbaligapdbeaaGreatDoor
