/- within: contract. -/
import Derived.Test.YtfnhogeocbndcaaGreatDoorMgPsKid
namespace Go.Proofs.YtfnhogeocbndcaaGreatDoor
open Go Go.RowKit
set_option linter.unusedVariables false

theorem wIns_nil (left lv : Nat) : wIns left lv [] = (true, left) := by rw [wIns]
theorem wIns_cons (left lv : Nat) (t : Tree) (r : List Tree) : wIns left lv (t :: r) = if (wIn left lv t).1 then wIns (wIn left lv t).2 lv r else (false, (wIn left lv t).2) := by rw [wIns]
theorem wIn_node (left lv : Nat) (l : Lab) (ks : List Tree) : wIn left lv (.node l ks) = if left = 0 ∨ lv = 0 then (false, left) else wIns (left - 1) (lv - 1) ks := by rw [wIn]
mutual
theorem wIn_le (left lv : Nat) : ∀ t, (wIn left lv t).2 ≤ left
  | .node l ks => by
    rw [wIn_node]
    split
    · exact Nat.le_refl _
    · exact Nat.le_trans (wIns_le (left - 1) (lv - 1) ks) (Nat.sub_le _ _)
theorem wIns_le (left lv : Nat) : ∀ ks, (wIns left lv ks).2 ≤ left
  | [] => by rw [wIns_nil]; exact Nat.le_refl _
  | t :: r => by
    rw [wIns_cons]
    split
    · exact Nat.le_trans (wIns_le _ lv r) (wIn_le left lv t)
    · exact wIn_le left lv t
end
mutual
theorem wIn_iff (left lv : Nat) : ∀ t, ((wIn left lv t).1 = true ↔ count t ≤ left ∧ depth t ≤ lv) ∧ ((wIn left lv t).1 = true → (wIn left lv t).2 + count t = left)
  | .node l ks => by
    rw [wIn_node, count, depth]
    by_cases h : left = 0 ∨ lv = 0
    · rw [if_pos h]
      simp
      omega
    · rw [if_neg h]
      obtain ⟨h1, h2⟩ := wIns_iff (left - 1) (lv - 1) ks
      refine ⟨?_, fun ht => by have := h2 ht; omega⟩
      rw [h1]
      omega
theorem wIns_iff (left lv : Nat) : ∀ ks, ((wIns left lv ks).1 = true ↔ counts ks ≤ left ∧ depths ks ≤ lv) ∧ ((wIns left lv ks).1 = true → (wIns left lv ks).2 + counts ks = left)
  | [] => by rw [wIns_nil, counts, depths]; simp
  | t :: r => by
    rw [wIns_cons, counts, depths]
    obtain ⟨h1, h2⟩ := wIn_iff left lv t
    by_cases ht : (wIn left lv t).1 = true
    · rw [if_pos ht]
      obtain ⟨h3, h4⟩ := wIns_iff (wIn left lv t).2 lv r
      have h5 := h2 ht
      have h6 := h1.1 ht
      refine ⟨?_, fun hr => by have := h4 hr; omega⟩
      rw [h3]
      omega
    · rw [if_neg ht]
      refine ⟨⟨fun h => by simp at h, fun h => absurd (h1.2 ⟨by omega, by omega⟩) ht⟩, fun h => by simp at h⟩
end

/-- The counter and the closure lie in memory. -/
structure WS (w : World) (Lf Lw left : Nat) : Prop where
  cf : w.cell? ⟨Lf, 0, none⟩ = some (.int .i64 (left : Int))
  ff : w.frozen? ⟨Lf, 0, none⟩ = false
  cw : w.cell? ⟨Lw, 0, none⟩ = some (.func (Fn.func 59) #[] #[.pointer (some ⟨Lf, 0, none⟩), .pointer (some ⟨Lw, 0, none⟩)])
  lf : Lf < w.heap.size
  lw : Lw < w.heap.size
theorem WS.alloc {w : World} {Lf Lw left : Nat} (h : WS w Lf Lw left) (o : Obj) : WS (w.alloc o) Lf Lw left := by
  have hb := (Below.refl w.heap.size w).alloc (Nat.le_refl _) o
  exact ⟨by rw [hb.cell (p := ⟨Lf, 0, none⟩) h.lf]; exact h.cf, by rw [hb.frozen (p := ⟨Lf, 0, none⟩) h.lf]; exact h.ff, by rw [hb.cell (p := ⟨Lw, 0, none⟩) h.lw]; exact h.cw, Nat.lt_of_lt_of_le h.lf hb.size, Nat.lt_of_lt_of_le h.lw hb.size⟩
theorem WS.dec {w : World} {Lf Lw left : Nat} (h : WS w Lf Lw left) (hne : Lf ≠ Lw) (v : Nat) : WS (w.setCell ⟨Lf, 0, none⟩ (.int .i64 (v : Int))) Lf Lw v := by
  have hob : (w.setCell ⟨Lf, 0, none⟩ (.int .i64 (v : Int))).heap[Lw]? = w.heap[Lw]? := Below.heap_setCell _ _ _ _ (fun e => hne e.symm)
  exact ⟨World.cell?_setCell_same' _ _ _ (by rw [h.cf]; rfl), (World.frozen?_setCell _ _ _ _).trans h.ff, by rw [cell_same (a := ⟨Lw, 0, none⟩) hob]; exact h.cw, by rw [size_setCell]; exact h.lf, by rw [size_setCell]; exact h.lw⟩
/-- A tree below the counter. -/
def TW (w : World) (Lf : Nat) (cs : List Value) (t : Tree) : Prop := TreeAt w (· < Lf) cs t
theorem TW.st {w w' : World} {Lf : Nat} {cs : List Value} {t : Tree} (h : TW w Lf cs t) (hs : St w w' Lf) : TW w' Lf cs t :=
  h.keep (fun k hk hl => World.grownBy.block hs k hl (fun e => by injection e with e; omega)) fun _ hk _ => hk
/-- What the closure does at a level. -/
def WalkOK (Lf Lw lv : Nat) : Prop := ∀ (left : Nat) (t : Tree) (l : Lab) (x : Option Addr) (n k : Nat) (w : World), left ≤ 20000 → TW w Lf [.int .i64 l.kind, .string (str l.name), .int .u64 l.num, .int .i64 l.wd, .bool l.sg, .int .i64 l.op, .int .i64 l.fac, .int .i64 l.pip, .int .i64 l.unr, .int .i64 l.line, .slice x n k] t → WS w Lf Lw left →
  Calls Tryz.prog 59 #[.agg #[.int .i64 l.kind, .string (str l.name), .int .u64 l.num, .int .i64 l.wd, .bool l.sg, .int .i64 l.op, .int .i64 l.fac, .int .i64 l.pip, .int .i64 l.unr, .int .i64 l.line, .slice x n k], .int .i64 (lv : Int), .pointer (some ⟨Lf, 0, none⟩), .pointer (some ⟨Lw, 0, none⟩)] w fun e w' => e = .returned (.bool (wIn left lv t).1) ∧ WS w' Lf Lw (wIn left lv t).2 ∧ St w w' Lf

set_option maxHeartbeats 1000000 in
set_option maxRecDepth 100000 in
/-- The inner closure: the level lies in a box. -/
theorem inner_any {Lf Lw lv : Nat} (H : WalkOK Lf Lw lv) (hlv : lv < 200) (left : Nat) (hleft : left ≤ 20000) (t : Tree) (l : Lab) (x : Option Addr) (n k : Nat) (L5 : Nat) (w : World) (hT : TW w Lf [.int .i64 l.kind, .string (str l.name), .int .u64 l.num, .int .i64 l.wd, .bool l.sg, .int .i64 l.op, .int .i64 l.fac, .int .i64 l.pip, .int .i64 l.unr, .int .i64 l.line, .slice x n k] t) (hS : WS w Lf Lw left) (h5 : w.cell? ⟨L5, 0, none⟩ = some (.int .i64 ((lv : Int) + 1))) (hl5 : L5 < w.heap.size) :
    Calls Tryz.prog 61 #[.agg #[.int .i64 l.kind, .string (str l.name), .int .u64 l.num, .int .i64 l.wd, .bool l.sg, .int .i64 l.op, .int .i64 l.fac, .int .i64 l.pip, .int .i64 l.unr, .int .i64 l.line, .slice x n k], .pointer (some ⟨Lw, 0, none⟩), .pointer (some ⟨L5, 0, none⟩)] w fun e w' => e = .returned (.bool !(wIn left lv t).1) ∧ WS w' Lf Lw (wIn left lv t).2 ∧ St w w' Lf := by
  have hcw := hS.cw
  have hlw := hS.lw
  have HS := Lib.hid (hS.alloc (.cells #[.int .i64 l.kind, .string (str l.name), .int .u64 l.num, .int .i64 l.wd, .bool l.sg, .int .i64 l.op, .int .i64 l.fac, .int .i64 l.pip, .int .i64 l.unr, .int .i64 l.line, .slice x n k] 28))
  have HT : Hid (TW (w.alloc (.cells #[.int .i64 l.kind, .string (str l.name), .int .u64 l.num, .int .i64 l.wd, .bool l.sg, .int .i64 l.op, .int .i64 l.fac, .int .i64 l.pip, .int .i64 l.unr, .int .i64 l.line, .slice x n k] 28)) Lf [.int .i64 l.kind, .string (str l.name), .int .u64 l.num, .int .i64 l.wd, .bool l.sg, .int .i64 l.op, .int .i64 l.fac, .int .i64 l.pip, .int .i64 l.unr, .int .i64 l.line, .slice x n k] t) := Lib.hid (hT.st ((St.refl w Lf).alloc _))
  have HC := Lib.hid H
  have hc5 := h5
  have HST := Lib.hid ((St.refl w Lf).alloc (.cells #[.int .i64 l.kind, .string (str l.name), .int .u64 l.num, .int .i64 l.wd, .bool l.sg, .int .i64 l.op, .int .i64 l.fac, .int .i64 l.pip, .int .i64 l.unr, .int .i64 l.line, .slice x n k] 28))
  have HC2 := Lib.hid (HC.out left t l x n k _ hleft HT.out HS.out)
  clear hS hT H h5 HC HT HS
  generalize wIn left lv t = W2 at *
  obtain ⟨b, l3⟩ := W2
  go_enter Tryz.func61, Tryz.ntmps61
  go_wp2_with fail
  refine HC2.out.mono ?_
  rintro e w1 ⟨rfl, hs, hst⟩
  have H1 := Lib.hid (And.intro hs (St.trans HST.out hst))
  clear hs hst
  go_wp2
  go_ret
  exact ⟨rfl, H1.out.1, H1.out.2⟩

/-- How far the search has come. -/
structure IxSt (Lf Lw lv L5 : Nat) (ks : List Tree) (Z : Bool × Nat) (w wr : World) (i left : Nat) : Prop where
  ws : WS wr Lf Lw left
  st : St w wr Lf
  le : left ≤ 20000
  eq : Z = wIns left lv (ks.drop i)

set_option maxHeartbeats 1000000 in
set_option maxRecDepth 100000 in
theorem index_any {Lf Lw lv : Nat} (H : WalkOK Lf Lw lv) (hlv : lv < 200) (left : Nat) (hleft : left ≤ 20000) (ks : List Tree) (x : Option Addr) (k : Nat) (hk : ks.length ≤ maxLen) (L5 : Nat) (w : World)
    (hT : ∀ i (hi : i < ks.length), ∃ a, x = some a ∧ a.block < Lf ∧ KidAt w (· < Lf) a i (kat ks i)) (hS : WS w Lf Lw left) (h5 : w.cell? ⟨L5, 0, none⟩ = some (.int .i64 ((lv : Int) + 1))) (hl5 : Lf < L5 ∧ L5 < w.heap.size) :
    Calls Tryz.prog 101 #[.slice x ks.length k, .func (Fn.func 61) #[] #[.pointer (some ⟨Lw, 0, none⟩), .pointer (some ⟨L5, 0, none⟩)]] w fun e w' => (∃ r : Int, e = .returned (.int .i64 r) ∧ decide (0 ≤ r) = !(wIns left lv ks).1) ∧ WS w' Lf Lw (wIns left lv ks).2 ∧ St w w' Lf := by
  have h0 : Hid (IxSt Lf Lw lv L5 ks (wIns left lv ks) w w 0 left) := ⟨hS, St.refl _ _, hleft, rfl⟩
  obtain ⟨Z, hZ⟩ : ∃ Z, Z = wIns left lv ks := ⟨_, rfl⟩
  rw [← hZ] at h0 ⊢
  have HIN := Lib.hid fun left hleft t l x n k W hT hS h5 hl5 => inner_any H hlv left hleft t l x n k L5 W hT hS h5 hl5
  have HT := Lib.hid hT
  have H5 := Lib.hid h5
  unfold maxLen at hk
  clear hS hT h5 H hZ hleft
  generalize hN : ks.length = N at *
  have HN := Lib.hid hN
  clear hN
  go_enter Tryz.func101, Tryz.ntmps101
  go_wp2
  go_loopw [8] (fun i wr => ∃ j left : Nat, j ≤ N ∧ i = .int .i64 (j : Int) ∧ Hid (IxSt Lf Lw lv L5 ks Z w wr j left)) (fun i _ => N - (intOf i).toNat)
  case atStart => exact ⟨0, left, by omega, rfl, h0⟩
  case round =>
    clear h0
    obtain ⟨j, lf, hj, rfl, hX⟩ := hrel
    by_cases hjn : j < N
    · have hjk : j < ks.length := by rw [HN.out]; exact hjn
      obtain ⟨a, hxa, hab, hkid⟩ := HT.out j hjn
      subst hxa
      obtain ⟨l2, x2, n2, k2, ⟨e0, e1, e2, e3, e4, e5, e6, e7, e8, e9, e10⟩, hT3⟩ := hkid.keep (w' := wr) (Q := (· < Lf)) hab (fun g hg hl => World.grownBy.block hX.out.st g hl (fun e => by injection e with e; omega)) fun _ hg _ => hg
      have h5r : wr.cell? ⟨L5, 0, none⟩ = some (.int .i64 ((lv : Int) + 1)) := (cell_same (w := w) (w' := wr) (a := ⟨L5, 0, none⟩) (World.grownBy.block hX.out.st L5 hl5.2 (fun e => by injection e with e; omega))).trans H5.out
      have HC := Lib.hid (HIN.out lf hX.out.le (kat ks j) l2 x2 n2 k2 wr hT3 hX.out.ws h5r (Nat.lt_of_lt_of_le hl5.2 (St.size hX.out.st)))
      have hdr : ks.drop j = (kat ks j) :: ks.drop (j + 1) := drop_kat hjk
      have HZ : Hid (Z = if (wIn lf lv (kat ks j)).1 then wIns (wIn lf lv (kat ks j)).2 lv (ks.drop (j + 1)) else (false, (wIn lf lv (kat ks j)).2)) := Lib.hid (by rw [hX.out.eq, hdr, wIns_cons])
      have HLE := Lib.hid (Nat.le_trans (wIn_le lf lv (kat ks j)) hX.out.le)
      clear hT3 h5r hdr hkid
      generalize hW : wIn lf lv (kat ks j) = W2 at *
      obtain ⟨b, l3⟩ := W2
      clear hW
      cases b with
      | true =>
        go_wp2_with fail
        refine HC.out.mono ?_
        rintro e w2 ⟨rfl, hs, hst⟩
        have HX : Hid (IxSt Lf Lw lv L5 ks Z w w2 (j + 1) l3) := ⟨hs, St.trans hX.out.st hst, HLE.out, HZ.out⟩
        clear hs hst HC e0 e1 e2 e3 e4 e5 e6 e7 e8 e9 e10
        go_wp2
        go_roundw
        case rel => exact ⟨j + 1, l3, by omega, by go_num, HX⟩
        case measure => simp [intOf]; omega
      | false =>
        go_wp2_with fail
        refine HC.out.mono ?_
        rintro e w2 ⟨rfl, hs, hst⟩
        have HX := Lib.hid (And.intro hs (St.trans hX.out.st hst))
        have hz : Z = (false, l3) := HZ.out
        subst hz
        clear hs hst HC e0 e1 e2 e3 e4 e5 e6 e7 e8 e9 e10
        go_wp2
        go_ret
        exact ⟨⟨_, rfl, by simp⟩, HX.out.1, HX.out.2⟩
    · have hz : Z = (true, lf) := by rw [hX.out.eq, List.drop_of_length_le (by rw [HN.out]; omega), wIns_nil]
      subst hz
      go_wp2
      go_ret
      exact ⟨⟨_, rfl, by simp⟩, hX.out.ws, hX.out.st⟩
end Go.Proofs.YtfnhogeocbndcaaGreatDoor
