/- The code's kidsFit: contract. -/
import Derived.Test.YthdbaligapdbeaaGreatDoorMgPsVh
import Derived.Test.YthdbaligapdbeaaGreatDoorMgPsVd
import Derived.Test.YthdbaligapdbeaaGreatDoorMgPsWi
import Derived.Laws.StructEq
import Derived.StillTailTactics
import Derived.Deep.Cut
import Derived.Laws.EntriesVeiled
import Derived.Deep.RegionHeld3
namespace Go.Proofs.YthdbaligapdbeaaGreatDoor
open Go Go.RowKit
set_option linter.unusedVariables false

set_option maxHeartbeats 1000000 in
theorem exactly_any (ks : List Tree) (gs : List (Int × Int)) (x : Option Addr) (k : Nat) (y : Option Addr) (c : Nat) (hy : ∀ (_ : 0 < gs.length), ∃ g, y = some ⟨g, 0, none⟩ ∧ True) (hc : gs.length ≤ c ∧ c ≤ 1000) (W : World) (hk1 : ks.length ≤ k) (hk2 : k ≤ maxLen)
  (hG : ∀ g, y = some ⟨g, 0, none⟩ → GrAt W g gs) (hT : ∀ i (hi : i < ks.length), ∃ ad, x = some ad ∧ True ∧ KidAt W (fun _ => True) ad i (kat ks i)) :
  Calls Tryz.prog 92 #[.slice x ks.length k, .slice y gs.length c] W fun e w' => e = .returned (.bool (exB ks gs)) ∧ Below W.heap.size W w' := by
 have HC := Hd (eqg_any ks gs x k y c hy hc W hk1 hk2 hG hT)
 clear hT hG hy
 generalize exB ks gs = R at *
 generalize ks.length = N at *
 generalize gs.length = M at *
 go_enter Tryz.func92, Tryz.ntmps92
 go_wp2_with fail
 refine HC.out.mono ?_
 rintro e w1 ⟨rfl, hb⟩
 have HB := Hd hb
 clear hb HC
 go_wp2
 go_ret
 exact ⟨rfl, HB.out⟩
theorem ex0 (ks : List Tree) (x : Option Addr) (k : Nat) (hk1 : ks.length ≤ k) (hk2 : k ≤ maxLen) (W : World) (hT : ∀ i (hi : i < ks.length), ∃ ad, x = some ad ∧ True ∧ KidAt W (fun _ => True) ad i (kat ks i)) :
  Calls Tryz.prog 92 #[.slice x ks.length k, .slice none 0 0] W fun e w' => e = .returned (.bool (exB ks [])) ∧ Below W.heap.size W w' :=
 exactly_any ks [] x k none 0 (fun h => by simp at h) ⟨by simp, by omega⟩ W hk1 hk2 (fun g h => by cases h) hT
theorem ex1 (ks : List Tree) (x : Option Addr) (k : Nat) (hk1 : ks.length ≤ k) (hk2 : k ≤ maxLen) (a1 b1 : Int) (g0 : Nat) (W : World) (hg0 : W.heap.size = g0) (hT : ∀ i (hi : i < ks.length), ∃ ad, x = some ad ∧ True ∧ KidAt W (fun _ => True) ad i (kat ks i)) :
  Calls Tryz.prog 92 #[.slice x ks.length k, .slice (some ⟨g0, 0, none⟩) 1 1] (W.alloc (.cells #[.int .i64 a1, .int .i64 b1] 99)) fun e w' => e = .returned (.bool (exB ks [(a1, b1)])) ∧ Below W.heap.size W w' := by
 subst hg0
 have hB := Blk.alloc W 99 [.int .i64 a1, .int .i64 b1]
 have hb := (Below.refl W.heap.size W).alloc (Nat.le_refl _) (.cells #[.int .i64 a1, .int .i64 b1] 99)
 refine (exactly_any ks [(a1, b1)] x k (some ⟨W.heap.size, 0, none⟩) 1 (fun _ => ⟨_, rfl, trivial⟩) ⟨by simp, by omega⟩ _ hk1 hk2 (fun g hg => ?_) fun i hi => ?_).mono fun e w' h => ⟨h.1, hb.trans (h.2.mono hb.size)⟩
 ·injection hg with hg
  injection hg with hg
  subst hg
  intro i hi
  have h3 : i = 0 := by simp at hi; omega
  rcases h3 with rfl
  ·exact ⟨hB.cell 0, hB.cell 1⟩
 ·obtain ⟨ad, h1, h2, h3⟩ := hT i hi
  exact ⟨ad, h1, h2, h3.keep h2 (fun g _ hl => hb.block g hl) fun _ _ _ => trivial⟩
theorem ex2 (ks : List Tree) (x : Option Addr) (k : Nat) (hk1 : ks.length ≤ k) (hk2 : k ≤ maxLen) (a1 b1 a2 b2 : Int) (g0 : Nat) (W : World) (hg0 : W.heap.size = g0) (hT : ∀ i (hi : i < ks.length), ∃ ad, x = some ad ∧ True ∧ KidAt W (fun _ => True) ad i (kat ks i)) :
  Calls Tryz.prog 92 #[.slice x ks.length k, .slice (some ⟨g0, 0, none⟩) 2 2] (W.alloc (.cells #[.int .i64 a1, .int .i64 b1, .int .i64 a2, .int .i64 b2] 99)) fun e w' => e = .returned (.bool (exB ks [(a1, b1), (a2, b2)])) ∧ Below W.heap.size W w' := by
 subst hg0
 have hB := Blk.alloc W 99 [.int .i64 a1, .int .i64 b1, .int .i64 a2, .int .i64 b2]
 have hb := (Below.refl W.heap.size W).alloc (Nat.le_refl _) (.cells #[.int .i64 a1, .int .i64 b1, .int .i64 a2, .int .i64 b2] 99)
 refine (exactly_any ks [(a1, b1), (a2, b2)] x k (some ⟨W.heap.size, 0, none⟩) 2 (fun _ => ⟨_, rfl, trivial⟩) ⟨by simp, by omega⟩ _ hk1 hk2 (fun g hg => ?_) fun i hi => ?_).mono fun e w' h => ⟨h.1, hb.trans (h.2.mono hb.size)⟩
 ·injection hg with hg
  injection hg with hg
  subst hg
  intro i hi
  have h3 : i = 0 ∨ i = 1 := by simp at hi; omega
  rcases h3 with rfl | rfl
  ·exact ⟨hB.cell 0, hB.cell 1⟩
  ·exact ⟨hB.cell 2, hB.cell 3⟩
 ·obtain ⟨ad, h1, h2, h3⟩ := hT i hi
  exact ⟨ad, h1, h2, h3.keep h2 (fun g _ hl => hb.block g hl) fun _ _ _ => trivial⟩
theorem ex3 (ks : List Tree) (x : Option Addr) (k : Nat) (hk1 : ks.length ≤ k) (hk2 : k ≤ maxLen) (a1 b1 a2 b2 a3 b3 : Int) (g0 : Nat) (W : World) (hg0 : W.heap.size = g0) (hT : ∀ i (hi : i < ks.length), ∃ ad, x = some ad ∧ True ∧ KidAt W (fun _ => True) ad i (kat ks i)) :
  Calls Tryz.prog 92 #[.slice x ks.length k, .slice (some ⟨g0, 0, none⟩) 3 3] (W.alloc (.cells #[.int .i64 a1, .int .i64 b1, .int .i64 a2, .int .i64 b2, .int .i64 a3, .int .i64 b3] 99)) fun e w' => e = .returned (.bool (exB ks [(a1, b1), (a2, b2), (a3, b3)])) ∧ Below W.heap.size W w' := by
 subst hg0
 have hB := Blk.alloc W 99 [.int .i64 a1, .int .i64 b1, .int .i64 a2, .int .i64 b2, .int .i64 a3, .int .i64 b3]
 have hb := (Below.refl W.heap.size W).alloc (Nat.le_refl _) (.cells #[.int .i64 a1, .int .i64 b1, .int .i64 a2, .int .i64 b2, .int .i64 a3, .int .i64 b3] 99)
 refine (exactly_any ks [(a1, b1), (a2, b2), (a3, b3)] x k (some ⟨W.heap.size, 0, none⟩) 3 (fun _ => ⟨_, rfl, trivial⟩) ⟨by simp, by omega⟩ _ hk1 hk2 (fun g hg => ?_) fun i hi => ?_).mono fun e w' h => ⟨h.1, hb.trans (h.2.mono hb.size)⟩
 ·injection hg with hg
  injection hg with hg
  subst hg
  intro i hi
  have h3 : i = 0 ∨ i = 1 ∨ i = 2 := by simp at hi; omega
  rcases h3 with rfl | rfl | rfl
  ·exact ⟨hB.cell 0, hB.cell 1⟩
  ·exact ⟨hB.cell 2, hB.cell 3⟩
  ·exact ⟨hB.cell 4, hB.cell 5⟩
 ·obtain ⟨ad, h1, h2, h3⟩ := hT i hi
  exact ⟨ad, h1, h2, h3.keep h2 (fun g _ hl => hb.block g hl) fun _ _ _ => trivial⟩
set_option maxHeartbeats 4000000 in
set_option maxRecDepth 100000 in
theorem kf_1 (lt : Lab) (ks : List Tree) (hk : lt.kind = 1) (l : Lab) (x : Option Addr) (n k : Nat) (w : World) (G : Gr w) (hT : TreeAt w (fun _ => True) [.int .i64 l.kind, .string (str l.name), .int .u64 l.num, .int .i64 l.wd, .bool l.sg, .int .i64 l.op, .int .i64 l.fac, .int .i64 l.pip, .int .i64 l.unr, .int .i64 l.line, .slice x n k] (.node lt ks)) :
  Calls Tryz.prog 55 #[.agg #[.int .i64 l.kind, .string (str l.name), .int .u64 l.num, .int .i64 l.wd, .bool l.sg, .int .i64 l.op, .int .i64 l.fac, .int .i64 l.pip, .int .i64 l.unr, .int .i64 l.line, .slice x n k]] w fun e w' => e = .returned (.bool (kidsB lt.kind ks)) ∧ Below w.heap.size w w' := by
 obtain ⟨xk, kk, hcs, hnk, hkm, hkids⟩ := TreeAt.kids hT
 obtain ⟨rfl, hv⟩ := lab_of (l := l) (m := lt) hcs
 simp only [Value.slice.injEq] at hv
 obtain ⟨rfl, rfl, rfl⟩ := hv
 clear hcs
 have HK : Hid (∀ W, Below w.heap.size w W → ∀ i, i < ks.length → ∃ a, x = some a ∧ True ∧ KidAt W (fun _ => True) a i (kat ks i)) := Hd fun W hb i hi => by
  obtain ⟨a, h1, h2, h3⟩ := hkids i hi
  exact ⟨a, h1, h2, h3.keep h2 (fun g hg hl => hb.block g hl) fun _ _ _ => trivial⟩
 have HB0 : Hid (BW w (w.alloc (.cells #[.int .i64 l.kind, .string (str l.name), .int .u64 l.num, .int .i64 l.wd, .bool l.sg, .int .i64 l.op, .int .i64 l.fac, .int .i64 l.pip, .int .i64 l.unr, .int .i64 l.line, .slice x ks.length k] 27)) [.int .i64 l.kind, .string (str l.name), .int .u64 l.num, .int .i64 l.wd, .bool l.sg, .int .i64 l.op, .int .i64 l.fac, .int .i64 l.pip, .int .i64 l.unr, .int .i64 l.line, .slice x ks.length k]) := Hd (BW.start w _)
 have HG0 : Hid (Gr (w.alloc (.cells #[.int .i64 l.kind, .string (str l.name), .int .u64 l.num, .int .i64 l.wd, .bool l.sg, .int .i64 l.op, .int .i64 l.fac, .int .i64 l.pip, .int .i64 l.unr, .int .i64 l.line, .slice x ks.length k] 27))) := Hd (G.below ((Below.refl w.heap.size w).alloc (Nat.le_refl _) _))
 have HR : Hid (kidsB l.kind ks = ks.all (kin 2 3)) := Hd (by rw [hk]; simp [kidsB])
 obtain ⟨a0, a1, a2, a3, a4, a5, a6, a7, a8, a9⟩ := l
 dsimp only at *
 subst hk
 clear hkids G
 have c0 := HB0.out.a.cell
 go_enter Tryz.func55, Tryz.ntmps55
 have vunits0 := HG0.out.units0
 have vunits1 := HG0.out.units1
 have HC := Hd (every_any 2 3 ks x k (Nat.le_trans hnk hkm) _ (HK.out _ HB0.out.bel))
 go_wp2_with fail
 refine HC.out.mono ?_
 rintro e w1 ⟨rfl, hb⟩
 have HB1 := Hd (HB0.out.call hb)
 clear hb HC
 go_wp2
 go_ret
 exact ⟨by rw [HR.out]; rfl, HB1.out.bel⟩
set_option maxHeartbeats 4000000 in
set_option maxRecDepth 100000 in
theorem kf_2 (lt : Lab) (ks : List Tree) (hk : lt.kind = 2) (l : Lab) (x : Option Addr) (n k : Nat) (w : World) (G : Gr w) (hT : TreeAt w (fun _ => True) [.int .i64 l.kind, .string (str l.name), .int .u64 l.num, .int .i64 l.wd, .bool l.sg, .int .i64 l.op, .int .i64 l.fac, .int .i64 l.pip, .int .i64 l.unr, .int .i64 l.line, .slice x n k] (.node lt ks)) :
  Calls Tryz.prog 55 #[.agg #[.int .i64 l.kind, .string (str l.name), .int .u64 l.num, .int .i64 l.wd, .bool l.sg, .int .i64 l.op, .int .i64 l.fac, .int .i64 l.pip, .int .i64 l.unr, .int .i64 l.line, .slice x n k]] w fun e w' => e = .returned (.bool (kidsB lt.kind ks)) ∧ Below w.heap.size w w' := by
 obtain ⟨xk, kk, hcs, hnk, hkm, hkids⟩ := TreeAt.kids hT
 obtain ⟨rfl, hv⟩ := lab_of (l := l) (m := lt) hcs
 simp only [Value.slice.injEq] at hv
 obtain ⟨rfl, rfl, rfl⟩ := hv
 clear hcs
 have HK : Hid (∀ W, Below w.heap.size w W → ∀ i, i < ks.length → ∃ a, x = some a ∧ True ∧ KidAt W (fun _ => True) a i (kat ks i)) := Hd fun W hb i hi => by
  obtain ⟨a, h1, h2, h3⟩ := hkids i hi
  exact ⟨a, h1, h2, h3.keep h2 (fun g hg hl => hb.block g hl) fun _ _ _ => trivial⟩
 have HB0 : Hid (BW w (w.alloc (.cells #[.int .i64 l.kind, .string (str l.name), .int .u64 l.num, .int .i64 l.wd, .bool l.sg, .int .i64 l.op, .int .i64 l.fac, .int .i64 l.pip, .int .i64 l.unr, .int .i64 l.line, .slice x ks.length k] 27)) [.int .i64 l.kind, .string (str l.name), .int .u64 l.num, .int .i64 l.wd, .bool l.sg, .int .i64 l.op, .int .i64 l.fac, .int .i64 l.pip, .int .i64 l.unr, .int .i64 l.line, .slice x ks.length k]) := Hd (BW.start w _)
 have HG0 : Hid (Gr (w.alloc (.cells #[.int .i64 l.kind, .string (str l.name), .int .u64 l.num, .int .i64 l.wd, .bool l.sg, .int .i64 l.op, .int .i64 l.fac, .int .i64 l.pip, .int .i64 l.unr, .int .i64 l.line, .slice x ks.length k] 27))) := Hd (G.below ((Below.refl w.heap.size w).alloc (Nat.le_refl _) _))
 have HR : Hid (kidsB l.kind ks = headB 4 4 ks) := Hd (by rw [hk]; simp [kidsB])
 obtain ⟨a0, a1, a2, a3, a4, a5, a6, a7, a8, a9⟩ := l
 dsimp only at *
 subst hk
 clear hkids G
 have c0 := HB0.out.a.cell
 go_enter Tryz.func55, Tryz.ntmps55
 have vscalars0 := HG0.out.scalars0
 have vscalars1 := HG0.out.scalars1
 have HC := Hd (header_any 4 4 ks x k hnk hkm _ HG0.out (HK.out _ HB0.out.bel))
 go_wp2_with fail
 refine HC.out.mono ?_
 rintro e w1 ⟨rfl, hb⟩
 have HB1 := Hd (HB0.out.call hb)
 clear hb HC
 go_wp2
 go_ret
 exact ⟨by rw [HR.out]; rfl, HB1.out.bel⟩
set_option maxHeartbeats 4000000 in
set_option maxRecDepth 100000 in
theorem kf_3 (lt : Lab) (ks : List Tree) (hk : lt.kind = 3) (l : Lab) (x : Option Addr) (n k : Nat) (w : World) (G : Gr w) (hT : TreeAt w (fun _ => True) [.int .i64 l.kind, .string (str l.name), .int .u64 l.num, .int .i64 l.wd, .bool l.sg, .int .i64 l.op, .int .i64 l.fac, .int .i64 l.pip, .int .i64 l.unr, .int .i64 l.line, .slice x n k] (.node lt ks)) :
  Calls Tryz.prog 55 #[.agg #[.int .i64 l.kind, .string (str l.name), .int .u64 l.num, .int .i64 l.wd, .bool l.sg, .int .i64 l.op, .int .i64 l.fac, .int .i64 l.pip, .int .i64 l.unr, .int .i64 l.line, .slice x n k]] w fun e w' => e = .returned (.bool (kidsB lt.kind ks)) ∧ Below w.heap.size w w' := by
 obtain ⟨xk, kk, hcs, hnk, hkm, hkids⟩ := TreeAt.kids hT
 obtain ⟨rfl, hv⟩ := lab_of (l := l) (m := lt) hcs
 simp only [Value.slice.injEq] at hv
 obtain ⟨rfl, rfl, rfl⟩ := hv
 clear hcs
 have HK : Hid (∀ W, Below w.heap.size w W → ∀ i, i < ks.length → ∃ a, x = some a ∧ True ∧ KidAt W (fun _ => True) a i (kat ks i)) := Hd fun W hb i hi => by
  obtain ⟨a, h1, h2, h3⟩ := hkids i hi
  exact ⟨a, h1, h2, h3.keep h2 (fun g hg hl => hb.block g hl) fun _ _ _ => trivial⟩
 have HB0 : Hid (BW w (w.alloc (.cells #[.int .i64 l.kind, .string (str l.name), .int .u64 l.num, .int .i64 l.wd, .bool l.sg, .int .i64 l.op, .int .i64 l.fac, .int .i64 l.pip, .int .i64 l.unr, .int .i64 l.line, .slice x ks.length k] 27)) [.int .i64 l.kind, .string (str l.name), .int .u64 l.num, .int .i64 l.wd, .bool l.sg, .int .i64 l.op, .int .i64 l.fac, .int .i64 l.pip, .int .i64 l.unr, .int .i64 l.line, .slice x ks.length k]) := Hd (BW.start w _)
 have HG0 : Hid (Gr (w.alloc (.cells #[.int .i64 l.kind, .string (str l.name), .int .u64 l.num, .int .i64 l.wd, .bool l.sg, .int .i64 l.op, .int .i64 l.fac, .int .i64 l.pip, .int .i64 l.unr, .int .i64 l.line, .slice x ks.length k] 27))) := Hd (G.below ((Below.refl w.heap.size w).alloc (Nat.le_refl _) _))
 have HR : Hid (kidsB l.kind ks = headB 4 7 ks) := Hd (by rw [hk]; simp [kidsB])
 obtain ⟨a0, a1, a2, a3, a4, a5, a6, a7, a8, a9⟩ := l
 dsimp only at *
 subst hk
 clear hkids G
 have c0 := HB0.out.a.cell
 go_enter Tryz.func55, Tryz.ntmps55
 have vparams0 := HG0.out.params0
 have vparams1 := HG0.out.params1
 have HC := Hd (header_any 4 7 ks x k hnk hkm _ HG0.out (HK.out _ HB0.out.bel))
 go_wp2_with fail
 refine HC.out.mono ?_
 rintro e w1 ⟨rfl, hb⟩
 have HB1 := Hd (HB0.out.call hb)
 clear hb HC
 go_wp2
 go_ret
 exact ⟨by rw [HR.out]; rfl, HB1.out.bel⟩
set_option maxHeartbeats 4000000 in
set_option maxRecDepth 100000 in
theorem kf_8 (lt : Lab) (ks : List Tree) (hk : lt.kind = 8) (l : Lab) (x : Option Addr) (n k : Nat) (w : World) (G : Gr w) (hT : TreeAt w (fun _ => True) [.int .i64 l.kind, .string (str l.name), .int .u64 l.num, .int .i64 l.wd, .bool l.sg, .int .i64 l.op, .int .i64 l.fac, .int .i64 l.pip, .int .i64 l.unr, .int .i64 l.line, .slice x n k] (.node lt ks)) :
  Calls Tryz.prog 55 #[.agg #[.int .i64 l.kind, .string (str l.name), .int .u64 l.num, .int .i64 l.wd, .bool l.sg, .int .i64 l.op, .int .i64 l.fac, .int .i64 l.pip, .int .i64 l.unr, .int .i64 l.line, .slice x n k]] w fun e w' => e = .returned (.bool (kidsB lt.kind ks)) ∧ Below w.heap.size w w' := by
 obtain ⟨xk, kk, hcs, hnk, hkm, hkids⟩ := TreeAt.kids hT
 obtain ⟨rfl, hv⟩ := lab_of (l := l) (m := lt) hcs
 simp only [Value.slice.injEq] at hv
 obtain ⟨rfl, rfl, rfl⟩ := hv
 clear hcs
 have HK : Hid (∀ W, Below w.heap.size w W → ∀ i, i < ks.length → ∃ a, x = some a ∧ True ∧ KidAt W (fun _ => True) a i (kat ks i)) := Hd fun W hb i hi => by
  obtain ⟨a, h1, h2, h3⟩ := hkids i hi
  exact ⟨a, h1, h2, h3.keep h2 (fun g hg hl => hb.block g hl) fun _ _ _ => trivial⟩
 have HB0 : Hid (BW w (w.alloc (.cells #[.int .i64 l.kind, .string (str l.name), .int .u64 l.num, .int .i64 l.wd, .bool l.sg, .int .i64 l.op, .int .i64 l.fac, .int .i64 l.pip, .int .i64 l.unr, .int .i64 l.line, .slice x ks.length k] 27)) [.int .i64 l.kind, .string (str l.name), .int .u64 l.num, .int .i64 l.wd, .bool l.sg, .int .i64 l.op, .int .i64 l.fac, .int .i64 l.pip, .int .i64 l.unr, .int .i64 l.line, .slice x ks.length k]) := Hd (BW.start w _)
 have HG0 : Hid (Gr (w.alloc (.cells #[.int .i64 l.kind, .string (str l.name), .int .u64 l.num, .int .i64 l.wd, .bool l.sg, .int .i64 l.op, .int .i64 l.fac, .int .i64 l.pip, .int .i64 l.unr, .int .i64 l.line, .slice x ks.length k] 27))) := Hd (G.below ((Below.refl w.heap.size w).alloc (Nat.le_refl _) _))
 have HR : Hid (kidsB l.kind ks = ks.all (kin 9 17)) := Hd (by rw [hk]; simp [kidsB])
 obtain ⟨a0, a1, a2, a3, a4, a5, a6, a7, a8, a9⟩ := l
 dsimp only at *
 subst hk
 clear hkids G
 have c0 := HB0.out.a.cell
 go_enter Tryz.func55, Tryz.ntmps55
 have vstatements0 := HG0.out.statements0
 have vstatements1 := HG0.out.statements1
 have HC := Hd (every_any 9 17 ks x k (Nat.le_trans hnk hkm) _ (HK.out _ HB0.out.bel))
 go_wp2_with fail
 refine HC.out.mono ?_
 rintro e w1 ⟨rfl, hb⟩
 have HB1 := Hd (HB0.out.call hb)
 clear hb HC
 go_wp2
 go_ret
 exact ⟨by rw [HR.out]; rfl, HB1.out.bel⟩
set_option maxHeartbeats 4000000 in
set_option maxRecDepth 100000 in
theorem kf_25 (lt : Lab) (ks : List Tree) (hk : lt.kind = 25) (l : Lab) (x : Option Addr) (n k : Nat) (w : World) (G : Gr w) (hT : TreeAt w (fun _ => True) [.int .i64 l.kind, .string (str l.name), .int .u64 l.num, .int .i64 l.wd, .bool l.sg, .int .i64 l.op, .int .i64 l.fac, .int .i64 l.pip, .int .i64 l.unr, .int .i64 l.line, .slice x n k] (.node lt ks)) :
  Calls Tryz.prog 55 #[.agg #[.int .i64 l.kind, .string (str l.name), .int .u64 l.num, .int .i64 l.wd, .bool l.sg, .int .i64 l.op, .int .i64 l.fac, .int .i64 l.pip, .int .i64 l.unr, .int .i64 l.line, .slice x n k]] w fun e w' => e = .returned (.bool (kidsB lt.kind ks)) ∧ Below w.heap.size w w' := by
 obtain ⟨xk, kk, hcs, hnk, hkm, hkids⟩ := TreeAt.kids hT
 obtain ⟨rfl, hv⟩ := lab_of (l := l) (m := lt) hcs
 simp only [Value.slice.injEq] at hv
 obtain ⟨rfl, rfl, rfl⟩ := hv
 clear hcs
 have HK : Hid (∀ W, Below w.heap.size w W → ∀ i, i < ks.length → ∃ a, x = some a ∧ True ∧ KidAt W (fun _ => True) a i (kat ks i)) := Hd fun W hb i hi => by
  obtain ⟨a, h1, h2, h3⟩ := hkids i hi
  exact ⟨a, h1, h2, h3.keep h2 (fun g hg hl => hb.block g hl) fun _ _ _ => trivial⟩
 have HB0 : Hid (BW w (w.alloc (.cells #[.int .i64 l.kind, .string (str l.name), .int .u64 l.num, .int .i64 l.wd, .bool l.sg, .int .i64 l.op, .int .i64 l.fac, .int .i64 l.pip, .int .i64 l.unr, .int .i64 l.line, .slice x ks.length k] 27)) [.int .i64 l.kind, .string (str l.name), .int .u64 l.num, .int .i64 l.wd, .bool l.sg, .int .i64 l.op, .int .i64 l.fac, .int .i64 l.pip, .int .i64 l.unr, .int .i64 l.line, .slice x ks.length k]) := Hd (BW.start w _)
 have HG0 : Hid (Gr (w.alloc (.cells #[.int .i64 l.kind, .string (str l.name), .int .u64 l.num, .int .i64 l.wd, .bool l.sg, .int .i64 l.op, .int .i64 l.fac, .int .i64 l.pip, .int .i64 l.unr, .int .i64 l.line, .slice x ks.length k] 27))) := Hd (G.below ((Below.refl w.heap.size w).alloc (Nat.le_refl _) _))
 have HR : Hid (kidsB l.kind ks = ks.all (kin 18 26)) := Hd (by rw [hk]; simp [kidsB])
 obtain ⟨a0, a1, a2, a3, a4, a5, a6, a7, a8, a9⟩ := l
 dsimp only at *
 subst hk
 clear hkids G
 have c0 := HB0.out.a.cell
 go_enter Tryz.func55, Tryz.ntmps55
 have vexprs0 := HG0.out.exprs.1
 have vexprs1 := HG0.out.exprs.2
 have HC := Hd (every_any 18 26 ks x k (Nat.le_trans hnk hkm) _ (HK.out _ HB0.out.bel))
 go_wp2_with fail
 refine HC.out.mono ?_
 rintro e w1 ⟨rfl, hb⟩
 have HB1 := Hd (HB0.out.call hb)
 clear hb HC
 go_wp2
 go_ret
 exact ⟨by rw [HR.out]; rfl, HB1.out.bel⟩
set_option maxHeartbeats 4000000 in
set_option maxRecDepth 100000 in
theorem kf_9 (lt : Lab) (ks : List Tree) (hk : lt.kind = 9) (l : Lab) (x : Option Addr) (n k : Nat) (w : World) (G : Gr w) (hT : TreeAt w (fun _ => True) [.int .i64 l.kind, .string (str l.name), .int .u64 l.num, .int .i64 l.wd, .bool l.sg, .int .i64 l.op, .int .i64 l.fac, .int .i64 l.pip, .int .i64 l.unr, .int .i64 l.line, .slice x n k] (.node lt ks)) :
  Calls Tryz.prog 55 #[.agg #[.int .i64 l.kind, .string (str l.name), .int .u64 l.num, .int .i64 l.wd, .bool l.sg, .int .i64 l.op, .int .i64 l.fac, .int .i64 l.pip, .int .i64 l.unr, .int .i64 l.line, .slice x n k]] w fun e w' => e = .returned (.bool (kidsB lt.kind ks)) ∧ Below w.heap.size w w' := by
 obtain ⟨xk, kk, hcs, hnk, hkm, hkids⟩ := TreeAt.kids hT
 obtain ⟨rfl, hv⟩ := lab_of (l := l) (m := lt) hcs
 simp only [Value.slice.injEq] at hv
 obtain ⟨rfl, rfl, rfl⟩ := hv
 clear hcs
 have HK : Hid (∀ W, Below w.heap.size w W → ∀ i, i < ks.length → ∃ a, x = some a ∧ True ∧ KidAt W (fun _ => True) a i (kat ks i)) := Hd fun W hb i hi => by
  obtain ⟨a, h1, h2, h3⟩ := hkids i hi
  exact ⟨a, h1, h2, h3.keep h2 (fun g hg hl => hb.block g hl) fun _ _ _ => trivial⟩
 have HB0 : Hid (BW w (w.alloc (.cells #[.int .i64 l.kind, .string (str l.name), .int .u64 l.num, .int .i64 l.wd, .bool l.sg, .int .i64 l.op, .int .i64 l.fac, .int .i64 l.pip, .int .i64 l.unr, .int .i64 l.line, .slice x ks.length k] 27)) [.int .i64 l.kind, .string (str l.name), .int .u64 l.num, .int .i64 l.wd, .bool l.sg, .int .i64 l.op, .int .i64 l.fac, .int .i64 l.pip, .int .i64 l.unr, .int .i64 l.line, .slice x ks.length k]) := Hd (BW.start w _)
 have HG0 : Hid (Gr (w.alloc (.cells #[.int .i64 l.kind, .string (str l.name), .int .u64 l.num, .int .i64 l.wd, .bool l.sg, .int .i64 l.op, .int .i64 l.fac, .int .i64 l.pip, .int .i64 l.unr, .int .i64 l.line, .slice x ks.length k] 27))) := Hd (G.below ((Below.refl w.heap.size w).alloc (Nat.le_refl _) _))
 have HR : Hid (kidsB l.kind ks = (exB ks [] || exB ks [(18, 26)])) := Hd (by rw [hk]; simp [kidsB])
 obtain ⟨a0, a1, a2, a3, a4, a5, a6, a7, a8, a9⟩ := l
 dsimp only at *
 subst hk
 clear hkids G
 have c0 := HB0.out.a.cell
 go_enter Tryz.func55, Tryz.ntmps55
 have HC0 := Hd (ex0 ks x k hnk hkm  _ (HK.out _ HB0.out.bel))
 go_wp2_with fail
 refine HC0.out.mono ?_
 rintro e w1 ⟨rfl, hb⟩
 have HB1 := Hd (HB0.out.call hb)
 have HG1 := Hd (HG0.out.below hb)
 have c1 := HB1.out.a.cell
 clear hb HC0
 generalize hb0 : exB ks [] = b0 at *
 clear hb0
 cases b0 with
 | true =>
  go_wp2
  go_ret
  exact ⟨by rw [HR.out]; rfl, HB1.out.bel⟩
 | false =>
  have vexprs0_1 := HG1.out.exprs.1
  have vexprs1_1 := HG1.out.exprs.2
  have HC1 := Hd (ex1 ks x k hnk hkm 18 26 _ _ rfl (HK.out _ HB1.out.bel))
  go_wp2_with fail
  refine HC1.out.mono ?_
  rintro e w2 ⟨rfl, hb⟩
  have HB2 := Hd (HB1.out.call hb)
  have HG2 := Hd (HG1.out.below hb)
  have c2 := HB2.out.a.cell
  clear hb HC1
  go_wp2
  go_ret
  exact ⟨by rw [HR.out]; rfl, HB2.out.bel⟩
set_option maxHeartbeats 4000000 in
set_option maxRecDepth 100000 in
theorem kf_10 (lt : Lab) (ks : List Tree) (hk : lt.kind = 10) (l : Lab) (x : Option Addr) (n k : Nat) (w : World) (G : Gr w) (hT : TreeAt w (fun _ => True) [.int .i64 l.kind, .string (str l.name), .int .u64 l.num, .int .i64 l.wd, .bool l.sg, .int .i64 l.op, .int .i64 l.fac, .int .i64 l.pip, .int .i64 l.unr, .int .i64 l.line, .slice x n k] (.node lt ks)) :
  Calls Tryz.prog 55 #[.agg #[.int .i64 l.kind, .string (str l.name), .int .u64 l.num, .int .i64 l.wd, .bool l.sg, .int .i64 l.op, .int .i64 l.fac, .int .i64 l.pip, .int .i64 l.unr, .int .i64 l.line, .slice x n k]] w fun e w' => e = .returned (.bool (kidsB lt.kind ks)) ∧ Below w.heap.size w w' := by
 obtain ⟨xk, kk, hcs, hnk, hkm, hkids⟩ := TreeAt.kids hT
 obtain ⟨rfl, hv⟩ := lab_of (l := l) (m := lt) hcs
 simp only [Value.slice.injEq] at hv
 obtain ⟨rfl, rfl, rfl⟩ := hv
 clear hcs
 have HK : Hid (∀ W, Below w.heap.size w W → ∀ i, i < ks.length → ∃ a, x = some a ∧ True ∧ KidAt W (fun _ => True) a i (kat ks i)) := Hd fun W hb i hi => by
  obtain ⟨a, h1, h2, h3⟩ := hkids i hi
  exact ⟨a, h1, h2, h3.keep h2 (fun g hg hl => hb.block g hl) fun _ _ _ => trivial⟩
 have HB0 : Hid (BW w (w.alloc (.cells #[.int .i64 l.kind, .string (str l.name), .int .u64 l.num, .int .i64 l.wd, .bool l.sg, .int .i64 l.op, .int .i64 l.fac, .int .i64 l.pip, .int .i64 l.unr, .int .i64 l.line, .slice x ks.length k] 27)) [.int .i64 l.kind, .string (str l.name), .int .u64 l.num, .int .i64 l.wd, .bool l.sg, .int .i64 l.op, .int .i64 l.fac, .int .i64 l.pip, .int .i64 l.unr, .int .i64 l.line, .slice x ks.length k]) := Hd (BW.start w _)
 have HG0 : Hid (Gr (w.alloc (.cells #[.int .i64 l.kind, .string (str l.name), .int .u64 l.num, .int .i64 l.wd, .bool l.sg, .int .i64 l.op, .int .i64 l.fac, .int .i64 l.pip, .int .i64 l.unr, .int .i64 l.line, .slice x ks.length k] 27))) := Hd (G.below ((Below.refl w.heap.size w).alloc (Nat.le_refl _) _))
 have HR : Hid (kidsB l.kind ks = exB ks [(18, 26)]) := Hd (by rw [hk]; simp [kidsB, kE])
 obtain ⟨a0, a1, a2, a3, a4, a5, a6, a7, a8, a9⟩ := l
 dsimp only at *
 subst hk
 clear hkids G
 have c0 := HB0.out.a.cell
 go_enter Tryz.func55, Tryz.ntmps55
 have vexprs0_0 := HG0.out.exprs.1
 have vexprs1_0 := HG0.out.exprs.2
 have HC0 := Hd (ex1 ks x k hnk hkm 18 26 (w.heap.size + 1) _ (by simp) (HK.out _ HB0.out.bel))
 go_wp2_with fail
 refine HC0.out.mono ?_
 rintro e w1 ⟨rfl, hb⟩
 have HB1 := Hd (HB0.out.call hb)
 have HG1 := Hd (HG0.out.below hb)
 have c1 := HB1.out.a.cell
 clear hb HC0
 go_wp2
 go_ret
 exact ⟨by rw [HR.out]; rfl, HB1.out.bel⟩
set_option maxHeartbeats 4000000 in
set_option maxRecDepth 100000 in
theorem kf_11 (lt : Lab) (ks : List Tree) (hk : lt.kind = 11) (l : Lab) (x : Option Addr) (n k : Nat) (w : World) (G : Gr w) (hT : TreeAt w (fun _ => True) [.int .i64 l.kind, .string (str l.name), .int .u64 l.num, .int .i64 l.wd, .bool l.sg, .int .i64 l.op, .int .i64 l.fac, .int .i64 l.pip, .int .i64 l.unr, .int .i64 l.line, .slice x n k] (.node lt ks)) :
  Calls Tryz.prog 55 #[.agg #[.int .i64 l.kind, .string (str l.name), .int .u64 l.num, .int .i64 l.wd, .bool l.sg, .int .i64 l.op, .int .i64 l.fac, .int .i64 l.pip, .int .i64 l.unr, .int .i64 l.line, .slice x n k]] w fun e w' => e = .returned (.bool (kidsB lt.kind ks)) ∧ Below w.heap.size w w' := by
 obtain ⟨xk, kk, hcs, hnk, hkm, hkids⟩ := TreeAt.kids hT
 obtain ⟨rfl, hv⟩ := lab_of (l := l) (m := lt) hcs
 simp only [Value.slice.injEq] at hv
 obtain ⟨rfl, rfl, rfl⟩ := hv
 clear hcs
 have HK : Hid (∀ W, Below w.heap.size w W → ∀ i, i < ks.length → ∃ a, x = some a ∧ True ∧ KidAt W (fun _ => True) a i (kat ks i)) := Hd fun W hb i hi => by
  obtain ⟨a, h1, h2, h3⟩ := hkids i hi
  exact ⟨a, h1, h2, h3.keep h2 (fun g hg hl => hb.block g hl) fun _ _ _ => trivial⟩
 have HB0 : Hid (BW w (w.alloc (.cells #[.int .i64 l.kind, .string (str l.name), .int .u64 l.num, .int .i64 l.wd, .bool l.sg, .int .i64 l.op, .int .i64 l.fac, .int .i64 l.pip, .int .i64 l.unr, .int .i64 l.line, .slice x ks.length k] 27)) [.int .i64 l.kind, .string (str l.name), .int .u64 l.num, .int .i64 l.wd, .bool l.sg, .int .i64 l.op, .int .i64 l.fac, .int .i64 l.pip, .int .i64 l.unr, .int .i64 l.line, .slice x ks.length k]) := Hd (BW.start w _)
 have HG0 : Hid (Gr (w.alloc (.cells #[.int .i64 l.kind, .string (str l.name), .int .u64 l.num, .int .i64 l.wd, .bool l.sg, .int .i64 l.op, .int .i64 l.fac, .int .i64 l.pip, .int .i64 l.unr, .int .i64 l.line, .slice x ks.length k] 27))) := Hd (G.below ((Below.refl w.heap.size w).alloc (Nat.le_refl _) _))
 have HR : Hid (kidsB l.kind ks = exB ks [(18, 26)]) := Hd (by rw [hk]; simp [kidsB, kE])
 obtain ⟨a0, a1, a2, a3, a4, a5, a6, a7, a8, a9⟩ := l
 dsimp only at *
 subst hk
 clear hkids G
 have c0 := HB0.out.a.cell
 go_enter Tryz.func55, Tryz.ntmps55
 have vexprs0_0 := HG0.out.exprs.1
 have vexprs1_0 := HG0.out.exprs.2
 have HC0 := Hd (ex1 ks x k hnk hkm 18 26 (w.heap.size + 1) _ (by simp) (HK.out _ HB0.out.bel))
 go_wp2_with fail
 refine HC0.out.mono ?_
 rintro e w1 ⟨rfl, hb⟩
 have HB1 := Hd (HB0.out.call hb)
 have HG1 := Hd (HG0.out.below hb)
 have c1 := HB1.out.a.cell
 clear hb HC0
 go_wp2
 go_ret
 exact ⟨by rw [HR.out]; rfl, HB1.out.bel⟩
set_option maxHeartbeats 4000000 in
set_option maxRecDepth 100000 in
theorem kf_16 (lt : Lab) (ks : List Tree) (hk : lt.kind = 16) (l : Lab) (x : Option Addr) (n k : Nat) (w : World) (G : Gr w) (hT : TreeAt w (fun _ => True) [.int .i64 l.kind, .string (str l.name), .int .u64 l.num, .int .i64 l.wd, .bool l.sg, .int .i64 l.op, .int .i64 l.fac, .int .i64 l.pip, .int .i64 l.unr, .int .i64 l.line, .slice x n k] (.node lt ks)) :
  Calls Tryz.prog 55 #[.agg #[.int .i64 l.kind, .string (str l.name), .int .u64 l.num, .int .i64 l.wd, .bool l.sg, .int .i64 l.op, .int .i64 l.fac, .int .i64 l.pip, .int .i64 l.unr, .int .i64 l.line, .slice x n k]] w fun e w' => e = .returned (.bool (kidsB lt.kind ks)) ∧ Below w.heap.size w w' := by
 obtain ⟨xk, kk, hcs, hnk, hkm, hkids⟩ := TreeAt.kids hT
 obtain ⟨rfl, hv⟩ := lab_of (l := l) (m := lt) hcs
 simp only [Value.slice.injEq] at hv
 obtain ⟨rfl, rfl, rfl⟩ := hv
 clear hcs
 have HK : Hid (∀ W, Below w.heap.size w W → ∀ i, i < ks.length → ∃ a, x = some a ∧ True ∧ KidAt W (fun _ => True) a i (kat ks i)) := Hd fun W hb i hi => by
  obtain ⟨a, h1, h2, h3⟩ := hkids i hi
  exact ⟨a, h1, h2, h3.keep h2 (fun g hg hl => hb.block g hl) fun _ _ _ => trivial⟩
 have HB0 : Hid (BW w (w.alloc (.cells #[.int .i64 l.kind, .string (str l.name), .int .u64 l.num, .int .i64 l.wd, .bool l.sg, .int .i64 l.op, .int .i64 l.fac, .int .i64 l.pip, .int .i64 l.unr, .int .i64 l.line, .slice x ks.length k] 27)) [.int .i64 l.kind, .string (str l.name), .int .u64 l.num, .int .i64 l.wd, .bool l.sg, .int .i64 l.op, .int .i64 l.fac, .int .i64 l.pip, .int .i64 l.unr, .int .i64 l.line, .slice x ks.length k]) := Hd (BW.start w _)
 have HG0 : Hid (Gr (w.alloc (.cells #[.int .i64 l.kind, .string (str l.name), .int .u64 l.num, .int .i64 l.wd, .bool l.sg, .int .i64 l.op, .int .i64 l.fac, .int .i64 l.pip, .int .i64 l.unr, .int .i64 l.line, .slice x ks.length k] 27))) := Hd (G.below ((Below.refl w.heap.size w).alloc (Nat.le_refl _) _))
 have HR : Hid (kidsB l.kind ks = exB ks [(18, 26)]) := Hd (by rw [hk]; simp [kidsB, kE])
 obtain ⟨a0, a1, a2, a3, a4, a5, a6, a7, a8, a9⟩ := l
 dsimp only at *
 subst hk
 clear hkids G
 have c0 := HB0.out.a.cell
 go_enter Tryz.func55, Tryz.ntmps55
 have vexprs0_0 := HG0.out.exprs.1
 have vexprs1_0 := HG0.out.exprs.2
 have HC0 := Hd (ex1 ks x k hnk hkm 18 26 (w.heap.size + 1) _ (by simp) (HK.out _ HB0.out.bel))
 go_wp2_with fail
 refine HC0.out.mono ?_
 rintro e w1 ⟨rfl, hb⟩
 have HB1 := Hd (HB0.out.call hb)
 have HG1 := Hd (HG0.out.below hb)
 have c1 := HB1.out.a.cell
 clear hb HC0
 go_wp2
 go_ret
 exact ⟨by rw [HR.out]; rfl, HB1.out.bel⟩
set_option maxHeartbeats 4000000 in
set_option maxRecDepth 100000 in
theorem kf_17 (lt : Lab) (ks : List Tree) (hk : lt.kind = 17) (l : Lab) (x : Option Addr) (n k : Nat) (w : World) (G : Gr w) (hT : TreeAt w (fun _ => True) [.int .i64 l.kind, .string (str l.name), .int .u64 l.num, .int .i64 l.wd, .bool l.sg, .int .i64 l.op, .int .i64 l.fac, .int .i64 l.pip, .int .i64 l.unr, .int .i64 l.line, .slice x n k] (.node lt ks)) :
  Calls Tryz.prog 55 #[.agg #[.int .i64 l.kind, .string (str l.name), .int .u64 l.num, .int .i64 l.wd, .bool l.sg, .int .i64 l.op, .int .i64 l.fac, .int .i64 l.pip, .int .i64 l.unr, .int .i64 l.line, .slice x n k]] w fun e w' => e = .returned (.bool (kidsB lt.kind ks)) ∧ Below w.heap.size w w' := by
 obtain ⟨xk, kk, hcs, hnk, hkm, hkids⟩ := TreeAt.kids hT
 obtain ⟨rfl, hv⟩ := lab_of (l := l) (m := lt) hcs
 simp only [Value.slice.injEq] at hv
 obtain ⟨rfl, rfl, rfl⟩ := hv
 clear hcs
 have HK : Hid (∀ W, Below w.heap.size w W → ∀ i, i < ks.length → ∃ a, x = some a ∧ True ∧ KidAt W (fun _ => True) a i (kat ks i)) := Hd fun W hb i hi => by
  obtain ⟨a, h1, h2, h3⟩ := hkids i hi
  exact ⟨a, h1, h2, h3.keep h2 (fun g hg hl => hb.block g hl) fun _ _ _ => trivial⟩
 have HB0 : Hid (BW w (w.alloc (.cells #[.int .i64 l.kind, .string (str l.name), .int .u64 l.num, .int .i64 l.wd, .bool l.sg, .int .i64 l.op, .int .i64 l.fac, .int .i64 l.pip, .int .i64 l.unr, .int .i64 l.line, .slice x ks.length k] 27)) [.int .i64 l.kind, .string (str l.name), .int .u64 l.num, .int .i64 l.wd, .bool l.sg, .int .i64 l.op, .int .i64 l.fac, .int .i64 l.pip, .int .i64 l.unr, .int .i64 l.line, .slice x ks.length k]) := Hd (BW.start w _)
 have HG0 : Hid (Gr (w.alloc (.cells #[.int .i64 l.kind, .string (str l.name), .int .u64 l.num, .int .i64 l.wd, .bool l.sg, .int .i64 l.op, .int .i64 l.fac, .int .i64 l.pip, .int .i64 l.unr, .int .i64 l.line, .slice x ks.length k] 27))) := Hd (G.below ((Below.refl w.heap.size w).alloc (Nat.le_refl _) _))
 have HR : Hid (kidsB l.kind ks = exB ks [(18, 26)]) := Hd (by rw [hk]; simp [kidsB, kE])
 obtain ⟨a0, a1, a2, a3, a4, a5, a6, a7, a8, a9⟩ := l
 dsimp only at *
 subst hk
 clear hkids G
 have c0 := HB0.out.a.cell
 go_enter Tryz.func55, Tryz.ntmps55
 have vexprs0_0 := HG0.out.exprs.1
 have vexprs1_0 := HG0.out.exprs.2
 have HC0 := Hd (ex1 ks x k hnk hkm 18 26 (w.heap.size + 1) _ (by simp) (HK.out _ HB0.out.bel))
 go_wp2_with fail
 refine HC0.out.mono ?_
 rintro e w1 ⟨rfl, hb⟩
 have HB1 := Hd (HB0.out.call hb)
 have HG1 := Hd (HG0.out.below hb)
 have c1 := HB1.out.a.cell
 clear hb HC0
 go_wp2
 go_ret
 exact ⟨by rw [HR.out]; rfl, HB1.out.bel⟩
set_option maxHeartbeats 4000000 in
set_option maxRecDepth 100000 in
theorem kf_20 (lt : Lab) (ks : List Tree) (hk : lt.kind = 20) (l : Lab) (x : Option Addr) (n k : Nat) (w : World) (G : Gr w) (hT : TreeAt w (fun _ => True) [.int .i64 l.kind, .string (str l.name), .int .u64 l.num, .int .i64 l.wd, .bool l.sg, .int .i64 l.op, .int .i64 l.fac, .int .i64 l.pip, .int .i64 l.unr, .int .i64 l.line, .slice x n k] (.node lt ks)) :
  Calls Tryz.prog 55 #[.agg #[.int .i64 l.kind, .string (str l.name), .int .u64 l.num, .int .i64 l.wd, .bool l.sg, .int .i64 l.op, .int .i64 l.fac, .int .i64 l.pip, .int .i64 l.unr, .int .i64 l.line, .slice x n k]] w fun e w' => e = .returned (.bool (kidsB lt.kind ks)) ∧ Below w.heap.size w w' := by
 obtain ⟨xk, kk, hcs, hnk, hkm, hkids⟩ := TreeAt.kids hT
 obtain ⟨rfl, hv⟩ := lab_of (l := l) (m := lt) hcs
 simp only [Value.slice.injEq] at hv
 obtain ⟨rfl, rfl, rfl⟩ := hv
 clear hcs
 have HK : Hid (∀ W, Below w.heap.size w W → ∀ i, i < ks.length → ∃ a, x = some a ∧ True ∧ KidAt W (fun _ => True) a i (kat ks i)) := Hd fun W hb i hi => by
  obtain ⟨a, h1, h2, h3⟩ := hkids i hi
  exact ⟨a, h1, h2, h3.keep h2 (fun g hg hl => hb.block g hl) fun _ _ _ => trivial⟩
 have HB0 : Hid (BW w (w.alloc (.cells #[.int .i64 l.kind, .string (str l.name), .int .u64 l.num, .int .i64 l.wd, .bool l.sg, .int .i64 l.op, .int .i64 l.fac, .int .i64 l.pip, .int .i64 l.unr, .int .i64 l.line, .slice x ks.length k] 27)) [.int .i64 l.kind, .string (str l.name), .int .u64 l.num, .int .i64 l.wd, .bool l.sg, .int .i64 l.op, .int .i64 l.fac, .int .i64 l.pip, .int .i64 l.unr, .int .i64 l.line, .slice x ks.length k]) := Hd (BW.start w _)
 have HG0 : Hid (Gr (w.alloc (.cells #[.int .i64 l.kind, .string (str l.name), .int .u64 l.num, .int .i64 l.wd, .bool l.sg, .int .i64 l.op, .int .i64 l.fac, .int .i64 l.pip, .int .i64 l.unr, .int .i64 l.line, .slice x ks.length k] 27))) := Hd (G.below ((Below.refl w.heap.size w).alloc (Nat.le_refl _) _))
 have HR : Hid (kidsB l.kind ks = exB ks [(18, 26)]) := Hd (by rw [hk]; simp [kidsB, kE])
 obtain ⟨a0, a1, a2, a3, a4, a5, a6, a7, a8, a9⟩ := l
 dsimp only at *
 subst hk
 clear hkids G
 have c0 := HB0.out.a.cell
 go_enter Tryz.func55, Tryz.ntmps55
 have vexprs0_0 := HG0.out.exprs.1
 have vexprs1_0 := HG0.out.exprs.2
 have HC0 := Hd (ex1 ks x k hnk hkm 18 26 (w.heap.size + 1) _ (by simp) (HK.out _ HB0.out.bel))
 go_wp2_with fail
 refine HC0.out.mono ?_
 rintro e w1 ⟨rfl, hb⟩
 have HB1 := Hd (HB0.out.call hb)
 have HG1 := Hd (HG0.out.below hb)
 have c1 := HB1.out.a.cell
 clear hb HC0
 go_wp2
 go_ret
 exact ⟨by rw [HR.out]; rfl, HB1.out.bel⟩
set_option maxHeartbeats 4000000 in
set_option maxRecDepth 100000 in
theorem kf_21 (lt : Lab) (ks : List Tree) (hk : lt.kind = 21) (l : Lab) (x : Option Addr) (n k : Nat) (w : World) (G : Gr w) (hT : TreeAt w (fun _ => True) [.int .i64 l.kind, .string (str l.name), .int .u64 l.num, .int .i64 l.wd, .bool l.sg, .int .i64 l.op, .int .i64 l.fac, .int .i64 l.pip, .int .i64 l.unr, .int .i64 l.line, .slice x n k] (.node lt ks)) :
  Calls Tryz.prog 55 #[.agg #[.int .i64 l.kind, .string (str l.name), .int .u64 l.num, .int .i64 l.wd, .bool l.sg, .int .i64 l.op, .int .i64 l.fac, .int .i64 l.pip, .int .i64 l.unr, .int .i64 l.line, .slice x n k]] w fun e w' => e = .returned (.bool (kidsB lt.kind ks)) ∧ Below w.heap.size w w' := by
 obtain ⟨xk, kk, hcs, hnk, hkm, hkids⟩ := TreeAt.kids hT
 obtain ⟨rfl, hv⟩ := lab_of (l := l) (m := lt) hcs
 simp only [Value.slice.injEq] at hv
 obtain ⟨rfl, rfl, rfl⟩ := hv
 clear hcs
 have HK : Hid (∀ W, Below w.heap.size w W → ∀ i, i < ks.length → ∃ a, x = some a ∧ True ∧ KidAt W (fun _ => True) a i (kat ks i)) := Hd fun W hb i hi => by
  obtain ⟨a, h1, h2, h3⟩ := hkids i hi
  exact ⟨a, h1, h2, h3.keep h2 (fun g hg hl => hb.block g hl) fun _ _ _ => trivial⟩
 have HB0 : Hid (BW w (w.alloc (.cells #[.int .i64 l.kind, .string (str l.name), .int .u64 l.num, .int .i64 l.wd, .bool l.sg, .int .i64 l.op, .int .i64 l.fac, .int .i64 l.pip, .int .i64 l.unr, .int .i64 l.line, .slice x ks.length k] 27)) [.int .i64 l.kind, .string (str l.name), .int .u64 l.num, .int .i64 l.wd, .bool l.sg, .int .i64 l.op, .int .i64 l.fac, .int .i64 l.pip, .int .i64 l.unr, .int .i64 l.line, .slice x ks.length k]) := Hd (BW.start w _)
 have HG0 : Hid (Gr (w.alloc (.cells #[.int .i64 l.kind, .string (str l.name), .int .u64 l.num, .int .i64 l.wd, .bool l.sg, .int .i64 l.op, .int .i64 l.fac, .int .i64 l.pip, .int .i64 l.unr, .int .i64 l.line, .slice x ks.length k] 27))) := Hd (G.below ((Below.refl w.heap.size w).alloc (Nat.le_refl _) _))
 have HR : Hid (kidsB l.kind ks = exB ks [(18, 26)]) := Hd (by rw [hk]; simp [kidsB, kE])
 obtain ⟨a0, a1, a2, a3, a4, a5, a6, a7, a8, a9⟩ := l
 dsimp only at *
 subst hk
 clear hkids G
 have c0 := HB0.out.a.cell
 go_enter Tryz.func55, Tryz.ntmps55
 have vexprs0_0 := HG0.out.exprs.1
 have vexprs1_0 := HG0.out.exprs.2
 have HC0 := Hd (ex1 ks x k hnk hkm 18 26 (w.heap.size + 1) _ (by simp) (HK.out _ HB0.out.bel))
 go_wp2_with fail
 refine HC0.out.mono ?_
 rintro e w1 ⟨rfl, hb⟩
 have HB1 := Hd (HB0.out.call hb)
 have HG1 := Hd (HG0.out.below hb)
 have c1 := HB1.out.a.cell
 clear hb HC0
 go_wp2
 go_ret
 exact ⟨by rw [HR.out]; rfl, HB1.out.bel⟩
set_option maxHeartbeats 4000000 in
set_option maxRecDepth 100000 in
theorem kf_24 (lt : Lab) (ks : List Tree) (hk : lt.kind = 24) (l : Lab) (x : Option Addr) (n k : Nat) (w : World) (G : Gr w) (hT : TreeAt w (fun _ => True) [.int .i64 l.kind, .string (str l.name), .int .u64 l.num, .int .i64 l.wd, .bool l.sg, .int .i64 l.op, .int .i64 l.fac, .int .i64 l.pip, .int .i64 l.unr, .int .i64 l.line, .slice x n k] (.node lt ks)) :
  Calls Tryz.prog 55 #[.agg #[.int .i64 l.kind, .string (str l.name), .int .u64 l.num, .int .i64 l.wd, .bool l.sg, .int .i64 l.op, .int .i64 l.fac, .int .i64 l.pip, .int .i64 l.unr, .int .i64 l.line, .slice x n k]] w fun e w' => e = .returned (.bool (kidsB lt.kind ks)) ∧ Below w.heap.size w w' := by
 obtain ⟨xk, kk, hcs, hnk, hkm, hkids⟩ := TreeAt.kids hT
 obtain ⟨rfl, hv⟩ := lab_of (l := l) (m := lt) hcs
 simp only [Value.slice.injEq] at hv
 obtain ⟨rfl, rfl, rfl⟩ := hv
 clear hcs
 have HK : Hid (∀ W, Below w.heap.size w W → ∀ i, i < ks.length → ∃ a, x = some a ∧ True ∧ KidAt W (fun _ => True) a i (kat ks i)) := Hd fun W hb i hi => by
  obtain ⟨a, h1, h2, h3⟩ := hkids i hi
  exact ⟨a, h1, h2, h3.keep h2 (fun g hg hl => hb.block g hl) fun _ _ _ => trivial⟩
 have HB0 : Hid (BW w (w.alloc (.cells #[.int .i64 l.kind, .string (str l.name), .int .u64 l.num, .int .i64 l.wd, .bool l.sg, .int .i64 l.op, .int .i64 l.fac, .int .i64 l.pip, .int .i64 l.unr, .int .i64 l.line, .slice x ks.length k] 27)) [.int .i64 l.kind, .string (str l.name), .int .u64 l.num, .int .i64 l.wd, .bool l.sg, .int .i64 l.op, .int .i64 l.fac, .int .i64 l.pip, .int .i64 l.unr, .int .i64 l.line, .slice x ks.length k]) := Hd (BW.start w _)
 have HG0 : Hid (Gr (w.alloc (.cells #[.int .i64 l.kind, .string (str l.name), .int .u64 l.num, .int .i64 l.wd, .bool l.sg, .int .i64 l.op, .int .i64 l.fac, .int .i64 l.pip, .int .i64 l.unr, .int .i64 l.line, .slice x ks.length k] 27))) := Hd (G.below ((Below.refl w.heap.size w).alloc (Nat.le_refl _) _))
 have HR : Hid (kidsB l.kind ks = exB ks [(18, 26)]) := Hd (by rw [hk]; simp [kidsB, kE])
 obtain ⟨a0, a1, a2, a3, a4, a5, a6, a7, a8, a9⟩ := l
 dsimp only at *
 subst hk
 clear hkids G
 have c0 := HB0.out.a.cell
 go_enter Tryz.func55, Tryz.ntmps55
 have vexprs0_0 := HG0.out.exprs.1
 have vexprs1_0 := HG0.out.exprs.2
 have HC0 := Hd (ex1 ks x k hnk hkm 18 26 (w.heap.size + 1) _ (by simp) (HK.out _ HB0.out.bel))
 go_wp2_with fail
 refine HC0.out.mono ?_
 rintro e w1 ⟨rfl, hb⟩
 have HB1 := Hd (HB0.out.call hb)
 have HG1 := Hd (HG0.out.below hb)
 have c1 := HB1.out.a.cell
 clear hb HC0
 go_wp2
 go_ret
 exact ⟨by rw [HR.out]; rfl, HB1.out.bel⟩
set_option maxHeartbeats 4000000 in
set_option maxRecDepth 100000 in
theorem kf_12 (lt : Lab) (ks : List Tree) (hk : lt.kind = 12) (l : Lab) (x : Option Addr) (n k : Nat) (w : World) (G : Gr w) (hT : TreeAt w (fun _ => True) [.int .i64 l.kind, .string (str l.name), .int .u64 l.num, .int .i64 l.wd, .bool l.sg, .int .i64 l.op, .int .i64 l.fac, .int .i64 l.pip, .int .i64 l.unr, .int .i64 l.line, .slice x n k] (.node lt ks)) :
  Calls Tryz.prog 55 #[.agg #[.int .i64 l.kind, .string (str l.name), .int .u64 l.num, .int .i64 l.wd, .bool l.sg, .int .i64 l.op, .int .i64 l.fac, .int .i64 l.pip, .int .i64 l.unr, .int .i64 l.line, .slice x n k]] w fun e w' => e = .returned (.bool (kidsB lt.kind ks)) ∧ Below w.heap.size w w' := by
 obtain ⟨xk, kk, hcs, hnk, hkm, hkids⟩ := TreeAt.kids hT
 obtain ⟨rfl, hv⟩ := lab_of (l := l) (m := lt) hcs
 simp only [Value.slice.injEq] at hv
 obtain ⟨rfl, rfl, rfl⟩ := hv
 clear hcs
 have HK : Hid (∀ W, Below w.heap.size w W → ∀ i, i < ks.length → ∃ a, x = some a ∧ True ∧ KidAt W (fun _ => True) a i (kat ks i)) := Hd fun W hb i hi => by
  obtain ⟨a, h1, h2, h3⟩ := hkids i hi
  exact ⟨a, h1, h2, h3.keep h2 (fun g hg hl => hb.block g hl) fun _ _ _ => trivial⟩
 have HB0 : Hid (BW w (w.alloc (.cells #[.int .i64 l.kind, .string (str l.name), .int .u64 l.num, .int .i64 l.wd, .bool l.sg, .int .i64 l.op, .int .i64 l.fac, .int .i64 l.pip, .int .i64 l.unr, .int .i64 l.line, .slice x ks.length k] 27)) [.int .i64 l.kind, .string (str l.name), .int .u64 l.num, .int .i64 l.wd, .bool l.sg, .int .i64 l.op, .int .i64 l.fac, .int .i64 l.pip, .int .i64 l.unr, .int .i64 l.line, .slice x ks.length k]) := Hd (BW.start w _)
 have HG0 : Hid (Gr (w.alloc (.cells #[.int .i64 l.kind, .string (str l.name), .int .u64 l.num, .int .i64 l.wd, .bool l.sg, .int .i64 l.op, .int .i64 l.fac, .int .i64 l.pip, .int .i64 l.unr, .int .i64 l.line, .slice x ks.length k] 27))) := Hd (G.below ((Below.refl w.heap.size w).alloc (Nat.le_refl _) _))
 have HR : Hid (kidsB l.kind ks = exB ks [(18, 26), (18, 26)]) := Hd (by rw [hk]; simp [kidsB, kE])
 obtain ⟨a0, a1, a2, a3, a4, a5, a6, a7, a8, a9⟩ := l
 dsimp only at *
 subst hk
 clear hkids G
 have c0 := HB0.out.a.cell
 go_enter Tryz.func55, Tryz.ntmps55
 have vexprs0_0 := HG0.out.exprs.1
 have vexprs1_0 := HG0.out.exprs.2
 have HC0 := Hd (ex2 ks x k hnk hkm 18 26 18 26 (w.heap.size + 1) _ (by simp) (HK.out _ HB0.out.bel))
 go_wp2_with fail
 refine HC0.out.mono ?_
 rintro e w1 ⟨rfl, hb⟩
 have HB1 := Hd (HB0.out.call hb)
 have HG1 := Hd (HG0.out.below hb)
 have c1 := HB1.out.a.cell
 clear hb HC0
 go_wp2
 go_ret
 exact ⟨by rw [HR.out]; rfl, HB1.out.bel⟩
set_option maxHeartbeats 4000000 in
set_option maxRecDepth 100000 in
theorem kf_22 (lt : Lab) (ks : List Tree) (hk : lt.kind = 22) (l : Lab) (x : Option Addr) (n k : Nat) (w : World) (G : Gr w) (hT : TreeAt w (fun _ => True) [.int .i64 l.kind, .string (str l.name), .int .u64 l.num, .int .i64 l.wd, .bool l.sg, .int .i64 l.op, .int .i64 l.fac, .int .i64 l.pip, .int .i64 l.unr, .int .i64 l.line, .slice x n k] (.node lt ks)) :
  Calls Tryz.prog 55 #[.agg #[.int .i64 l.kind, .string (str l.name), .int .u64 l.num, .int .i64 l.wd, .bool l.sg, .int .i64 l.op, .int .i64 l.fac, .int .i64 l.pip, .int .i64 l.unr, .int .i64 l.line, .slice x n k]] w fun e w' => e = .returned (.bool (kidsB lt.kind ks)) ∧ Below w.heap.size w w' := by
 obtain ⟨xk, kk, hcs, hnk, hkm, hkids⟩ := TreeAt.kids hT
 obtain ⟨rfl, hv⟩ := lab_of (l := l) (m := lt) hcs
 simp only [Value.slice.injEq] at hv
 obtain ⟨rfl, rfl, rfl⟩ := hv
 clear hcs
 have HK : Hid (∀ W, Below w.heap.size w W → ∀ i, i < ks.length → ∃ a, x = some a ∧ True ∧ KidAt W (fun _ => True) a i (kat ks i)) := Hd fun W hb i hi => by
  obtain ⟨a, h1, h2, h3⟩ := hkids i hi
  exact ⟨a, h1, h2, h3.keep h2 (fun g hg hl => hb.block g hl) fun _ _ _ => trivial⟩
 have HB0 : Hid (BW w (w.alloc (.cells #[.int .i64 l.kind, .string (str l.name), .int .u64 l.num, .int .i64 l.wd, .bool l.sg, .int .i64 l.op, .int .i64 l.fac, .int .i64 l.pip, .int .i64 l.unr, .int .i64 l.line, .slice x ks.length k] 27)) [.int .i64 l.kind, .string (str l.name), .int .u64 l.num, .int .i64 l.wd, .bool l.sg, .int .i64 l.op, .int .i64 l.fac, .int .i64 l.pip, .int .i64 l.unr, .int .i64 l.line, .slice x ks.length k]) := Hd (BW.start w _)
 have HG0 : Hid (Gr (w.alloc (.cells #[.int .i64 l.kind, .string (str l.name), .int .u64 l.num, .int .i64 l.wd, .bool l.sg, .int .i64 l.op, .int .i64 l.fac, .int .i64 l.pip, .int .i64 l.unr, .int .i64 l.line, .slice x ks.length k] 27))) := Hd (G.below ((Below.refl w.heap.size w).alloc (Nat.le_refl _) _))
 have HR : Hid (kidsB l.kind ks = exB ks [(18, 26), (18, 26)]) := Hd (by rw [hk]; simp [kidsB, kE])
 obtain ⟨a0, a1, a2, a3, a4, a5, a6, a7, a8, a9⟩ := l
 dsimp only at *
 subst hk
 clear hkids G
 have c0 := HB0.out.a.cell
 go_enter Tryz.func55, Tryz.ntmps55
 have vexprs0_0 := HG0.out.exprs.1
 have vexprs1_0 := HG0.out.exprs.2
 have HC0 := Hd (ex2 ks x k hnk hkm 18 26 18 26 (w.heap.size + 1) _ (by simp) (HK.out _ HB0.out.bel))
 go_wp2_with fail
 refine HC0.out.mono ?_
 rintro e w1 ⟨rfl, hb⟩
 have HB1 := Hd (HB0.out.call hb)
 have HG1 := Hd (HG0.out.below hb)
 have c1 := HB1.out.a.cell
 clear hb HC0
 go_wp2
 go_ret
 exact ⟨by rw [HR.out]; rfl, HB1.out.bel⟩
set_option maxHeartbeats 4000000 in
set_option maxRecDepth 100000 in
theorem kf_23 (lt : Lab) (ks : List Tree) (hk : lt.kind = 23) (l : Lab) (x : Option Addr) (n k : Nat) (w : World) (G : Gr w) (hT : TreeAt w (fun _ => True) [.int .i64 l.kind, .string (str l.name), .int .u64 l.num, .int .i64 l.wd, .bool l.sg, .int .i64 l.op, .int .i64 l.fac, .int .i64 l.pip, .int .i64 l.unr, .int .i64 l.line, .slice x n k] (.node lt ks)) :
  Calls Tryz.prog 55 #[.agg #[.int .i64 l.kind, .string (str l.name), .int .u64 l.num, .int .i64 l.wd, .bool l.sg, .int .i64 l.op, .int .i64 l.fac, .int .i64 l.pip, .int .i64 l.unr, .int .i64 l.line, .slice x n k]] w fun e w' => e = .returned (.bool (kidsB lt.kind ks)) ∧ Below w.heap.size w w' := by
 obtain ⟨xk, kk, hcs, hnk, hkm, hkids⟩ := TreeAt.kids hT
 obtain ⟨rfl, hv⟩ := lab_of (l := l) (m := lt) hcs
 simp only [Value.slice.injEq] at hv
 obtain ⟨rfl, rfl, rfl⟩ := hv
 clear hcs
 have HK : Hid (∀ W, Below w.heap.size w W → ∀ i, i < ks.length → ∃ a, x = some a ∧ True ∧ KidAt W (fun _ => True) a i (kat ks i)) := Hd fun W hb i hi => by
  obtain ⟨a, h1, h2, h3⟩ := hkids i hi
  exact ⟨a, h1, h2, h3.keep h2 (fun g hg hl => hb.block g hl) fun _ _ _ => trivial⟩
 have HB0 : Hid (BW w (w.alloc (.cells #[.int .i64 l.kind, .string (str l.name), .int .u64 l.num, .int .i64 l.wd, .bool l.sg, .int .i64 l.op, .int .i64 l.fac, .int .i64 l.pip, .int .i64 l.unr, .int .i64 l.line, .slice x ks.length k] 27)) [.int .i64 l.kind, .string (str l.name), .int .u64 l.num, .int .i64 l.wd, .bool l.sg, .int .i64 l.op, .int .i64 l.fac, .int .i64 l.pip, .int .i64 l.unr, .int .i64 l.line, .slice x ks.length k]) := Hd (BW.start w _)
 have HG0 : Hid (Gr (w.alloc (.cells #[.int .i64 l.kind, .string (str l.name), .int .u64 l.num, .int .i64 l.wd, .bool l.sg, .int .i64 l.op, .int .i64 l.fac, .int .i64 l.pip, .int .i64 l.unr, .int .i64 l.line, .slice x ks.length k] 27))) := Hd (G.below ((Below.refl w.heap.size w).alloc (Nat.le_refl _) _))
 have HR : Hid (kidsB l.kind ks = exB ks [(18, 26), (18, 26), (18, 26)]) := Hd (by rw [hk]; simp [kidsB, kE])
 obtain ⟨a0, a1, a2, a3, a4, a5, a6, a7, a8, a9⟩ := l
 dsimp only at *
 subst hk
 clear hkids G
 have c0 := HB0.out.a.cell
 go_enter Tryz.func55, Tryz.ntmps55
 have vexprs0_0 := HG0.out.exprs.1
 have vexprs1_0 := HG0.out.exprs.2
 have HC0 := Hd (ex3 ks x k hnk hkm 18 26 18 26 18 26 (w.heap.size + 1) _ (by simp) (HK.out _ HB0.out.bel))
 go_wp2_with fail
 refine HC0.out.mono ?_
 rintro e w1 ⟨rfl, hb⟩
 have HB1 := Hd (HB0.out.call hb)
 have HG1 := Hd (HG0.out.below hb)
 have c1 := HB1.out.a.cell
 clear hb HC0
 go_wp2
 go_ret
 exact ⟨by rw [HR.out]; rfl, HB1.out.bel⟩
set_option maxHeartbeats 4000000 in
set_option maxRecDepth 100000 in
theorem kf_13 (lt : Lab) (ks : List Tree) (hk : lt.kind = 13) (l : Lab) (x : Option Addr) (n k : Nat) (w : World) (G : Gr w) (hT : TreeAt w (fun _ => True) [.int .i64 l.kind, .string (str l.name), .int .u64 l.num, .int .i64 l.wd, .bool l.sg, .int .i64 l.op, .int .i64 l.fac, .int .i64 l.pip, .int .i64 l.unr, .int .i64 l.line, .slice x n k] (.node lt ks)) :
  Calls Tryz.prog 55 #[.agg #[.int .i64 l.kind, .string (str l.name), .int .u64 l.num, .int .i64 l.wd, .bool l.sg, .int .i64 l.op, .int .i64 l.fac, .int .i64 l.pip, .int .i64 l.unr, .int .i64 l.line, .slice x n k]] w fun e w' => e = .returned (.bool (kidsB lt.kind ks)) ∧ Below w.heap.size w w' := by
 obtain ⟨xk, kk, hcs, hnk, hkm, hkids⟩ := TreeAt.kids hT
 obtain ⟨rfl, hv⟩ := lab_of (l := l) (m := lt) hcs
 simp only [Value.slice.injEq] at hv
 obtain ⟨rfl, rfl, rfl⟩ := hv
 clear hcs
 have HK : Hid (∀ W, Below w.heap.size w W → ∀ i, i < ks.length → ∃ a, x = some a ∧ True ∧ KidAt W (fun _ => True) a i (kat ks i)) := Hd fun W hb i hi => by
  obtain ⟨a, h1, h2, h3⟩ := hkids i hi
  exact ⟨a, h1, h2, h3.keep h2 (fun g hg hl => hb.block g hl) fun _ _ _ => trivial⟩
 have HB0 : Hid (BW w (w.alloc (.cells #[.int .i64 l.kind, .string (str l.name), .int .u64 l.num, .int .i64 l.wd, .bool l.sg, .int .i64 l.op, .int .i64 l.fac, .int .i64 l.pip, .int .i64 l.unr, .int .i64 l.line, .slice x ks.length k] 27)) [.int .i64 l.kind, .string (str l.name), .int .u64 l.num, .int .i64 l.wd, .bool l.sg, .int .i64 l.op, .int .i64 l.fac, .int .i64 l.pip, .int .i64 l.unr, .int .i64 l.line, .slice x ks.length k]) := Hd (BW.start w _)
 have HG0 : Hid (Gr (w.alloc (.cells #[.int .i64 l.kind, .string (str l.name), .int .u64 l.num, .int .i64 l.wd, .bool l.sg, .int .i64 l.op, .int .i64 l.fac, .int .i64 l.pip, .int .i64 l.unr, .int .i64 l.line, .slice x ks.length k] 27))) := Hd (G.below ((Below.refl w.heap.size w).alloc (Nat.le_refl _) _))
 have HR : Hid (kidsB l.kind ks = (exB ks [(18, 26), (8, 8)] || (exB ks [(18, 26), (8, 8), (8, 8)] || exB ks [(18, 26), (8, 8), (13, 13)]))) := Hd (by rw [hk]; simp [kidsB, kE])
 obtain ⟨a0, a1, a2, a3, a4, a5, a6, a7, a8, a9⟩ := l
 dsimp only at *
 subst hk
 clear hkids G
 have c0 := HB0.out.a.cell
 go_enter Tryz.func55, Tryz.ntmps55
 have vexprs0_0 := HG0.out.exprs.1
 have vexprs1_0 := HG0.out.exprs.2
 have vblocks0_0 := HG0.out.blocks0
 have vblocks1_0 := HG0.out.blocks1
 have HC0 := Hd (ex2 ks x k hnk hkm 18 26 8 8 (w.heap.size + 1) _ (by simp) (HK.out _ HB0.out.bel))
 go_wp2_with fail
 refine HC0.out.mono ?_
 rintro e w1 ⟨rfl, hb⟩
 have HB1 := Hd (HB0.out.call hb)
 have HG1 := Hd (HG0.out.below hb)
 have c1 := HB1.out.a.cell
 clear hb HC0
 generalize hb0 : exB ks [(18, 26), (8, 8)] = b0 at *
 clear hb0
 cases b0 with
 | true =>
  go_wp2
  go_ret
  exact ⟨by rw [HR.out]; rfl, HB1.out.bel⟩
 | false =>
  have vexprs0_1 := HG1.out.exprs.1
  have vexprs1_1 := HG1.out.exprs.2
  have vblocks0_1 := HG1.out.blocks0
  have vblocks1_1 := HG1.out.blocks1
  have HC1 := Hd (ex3 ks x k hnk hkm 18 26 8 8 8 8 _ _ rfl (HK.out _ HB1.out.bel))
  go_wp2_with fail
  refine HC1.out.mono ?_
  rintro e w2 ⟨rfl, hb⟩
  have HB2 := Hd (HB1.out.call hb)
  have HG2 := Hd (HG1.out.below hb)
  have c2 := HB2.out.a.cell
  clear hb HC1
  generalize hb1 : exB ks [(18, 26), (8, 8), (8, 8)] = b1 at *
  clear hb1
  cases b1 with
  | true =>
   go_wp2
   go_ret
   exact ⟨by rw [HR.out]; rfl, HB2.out.bel⟩
  | false =>
   have vexprs0_2 := HG2.out.exprs.1
   have vexprs1_2 := HG2.out.exprs.2
   have vblocks0_2 := HG2.out.blocks0
   have vblocks1_2 := HG2.out.blocks1
   have vbranches0_2 := HG2.out.branches0
   have vbranches1_2 := HG2.out.branches1
   have HC2 := Hd (ex3 ks x k hnk hkm 18 26 8 8 13 13 _ _ rfl (HK.out _ HB2.out.bel))
   go_wp2_with fail
   refine HC2.out.mono ?_
   rintro e w3 ⟨rfl, hb⟩
   have HB3 := Hd (HB2.out.call hb)
   have HG3 := Hd (HG2.out.below hb)
   have c3 := HB3.out.a.cell
   clear hb HC2
   go_wp2
   go_ret
   exact ⟨by rw [HR.out]; rfl, HB3.out.bel⟩
set_option maxHeartbeats 4000000 in
set_option maxRecDepth 100000 in
theorem kf_14 (lt : Lab) (ks : List Tree) (hk : lt.kind = 14) (l : Lab) (x : Option Addr) (n k : Nat) (w : World) (G : Gr w) (hT : TreeAt w (fun _ => True) [.int .i64 l.kind, .string (str l.name), .int .u64 l.num, .int .i64 l.wd, .bool l.sg, .int .i64 l.op, .int .i64 l.fac, .int .i64 l.pip, .int .i64 l.unr, .int .i64 l.line, .slice x n k] (.node lt ks)) :
  Calls Tryz.prog 55 #[.agg #[.int .i64 l.kind, .string (str l.name), .int .u64 l.num, .int .i64 l.wd, .bool l.sg, .int .i64 l.op, .int .i64 l.fac, .int .i64 l.pip, .int .i64 l.unr, .int .i64 l.line, .slice x n k]] w fun e w' => e = .returned (.bool (kidsB lt.kind ks)) ∧ Below w.heap.size w w' := by
 obtain ⟨xk, kk, hcs, hnk, hkm, hkids⟩ := TreeAt.kids hT
 obtain ⟨rfl, hv⟩ := lab_of (l := l) (m := lt) hcs
 simp only [Value.slice.injEq] at hv
 obtain ⟨rfl, rfl, rfl⟩ := hv
 clear hcs
 have HK : Hid (∀ W, Below w.heap.size w W → ∀ i, i < ks.length → ∃ a, x = some a ∧ True ∧ KidAt W (fun _ => True) a i (kat ks i)) := Hd fun W hb i hi => by
  obtain ⟨a, h1, h2, h3⟩ := hkids i hi
  exact ⟨a, h1, h2, h3.keep h2 (fun g hg hl => hb.block g hl) fun _ _ _ => trivial⟩
 have HB0 : Hid (BW w (w.alloc (.cells #[.int .i64 l.kind, .string (str l.name), .int .u64 l.num, .int .i64 l.wd, .bool l.sg, .int .i64 l.op, .int .i64 l.fac, .int .i64 l.pip, .int .i64 l.unr, .int .i64 l.line, .slice x ks.length k] 27)) [.int .i64 l.kind, .string (str l.name), .int .u64 l.num, .int .i64 l.wd, .bool l.sg, .int .i64 l.op, .int .i64 l.fac, .int .i64 l.pip, .int .i64 l.unr, .int .i64 l.line, .slice x ks.length k]) := Hd (BW.start w _)
 have HG0 : Hid (Gr (w.alloc (.cells #[.int .i64 l.kind, .string (str l.name), .int .u64 l.num, .int .i64 l.wd, .bool l.sg, .int .i64 l.op, .int .i64 l.fac, .int .i64 l.pip, .int .i64 l.unr, .int .i64 l.line, .slice x ks.length k] 27))) := Hd (G.below ((Below.refl w.heap.size w).alloc (Nat.le_refl _) _))
 have HR : Hid (kidsB l.kind ks = exB ks [(18, 26), (18, 26), (8, 8)]) := Hd (by rw [hk]; simp [kidsB, kE])
 obtain ⟨a0, a1, a2, a3, a4, a5, a6, a7, a8, a9⟩ := l
 dsimp only at *
 subst hk
 clear hkids G
 have c0 := HB0.out.a.cell
 go_enter Tryz.func55, Tryz.ntmps55
 have vexprs0_0 := HG0.out.exprs.1
 have vexprs1_0 := HG0.out.exprs.2
 have vblocks0_0 := HG0.out.blocks0
 have vblocks1_0 := HG0.out.blocks1
 have HC0 := Hd (ex3 ks x k hnk hkm 18 26 18 26 8 8 (w.heap.size + 1) _ (by simp) (HK.out _ HB0.out.bel))
 go_wp2_with fail
 refine HC0.out.mono ?_
 rintro e w1 ⟨rfl, hb⟩
 have HB1 := Hd (HB0.out.call hb)
 have HG1 := Hd (HG0.out.below hb)
 have c1 := HB1.out.a.cell
 clear hb HC0
 go_wp2
 go_ret
 exact ⟨by rw [HR.out]; rfl, HB1.out.bel⟩
set_option maxHeartbeats 4000000 in
set_option maxRecDepth 100000 in
theorem kf_15 (lt : Lab) (ks : List Tree) (hk : lt.kind = 15) (l : Lab) (x : Option Addr) (n k : Nat) (w : World) (G : Gr w) (hT : TreeAt w (fun _ => True) [.int .i64 l.kind, .string (str l.name), .int .u64 l.num, .int .i64 l.wd, .bool l.sg, .int .i64 l.op, .int .i64 l.fac, .int .i64 l.pip, .int .i64 l.unr, .int .i64 l.line, .slice x n k] (.node lt ks)) :
  Calls Tryz.prog 55 #[.agg #[.int .i64 l.kind, .string (str l.name), .int .u64 l.num, .int .i64 l.wd, .bool l.sg, .int .i64 l.op, .int .i64 l.fac, .int .i64 l.pip, .int .i64 l.unr, .int .i64 l.line, .slice x n k]] w fun e w' => e = .returned (.bool (kidsB lt.kind ks)) ∧ Below w.heap.size w w' := by
 obtain ⟨xk, kk, hcs, hnk, hkm, hkids⟩ := TreeAt.kids hT
 obtain ⟨rfl, hv⟩ := lab_of (l := l) (m := lt) hcs
 simp only [Value.slice.injEq] at hv
 obtain ⟨rfl, rfl, rfl⟩ := hv
 clear hcs
 have HK : Hid (∀ W, Below w.heap.size w W → ∀ i, i < ks.length → ∃ a, x = some a ∧ True ∧ KidAt W (fun _ => True) a i (kat ks i)) := Hd fun W hb i hi => by
  obtain ⟨a, h1, h2, h3⟩ := hkids i hi
  exact ⟨a, h1, h2, h3.keep h2 (fun g hg hl => hb.block g hl) fun _ _ _ => trivial⟩
 have HB0 : Hid (BW w (w.alloc (.cells #[.int .i64 l.kind, .string (str l.name), .int .u64 l.num, .int .i64 l.wd, .bool l.sg, .int .i64 l.op, .int .i64 l.fac, .int .i64 l.pip, .int .i64 l.unr, .int .i64 l.line, .slice x ks.length k] 27)) [.int .i64 l.kind, .string (str l.name), .int .u64 l.num, .int .i64 l.wd, .bool l.sg, .int .i64 l.op, .int .i64 l.fac, .int .i64 l.pip, .int .i64 l.unr, .int .i64 l.line, .slice x ks.length k]) := Hd (BW.start w _)
 have HG0 : Hid (Gr (w.alloc (.cells #[.int .i64 l.kind, .string (str l.name), .int .u64 l.num, .int .i64 l.wd, .bool l.sg, .int .i64 l.op, .int .i64 l.fac, .int .i64 l.pip, .int .i64 l.unr, .int .i64 l.line, .slice x ks.length k] 27))) := Hd (G.below ((Below.refl w.heap.size w).alloc (Nat.le_refl _) _))
 have HR : Hid (kidsB l.kind ks = exB ks [(18, 26), (8, 8)]) := Hd (by rw [hk]; simp [kidsB, kE])
 obtain ⟨a0, a1, a2, a3, a4, a5, a6, a7, a8, a9⟩ := l
 dsimp only at *
 subst hk
 clear hkids G
 have c0 := HB0.out.a.cell
 go_enter Tryz.func55, Tryz.ntmps55
 have vexprs0_0 := HG0.out.exprs.1
 have vexprs1_0 := HG0.out.exprs.2
 have vblocks0_0 := HG0.out.blocks0
 have vblocks1_0 := HG0.out.blocks1
 have HC0 := Hd (ex2 ks x k hnk hkm 18 26 8 8 (w.heap.size + 1) _ (by simp) (HK.out _ HB0.out.bel))
 go_wp2_with fail
 refine HC0.out.mono ?_
 rintro e w1 ⟨rfl, hb⟩
 have HB1 := Hd (HB0.out.call hb)
 have HG1 := Hd (HG0.out.below hb)
 have c1 := HB1.out.a.cell
 clear hb HC0
 go_wp2
 go_ret
 exact ⟨by rw [HR.out]; rfl, HB1.out.bel⟩
set_option maxHeartbeats 4000000 in
set_option maxRecDepth 100000 in
theorem kf_no (lt : Lab) (ks : List Tree) (hk : ¬ lt.kind = 1 ∧ ¬ lt.kind = 2 ∧ ¬ lt.kind = 3 ∧ ¬ lt.kind = 8 ∧ ¬ lt.kind = 25 ∧ ¬ lt.kind = 9 ∧ ¬ lt.kind = 10 ∧ ¬ lt.kind = 11 ∧ ¬ lt.kind = 16 ∧ ¬ lt.kind = 17 ∧ ¬ lt.kind = 20 ∧ ¬ lt.kind = 21 ∧ ¬ lt.kind = 24 ∧ ¬ lt.kind = 12 ∧ ¬ lt.kind = 22 ∧ ¬ lt.kind = 23 ∧ ¬ lt.kind = 13 ∧ ¬ lt.kind = 14 ∧ ¬ lt.kind = 15) (l : Lab) (x : Option Addr) (n k : Nat) (w : World) (G : Gr w) (hT : TreeAt w (fun _ => True) [.int .i64 l.kind, .string (str l.name), .int .u64 l.num, .int .i64 l.wd, .bool l.sg, .int .i64 l.op, .int .i64 l.fac, .int .i64 l.pip, .int .i64 l.unr, .int .i64 l.line, .slice x n k] (.node lt ks)) :
  Calls Tryz.prog 55 #[.agg #[.int .i64 l.kind, .string (str l.name), .int .u64 l.num, .int .i64 l.wd, .bool l.sg, .int .i64 l.op, .int .i64 l.fac, .int .i64 l.pip, .int .i64 l.unr, .int .i64 l.line, .slice x n k]] w fun e w' => e = .returned (.bool (kidsB lt.kind ks)) ∧ Below w.heap.size w w' := by
 obtain ⟨xk, kk, hcs, hnk, hkm, hkids⟩ := TreeAt.kids hT
 obtain ⟨rfl, hv⟩ := lab_of (l := l) (m := lt) hcs
 simp only [Value.slice.injEq] at hv
 obtain ⟨rfl, rfl, rfl⟩ := hv
 clear hcs
 have HK : Hid (∀ W, Below w.heap.size w W → ∀ i, i < ks.length → ∃ a, x = some a ∧ True ∧ KidAt W (fun _ => True) a i (kat ks i)) := Hd fun W hb i hi => by
  obtain ⟨a, h1, h2, h3⟩ := hkids i hi
  exact ⟨a, h1, h2, h3.keep h2 (fun g hg hl => hb.block g hl) fun _ _ _ => trivial⟩
 have HB0 : Hid (BW w (w.alloc (.cells #[.int .i64 l.kind, .string (str l.name), .int .u64 l.num, .int .i64 l.wd, .bool l.sg, .int .i64 l.op, .int .i64 l.fac, .int .i64 l.pip, .int .i64 l.unr, .int .i64 l.line, .slice x ks.length k] 27)) [.int .i64 l.kind, .string (str l.name), .int .u64 l.num, .int .i64 l.wd, .bool l.sg, .int .i64 l.op, .int .i64 l.fac, .int .i64 l.pip, .int .i64 l.unr, .int .i64 l.line, .slice x ks.length k]) := Hd (BW.start w _)
 have HG0 : Hid (Gr (w.alloc (.cells #[.int .i64 l.kind, .string (str l.name), .int .u64 l.num, .int .i64 l.wd, .bool l.sg, .int .i64 l.op, .int .i64 l.fac, .int .i64 l.pip, .int .i64 l.unr, .int .i64 l.line, .slice x ks.length k] 27))) := Hd (G.below ((Below.refl w.heap.size w).alloc (Nat.le_refl _) _))
 obtain ⟨g1, g2, g3, g8, g25, g9, g10, g11, g16, g17, g20, g21, g24, g12, g22, g23, g13, g14, g15⟩ := hk
 have HR : Hid (kidsB l.kind ks = exB ks []) := Hd (by simp [kidsB, kE, g1, g2, g3, g8, g25, g9, g10, g11, g16, g17, g20, g21, g24, g12, g22, g23, g13, g14, g15])
 obtain ⟨a0, a1, a2, a3, a4, a5, a6, a7, a8, a9⟩ := l
 dsimp only at *
 clear hkids G
 have c0 := HB0.out.a.cell
 go_enter Tryz.func55, Tryz.ntmps55
 have HC0 := Hd (ex0 ks x k hnk hkm  _ (HK.out _ HB0.out.bel))
 go_wp2_with fail
 refine HC0.out.mono ?_
 rintro e w1 ⟨rfl, hb⟩
 have HB1 := Hd (HB0.out.call hb)
 have HG1 := Hd (HG0.out.below hb)
 have c1 := HB1.out.a.cell
 clear hb HC0
 go_wp2
 go_ret
 exact ⟨by rw [HR.out]; rfl, HB1.out.bel⟩
theorem kidsFit_any (lt : Lab) (ks : List Tree) (l : Lab) (x : Option Addr) (n k : Nat) (w : World) (G : Gr w) (hT : TreeAt w (fun _ => True) [.int .i64 l.kind, .string (str l.name), .int .u64 l.num, .int .i64 l.wd, .bool l.sg, .int .i64 l.op, .int .i64 l.fac, .int .i64 l.pip, .int .i64 l.unr, .int .i64 l.line, .slice x n k] (.node lt ks)) :
  Calls Tryz.prog 55 #[.agg #[.int .i64 l.kind, .string (str l.name), .int .u64 l.num, .int .i64 l.wd, .bool l.sg, .int .i64 l.op, .int .i64 l.fac, .int .i64 l.pip, .int .i64 l.unr, .int .i64 l.line, .slice x n k]] w fun e w' => e = .returned (.bool (kidsB lt.kind ks)) ∧ Below w.heap.size w w' := by
 by_cases h1 : lt.kind = 1
 ·exact kf_1 lt ks h1 l x n k w G hT
 by_cases h2 : lt.kind = 2
 ·exact kf_2 lt ks h2 l x n k w G hT
 by_cases h3 : lt.kind = 3
 ·exact kf_3 lt ks h3 l x n k w G hT
 by_cases h8 : lt.kind = 8
 ·exact kf_8 lt ks h8 l x n k w G hT
 by_cases h25 : lt.kind = 25
 ·exact kf_25 lt ks h25 l x n k w G hT
 by_cases h9 : lt.kind = 9
 ·exact kf_9 lt ks h9 l x n k w G hT
 by_cases h10 : lt.kind = 10
 ·exact kf_10 lt ks h10 l x n k w G hT
 by_cases h11 : lt.kind = 11
 ·exact kf_11 lt ks h11 l x n k w G hT
 by_cases h16 : lt.kind = 16
 ·exact kf_16 lt ks h16 l x n k w G hT
 by_cases h17 : lt.kind = 17
 ·exact kf_17 lt ks h17 l x n k w G hT
 by_cases h20 : lt.kind = 20
 ·exact kf_20 lt ks h20 l x n k w G hT
 by_cases h21 : lt.kind = 21
 ·exact kf_21 lt ks h21 l x n k w G hT
 by_cases h24 : lt.kind = 24
 ·exact kf_24 lt ks h24 l x n k w G hT
 by_cases h12 : lt.kind = 12
 ·exact kf_12 lt ks h12 l x n k w G hT
 by_cases h22 : lt.kind = 22
 ·exact kf_22 lt ks h22 l x n k w G hT
 by_cases h23 : lt.kind = 23
 ·exact kf_23 lt ks h23 l x n k w G hT
 by_cases h13 : lt.kind = 13
 ·exact kf_13 lt ks h13 l x n k w G hT
 by_cases h14 : lt.kind = 14
 ·exact kf_14 lt ks h14 l x n k w G hT
 by_cases h15 : lt.kind = 15
 ·exact kf_15 lt ks h15 l x n k w G hT
 exact kf_no lt ks ⟨h1, h2, h3, h8, h25, h9, h10, h11, h16, h17, h20, h21, h24, h12, h22, h23, h13, h14, h15⟩ l x n k w G hT
end Go.Proofs.YthdbaligapdbeaaGreatDoor
/- Lines, and the reference's Same: contracts. -/
namespace Go.Proofs.YthdbaligapdbeaaGreatDoor
open Go Go.RowKit
set_option linter.unusedVariables false

end Go.Proofs.YthdbaligapdbeaaGreatDoor
/- The code's Same: contract. -/
namespace Go.Proofs.YthdbaligapdbeaaGreatDoor
open Go Go.RowKit
set_option linter.unusedVariables false

theorem infoLb : (Tryz.prog.info? 71).map (·.size) = some 9 := by kernel_rfl
set_option maxHeartbeats 1000000 in
set_option maxRecDepth 100000 in
theorem labelOf_any (l : Lab) (x : Option Addr) (n k : Nat) (w : World) :
  Calls Tryz.prog 54 #[.agg #[.int .i64 l.kind, .string (str l.name), .int .u64 l.num, .int .i64 l.wd, .bool l.sg, .int .i64 l.op, .int .i64 l.fac, .int .i64 l.pip, .int .i64 l.unr, .int .i64 l.line, .slice x n k]] w fun e w' => e = .returned (.agg #[.int .i64 l.kind, .string (str l.name), .int .u64 l.num, .int .i64 l.wd, .bool l.sg, .int .i64 l.op, .int .i64 l.fac, .int .i64 l.pip, .int .i64 l.unr]) ∧ Below w.heap.size w w' := by
 have hB := Blk.alloc (w.alloc (.cells #[.int .i64 l.kind, .string (str l.name), .int .u64 l.num, .int .i64 l.wd, .bool l.sg, .int .i64 l.op, .int .i64 l.fac, .int .i64 l.pip, .int .i64 l.unr, .int .i64 l.line, .slice x n k] 27)) 71 [.int .i64 l.kind, .string (str l.name), .int .u64 l.num, .int .i64 l.wd, .bool l.sg, .int .i64 l.op, .int .i64 l.fac, .int .i64 l.pip, .int .i64 l.unr]
 have hs : (w.alloc (.cells #[.int .i64 l.kind, .string (str l.name), .int .u64 l.num, .int .i64 l.wd, .bool l.sg, .int .i64 l.op, .int .i64 l.fac, .int .i64 l.pip, .int .i64 l.unr, .int .i64 l.line, .slice x n k] 27)).heap.size = w.heap.size + 1 := by simp
 rw [hs] at hB
 have HB := Hd hB
 clear hB hs
 go_enter Tryz.func54, Tryz.ntmps54
 go_wp2
 refine bodyPost_ret (HB.out.res1 Tryz.results54 Tryz.underlying71 rfl infoLb _ rfl) rfl ?_
 exact ⟨rfl, ((Below.refl w.heap.size w).alloc (Nat.le_refl _) _).alloc (by simp) _⟩

theorem keepB {q0 q1 : Prop} {W2 w' : World} (h : q0 ∧ q1 ∧ Hid (Below W2.heap.size W2 w')) : Below W2.heap.size W2 w' := h.2.2.out
set_option maxHeartbeats 400000 in
set_option maxRecDepth 100000 in
theorem lab_eq (a0 : Int) (a1 : List UInt8) (a2 a3 : Int) (a4 : Bool) (a5 a6 a7 a8 : Int) (b0 : Int) (b1 : List UInt8) (b2 b3 : Int) (b4 : Bool) (b5 b6 b7 b8 : Int) (hne : ¬ (a0 = b0 ∧ a1 = b1 ∧ a2 = b2 ∧ a3 = b3 ∧ a4 = b4 ∧ a5 = b5 ∧ a6 = b6 ∧ a7 = b7 ∧ a8 = b8)) (W : World) :
  (binOp .eql 71 (.agg #[.int .i64 a0, .string (str a1), .int .u64 a2, .int .i64 a3, .bool a4, .int .i64 a5, .int .i64 a6, .int .i64 a7, .int .i64 a8]) (.agg #[.int .i64 b0, .string (str b1), .int .u64 b2, .int .i64 b3, .bool b4, .int .i64 b5, .int .i64 b6, .int .i64 b7, .int .i64 b8])).run Tryz.prog W = .ok (.bool false) W := by
 go_simp
 rw [str_toList, str_toList]
 intro h0 h1 h2 h3 h4 h5 h6 h7 h8
 exact hne ⟨h0, h1, h2, h3, h4, h5, h6, h7, h8⟩
end Go.Proofs.YthdbaligapdbeaaGreatDoor
