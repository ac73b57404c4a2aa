/- The reference's Parse of a source without tokens. -/
import Derived.Test.YtkliclihpobmiaaGreatDoorMgPsRCnt
import Derived.Test.YtkliclihpobmiaaGreatDoorMgPqPr
import Derived.Test.YtkliclihpobmiaaGreatDoorMgLxRLex
namespace Go.Proofs.YtkliclihpobmiaaGreatDoor
namespace Q
open Go Go.RowKit
set_option linter.unusedVariables false
set_option linter.unusedSimpArgs false

def rdN (x : Option Addr) (c : Nat) : List Value := [.slice x 0 c, .int .i64 0, .bool false]
set_option maxHeartbeats 4000000 in
set_option maxRecDepth 100000 in
theorem line_nil {R c : Nat} {x : Option Addr} (w : World) (hR : Blk w R 51 (rdN x c)) : Calls Tryz.prog 69 #[.pointer (some ⟨R, 0, none⟩)] w fun e w' => e = .returned (.int .i64 1) ∧ Below w.heap.size w w' := by
 obtain ⟨hc, hf⟩ := hR.all
 have hz := hR.lt
 unfold rdN at hc
 clear hR
 go_enter Tryz.func69, Tryz.ntmps69
 go_wp2
 go_quiet (fail)
 go_wp2
 go_ret
 exact ⟨rfl, drewN_below w nq⟩
set_option maxHeartbeats 4000000 in
set_option maxRecDepth 100000 in
theorem deep_nil (x : Option Addr) (c : Nat) (w : World) : Calls Tryz.prog 33 #[.slice x 0 c] w fun e w' => e = .returned (.int .i64 0) ∧ w' = w := by
 go_enter Tryz.func33, Tryz.ntmps33
 go_wp2
 go_loopw [3, 4] (fun o i wr => o = .int .i64 0 ∧ i = .int .i64 0 ∧ wr = w) (fun _ _ _ => 0)
 case atStart => exact ⟨rfl, rfl, rfl⟩
 case round =>
  obtain ⟨rfl, rfl, rfl⟩ := hrel
  go_wp2
  go_ret
  exact ⟨rfl, rfl⟩
set_option maxHeartbeats 4000000 in
set_option maxRecDepth 100000 in
theorem program_nil {R c : Nat} {x : Option Addr} (w : World) (hR : Blk w R 51 (rdN x c)) : Calls Tryz.prog 34 #[.pointer (some ⟨R, 0, none⟩)] w fun e w' => e = .returned (.agg nd1.toArray) ∧ Below w.heap.size w w' := by
 have hb0 := (Below.refl w.heap.size w).alloc (Nat.le_refl _) (.cells ncz.toArray 28)
 have hK := Blk.alloc w 28 ncz
 have hX := hR.alloc_other (.cells ncz.toArray 28)
 have HN := Hd (line_nil _ hX)
 have HB := Hd hb0
 have HK := Hd hK
 have HX := Hd hX
 clear hK hb0 hR hX
 go_enter Tryz.func34, Tryz.ntmps34
 go_wp2_with fail
 refine HN.out.mono ?_
 rintro e w1 ⟨rfl, hb1⟩
 have HB1 := Hd ((HB.out.trans (hb1.mono (by simp))).alloc (Below.size (HB.out.trans (hb1.mono (by simp)))) (.cells nd1.toArray 28))
 have HK1 := Hd ((HK.out.below hb1 HK.out.lt).alloc_other (.cells nd1.toArray 28))
 have hX1 := HX.out.below hb1 HX.out.lt
 obtain ⟨hc, hf⟩ := (HK.out.below hb1 HK.out.lt).all
 have hz := (HK.out.below hb1 HK.out.lt).lt
 obtain ⟨hd, he⟩ := hX1.all
 have hzd := hX1.lt
 unfold ncz at hc
 unfold rdN at hd
 clear hb1 HN HB HK HX hX1
 go_wp2
 go_loopw [7] (fun _ wr => wr = w1.alloc (.cells #[.int .i64 1, .string ⟨#[]⟩, .int .u64 0, .int .i64 0, .bool false, .int .i64 0, .int .i64 0, .int .i64 0, .int .i64 0, .int .i64 1, .slice none 0 0] 28)) (fun _ wr => 0)
 case atStart => exact rfl
 case round =>
  obtain rfl := hrel
  go_wp2
  go_quiet (fail)
  go_wp2
  refine bodyPost_ret (((HK1.out.drewN nq).stor11 rfl _ _ _ _ _ _ _ _ _ _ _).res1 Tryz.results34 Tryz.underlying28 rfl infoNd _ rfl) rfl ?_
  exact ⟨rfl, below_stor11 (below_drewN HB1.out nq) (Nat.le_refl _) _ _ _ _ _ _ _ _ _ _ _⟩
set_option maxHeartbeats 4000000 in
set_option maxRecDepth 100000 in
theorem parse_nil (l : List UInt8) (w : World) (V : Vs w) (he : (lexAll l).2.2 = 0) (hno : (lexAll l).1 = []) : Calls Tryz.prog 12 #[.string (str l)] w (PP w (parseM l)) := by
 obtain ⟨hlen, htl, hctx⟩ := lexAll_ctx l he
 rw [parseM_nil he hno]
 have hb0 := (Below.refl w.heap.size w).alloc (Nat.le_refl _) (.cells ncz.toArray 28)
 have hw1 : (w.alloc (.cells ncz.toArray 28)).heap.size = w.heap.size + 1 := by simp
 have HK := Hd (Blk.alloc w 28 ncz)
 have HB := Hd hb0
 have HLX := Hd (rLex_any l (by omega) (w.alloc (.cells ncz.toArray 28)))
 generalize (lexAll l).2.1 = A at *
 rw [he, hno] at HLX
 clear hb0 V hw1 he hno hctx hlen htl
 go_enter Tryz.func12, Tryz.ntmps12
 go_wp2_with fail
 refine HLX.out.mono ?_
 rintro e w1 ⟨v, rfl, hown, hb1⟩
 have HK1 := Hd (HK.out.below hb1 HK.out.lt)
 have HB1 := Hd (HB.out.trans (hb1.mono (by simp)))
 obtain ⟨x, c, rfl⟩ : ∃ (x : Option Addr) (c : Nat), v = .slice x 0 c := by
  rcases toks_own hown with ⟨_, h⟩ | ⟨g, c, h, _⟩
  ·exact ⟨_, _, h⟩
  ·exact ⟨_, _, h⟩
 have HCR := Hd (deep_nil x c w1)
 have HPG := Hd (program_nil _ (Blk.alloc w1 51 (rdN x c)))
 unfold nd1 at HPG
 have HBR := Hd (HB1.out.alloc HB1.out.size (.cells (rdN x c).toArray 51))
 have HKR := Hd (HK1.out.alloc_other (.cells (rdN x c).toArray 51))
 have HRR := Hd (Blk.alloc w1 51 (rdN x c))
 have hsz : (w1.alloc (.cells (rdN x c).toArray 51)).heap.size = w1.heap.size + 1 := by simp
 have HSZ := Hd hsz
 clear hown hb1 HLX HK HB hsz
 go_wp2_with fail
 refine HCR.out.mono ?_
 rintro e w2 ⟨rfl, rfl⟩
 go_wp2_with fail
 refine HPG.out.mono ?_
 rintro e w3 ⟨rfl, hb3⟩
 have HB3 := Hd (HBR.out.trans (hb3.mono HBR.out.size))
 have HK3 := Hd (HKR.out.below hb3 HKR.out.lt)
 have HR3 := Hd (HRR.out.below hb3 HRR.out.lt)
 have hsz3 := hb3.size
 rw [HSZ.out] at hsz3
 obtain ⟨hc, hf⟩ := HK3.out.all
 unfold ncz at hc
 have hk3 := HK3.out.lt
 obtain ⟨hd, he⟩ := HR3.out.all
 unfold rdN at hd
 have hr3 := HR3.out.lt
 have HBN := Hd (HB3.out.alloc HB3.out.size (.cells nd1.toArray 28))
 have HKN := Hd (HK3.out.alloc_other (.cells nd1.toArray 28))
 have HLN := Hd (Blk.alloc w3 28 nd1)
 have HCN := Hd (rcountT_any 1 (.node (labK 1 1) []) (by decide) (by decide) (labK 1 1) none 0 0 (w3.alloc (.cells nd1.toArray 28)) (.nil _ _))
 have HDP := Hd fun W => rdepthT_any 1 (.node (labK 1 1) []) (by decide) (by decide) (labK 1 1) none 0 0 W (.nil _ _)
 rw [show count (.node (labK 1 1) []) = 1 from rfl] at HCN
 rw [show depth (.node (labK 1 1) []) = 1 from rfl] at HDP
 unfold nd1 at HBN HKN HLN HCN
 clear hb3 HPG HBR HKR HRR HCR HSZ HK1 HB1
 go_wp2_with fail
 refine HCN.out.mono ?_
 rintro e w4 ⟨rfl, hb4⟩
 have HK4 := Hd (HKN.out.below hb4 HKN.out.lt)
 have HL4 := Hd (HLN.out.below hb4 HLN.out.lt)
 have HB4 := Hd (HBN.out.trans (hb4.mono HBN.out.size))
 clear hc hf hd he
 obtain ⟨hd, he⟩ := HL4.out.all
 clear hb4 HCN HKN HLN HBN HK3 HB3 HR3
 go_wp2_with fail
 refine (HDP.out _).mono ?_
 rintro e w5 ⟨rfl, hb5⟩
 have HK5 := Hd (HK4.out.below hb5 HK4.out.lt)
 have HL5 := Hd (HL4.out.below hb5 HL4.out.lt)
 have HB5 := Hd (HB4.out.trans (hb5.mono HB4.out.size))
 clear hd he
 obtain ⟨hc, hf⟩ := HK5.out.all
 unfold ncz at hc
 obtain ⟨hd, he⟩ := HL5.out.all
 have hz5 := HK5.out.lt
 clear hb5 HDP HK4 HL4 HB4
 go_wp2
 refine bodyPost_ret ((HK5.out.stor11 rfl _ _ _ _ _ _ _ _ _ _ _).res3 Tryz.results12 Tryz.underlying28 rfl infoNd _ rfl) rfl ?_
 exact ⟨labK 1 1, none, 0, 0, rfl, .nil _ (labK 1 1), below_stor11 HB5.out (Nat.le_refl _) _ _ _ _ _ _ _ _ _ _ _⟩
end Q
end Go.Proofs.YtkliclihpobmiaaGreatDoor
/- The reference's Parse where the tokens cannot be read. -/
namespace Go.Proofs.YtkliclihpobmiaaGreatDoor
namespace Q
open Go Go.RowKit
set_option linter.unusedVariables false
set_option linter.unusedSimpArgs false

theorem lf_next {l : List UInt8} {k : Nat} {c : UInt8} (h : l[k]? = some c) : lineFeeds (l.take (k + 1)) = lineFeeds (l.take k) + (if c.toNat = 10 then 1 else 0) := by
 obtain ⟨hk, rfl⟩ := List.getElem?_eq_some_iff.1 h
 unfold lineFeeds
 rw [List.take_succ_eq_append_getElem hk, List.count_append]
 congr 1
 rw [List.count_singleton]
 by_cases e : l[k].toNat = 10
 ·have : l[k] = 10 := UInt8.toNat_inj.1 e
  simp [this]
 ·have : ¬ l[k] = 10 := fun h => e (by rw [h]; rfl)
  simp [e, this]
set_option maxHeartbeats 4000000 in
set_option maxRecDepth 100000 in
theorem parse_err (l : List UInt8) (hs : l.length ≤ 3000) (w : World) (he : (lexAll l).2.2 ≠ 0) : Calls Tryz.prog 12 #[.string (str l)] w (PP w (parseM l)) := by
 have hM : parseM l = (tree0, lineAt l (lexAll l).2.1, (lexAll l).2.2) := by unfold parseM; dsimp only; rw [if_pos he]
 rw [hM]
 have hb0 := (Below.refl w.heap.size w).alloc (Nat.le_refl _) (.cells ncz.toArray 28)
 have HK := Hd (Blk.alloc w 28 ncz)
 have HB := Hd hb0
 have HLX := Hd (rLex_any l (by omega) (w.alloc (.cells ncz.toArray 28)))
 have hat : (lexAll l).2.1 ≤ l.length := by
  rcases lexAll_cases l with ⟨h1, _⟩ | ⟨_, _, h3⟩
  ·exact absurd h1 he
  ·exact h3 (by omega)
 have hla : lineAt l (lexAll l).2.1 = 1 + lineFeeds (l.take (lexAll l).2.1) := rfl
 have HLA := Hd hla
 have hsz := str_size l
 generalize (lexAll l).2.1 = A at *
 generalize hE : (lexAll l).2.2 = E at *
 generalize lineAt l A = LA at *
 have q : ((E : Int) != 0) = true := by simp; omega
 have HAT : Hid (∀ k (h : k < l.length), (str l)[k]'(by rw [hsz]; exact h) = l[k]) := fun k h => rfl
 clear hb0 hM hE hla
 go_enter Tryz.func12, Tryz.ntmps12
 go_wp2_with fail
 refine HLX.out.mono ?_
 rintro e w1 ⟨v, rfl, hown, hb1⟩
 have HK1 := Hd (HK.out.below hb1 HK.out.lt)
 have HB1 := Hd (HB.out.trans (hb1.mono (by simp)))
 obtain ⟨hc, hf⟩ := HK1.out.all
 have hz := HK1.out.lt
 unfold ncz at hc
 clear hown hb1 HLX HK HB
 go_wp2
 go_loopw [8, 9] (fun a i wr => ∃ k m : Nat, k ≤ A ∧ a = .int .i64 (m : Int) ∧ i = .int .i64 (k : Int) ∧ wr = w1 ∧ Hid (m = 1 + lineFeeds (l.take k)) ∧ m ≤ 1 + k) (fun _ i _ => A - (intOf i).toNat)
 case atStart => exact ⟨0, 1, by omega, rfl, rfl, rfl, Hd rfl, by omega⟩
 case round =>
  obtain ⟨k, m, hk, rfl, rfl, rfl, hm, hmk⟩ := hrel
  by_cases hka : k < A
  ·have hlt : k < l.length := by omega
   obtain ⟨c, hcc⟩ : ∃ c, c = l[k] := ⟨_, rfl⟩
   have hb : l[k]? = some c := by rw [hcc]; exact List.getElem?_eq_getElem hlt
   have hch : ∀ h : k < (str l).size, (str l)[k]'h = c := fun _ => (HAT.out k hlt).trans hcc.symm
   have hnx := lf_next hb
   clear hcc hb
   by_cases h10 : c.toNat = 10
   ·have q10 : (((c.toNat : Nat) : Int) == 10) = true := by rw [h10]; rfl
    have HX : Hid (m + 1 = 1 + lineFeeds (l.take (k + 1))) := Hd (by rw [hnx, if_pos h10, hm.out]; omega)
    clear hnx h10 hm
    go_wp2
    go_roundw
    case rel => exact ⟨k + 1, m + 1, by omega, by go_num, by go_num, (by trivial), HX, by omega⟩
    case measure => simp [intOf]; omega
   ·have q10 : (((c.toNat : Nat) : Int) == 10) = false := beq_eq_false_iff_ne.2 (by omega)
    have HX : Hid (m = 1 + lineFeeds (l.take (k + 1))) := Hd (by rw [hnx, if_neg h10, hm.out]; omega)
    clear hnx h10 hm
    go_wp2
    go_roundw
    case rel => exact ⟨k + 1, m, by omega, rfl, by go_num, (by trivial), HX, by omega⟩
    case measure => simp [intOf]; omega
  ·have hkA : k = A := by omega
   have HX : Hid (LA = m) := Hd (by rw [HLA.out, hm.out, hkA])
   clear hm
   go_wp2
   refine bodyPost_ret ((HK1.out.stor11 rfl _ _ _ _ _ _ _ _ _ _ _).res3 Tryz.results12 Tryz.underlying28 rfl infoNd _ rfl) rfl ?_
   exact pp_zero (below_stor11 HB1.out (Nat.le_refl _) _ _ _ _ _ _ _ _ _ _ _) (by rw [HX.out]) rfl
end Q
end Go.Proofs.YtkliclihpobmiaaGreatDoor
