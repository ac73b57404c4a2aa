/- Parse of every source whose tokens can be read: contract. -/
import Derived.Test.YtkliclihpobmiaaGreatDoorMgPsLp
import Derived.Test.YtkliclihpobmiaaGreatDoorMgPsRCnt
import Derived.BigRegion
namespace Go.Proofs.YtkliclihpobmiaaGreatDoor
open Go Go.RowKit

theorem loop_ok {ts : List Tok} {R g c : Nat} (X : Ctx ts R g c) : LoopOK ts R g c := fun f H s w hv hR hf => loop_step X f H s hv w hR hf
theorem parse_ok (l : List UInt8) (w : World) (V : Vs w) (LV : Lv w) (he : (lexAll l).2.2 = 0) : Calls Tryz.prog 11 #[.string (str l)] w (PP w (parseM l)) := by
 by_cases hno : (lexAll l).1 = []
 ·exact parse_nil l w V he hno
 ·exact parse_mainX l w V LV he hno fun R g c X => loop_ok X
end Go.Proofs.YtkliclihpobmiaaGreatDoor
/- Parse of a source whose tokens cannot be read: contract; and of every source. -/
namespace Go.Proofs.YtkliclihpobmiaaGreatDoor
open Go Go.RowKit
set_option linter.unusedVariables false

set_option maxHeartbeats 4000000 in
set_option maxRecDepth 100000 in
theorem parse_errX (l : List UInt8) (hs : l.length ≤ 281474976710656) (w : World) (V : Vs w) (he : (lexAll l).2.2 ≠ 0) : Calls Tryz.prog 11 #[.string (str l)] w (PP w (parseM l)) := by
 have hM : parseM l = (tree0, lineAt l (lexAll l).2.1, (lexAll l).2.2) := by unfold parseM; dsimp only; rw [if_pos he]
 rw [hM]
 have hb0 := (Below.refl w.heap.size w).alloc (Nat.le_refl _) (.cells ncz.toArray 28)
 have HK := Hd (Blk.alloc w 28 ncz)
 have HB := Hd hb0
 have HLX := Hd (lex_any l (by omega) _ (V.below (hb0.mono (Nat.le_refl _))))
 have hat : (lexAll l).2.1 ≤ l.length := by
  rcases lexAll_cases l with ⟨h1, _⟩ | ⟨_, _, h3⟩
  ·exact absurd h1 he
  ·by_cases hsm : l.length ≤ 65536
   ·exact h3 hsm
   ·unfold lexAll
    rw [if_pos (by omega)]
    show 65536 ≤ l.length
    omega
 have HCN := Hd fun W => count_any (l.take (lexAll l).2.1) W
 have hx := extract_zero l (lexAll l).2.1
 have hlf := lineFeeds_le (l.take (lexAll l).2.1)
 have hla : lineAt l (lexAll l).2.1 = 1 + lineFeeds (l.take (lexAll l).2.1) := rfl
 have HLA := Hd hla
 have hsz := str_size l
 rw [List.length_take] at hlf
 generalize (lexAll l).2.1 = A at *
 generalize hE : (lexAll l).2.2 = E at *
 generalize lineFeeds (l.take A) = NF at *
 generalize lineAt l A = LA at *
 have q : ((E : Int) != 0) = true := by simp; omega
 clear hb0 V hM hE hla
 have hA1 : (A : Int) ≤ ((str l).size : Int) := by rw [hsz]; omega
 go_enter Tryz.func11, Tryz.ntmps11
 go_wp2_with fail
 refine HLX.out.mono ?_
 rintro e w1 ⟨v, rfl, hown, hb1⟩
 have HK1 := Hd (HK.out.below hb1 HK.out.lt)
 have HB1 := Hd (HB.out.trans (hb1.mono (by simp)))
 obtain ⟨hc, hf⟩ := HK1.out.all
 unfold ncz at hc
 clear hown hb1 HLX HK HB
 go_wp2_with fail
 refine (HCN.out _).mono ?_
 rintro e w2 ⟨rfl, rfl⟩
 go_wp2
 refine bodyPost_ret ((HK1.out.stor11 rfl _ _ _ _ _ _ _ _ _ _ _).res3 Tryz.results11 Tryz.underlying28 rfl infoNd _ rfl) rfl ?_
 exact pp_zero (below_stor11 HB1.out (Nat.le_refl _) _ _ _ _ _ _ _ _ _ _ _) (by rw [HLA.out]; show 1 + (NF : Int) = _; omega) rfl

theorem parse_any (l : List UInt8) (hs : l.length ≤ 281474976710656) (w : World) (V : Vs w) (LV : Lv w) : Calls Tryz.prog 11 #[.string (str l)] w (PP w (parseM l)) := by
 by_cases he : (lexAll l).2.2 = 0
 ·exact parse_ok l w V LV he
 ·exact parse_errX l hs w V he
end Go.Proofs.YtkliclihpobmiaaGreatDoor
