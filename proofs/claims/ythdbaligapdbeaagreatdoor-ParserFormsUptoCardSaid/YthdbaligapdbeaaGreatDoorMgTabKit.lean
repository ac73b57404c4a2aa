/- The names of types and the keywords: contracts of Type and IsKeyword. -/
import Derived.Test.YthdbaligapdbeaaGreatDoorMgLxNames
import Derived.Test.YthdbaligapdbeaaGreatDoorMgSliceKit
import Derived.Lib.AtoiErrMem
import Derived.Deep.RegionHeld3
import Derived.Deep.AppendLies
import Derived.Deep.OwnRows
import Derived.Lib.Hide
namespace Go.Proofs.YthdbaligapdbeaaGreatDoor
open Go Go.RowKit
set_option linter.unusedVariables false

structure Vs (w : World) : Prop where
 syn : ∃ te pe, w.cell? ⟨12, 0, none⟩ = some (.iface te pe)
 rng : ∃ te pe, w.cell? ⟨13, 0, none⟩ = some (.iface te pe)
theorem Vs.below {w w' : World} (h : Vs w) (hb : Below w.heap.size w w') : Vs w' := by
 obtain ⟨⟨t, p, h1⟩, ⟨u, q, h2⟩⟩ := h
 exact ⟨⟨t, p, by rw [hb.cell (World.block_lt_of_cell? _ _ h1)]; exact h1⟩, ⟨u, q, by rw [hb.cell (World.block_lt_of_cell? _ _ h2)]; exact h2⟩⟩

theorem atoi_any (s : ByteArray) (hs : s.size ≤ 281474976710656) (w : World) (V : Vs w) : Calls Tryz.prog 183 #[.string s] w fun e w' =>
  ∃ (v : Int) (ev : Value), e = .returned (.tuple #[.int .i64 v, ev]) ∧ ((ev = .nilIface ∧ Lib.atoiAll s.data.toList = .ok v) ∨ ((∃ N, ev = .iface 192 (.pointer (some ⟨N, 0, none⟩))) ∧ ∀ x, Lib.atoiAll s.data.toList ≠ .ok x)) ∧ Below w.heap.size w w' := by
 have hs2 := hs
 cases h : Lib.atoiAll s.data.toList with
 | ok v =>
  refine (Tryz.strconv_Atoi_ok s (by omega) v h w).mono ?_
  rintro e w' ⟨rfl, hw⟩
  refine ⟨v, _, rfl, .inl ⟨rfl, rfl⟩, ?_⟩
  rcases hw with rfl | ⟨t, rfl⟩
  ·exact Below.refl _ _
  ·exact Lib.bytesWorld_below _ _ _
 | range =>
  obtain ⟨te, pe, hv⟩ := V.rng
  refine (Tryz.strconv_Atoi_range s hs2 h _ w hv (.inr ⟨_, _, rfl⟩)).mono ?_
  rintro e w' ⟨N, rfl, _, _, hb⟩
  exact ⟨_, _, rfl, .inr ⟨⟨N, rfl⟩, fun x => by simp⟩, hb⟩
 | _ =>
  obtain ⟨te, pe, hv⟩ := V.syn
  refine (Tryz.strconv_Atoi_syntax s hs2 h _ w hv (.inr ⟨_, _, rfl⟩)).mono ?_
  rintro e w' ⟨N, rfl, _, _, hb⟩
  exact ⟨_, _, rfl, .inr ⟨⟨N, rfl⟩, fun x => by simp⟩, hb⟩

theorem type_empty : typeOf [] = (0, false) := by decide +kernel
theorem type_bool : typeOf boolName = (1, false) := by decide +kernel
theorem type_read {c : UInt8} {r : List UInt8} (hb : c :: r ≠ boolName) {v : Int} (ha : Lib.atoiAll r = .ok v) :
  (tn v (((c.toNat : Nat) : Int) == 115) = str (c :: r) ∧ typeOf (c :: r) = (v.toNat, (((c.toNat : Nat) : Int) == 115)) ∧ 1 ≤ v ∧ v ≤ 64) ∨ (tn v (((c.toNat : Nat) : Int) == 115) ≠ str (c :: r) ∧ typeOf (c :: r) = (0, false)) := by
 by_cases he : tn v (((c.toNat : Nat) : Int) == 115) = str (c :: r)
 ·left
  by_cases hv : 1 ≤ v ∧ v ≤ 64
  ·obtain ⟨n, rfl⟩ : ∃ n : Nat, v = (n : Int) := ⟨v.toNat, by omega⟩
   have he2 := he
   rw [tn_yes (by omega)] at he2
   have h3 := str_inj he2
   refine ⟨he, ?_, hv⟩
   rw [← h3, typeOf_name (by omega)]
   rfl
  ·rw [tn_no hv] at he
   exfalso
   have h1 : (0 : Nat) = (c :: r).length := by rw [← str_size, ← he]; rfl
   simp at h1
 ·right
  refine ⟨he, ?_⟩
  rcases typeOf_cases (c :: r) with h | ⟨h, _⟩ | ⟨w, a, hw, h, _⟩
  ·exact h
  ·exact absurd h hb
  ·exfalso
   apply he
   have h1 : r = dec2 w := by
    have := congrArg List.tail h
    exact this
   have h2 : c = if a then 115 else 117 := by
    have := congrArg List.head? h
    simpa [nameOf] using this
   rw [h1, atoi_dec2 hw] at ha
   injection ha with ha
   rw [h, ← ha, h2]
   cases a
   ·exact tn_yes hw
   ·exact tn_yes hw
theorem type_unread {c : UInt8} {r : List UInt8} (hb : c :: r ≠ boolName) (ha : ∀ x, Lib.atoiAll r ≠ .ok x) : typeOf (c :: r) = (0, false) := by
 rcases typeOf_cases (c :: r) with h | ⟨h, _⟩ | ⟨w, a, hw, h, _⟩
 ·exact h
 ·exact absurd h hb
 ·exfalso
  have h1 : r = dec2 w := congrArg List.tail h
  exact ha w (by rw [h1]; exact atoi_dec2 hw)
def tyV (l : List UInt8) : Value := .agg #[.int .i64 ((typeOf l).1 : Int), .bool (typeOf l).2]
def tyB (l : List UInt8) : Bool := decide (0 < (typeOf l).1)

set_option maxHeartbeats 1000000 in
set_option maxRecDepth 100000 in
theorem type_any (s : ByteArray) (hs : s.size ≤ 281474976710656) (w : World) (V : Vs w) : Calls Tryz.prog 157 #[.string s] w fun e w' =>
  e = .returned (.tuple #[tyV s.data.toList, .bool (tyB s.data.toList)]) ∧ Below w.heap.size w w' := by
 obtain ⟨l, rfl⟩ : ∃ l, s = str l := ⟨_, (str_of s).symm⟩
 rw [str_data]
 have hb := (Below.refl w.heap.size w).alloc (Nat.le_refl _) (.cells #[.int .i64 0, .bool false] 24)
 rcases l with _ | ⟨c, r⟩
 ·have q0 : (str []).toList.isEmpty = true := by rw [str_toList]; rfl
  have e0 : typeOf [] = (0, false) := type_empty
  have E := Hd e0
  clear e0
  go_enter Tryz.func157, Tryz.ntmps157
  go_wp2
  refine bodyPost_ret (v := .tuple #[.agg #[.int .i64 0, .bool false], .bool false]) (by simp [results, Tryz.results157, go_sem]) rfl ?_
  exact ⟨by simp only [tyV, tyB, E.out]; rfl, hb⟩
 ·rw [str_size, List.length_cons] at hs
  have q0 : (str (c :: r)).toList.isEmpty = false := by rw [str_toList]; rfl
  by_cases hbo : c :: r = boolName
  ·have q1 : ((str (c :: r)).toList == [98, 111, 111, 108]) = true := by rw [str_toList, hbo]; rfl
   have E := Hd type_bool
   rw [← hbo] at E
   clear hbo
   go_enter Tryz.func157, Tryz.ntmps157
   go_wp2
   refine bodyPost_ret (v := .tuple #[.agg #[.int .i64 1, .bool false], .bool true]) (by simp [results, Tryz.results157, go_sem]) rfl ?_
   exact ⟨by simp only [tyV, tyB, E.out]; rfl, (Below.refl w.heap.size w).alloc (Nat.le_refl _) _⟩
  ·have q1 : ((str (c :: r)).toList == [98, 111, 111, 108]) = false := by rw [str_toList]; exact beq_eq_false_iff_ne.2 hbo
   have hsz : (str (c :: r)).size = r.length + 1 := by rw [str_size, List.length_cons]
   have h0 : ∀ h : 0 < (str (c :: r)).size, (str (c :: r))[0]'h = c := fun _ => rfl
   have hex : (str (c :: r)).extract 1 (r.length + 1) = str r := by rw [← hsz, extract_tail]; rfl
   have HA := Hd fun W V => atoi_any (str r) (by rw [str_size]; omega) W V
   have HR := Hd fun v => type_read (c := c) (r := r) hbo (v := v)
   have HU := Hd (type_unread (c := c) (r := r) hbo)
   clear hbo
   generalize hl : c :: r = l at *
   clear hl
   generalize hll : r.length = n at *
   clear hll
   go_enter Tryz.func157, Tryz.ntmps157
   go_wp2_with fail
   refine (HA.out _ (V.below ((Below.refl w.heap.size w).alloc (Nat.le_refl _) _))).mono ?_
   rintro e w1 ⟨v, ev, rfl, hcase, hb1⟩
   have hB := (Blk.alloc w 24 [.int .i64 0, .bool false]).below hb1 (by simp)
   have hbb := hb.trans (hb1.mono (by simp))
   have c0 := hB.cell 0
   have c1 := hB.cell 1
   have f0 := hB.frozen 0
   have f1 := hB.frozen 1
   have hlt := hB.lt
   have HB := Hd hB
   have hne : ¬ (w1.heap.size = w.heap.size) := by omega
   clear hb1 hB
   rcases hcase with ⟨rfl, hv⟩ | ⟨⟨N, rfl⟩, hv⟩
   ·have hcase := HR.out v hv
    clear hv
    have HT := Hd fun W => typeName_any v (((c.toNat : Nat) : Int) == 115) W
    rcases hcase with ⟨he, hty, h1v, hv64⟩ | ⟨he, hty⟩
    ·have hq : ((tn v (((c.toNat : Nat) : Int) == 115)).toList == (str l).toList) = true := by rw [str_eq]; exact decide_eq_true he
     have HY := Hd hty
     clear he hty
     go_wp2_with fail
     generalize hsg : (((c.toNat : Nat) : Int) == 115) = sg at *
     clear hsg
     refine (HT.out _).mono ?_
     rintro e w2 ⟨rfl, hb2⟩
     have hsz1 : (w1.alloc (.cells #[.int .i64 v, .bool sg] 24)).heap.size = w1.heap.size + 1 := by simp
     rw [hsz1] at hb2
     have hB2 := (HB.out.alloc_other (.cells #[.int .i64 v, .bool sg] 24)).below hb2 (by omega)
     have hT2 := (Blk.alloc w1 24 [.int .i64 v, .bool sg]).below hb2 (by omega)
     have hbb2 := (hbb.alloc (by omega) (.cells #[.int .i64 v, .bool sg] 24)).trans (hb2.mono (by omega))
     clear c0 c1 f0 f1 hsz1 hbb HB
     have c0 := hB2.cell 0
     have c1 := hB2.cell 1
     have f0 := hB2.frozen 0
     have f1 := hB2.frozen 1
     have d0 := hT2.cell 0
     have d1 := hT2.cell 1
     have HB := Hd hB2
     have hsz2 := hT2.lt
     clear hb2 hB2 hT2
     go_wp2
     refine bodyPost_ret ((((HB.out.set 0 _).set 1 _)).res Tryz.results157 Tryz.underlying24 rfl (by kernel_rfl) _ rfl) rfl ?_
     exact ⟨by simp only [tyV, tyB, HY.out]; rw [Int.toNat_of_nonneg (by omega), decide_eq_true (by omega)]; rfl, (hbb2.setCell (p := ⟨w.heap.size, 0, none⟩) (Nat.le_refl _) _).setCell (p := ⟨w.heap.size, 1, none⟩) (Nat.le_refl _) _⟩
    ·have hq : ((tn v (((c.toNat : Nat) : Int) == 115)).toList == (str l).toList) = false := by rw [str_eq]; exact decide_eq_false he
     have HY := Hd hty
     clear he hty
     go_wp2_with fail
     generalize hsg : (((c.toNat : Nat) : Int) == 115) = sg at *
     clear hsg
     refine (HT.out _).mono ?_
     rintro e w2 ⟨rfl, hb2⟩
     have hsz1 : (w1.alloc (.cells #[.int .i64 v, .bool sg] 24)).heap.size = w1.heap.size + 1 := by simp
     rw [hsz1] at hb2
     have hB2 := (HB.out.alloc_other (.cells #[.int .i64 v, .bool sg] 24)).below hb2 (by omega)
     have hT2 := (Blk.alloc w1 24 [.int .i64 v, .bool sg]).below hb2 (by omega)
     have hbb2 := (hbb.alloc (by omega) (.cells #[.int .i64 v, .bool sg] 24)).trans (hb2.mono (by omega))
     clear c0 c1 f0 f1 hsz1 hbb HB
     have c0 := hB2.cell 0
     have c1 := hB2.cell 1
     have f0 := hB2.frozen 0
     have f1 := hB2.frozen 1
     have d0 := hT2.cell 0
     have d1 := hT2.cell 1
     have HB := Hd hB2
     have hsz2 := hT2.lt
     clear hb2 hB2 hT2
     go_wp2
     refine bodyPost_ret ((((HB.out.set 0 _).set 1 _)).res Tryz.results157 Tryz.underlying24 rfl (by kernel_rfl) _ rfl) rfl ?_
     exact ⟨by simp only [tyV, tyB, HY.out]; rfl, (hbb2.setCell (p := ⟨w.heap.size, 0, none⟩) (Nat.le_refl _) _).setCell (p := ⟨w.heap.size, 1, none⟩) (Nat.le_refl _) _⟩
   ·have hE := Hd (HU.out hv)
    clear hv
    go_wp2_with fail
    refine bodyPost_ret ((((HB.out.set 0 _).set 1 _).alloc_other _).res Tryz.results157 Tryz.underlying24 rfl (by kernel_rfl) _ rfl) rfl ?_
    exact ⟨by simp only [tyV, tyB, hE.out]; rfl, ((hbb.setCell (p := ⟨w.heap.size, 0, none⟩) (Nat.le_refl _) _).setCell (p := ⟨w.heap.size, 1, none⟩) (Nat.le_refl _) _).alloc (by simp; omega) _⟩
end Go.Proofs.YthdbaligapdbeaaGreatDoor
/- An append of one element inside a region that draws its order. Nothing of the program stands here. -/
namespace Go.Proofs.YthdbaligapdbeaaGreatDoor
open Go.RowKit

end Go.Proofs.YthdbaligapdbeaaGreatDoor
/- Tables of lists of numbers that the code makes: a block of slices, each of which owns its list. Nothing of the program stands here. -/
namespace Go.Proofs.YthdbaligapdbeaaGreatDoor
open Go.RowKit

theorem grown_trans {a b c : World} {row : Option Nat} (h : a.grownBy b row) (k : b.grownBy c row) : a.grownBy c row :=
 ⟨k.os.trans h.os, k.tape.trans h.tape, k.output.trans h.output, Nat.le_trans h.size k.size, fun i hi hne => (k.block i (Nat.lt_of_lt_of_le hi h.size) hne).trans (h.block i hi hne)⟩
end Go.Proofs.YthdbaligapdbeaaGreatDoor
