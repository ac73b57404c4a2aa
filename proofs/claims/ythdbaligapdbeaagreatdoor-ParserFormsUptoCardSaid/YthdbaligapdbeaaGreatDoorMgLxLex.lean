/- The code's has, isTruth and bareType: contracts. -/
import Derived.Test.YthdbaligapdbeaaGreatDoorMgLxTk0
import Derived.Test.YthdbaligapdbeaaGreatDoorMgPsKid
import Derived.Laws.StructEq
import Derived.Test.YthdbaligapdbeaaGreatDoorMgTabKit
import Derived.Shelf.Strconv.ParseUint10b64
namespace Go.Proofs.YthdbaligapdbeaaGreatDoor
open Go Go.RowKit
set_option linter.unusedVariables false

def Ex (w : World) : Prop := w.cell? ⟨1, 0, none⟩ = some (.int .i64 18) ∧ w.cell? ⟨1, 1, none⟩ = some (.int .i64 26)
theorem Ex.below {w w' : World} (h : Ex w) (hb : Below w.heap.size w w') : Ex w' := by
 have h1 := cell_block_lt h.1
 have h2 := cell_block_lt h.2
 exact ⟨(hb.cell (p := ⟨1, 0, none⟩) h1).trans h.1, (hb.cell (p := ⟨1, 1, none⟩) h2).trans h.2⟩
def inG (a b k : Int) : Bool := decide (a ≤ k) && decide (k ≤ b)
set_option maxHeartbeats 1000000 in
set_option maxRecDepth 100000 in
theorem has_any (a b : Int) (l : Lab) (x : Option Addr) (n k : Nat) (w : World) :
  Calls Tryz.prog 82 #[.agg #[.int .i64 a, .int .i64 b], .agg #[.int .i64 l.kind, .string (str l.name), .int .u64 l.num, .int .i64 l.wd, .bool l.sg, .int .i64 l.op, .int .i64 l.fac, .int .i64 l.pip, .int .i64 l.unr, .int .i64 l.line, .slice x n k]] w fun e w' => e = .returned (.bool (inG a b l.kind)) ∧ Below w.heap.size w w' := by
 have HB := Hd (((Below.refl w.heap.size w).alloc (Nat.le_refl _) (.cells #[.int .i64 a, .int .i64 b] 99)).alloc (by simp) (.cells #[.int .i64 l.kind, .string (str l.name), .int .u64 l.num, .int .i64 l.wd, .bool l.sg, .int .i64 l.op, .int .i64 l.fac, .int .i64 l.pip, .int .i64 l.unr, .int .i64 l.line, .slice x n k] 27))
 obtain ⟨a0, a1, a2, a3, a4, a5, a6, a7, a8, a9⟩ := l
 dsimp only at *
 by_cases h1 : a ≤ a0
 ·by_cases h2 : a0 ≤ b
  ·have HR : Hid (inG a b a0 = true) := Hd (by simp [inG, h1, h2])
   go_enter Tryz.func82, Tryz.ntmps82
   go_wp2
   go_ret
   exact ⟨by rw [HR.out]; rfl, HB.out⟩
  ·have HR : Hid (inG a b a0 = false) := Hd (by simp [inG, h2])
   go_enter Tryz.func82, Tryz.ntmps82
   go_wp2
   go_ret
   exact ⟨by rw [HR.out]; rfl, HB.out⟩
 ·have HR : Hid (inG a b a0 = false) := Hd (by simp [inG, h1])
  go_enter Tryz.func82, Tryz.ntmps82
  go_wp2
  go_ret
  exact ⟨by rw [HR.out]; rfl, HB.out⟩
def isTr (k wd : Int) (sg : Bool) : Bool := decide (k = 18) && (decide (wd = 1) && !sg)
set_option maxHeartbeats 1000000 in
set_option maxRecDepth 100000 in
theorem isTruth_any (l : Lab) (x : Option Addr) (n k : Nat) (w : World) :
  Calls Tryz.prog 83 #[.agg #[.int .i64 l.kind, .string (str l.name), .int .u64 l.num, .int .i64 l.wd, .bool l.sg, .int .i64 l.op, .int .i64 l.fac, .int .i64 l.pip, .int .i64 l.unr, .int .i64 l.line, .slice x n k]] w fun e w' => e = .returned (.bool (isTr l.kind l.wd l.sg)) ∧ Below w.heap.size w w' := by
 have HB := Hd ((Below.refl w.heap.size w).alloc (Nat.le_refl _) (.cells #[.int .i64 l.kind, .string (str l.name), .int .u64 l.num, .int .i64 l.wd, .bool l.sg, .int .i64 l.op, .int .i64 l.fac, .int .i64 l.pip, .int .i64 l.unr, .int .i64 l.line, .slice x n k] 27))
 obtain ⟨a0, a1, a2, a3, a4, a5, a6, a7, a8, a9⟩ := l
 dsimp only at *
 by_cases h1 : a0 = 18
 ·subst h1
  by_cases h2 : a3 = 1
  ·subst h2
   cases a4
   all_goals
    go_enter Tryz.func83, Tryz.ntmps83
    go_wp2
    go_ret
    exact ⟨rfl, HB.out⟩
  ·have HR : Hid (isTr 18 a3 a4 = false) := Hd (by simp [isTr, h2])
   go_enter Tryz.func83, Tryz.ntmps83
   go_wp2
   go_ret
   exact ⟨by rw [HR.out]; rfl, HB.out⟩
 ·have HR : Hid (isTr a0 a3 a4 = false) := Hd (by simp [isTr, h1])
  go_enter Tryz.func83, Tryz.ntmps83
  go_wp2
  go_ret
  exact ⟨by rw [HR.out]; rfl, HB.out⟩
def keepsT (l : Lab) : Bool := !(inG 18 26 l.kind) || (decide (l.kind = 24) || isTr l.kind l.wd l.sg)
def bareL (l : Lab) : Lab := { l with line := 0, wd := if keepsT l then l.wd else 0, sg := if keepsT l then l.sg else false }
theorem blk_two {w : World} (o : Obj) (t : TypeId) (cs : List Value) : Blk ((w.alloc o).alloc (.cells cs.toArray t)) (w.heap.size + 1) t cs := by
 have h := Blk.alloc (w.alloc o) t cs
 have hs : (w.alloc o).heap.size = w.heap.size + 1 := by simp
 rw [hs] at h
 exact h
set_option maxHeartbeats 1000000 in
set_option maxRecDepth 100000 in
theorem bareType_any (l : Lab) (x : Option Addr) (n k : Nat) (w : World) (hE : Ex w) :
  Calls Tryz.prog 52 #[.agg #[.int .i64 l.kind, .string (str l.name), .int .u64 l.num, .int .i64 l.wd, .bool l.sg, .int .i64 l.op, .int .i64 l.fac, .int .i64 l.pip, .int .i64 l.unr, .int .i64 l.line, .slice x n k]] w fun e w' => e = .returned (.agg #[.int .i64 (bareL l).wd, .bool (bareL l).sg]) ∧ Below w.heap.size w w' := by
 have hW : Below w.heap.size w ((w.alloc (.cells #[.int .i64 l.kind, .string (str l.name), .int .u64 l.num, .int .i64 l.wd, .bool l.sg, .int .i64 l.op, .int .i64 l.fac, .int .i64 l.pip, .int .i64 l.unr, .int .i64 l.line, .slice x n k] 27)).alloc (.cells #[.int .i64 0, .bool false] 24)) := ((Below.refl w.heap.size w).alloc (Nat.le_refl _) _).alloc (by simp) _
 have HB := Hd hW
 have e0 := (hE.below hW).1
 have e1 := (hE.below hW).2
 have HH := Hd fun W => has_any 18 26 l x n k W
 have HT := Hd fun W => isTruth_any l x n k W
 have HX1 := Hd ((Blk.alloc w 27 [.int .i64 l.kind, .string (str l.name), .int .u64 l.num, .int .i64 l.wd, .bool l.sg, .int .i64 l.op, .int .i64 l.fac, .int .i64 l.pip, .int .i64 l.unr, .int .i64 l.line, .slice x n k]).alloc_other (.cells #[.int .i64 0, .bool false] 24))
 have HX2 := Hd (blk_two (w := w) (.cells #[.int .i64 l.kind, .string (str l.name), .int .u64 l.num, .int .i64 l.wd, .bool l.sg, .int .i64 l.op, .int .i64 l.fac, .int .i64 l.pip, .int .i64 l.unr, .int .i64 l.line, .slice x n k] 27) 24 [.int .i64 0, .bool false])
 have hw1 : (bareL l).wd = if keepsT l then l.wd else 0 := rfl
 have hw2 : (bareL l).sg = if keepsT l then l.sg else false := rfl
 have hk : keepsT l = (!(inG 18 26 l.kind) || (decide (l.kind = 24) || isTr l.kind l.wd l.sg)) := rfl
 have HK := Hd hk
 have HW1 := Hd hw1
 have HW2 := Hd hw2
 clear hw1 hw2 hk hE hW
 generalize keepsT l = kt at *
 generalize (bareL l).wd = bw at *
 generalize (bareL l).sg = bs at *
 generalize inG 18 26 l.kind = g1 at *
 generalize isTr l.kind l.wd l.sg = g2 at *
 obtain ⟨a0, a1, a2, a3, a4, a5, a6, a7, a8, a9⟩ := l
 dsimp only at *
 go_enter Tryz.func52, Tryz.ntmps52
 go_wp2_with fail
 refine (HH.out _).mono ?_
 rintro e w1 ⟨rfl, hb1⟩
 have HBy := Hd (HB.out.trans (hb1.mono HB.out.size))
 have HY1 := Hd (HX1.out.below hb1 (by simp; omega))
 have HY2 := Hd (HX2.out.below hb1 (by simp))
 have c0 := HY1.out.cell
 have c1 := HY2.out.cell
 have f1 := HY2.out.frozen
 clear hb1
 cases g1 with
 | false =>
  go_wp2
  refine bodyPost_ret ((HY2.out.stor2 rfl _ _).res1 Tryz.results52 Tryz.underlying24 rfl infoTy _ rfl) rfl ?_
  exact ⟨by rw [HW1.out, HW2.out, HK.out]; rfl, (HBy.out.setCell (p := ⟨w.heap.size + 1, 0, none⟩) (by show w.heap.size ≤ w.heap.size + 1; omega) _).setCell (p := ⟨w.heap.size + 1, 1, none⟩) (by show w.heap.size ≤ w.heap.size + 1; omega) _⟩
 | true =>
  by_cases h24 : a0 = 24
  ·subst h24
   go_wp2
   refine bodyPost_ret ((HY2.out.stor2 rfl _ _).res1 Tryz.results52 Tryz.underlying24 rfl infoTy _ rfl) rfl ?_
   exact ⟨by rw [HW1.out, HW2.out, HK.out]; rfl, (HBy.out.setCell (p := ⟨w.heap.size + 1, 0, none⟩) (by show w.heap.size ≤ w.heap.size + 1; omega) _).setCell (p := ⟨w.heap.size + 1, 1, none⟩) (by show w.heap.size ≤ w.heap.size + 1; omega) _⟩
  ·have HD : Hid (decide (a0 = 24) = false) := Hd (decide_eq_false h24)
   go_wp2_with fail
   refine (HT.out _).mono ?_
   rintro e w2 ⟨rfl, hb2⟩
   have HBz := Hd (HBy.out.trans (hb2.mono HBy.out.size))
   have HZ1 := Hd (HY1.out.below hb2 HY1.out.lt)
   have HZ2 := Hd (HY2.out.below hb2 HY2.out.lt)
   clear c0 c1 f1 hb2
   have c0 := HZ1.out.cell
   have c1 := HZ2.out.cell
   have f1 := HZ2.out.frozen
   cases g2 with
   | false =>
    go_wp2
    refine bodyPost_ret ((HZ2.out.stor2 rfl _ _).res1 Tryz.results52 Tryz.underlying24 rfl infoTy _ rfl) rfl ?_
    exact ⟨by rw [HW1.out, HW2.out, HK.out, HD.out]; rfl, (HBz.out.setCell (p := ⟨w.heap.size + 1, 0, none⟩) (by show w.heap.size ≤ w.heap.size + 1; omega) _).setCell (p := ⟨w.heap.size + 1, 1, none⟩) (by show w.heap.size ≤ w.heap.size + 1; omega) _⟩
   | true =>
    go_wp2
    refine bodyPost_ret ((HZ2.out.stor2 rfl _ _).res1 Tryz.results52 Tryz.underlying24 rfl infoTy _ rfl) rfl ?_
    exact ⟨by rw [HW1.out, HW2.out, HK.out, HD.out]; rfl, (HBz.out.setCell (p := ⟨w.heap.size + 1, 0, none⟩) (by show w.heap.size ≤ w.heap.size + 1; omega) _).setCell (p := ⟨w.heap.size + 1, 1, none⟩) (by show w.heap.size ≤ w.heap.size + 1; omega) _⟩
end Go.Proofs.YthdbaligapdbeaaGreatDoor
/- Numbers of base 2, 10 and 16: mathematics, and contracts of the library's ParseUint at digits alone. -/
namespace Go.Proofs.YthdbaligapdbeaaGreatDoor
open Go Go.RowKit
set_option linter.unusedVariables false

def parseB (base : Nat) : Nat → List UInt8 → Option Nat
 | acc, [] => some acc
 | acc, c :: r => if 18446744073709551616 ≤ acc * base + dv c then none else parseB base (acc * base + dv c) r
theorem fold_ge {base : Nat} (hb : 1 ≤ base) : ∀ (l : List UInt8) (acc : Nat), acc ≤ l.foldl (fun n b => n * base + dv b) acc := by
 intro l
 induction l with
 | nil => intro acc; exact Nat.le_refl _
 | cons c r ih =>
  intro acc
  have h1 : acc * 1 ≤ acc * base := Nat.mul_le_mul_left acc hb
  exact Nat.le_trans (by omega) (ih (acc * base + dv c))
theorem parseB_is {base : Nat} (hb : 1 ≤ base) : ∀ (l : List UInt8) (acc : Nat), acc < 18446744073709551616 → parseB base acc l = if 18446744073709551616 ≤ l.foldl (fun n b => n * base + dv b) acc then none else some (l.foldl (fun n b => n * base + dv b) acc) := by
 intro l
 induction l with
 | nil => intro acc h; rw [parseB]; show _ = if 18446744073709551616 ≤ acc then none else some acc; rw [if_neg (by omega)]
 | cons c r ih =>
  intro acc h
  rw [parseB, List.foldl_cons]
  by_cases h2 : 18446744073709551616 ≤ acc * base + dv c
  ·have := fold_ge hb r (acc * base + dv c)
   rw [if_pos h2, if_pos (by omega)]
  ·rw [if_neg h2]
   exact ih _ (by omega)
theorem parseB_num {base : Nat} (hb : 1 ≤ base) (l : List UInt8) : parseB base 0 l = if 18446744073709551616 ≤ numVal base l then none else some (numVal base l) := parseB_is hb l 0 (by omega)

theorem or_hex : ∀ b : UInt8, dv b < 16 → ¬ (48 ≤ b.toNat ∧ b.toNat ≤ 57) → bits .or .u8 ((b.toNat : Nat) : Int) 32 = ((dv b + 87 : Nat) : Int) := by
 intro b h1 h2
 have := all_u8 (fun b => !(decide (dv b < 16) && !(decide (48 ≤ b.toNat ∧ b.toNat ≤ 57))) || decide (bits .or .u8 ((b.toNat : Nat) : Int) 32 = ((dv b + 87 : Nat) : Int))) (by decide +kernel) b
 rw [decide_eq_true h1, decide_eq_false h2] at this
 simpa using this
theorem lower_any (b : UInt8) (h1 : dv b < 16) (h2 : ¬ (48 ≤ b.toNat ∧ b.toNat ≤ 57)) (w : World) : Calls Tryz.prog 204 #[.int .u8 (b.toNat : Int)] w fun e w' => e = .returned (.int .u8 ((dv b : Nat) + 87 : Int)) ∧ w = w' :=
 (Tryz.internal_strconv_lower (b.toNat : Int) w).mono fun e w' ⟨he, hw⟩ => ⟨by rw [he, or_hex b h1 h2]; rfl, hw.symm⟩
def parsed : Option Nat → Value
 | some n => .tuple #[.int .u64 (n : Int), .nilIface]
 | none => .tuple #[.int .u64 18446744073709551615, .iface 190 (.int .i64 1)]

set_option maxHeartbeats 32000000 in
set_option maxRecDepth 100000 in
theorem parse16_any (t : ByteArray) (hne : t.size ≠ 0) (hmax : t.size ≤ 9223372036854775806) (hd : ∀ c ∈ t.data.toList, dv c < 16) (w : World) :
  Calls Tryz.prog 180 #[.string t, .int .i64 16, .int .i64 64] w fun e w' => e = .returned (parsed (parseB 16 0 t.data.toList)) ∧ w' = Lib.bytesWorld w 5 t := by
 have hemp : t.toList.isEmpty = false := by
  rw [← decide_eq_emptyBytes]
  exact decide_eq_false (fun h => hne (by rw [h]; rfl))
 have hcv := Lib.run_convert_string_bytes (P := Tryz.prog) w 9 134 5 t (u := .string) Tryz.underlying9 Tryz.underlying134 Tryz.underlying5
 have hB : ∀ j, j < t.size → (Lib.bytesWorld w 5 t).cell? ⟨w.heap.size, j, none⟩ = some (.int .u8 (t.data.toList.getD j 0).toNat) := fun j hj => Lib.bytesWorld_cell w 5 t j hj
 obtain ⟨W1, hW1⟩ : ∃ W1, W1 = Lib.bytesWorld w 5 t := ⟨_, rfl⟩
 rw [← hW1] at hcv hB ⊢
 clear hW1
 obtain ⟨bs, hL⟩ : ∃ bs, bs = t.data.toList := ⟨_, rfl⟩
 have hLn : bs.length = t.size := by rw [hL, Lib.size_eq]
 rw [← hL] at hB hd ⊢
 clear hL
 have hmv : IntKind.u64.wrap (IntKind.u64.wrap 18446744073709551616 - 1) = 18446744073709551615 := by
  rw [IntKind.wrap_u64, IntKind.wrap_u64]
  decide
 have HD := Hd hd
 clear hd
 go_enter Tryz.func180, Tryz.ntmps180
 go_wp2
 go_loop [12, 13, 101] (fun vu vn vi => ∃ (k acc : Nat) (a : Int), vu = .bool false ∧ vn = .int .u64 a ∧ vi = .int .i64 k ∧ k ≤ t.size ∧ Hid (a = (acc : Int) ∧ acc < 18446744073709551616 ∧ parseB 16 0 bs = parseB 16 acc (bs.drop k)))
  (fun _ _ vi => t.size - (intOf vi).toNat)
 case atStart => exact ⟨0, 0, 0, rfl, rfl, rfl, by omega, rfl, by omega, rfl⟩
 case round =>
  obtain ⟨k, acc, a, rfl, rfl, rfl, hk, hh⟩ := hrel
  obtain ⟨ha, hacc, hdec⟩ := hh.out
  clear hh
  have a0 : 0 ≤ a := by omega
  have a1 : a < 18446744073709551616 := by omega
  by_cases hkn : k < t.size
  ·have hc := hB k hkn
   have hdrop : bs.drop k = bs[k]'(by omega) :: bs.drop (k + 1) := List.drop_eq_getElem_cons (by omega)
   have hget : bs.getD k 0 = bs[k]'(by omega) := by simp [List.getD, List.getElem?_eq_getElem (show k < bs.length by omega)]
   have hdv := HD.out (bs[k]'(by omega)) (List.getElem_mem _)
   rw [hdrop] at hdec
   rw [hget] at hc
   generalize bs[k]'(by omega) = c at hc hdec hdv
   have hc256 : c.toNat < 256 := c.toNat_lt
   clear hB hdrop hget
   have HPN := Hd fun (h : 18446744073709551616 ≤ acc * 16 + dv c) => (show parseB 16 acc (c :: bs.drop (k + 1)) = none by rw [parseB, if_pos h])
   have HPS := Hd fun (h : ¬ 18446744073709551616 ≤ acc * 16 + dv c) => (show parseB 16 acc (c :: bs.drop (k + 1)) = parseB 16 (acc * 16 + dv c) (bs.drop (k + 1)) by rw [parseB, if_neg h])
   by_cases hdig : 48 ≤ c.toNat ∧ c.toNat ≤ 57
   ·have hdvc : dv c = c.toNat - 48 := by unfold dv; rw [if_pos hdig]
    obtain ⟨hd0, hd1⟩ := hdig
    have hdl : c.toNat < 48 + dv c + 1 := by omega
    have hdm : c.toNat ≤ 48 + (16 - 1) := by omega
    clear hdl
    by_cases hov : 18446744073709551616 ≤ acc * 16 + dv c
    ·have hF : parseB 16 acc (c :: bs.drop (k + 1)) = none := by rw [parseB, if_pos hov]
     rw [hF] at hdec
     have icut : 1152921504606846976 ≤ a := by omega
     clear hacc hF ha hov hdvc hdv
     go_wp2
     go_ret2
     exact ⟨rfl, rfl⟩
    ·have hF : parseB 16 acc (c :: bs.drop (k + 1)) = parseB 16 (acc * 16 + dv c) (bs.drop (k + 1)) := by rw [parseB, if_neg hov]
     have HN : Hid (a * 16 + ((c.toNat : Int) - 48) = ((acc * 16 + dv c : Nat) : Int) ∧ acc * 16 + dv c < 18446744073709551616 ∧ parseB 16 0 bs = parseB 16 (acc * 16 + dv c) (bs.drop (k + 1))) := Hd ⟨by omega, by omega, hdec.trans hF⟩
     have icut : a < 1152921504606846976 := by omega
     have iov : a * 16 + ((c.toNat : Int) - 48) < 18446744073709551616 := by omega
     clear hacc hF hov hdec ha hdvc hdv
     go_wp2
     refine ⟨⟨k + 1, acc * 16 + dv c, a * 16 + ((c.toNat : Int) - 48), rfl, (by first | rfl | (congr 1; omega)), (by first | rfl | (congr 1; omega)), by omega, HN⟩, by simp [intOf]; omega⟩
   ·have h95 : (((c.toNat : Nat) : Int) == 95) = false := by
     have : c.toNat ≠ 95 := by
      unfold dv at hdv
      split at hdv
      ·contradiction
      ·split at hdv
       ·omega
       ·split at hdv <;> omega
     simp
     omega
    have hhex : 58 ≤ c.toNat ∧ 10 ≤ dv c := by
     unfold dv at hdv ⊢
     split at hdv
     ·contradiction
     ·split at hdv
      ·rename_i h1 h2; rw [if_neg h1, if_pos h2]; omega
      ·split at hdv
       ·rename_i h1 h2 h3; rw [if_neg h1, if_neg h2, if_pos h3]; omega
       ·omega
    have h58 := hhex.1
    have h10 := hhex.2
    have HLW := Hd fun W => lower_any c hdv hdig W
    clear hhex hdig
    generalize dv c = d at *
    by_cases hov : 18446744073709551616 ≤ acc * 16 + d
    ·have hF : parseB 16 acc (c :: bs.drop (k + 1)) = none := HPN.out hov
     rw [hF] at hdec
     have icut : 1152921504606846976 ≤ a := by omega
     clear hacc hF ha hov HPN HPS
     go_wp2_with (go_at_call 204; refine (HLW.out _).mono ?_; rintro e w' ⟨rfl, rfl⟩)
     go_ret2
     exact ⟨by rw [hdec]; rfl, rfl⟩
    ·have hF : parseB 16 acc (c :: bs.drop (k + 1)) = parseB 16 (acc * 16 + d) (bs.drop (k + 1)) := HPS.out hov
     have HN : Hid (a * 16 + (d : Int) = ((acc * 16 + d : Nat) : Int) ∧ acc * 16 + d < 18446744073709551616 ∧ parseB 16 0 bs = parseB 16 (acc * 16 + d) (bs.drop (k + 1))) := Hd ⟨by omega, by omega, hdec.trans hF⟩
     have icut : a < 1152921504606846976 := by omega
     have iov : a * 16 + (d : Int) < 18446744073709551616 := by omega
     clear hacc hF hov hdec ha HPN HPS
     go_wp2_with (go_at_call 204; refine (HLW.out _).mono ?_; rintro e w' ⟨rfl, rfl⟩)
     refine ⟨⟨k + 1, acc * 16 + d, a * 16 + (d : Int), rfl, (by first | rfl | (congr 1; omega)), (by first | rfl | (congr 1; omega)), by omega, HN⟩, by simp [intOf]; omega⟩
  ·have hkk : k = t.size := by omega
   subst hkk
   have hF : parseB 16 acc (bs.drop t.size) = some acc := by rw [List.drop_eq_nil_of_le (by omega)]; rfl
   rw [hF] at hdec
   subst ha
   clear hacc hF a0 a1
   go_wp2
   go_ret2
   exact ⟨rfl, rfl⟩

theorem parse10_same : ∀ (l : List UInt8), (∀ c ∈ l, dv c < 10) → ∀ acc, Lib.uintTuple 190 (Lib.parseUint10 acc l) = parsed (parseB 10 acc l) := by
 intro l
 induction l with
 | nil => intro _ acc; rfl
 | cons c r ih =>
  intro h acc
  have hc := h c (by simp)
  have hr : ∀ x ∈ r, dv x < 10 := fun x hx => h x (List.mem_cons_of_mem _ hx)
  have hd : 48 ≤ c.toNat ∧ c.toNat ≤ 57 ∧ dv c = c.toNat - 48 := by
   unfold dv at hc ⊢
   split at hc
   ·rename_i h1; rw [if_pos h1]; omega
   ·split at hc
    ·omega
    ·split at hc <;> omega
  rw [Lib.parseUint10, parseB, if_pos ⟨hd.1, hd.2.1⟩, hd.2.2]
  by_cases h1 : 1844674407370955162 ≤ acc
  ·rw [if_pos h1, if_pos (by omega)]; rfl
  ·rw [if_neg h1]
   by_cases h2 : 18446744073709551616 ≤ acc * 10 + (c.toNat - 48)
   ·rw [if_pos h2, if_pos h2]; rfl
   ·rw [if_neg h2, if_neg h2]
    exact ih hr _

set_option maxHeartbeats 32000000 in
set_option maxRecDepth 100000 in
theorem parse2_any (t : ByteArray) (hne : t.size ≠ 0) (hmax : t.size ≤ 9223372036854775806) (hd : ∀ c ∈ t.data.toList, dv c < 2) (w : World) :
  Calls Tryz.prog 180 #[.string t, .int .i64 2, .int .i64 64] w fun e w' => e = .returned (parsed (parseB 2 0 t.data.toList)) ∧ w' = Lib.bytesWorld w 5 t := by
 have hemp : t.toList.isEmpty = false := by
  rw [← decide_eq_emptyBytes]
  exact decide_eq_false (fun h => hne (by rw [h]; rfl))
 have hcv := Lib.run_convert_string_bytes (P := Tryz.prog) w 9 134 5 t (u := .string) Tryz.underlying9 Tryz.underlying134 Tryz.underlying5
 have hB : ∀ j, j < t.size → (Lib.bytesWorld w 5 t).cell? ⟨w.heap.size, j, none⟩ = some (.int .u8 (t.data.toList.getD j 0).toNat) := fun j hj => Lib.bytesWorld_cell w 5 t j hj
 obtain ⟨W1, hW1⟩ : ∃ W1, W1 = Lib.bytesWorld w 5 t := ⟨_, rfl⟩
 rw [← hW1] at hcv hB ⊢
 clear hW1
 obtain ⟨bs, hL⟩ : ∃ bs, bs = t.data.toList := ⟨_, rfl⟩
 have hLn : bs.length = t.size := by rw [hL, Lib.size_eq]
 rw [← hL] at hB hd ⊢
 clear hL
 have hmv : IntKind.u64.wrap (IntKind.u64.wrap 18446744073709551616 - 1) = 18446744073709551615 := by
  rw [IntKind.wrap_u64, IntKind.wrap_u64]
  decide
 have HD := Hd hd
 clear hd
 go_enter Tryz.func180, Tryz.ntmps180
 go_wp2
 go_loop [12, 13, 101] (fun vu vn vi => ∃ (k acc : Nat) (a : Int), vu = .bool false ∧ vn = .int .u64 a ∧ vi = .int .i64 k ∧ k ≤ t.size ∧ Hid (a = (acc : Int) ∧ acc < 18446744073709551616 ∧ parseB 2 0 bs = parseB 2 acc (bs.drop k)))
  (fun _ _ vi => t.size - (intOf vi).toNat)
 case atStart => exact ⟨0, 0, 0, rfl, rfl, rfl, by omega, rfl, by omega, rfl⟩
 case round =>
  obtain ⟨k, acc, a, rfl, rfl, rfl, hk, hh⟩ := hrel
  obtain ⟨ha, hacc, hdec⟩ := hh.out
  clear hh
  have a0 : 0 ≤ a := by omega
  have a1 : a < 18446744073709551616 := by omega
  by_cases hkn : k < t.size
  ·have hc := hB k hkn
   have hdrop : bs.drop k = bs[k]'(by omega) :: bs.drop (k + 1) := List.drop_eq_getElem_cons (by omega)
   have hget : bs.getD k 0 = bs[k]'(by omega) := by simp [List.getD, List.getElem?_eq_getElem (show k < bs.length by omega)]
   have hdv := HD.out (bs[k]'(by omega)) (List.getElem_mem _)
   rw [hdrop] at hdec
   rw [hget] at hc
   generalize bs[k]'(by omega) = c at hc hdec hdv
   have hc256 : c.toNat < 256 := c.toNat_lt
   clear hB hdrop hget
   by_cases hdig : 48 ≤ c.toNat ∧ c.toNat ≤ 57
   ·have hdvc : dv c = c.toNat - 48 := by unfold dv; rw [if_pos hdig]
    obtain ⟨hd0, hd1⟩ := hdig
    have hdl : c.toNat < 48 + dv c + 1 := by omega
    have hdm : c.toNat ≤ 48 + (2 - 1) := by omega
    clear hdl
    by_cases hov : 18446744073709551616 ≤ acc * 2 + dv c
    ·have hF : parseB 2 acc (c :: bs.drop (k + 1)) = none := by rw [parseB, if_pos hov]
     rw [hF] at hdec
     have icut : 9223372036854775808 ≤ a := by omega
     clear hacc hF ha hov hdvc hdv
     go_wp2
     go_ret2
     exact ⟨rfl, rfl⟩
    ·have hF : parseB 2 acc (c :: bs.drop (k + 1)) = parseB 2 (acc * 2 + dv c) (bs.drop (k + 1)) := by rw [parseB, if_neg hov]
     have HN : Hid (a * 2 + ((c.toNat : Int) - 48) = ((acc * 2 + dv c : Nat) : Int) ∧ acc * 2 + dv c < 18446744073709551616 ∧ parseB 2 0 bs = parseB 2 (acc * 2 + dv c) (bs.drop (k + 1))) := Hd ⟨by omega, by omega, hdec.trans hF⟩
     have icut : a < 9223372036854775808 := by omega
     have iov : a * 2 + ((c.toNat : Int) - 48) < 18446744073709551616 := by omega
     clear hacc hF hov hdec ha hdvc hdv
     go_wp2
     refine ⟨⟨k + 1, acc * 2 + dv c, a * 2 + ((c.toNat : Int) - 48), rfl, (by first | rfl | (congr 1; omega)), (by first | rfl | (congr 1; omega)), by omega, HN⟩, by simp [intOf]; omega⟩
   ·exfalso
    apply hdig
    unfold dv at hdv
    split at hdv
    ·assumption
    ·split at hdv
     ·omega
     ·split at hdv <;> omega
  ·have hkk : k = t.size := by omega
   subst hkk
   have hF : parseB 2 acc (bs.drop t.size) = some acc := by rw [List.drop_eq_nil_of_le (by omega)]; rfl
   rw [hF] at hdec
   subst ha
   clear hacc hF a0 a1
   go_wp2
   go_ret2
   exact ⟨rfl, rfl⟩
end Go.Proofs.YthdbaligapdbeaaGreatDoor
/- Keywords, words and punctuation: contracts of the code. -/
namespace Go.Proofs.YthdbaligapdbeaaGreatDoor
open Go Go.RowKit
set_option linter.unusedVariables false

def has (zs : List (List UInt8)) (x : ByteArray) : Bool := zs.contains x.data.toList
theorem strs_getD (zs : List (List UInt8)) (j : Nat) (h : j < zs.length) : (zs.map str).getD j ByteArray.empty = str zs[j] := by
 rw [List.getD, List.getElem?_map, List.getElem?_eq_getElem h]
 rfl
theorem contains_any (zs : List (List UInt8)) (g n : Nat) (t : TypeId) (x : ByteArray) (w : World) (hn : n = zs.length) (hb : n ≤ 1000) (hB : Blk w g t (zs.map fun l => .string (str l))) :
  Calls Tryz.prog 150 #[.slice (some ⟨g, 0, none⟩) n n, .string x] w fun e w' => e = .returned (.bool (has zs x)) ∧ w = w' := by
 subst hn
 refine (Tryz.slices_Contains_string g 0 zs.length zs.length (zs.map str) x w (by simp) (by omega) (fun j hj => ?_)).mono ?_
 ·rw [List.length_map] at hj
  rw [Nat.zero_add, hB.cell j, List.getElem?_map, List.getElem?_eq_getElem hj, strs_getD zs j hj]
  rfl
 ·rintro e w' ⟨rfl, rfl⟩
  refine ⟨?_, rfl⟩
  have : Lib.containsS ((zs.map str).take zs.length) x = has zs x := by
   rw [Bool.eq_iff_iff, Lib.containsS_iff]
   have e1 : (zs.map str).take zs.length = zs.map str := List.take_of_length_le (by simp)
   rw [e1, has, List.contains_iff_mem, List.mem_map]
   constructor
   ·rintro ⟨a, ha, rfl⟩; exact ha
   ·intro h; exact ⟨_, h, str_of x⟩
  rw [this]

set_option maxHeartbeats 2000000 in
set_option maxRecDepth 100000 in
theorem keyword_any (s : ByteArray) (hs : s.size ≤ 281474976710656) (w : World) (V : Vs w) : Calls Tryz.prog 152 #[.string s] w fun e w' =>
  e = .returned (.bool (isKey s.data.toList)) ∧ Below w.heap.size w w' := by
 have hK := Blk.alloc w 9 (keywords.map fun l => .string (str l))
 have hb := (Below.refl w.heap.size w).alloc (Nat.le_refl _) (.cells (keywords.map fun l => .string (str l)).toArray 9)
 have HT := Hd fun W V => type_any s hs W V
 have HV := Hd V
 have hik : isKey s.data.toList = (tyB s.data.toList || has keywords s) := by unfold isKey tyB has; rw [Bool.or_comm]
 rw [hik]
 clear V hik
 have HK := Hd hK
 have HB := Hd hb
 have hw : (w.alloc (.cells (keywords.map fun l => Value.string (str l)).toArray 9)).heap.size = w.heap.size + 1 := by simp
 have HW := Hd hw
 clear hK hb hw
 obtain ⟨ty1, hty1⟩ : ∃ ty1, ty1 = (typeOf s.data.toList).1 := ⟨_, rfl⟩
 obtain ⟨ty2, hty2⟩ : ∃ ty2, ty2 = (typeOf s.data.toList).2 := ⟨_, rfl⟩
 rcases htb : tyB s.data.toList with _ | _
 all_goals
  go_enter Tryz.func152, Tryz.ntmps152
  go_wp2_with fail
  refine (HT.out _ (HV.out.below HB.out)).mono ?_
  rintro e w1 ⟨rfl, hb1⟩
  rw [htb]
  unfold tyV
  rw [← hty1, ← hty2]
  have hb1' : Below (w.heap.size + 1) (w.alloc (.cells (keywords.map fun l => Value.string (str l)).toArray 9)) w1 := by rw [← HW.out]; exact hb1
  have hK1 := HK.out.below hb1' (by omega)
  have hbb := HB.out.trans (hb1'.mono (by omega))
  have HK1 := Hd hK1
  have HBB := Hd hbb
  have hs1 := hK1.lt
  clear hb1 hb1' hK1 hbb HT HV hty1 hty2
 ·have HC := Hd fun W (h : Blk W w.heap.size 9 (keywords.map fun l => .string (str l))) => contains_any keywords w.heap.size 19 9 s W rfl (by omega) h
  go_wp2_with (go_at_call 150; refine (HC.out _ (HK1.out.alloc_other _)).mono ?_; rintro e w' ⟨rfl, rfl⟩)
  go_ret
  exact ⟨by simp, HBB.out.alloc (by omega) _⟩
 ·go_wp2
  go_ret
  exact ⟨by simp, HBB.out.alloc (by omega) _⟩
end Go.Proofs.YthdbaligapdbeaaGreatDoor
/- Words and punctuation: contracts of the code. -/
namespace Go.Proofs.YthdbaligapdbeaaGreatDoor
open Go Go.RowKit
set_option linter.unusedVariables false

def tk (kind : Nat) (text : ByteArray) (num line pos : Nat) : List Value := [.int .i64 (kind : Int), .string text, .int .u64 (num : Int), .int .i64 (pos : Int), .int .i64 (line : Int)]
def tkZero : List Value := [.int .i64 0, .string ⟨#[]⟩, .int .u64 0, .int .i64 0, .int .i64 0]
def tkRet (err kind : Nat) (text : List UInt8) (num : Nat) : Value := .tuple #[.agg (if err = 0 then [.int .i64 (kind : Int), .string (str text), .int .u64 (num : Int), .int .i64 0, .int .i64 0] else tkZero).toArray, .int .i64 (err : Int)]
theorem Blk.z5 {w : World} {g : Nat} {t : TypeId} (h : Blk w g t tkZero) : w.cell? ⟨g, 0, none⟩ = some (.int .i64 0) ∧ w.cell? ⟨g, 1, none⟩ = some (.string ⟨#[]⟩) ∧ w.cell? ⟨g, 2, none⟩ = some (.int .u64 0) ∧ w.cell? ⟨g, 3, none⟩ = some (.int .i64 0) ∧ w.cell? ⟨g, 4, none⟩ = some (.int .i64 0) ∧
  w.frozen? ⟨g, 0, none⟩ = false ∧ w.frozen? ⟨g, 1, none⟩ = false ∧ w.frozen? ⟨g, 2, none⟩ = false ∧ w.frozen? ⟨g, 3, none⟩ = false ∧ w.frozen? ⟨g, 4, none⟩ = false :=
 ⟨h.cell 0, h.cell 1, h.cell 2, h.cell 3, h.cell 4, h.frozen 0, h.frozen 1, h.frozen 2, h.frozen 3, h.frozen 4⟩
def put5 (w : World) (g : Nat) (a b c d e : Value) : World := ((((w.setCell ⟨g, 0, none⟩ a).setCell ⟨g, 1, none⟩ b).setCell ⟨g, 2, none⟩ c).setCell ⟨g, 3, none⟩ d).setCell ⟨g, 4, none⟩ e
theorem Blk.put5 {w : World} {g : Nat} {t : TypeId} {cs : List Value} (h : Blk w g t cs) (hl : cs.length = 5) (a b c d e : Value) : Blk (put5 w g a b c d e) g t [a, b, c, d, e] := by
 have := ((((h.set 0 a).set 1 b).set 2 c).set 3 d).set 4 e
 match cs, hl with
 | [_, _, _, _, _], _ => exact this
theorem below_put5 {B : Nat} {a w : World} (h : Below B a w) {g : Nat} (hg : B ≤ g) (x0 x1 x2 x3 x4 : Value) : Below B a (put5 w g x0 x1 x2 x3 x4) :=
 ((((h.setCell (p := ⟨g, 0, none⟩) hg _).setCell (p := ⟨g, 1, none⟩) hg _).setCell (p := ⟨g, 2, none⟩) hg _).setCell (p := ⟨g, 3, none⟩) hg _).setCell (p := ⟨g, 4, none⟩) hg _
theorem infoTok : (Tryz.prog.info? 89).map (·.size) = some 5 := by kernel_rfl

set_option maxHeartbeats 2000000 in
set_option maxRecDepth 100000 in
theorem word_any (l : List UInt8) (hs : l.length ≤ 281474976710656) (w : World) (V : Vs w) : Calls Tryz.prog 111 #[.string (str l)] w fun e w' =>
  e = .returned (tkRet (if 64 < l.length then 5 else 0) (if isKey l = true then 2 else 1) l 0) ∧ Below w.heap.size w w' := by
 have hK := Blk.alloc w 89 tkZero
 have hb := (Below.refl w.heap.size w).alloc (Nat.le_refl _) (.cells tkZero.toArray 89)
 have hsz : (str l).size = l.length := str_size l
 have HT := Hd fun W V => keyword_any (str l) (by rw [hsz]; exact hs) W V
 rw [str_data] at HT
 have HV := Hd V
 have hw : (w.alloc (.cells tkZero.toArray 89)).heap.size = w.heap.size + 1 := by simp
 have HW := Hd hw
 have HB := Hd hb
 have HK := Hd hK
 clear hK hb hw V
 by_cases h64 : 64 < l.length
 ·rw [if_pos h64]
  generalize (if isKey l = true then 2 else 1) = k
  go_enter Tryz.func111, Tryz.ntmps111
  go_wp2
  refine bodyPost_ret ((HK.out.res Tryz.results111 Tryz.underlying89 rfl infoTok _ rfl)) rfl ?_
  exact ⟨rfl, HB.out⟩
 ·rw [if_neg h64]
  rcases hik : isKey l with _ | _
  all_goals
   go_enter Tryz.func111, Tryz.ntmps111
   go_wp2_with fail
   refine (HT.out _ (HV.out.below HB.out)).mono ?_
   rintro e w1 ⟨rfl, hb1⟩
   rw [hik]
   have hb1' : Below (w.heap.size + 1) (w.alloc (.cells tkZero.toArray 89)) w1 := by rw [← HW.out]; exact hb1
   have hK1 := HK.out.below hb1' (by omega)
   have hbb := HB.out.trans (hb1'.mono (by omega))
   obtain ⟨c0, c1, c2, c3, c4, f0, f1, f2, f3, f4⟩ := hK1.z5
   have HK1 := Hd hK1
   have HBB := Hd hbb
   clear hb1 hb1' hK1 hbb HT HV
   go_wp2
   refine bodyPost_ret ((HK1.out.put5 rfl _ _ _ _ _).res Tryz.results111 Tryz.underlying89 rfl infoTok _ rfl) rfl ?_
   exact ⟨rfl, below_put5 HBB.out (Nat.le_refl _) _ _ _ _ _⟩

theorem punct_two {l : List UInt8} (h : 1 < l.length ∧ pairs.contains (l.take 2) = true) : punctLen l = 2 := by unfold punctLen; rw [if_pos h]
theorem punct_one {c : UInt8} {r : List UInt8} (h : ¬ (1 < (c :: r).length ∧ pairs.contains ((c :: r).take 2) = true)) : punctLen (c :: r) = if isPunct c = true then 1 else 0 := by unfold punctLen; rw [if_neg h]

set_option maxHeartbeats 2000000 in
set_option maxRecDepth 100000 in
theorem punct_any (c : UInt8) (r : List UInt8) (hs : r.length ≤ 281474976710656) (w : World) : Calls Tryz.prog 109 #[.string (str (c :: r))] w fun e w' =>
  e = .returned (tkRet (if punctLen (c :: r) = 0 then 4 else 0) 4 ((c :: r).take (punctLen (c :: r))) 0) ∧ Below w.heap.size w w' := by
 have hbb := ((Below.refl w.heap.size w).alloc (Nat.le_refl _) (.cells tkZero.toArray 89)).alloc (by simp) (.cells (pairs.map fun l => .string (str l)).toArray 9)
 have hK := (Blk.alloc w 89 tkZero).alloc_other (.cells (pairs.map fun l => .string (str l)).toArray 9)
 have hw : (w.alloc (.cells tkZero.toArray 89)).heap.size = w.heap.size + 1 := by simp
 have hP := Blk.alloc (w.alloc (.cells tkZero.toArray 89)) 9 (pairs.map fun l => .string (str l))
 rw [hw] at hP
 have hsz : (str (c :: r)).size = r.length + 1 := by rw [str_size, List.length_cons]
 have h0 : ∀ h : 0 < (str (c :: r)).size, (str (c :: r))[0]'h = c := fun _ => rfl
 have HC := Hd fun x W (h : Blk W (w.heap.size + 1) 9 (pairs.map fun l => .string (str l))) => contains_any pairs (w.heap.size + 1) 10 9 x W rfl (by omega) h
 have HBB := Hd hbb
 have HK := Hd hK
 have HP := Hd hP
 have hx2 : (str (c :: r)).extract 0 2 = str ((c :: r).take 2) := by rw [extract_head]; rfl
 have hx1 : (str (c :: r)).extract 0 1 = str [c] := by rw [extract_head]; rfl
 have hip : decide (0 ≤ ib punctSet c) = isPunct c := indexByte_punct c
 clear hK hbb hP hw
 by_cases h2 : 1 < (c :: r).length ∧ pairs.contains ((c :: r).take 2) = true
 ·rw [punct_two h2]
  have hl : 1 ≤ r.length := by have := h2.1; rw [List.length_cons] at this; omega
  have hh : has pairs (str ((c :: r).take 2)) = true := h2.2
  generalize hT2 : str ((c :: r).take 2) = T2 at *
  have HT2 := Hd hT2
  generalize hS : str (c :: r) = S at *
  clear hS h2 hT2
  go_enter Tryz.func109, Tryz.ntmps109
  go_wp2_with (go_at_call 150; refine Calls.mono (HC.out _ _ ?_) ?_; exact HP.out; rintro e w' ⟨rfl, rfl⟩)
  refine bodyPost_ret (((Blk.alloc w 89 [.int .i64 4, .string _, .int .u64 0, .int .i64 0, .int .i64 0]).alloc_other _).res Tryz.results109 Tryz.underlying89 rfl infoTok _ rfl) rfl ?_
  exact ⟨by rw [← HT2.out]; rfl, ((Below.refl w.heap.size w).alloc (Nat.le_refl _) _).alloc (by simp) _⟩
 ·rw [punct_one h2]
  have hh : 1 ≤ r.length → has pairs (str ((c :: r).take 2)) = false := fun h => by
   cases hq : has pairs (str ((c :: r).take 2)) with
   | false => rfl
   | true => exact absurd ⟨by rw [List.length_cons]; omega, hq⟩ h2
  have HT1 : Hid (str ((c :: r).take 1) = str [c]) := rfl
  have HT0 : Hid (str ((c :: r).take 0) = str []) := rfl
  have HI := Hd hip
  clear hip h2
  generalize hT2 : str ((c :: r).take 2) = T2 at *
  clear hT2
  have hset : ib [40, 41, 123, 125, 91, 93, 44, 59, 58, 61, 43, 45, 42, 47, 37, 38, 124, 94, 126, 33, 60, 62, 63, 35] c = ib punctSet c := rfl
  rcases hpc : isPunct c with _ | _
  ·have hlt : ib [40, 41, 123, 125, 91, 93, 44, 59, 58, 61, 43, 45, 42, 47, 37, 38, 124, 94, 126, 33, 60, 62, 63, 35] c < 0 := by
    rw [hset]
    have h := HI.out
    rw [hpc] at h
    have := of_decide_eq_false h
    omega
   clear HT1 hset
   by_cases hl : 1 ≤ r.length
   ·have hh := hh hl
    generalize hS : str (c :: r) = S at *
    clear hS hpc
    go_enter Tryz.func109, Tryz.ntmps109
    go_wp2_with (first | (go_at_call 150; refine Calls.mono (HC.out _ _ ?_) ?_; exact HP.out; rintro e w' ⟨rfl, rfl⟩) | (go_at_call 106; refine (ib_any _ _ _).mono ?_; rintro e w' ⟨rfl, rfl⟩))
    refine bodyPost_ret (((Blk.alloc w 89 [.int .i64 0, .string _, .int .u64 0, .int .i64 0, .int .i64 0]).alloc_other _).res Tryz.results109 Tryz.underlying89 rfl infoTok _ rfl) rfl ?_
    exact ⟨rfl, ((Below.refl w.heap.size w).alloc (Nat.le_refl _) _).alloc (by simp) _⟩
   ·clear hh
    generalize hS : str (c :: r) = S at *
    clear hS hpc
    go_enter Tryz.func109, Tryz.ntmps109
    go_wp2_with (first | (go_at_call 150; refine Calls.mono (HC.out _ _ ?_) ?_; exact HP.out; rintro e w' ⟨rfl, rfl⟩) | (go_at_call 106; refine (ib_any _ _ _).mono ?_; rintro e w' ⟨rfl, rfl⟩))
    refine bodyPost_ret (((Blk.alloc w 89 [.int .i64 0, .string _, .int .u64 0, .int .i64 0, .int .i64 0]).alloc_other _).res Tryz.results109 Tryz.underlying89 rfl infoTok _ rfl) rfl ?_
    exact ⟨rfl, ((Below.refl w.heap.size w).alloc (Nat.le_refl _) _).alloc (by simp) _⟩
  ·have hlt : 0 ≤ ib [40, 41, 123, 125, 91, 93, 44, 59, 58, 61, 43, 45, 42, 47, 37, 38, 124, 94, 126, 33, 60, 62, 63, 35] c := by
    rw [hset]
    have h := HI.out
    rw [hpc] at h
    exact of_decide_eq_true h
   clear HT0 hset
   by_cases hl : 1 ≤ r.length
   ·have hh := hh hl
    generalize hS : str (c :: r) = S at *
    clear hS hpc
    go_enter Tryz.func109, Tryz.ntmps109
    go_wp2_with (first | (go_at_call 150; refine Calls.mono (HC.out _ _ ?_) ?_; exact HP.out; rintro e w' ⟨rfl, rfl⟩) | (go_at_call 106; refine (ib_any _ _ _).mono ?_; rintro e w' ⟨rfl, rfl⟩))
    refine bodyPost_ret (((Blk.alloc w 89 [.int .i64 4, .string _, .int .u64 0, .int .i64 0, .int .i64 0]).alloc_other _).res Tryz.results109 Tryz.underlying89 rfl infoTok _ rfl) rfl ?_
    exact ⟨rfl, ((Below.refl w.heap.size w).alloc (Nat.le_refl _) _).alloc (by simp) _⟩
   ·clear hh
    generalize hS : str (c :: r) = S at *
    clear hS hpc
    go_enter Tryz.func109, Tryz.ntmps109
    go_wp2_with (first | (go_at_call 150; refine Calls.mono (HC.out _ _ ?_) ?_; exact HP.out; rintro e w' ⟨rfl, rfl⟩) | (go_at_call 106; refine (ib_any _ _ _).mono ?_; rintro e w' ⟨rfl, rfl⟩))
    refine bodyPost_ret (((Blk.alloc w 89 [.int .i64 4, .string _, .int .u64 0, .int .i64 0, .int .i64 0]).alloc_other _).res Tryz.results109 Tryz.underlying89 rfl infoTok _ rfl) rfl ?_
    exact ⟨rfl, ((Below.refl w.heap.size w).alloc (Nat.le_refl _) _).alloc (by simp) _⟩
end Go.Proofs.YthdbaligapdbeaaGreatDoor
/- Numbers: contract of the code. -/
namespace Go.Proofs.YthdbaligapdbeaaGreatDoor
open Go Go.RowKit
set_option linter.unusedVariables false

def pub (o : Option Nat) (v : Value) : Prop := match o with
 | some n => v = .tuple #[.int .u64 (n : Int), .nilIface]
 | none => ∃ N, v = .tuple #[.int .u64 18446744073709551615, .iface 192 (.pointer (some ⟨N, 0, none⟩))]
theorem parseIn_any (base : Nat) (hb : base = 16 ∨ base = 10 ∨ base = 2) (t : ByteArray) (hne : t.size ≠ 0) (hmax : t.size ≤ 281474976710656) (hd : ∀ c ∈ t.data.toList, dv c < base) (w : World) :
  Calls Tryz.prog 180 #[.string t, .int .i64 (base : Int), .int .i64 64] w fun e w' => e = .returned (parsed (parseB base 0 t.data.toList)) ∧ Below w.heap.size w w' := by
 rcases hb with rfl | rfl | rfl
 ·exact (parse16_any t hne (by omega) hd w).mono fun e w' ⟨he, hw⟩ => ⟨he, by rw [hw]; exact Lib.bytesWorld_below _ _ _⟩
 ·exact (Tryz.internal_strconv_ParseUint_10_b64 t hne (by omega) w).mono fun e w' ⟨he, hw⟩ => ⟨by rw [he, parse10_same _ hd], by rw [hw]; exact Lib.bytesWorld_below _ _ _⟩
 ·exact (parse2_any t hne (by omega) hd w).mono fun e w' ⟨he, hw⟩ => ⟨he, by rw [hw]; exact Lib.bytesWorld_below _ _ _⟩

set_option maxHeartbeats 1000000 in
set_option maxRecDepth 100000 in
theorem parsePub_any (base : Nat) (hb : base = 16 ∨ base = 10 ∨ base = 2) (t : ByteArray) (hne : t.size ≠ 0) (hmax : t.size ≤ 281474976710656) (hd : ∀ c ∈ t.data.toList, dv c < base) (w : World) (V : Vs w) :
  Calls Tryz.prog 151 #[.string t, .int .i64 (base : Int), .int .i64 64] w fun e w' => (∃ v, e = .returned v ∧ pub (parseB base 0 t.data.toList) v) ∧ Below w.heap.size w w' := by
 have HI := Hd fun W => parseIn_any base hb t hne hmax hd W
 generalize parseB base 0 t.data.toList = o at *
 have HV := Hd V
 clear hd V hb
 cases o with
 | some n =>
  go_enter Tryz.func151, Tryz.ntmps151
  go_wp2_with fail
  refine (HI.out _).mono ?_
  rintro e w1 ⟨rfl, hb1⟩
  unfold parsed
  go_wp2
  go_ret2
  exact ⟨⟨_, rfl, rfl⟩, hb1⟩
 | none =>
  go_enter Tryz.func151, Tryz.ntmps151
  go_wp2_with fail
  refine (HI.out _).mono ?_
  rintro e w1 ⟨rfl, hb1⟩
  unfold parsed
  obtain ⟨te, pe, hv⟩ := (HV.out.below hb1).rng
  have HB := Hd hb1
  have HE := Hd (Tryz.strconv_toError_range ⟨#[80, 97, 114, 115, 101, 85, 105, 110, 116]⟩ t base 64 _ w1 hmax hv (.inr ⟨_, _, rfl⟩))
  clear hv hb1
  go_wp2_with (go_at_call 181; refine HE.out.mono ?_; rintro e w2 ⟨N, rfl, _, _, hb2⟩)
  go_ret2
  exact ⟨⟨_, rfl, N, rfl⟩, HB.out.trans (hb2.mono HB.out.size)⟩

theorem takeWhile_all {p : UInt8 → Bool} {l : List UInt8} : l.takeWhile p = l ↔ l.all p = true := by
 induction l with
 | nil => simp
 | cons c r ih =>
  rw [List.takeWhile_cons, List.all_cons]
  by_cases h : p c = true
  ·rw [if_pos h, h, Bool.true_and, List.cons.injEq]
   exact ⟨fun k => ih.1 k.2, fun k => ⟨rfl, ih.2 k⟩⟩
  ·rw [if_neg h]
   have : p c = false := by cases hp : p c <;> simp_all
   rw [this]
   constructor <;> intro k <;> simp at k
theorem lead_eq {set : List UInt8} {base : Nat} (hs : ∀ b, set.contains b = isDig base b) (D : List UInt8) : ((str (D.takeWhile (set.contains ·))).toList == (str D).toList) = D.all (isDig base) := by
 rw [str_eq, Bool.eq_iff_iff, decide_eq_true_iff]
 have e : (fun b => set.contains b) = isDig base := funext hs
 rw [e]
 exact ⟨fun h => takeWhile_all.1 (str_inj h), fun h => by rw [takeWhile_all.2 h]⟩
theorem lenPre {a b : UInt8} {l : List UInt8} (h : [a, b].isPrefixOf l = true) : 2 ≤ l.length := by
 have := (List.isPrefixOf_iff_prefix.1 h).length_le
 simpa using this
theorem asc_of_all {cs : List UInt8} (h : cs.all (fun b => decide (b.toNat < 128)) = true) (j : Nat) (b : UInt8) (hb : cs[j]? = some b) : b.toNat < 128 := by
 have := List.all_eq_true.1 h b (List.mem_of_getElem? hb)
 simpa using this
theorem leadSet_any (set : List UInt8) (D : List UInt8) (hset : set.all (fun b => decide (b.toNat < 128)) = true) (hl : set.length ≤ 1000) (hD : D.length ≤ 281474976710656) (w : World) :
  Calls Tryz.prog 108 #[.string (str D), .string ⟨set.toArray⟩] w fun e w' => e = .returned (.string (str (D.takeWhile (set.contains ·)))) ∧ Below w.heap.size w w' :=
 leading_any (str D) (str set) w (by rw [str_size]; unfold maxLen; omega) (by rw [str_size]; omega) (asc_of_all hset)

set_option maxHeartbeats 4000000 in
set_option maxRecDepth 100000 in
theorem number16_any (l : List UInt8) (hs : l.length ≤ 281474976710656) (h16 : [48, 120].isPrefixOf l = true) (w : World) (V : Vs w) : Calls Tryz.prog 110 #[.string (str l)] w fun e w' =>
  e = .returned (tkRet (numErr l) 3 l (numVal (baseOf l) (digs l))) ∧ Below w.heap.size w w' := by
 have hK := Blk.alloc w 89 tkZero
 have hb := (Below.refl w.heap.size w).alloc (Nat.le_refl _) (.cells tkZero.toArray 89)
 have hsz : (str l).size = l.length := str_size l
 have hbo : baseOf l = 16 := by unfold baseOf; rw [if_pos h16]
 have hdg : digs l = (l.drop 2) := by unfold digs; rw [hbo]; rfl
 have p1 : preB (str l) ⟨#[48, 120]⟩ = true := h16
 have hex : (str l).extract 2 l.length = str (l.drop 2) := by rw [← hsz, extract_tail]; rfl
 have hl2 : 2 ≤ l.length := lenPre h16
 have hDl : ((l.drop 2)).length ≤ 281474976710656 := by rw [List.length_drop]; omega
 have HL := Hd fun W => leadSet_any [48, 49, 50, 51, 52, 53, 54, 55, 56, 57, 97, 98, 99, 100, 101, 102, 65, 66, 67, 68, 69, 70] (l.drop 2) (by decide) (by decide) hDl W
 have HQ := Hd (lead_eq (set := [48, 49, 50, 51, 52, 53, 54, 55, 56, 57, 97, 98, 99, 100, 101, 102, 65, 66, 67, 68, 69, 70]) (base := 16) hexSet_is (l.drop 2))
 have HP := Hd fun (h1 : (l.drop 2) ≠ []) (h2 : ((l.drop 2)).all (isDig 16) = true) W V => parsePub_any 16 (by omega) (str (l.drop 2)) (by rw [str_size]; exact fun h => h1 (List.eq_nil_of_length_eq_zero h)) (by rw [str_size]; exact hDl) (fun c hc => by have := List.all_eq_true.1 h2 c hc; simpa [isDig] using this) W V
 have HN := Hd (parseB_num (base := 16) (by omega) (l.drop 2))
 have hnum : numErr l = if (l.drop 2) = [] ∨ ¬ ((l.drop 2)).all (isDig 16) = true then 4 else if 18446744073709551616 ≤ numVal 16 (l.drop 2) then 5 else 0 := by unfold numErr; rw [hbo, hdg]
 rw [hnum, hbo, hdg]
 have HV := Hd V
 have hw : (w.alloc (.cells tkZero.toArray 89)).heap.size = w.heap.size + 1 := by simp
 have HW := Hd hw
 have HB := Hd hb
 have HK := Hd hK
 clear hnum hbo hdg hK hb hw V h16
 generalize l.drop 2 = D at *
 by_cases hD : D = []
 ·subst hD
  have q0 : (str []).toList.isEmpty = true := by rw [str_toList]; rfl
  clear HL HQ HP HN HV
  rw [if_pos (.inl rfl)]
  generalize numVal 16 [] = nv
  go_enter Tryz.func110, Tryz.ntmps110
  go_wp2_with (go_at_call 107; refine (pre_any _ _ _).mono ?_; rintro e w' ⟨rfl, rfl⟩)
  refine bodyPost_ret (HK.out.res Tryz.results110 Tryz.underlying89 rfl infoTok _ rfl) rfl ?_
  exact ⟨rfl, HB.out⟩
 ·have q0 : (str D).toList.isEmpty = false := by rw [str_toList]; cases D with | nil => exact absurd rfl hD | cons _ _ => rfl
  generalize hA : (D).all (isDig 16) = al at *
  generalize numVal 16 D = nv at *
  generalize hPB : parseB 16 0 D = po at *
  generalize hTW : (D).takeWhile ([48, 49, 50, 51, 52, 53, 54, 55, 56, 57, 97, 98, 99, 100, 101, 102, 65, 66, 67, 68, 69, 70].contains ·) = TW at *
  clear hTW hA
  cases al
  ·rw [if_pos (.inr (by simp))]
   have hq := HQ.out
   clear HQ HP HN HV hD
   go_enter Tryz.func110, Tryz.ntmps110
   go_wp2_with (go_at_call 107; refine (pre_any _ _ _).mono ?_; rintro e w' ⟨rfl, rfl⟩)
   refine (HL.out _).mono ?_
   rintro e w1 ⟨rfl, hb1⟩
   have hb1' : Below (w.heap.size + 1) (w.alloc (.cells tkZero.toArray 89)) w1 := by rw [← HW.out]; exact hb1
   have hK1 := HK.out.below hb1' (by omega)
   have hbb := HB.out.trans (hb1'.mono (by omega))
   obtain ⟨c0, c1, c2, c3, c4, f0, f1, f2, f3, f4⟩ := hK1.z5
   have HK1 := Hd hK1
   have HBB := Hd hbb
   clear hb1 hb1' hK1 hbb
   go_wp2
   refine bodyPost_ret ((HK1.out.put5 rfl _ _ _ _ _).res Tryz.results110 Tryz.underlying89 rfl infoTok _ rfl) rfl ?_
   exact ⟨rfl, below_put5 HBB.out (Nat.le_refl _) _ _ _ _ _⟩
  ·rw [if_neg (by simp [hD])]
   obtain ⟨ne, hne⟩ : ∃ ne : Nat, ne = (if 18446744073709551616 ≤ nv then 5 else 0) := ⟨_, rfl⟩
   rw [← hne]
   have HNE := Hd hne
   clear hne
   have hq := HQ.out
   have HP2 := Hd (HP.out hD rfl)
   clear HQ HP hD
   go_enter Tryz.func110, Tryz.ntmps110
   go_wp2_with (go_at_call 107; refine (pre_any _ _ _).mono ?_; rintro e w' ⟨rfl, rfl⟩)
   refine (HL.out _).mono ?_
   rintro e w1 ⟨rfl, hb1⟩
   have hb1' : Below (w.heap.size + 1) (w.alloc (.cells tkZero.toArray 89)) w1 := by rw [← HW.out]; exact hb1
   have hK1 := HK.out.below hb1' (by omega)
   have hbb := HB.out.trans (hb1'.mono (by omega))
   have HV1 := Hd (HV.out.below hbb)
   have HK1 := Hd hK1
   have HBB := Hd hbb
   have hlt := hK1.lt
   clear hb1 hb1' hK1 hbb HV
   go_wp2_with fail
   refine (HP2.out _ HV1.out).mono ?_
   rintro e w2 ⟨⟨v, rfl, hv⟩, hb2⟩
   have hK2 := HK1.out.below hb2 hlt
   have HBB2 := Hd (HBB.out.trans (hb2.mono (by omega)))
   obtain ⟨c0, c1, c2, c3, c4, f0, f1, f2, f3, f4⟩ := hK2.z5
   have HK2 := Hd hK2
   rw [str_data, hPB, HN.out] at hv
   clear hK2 hb2
   by_cases hov : 18446744073709551616 ≤ nv
   ·rw [if_pos hov] at hv
    obtain rfl : ne = 5 := HNE.out.trans (if_pos hov)
    obtain ⟨N, rfl⟩ := hv
    clear hov HNE
    go_wp2
    refine bodyPost_ret ((HK2.out.put5 rfl _ _ _ _ _).res Tryz.results110 Tryz.underlying89 rfl infoTok _ rfl) rfl ?_
    exact ⟨rfl, below_put5 HBB2.out (Nat.le_refl _) _ _ _ _ _⟩
   ·rw [if_neg hov] at hv
    obtain rfl : ne = 0 := HNE.out.trans (if_neg hov)
    clear HNE
    have hv' : v = .tuple #[.int .u64 (nv : Int), .nilIface] := hv
    subst hv'
    clear hov hv
    go_wp2
    refine bodyPost_ret ((HK2.out.put5 rfl _ _ _ _ _).res Tryz.results110 Tryz.underlying89 rfl infoTok _ rfl) rfl ?_
    exact ⟨rfl, below_put5 HBB2.out (Nat.le_refl _) _ _ _ _ _⟩

set_option maxHeartbeats 4000000 in
set_option maxRecDepth 100000 in
theorem number2_any (l : List UInt8) (hs : l.length ≤ 281474976710656) (h16 : [48, 120].isPrefixOf l = false) (h2 : [48, 98].isPrefixOf l = true) (w : World) (V : Vs w) : Calls Tryz.prog 110 #[.string (str l)] w fun e w' =>
  e = .returned (tkRet (numErr l) 3 l (numVal (baseOf l) (digs l))) ∧ Below w.heap.size w w' := by
 have hK := Blk.alloc w 89 tkZero
 have hb := (Below.refl w.heap.size w).alloc (Nat.le_refl _) (.cells tkZero.toArray 89)
 have hsz : (str l).size = l.length := str_size l
 have hbo : baseOf l = 2 := by unfold baseOf; rw [if_neg (by rw [h16]; simp), if_pos h2]
 have hdg : digs l = (l.drop 2) := by unfold digs; rw [hbo]; rfl
 have p1 : preB (str l) ⟨#[48, 120]⟩ = false := h16
 have p2 : preB (str l) ⟨#[48, 98]⟩ = true := h2
 have hex : (str l).extract 2 l.length = str (l.drop 2) := by rw [← hsz, extract_tail]; rfl
 have hl2 : 2 ≤ l.length := lenPre h2
 have hDl : ((l.drop 2)).length ≤ 281474976710656 := by rw [List.length_drop]; omega
 have HL := Hd fun W => leadSet_any [48, 49] (l.drop 2) (by decide) (by decide) hDl W
 have HQ := Hd (lead_eq (set := [48, 49]) (base := 2) binSet_is (l.drop 2))
 have HP := Hd fun (h1 : (l.drop 2) ≠ []) (h2 : ((l.drop 2)).all (isDig 2) = true) W V => parsePub_any 2 (by omega) (str (l.drop 2)) (by rw [str_size]; exact fun h => h1 (List.eq_nil_of_length_eq_zero h)) (by rw [str_size]; exact hDl) (fun c hc => by have := List.all_eq_true.1 h2 c hc; simpa [isDig] using this) W V
 have HN := Hd (parseB_num (base := 2) (by omega) (l.drop 2))
 have hnum : numErr l = if (l.drop 2) = [] ∨ ¬ ((l.drop 2)).all (isDig 2) = true then 4 else if 18446744073709551616 ≤ numVal 2 (l.drop 2) then 5 else 0 := by unfold numErr; rw [hbo, hdg]
 rw [hnum, hbo, hdg]
 have HV := Hd V
 have hw : (w.alloc (.cells tkZero.toArray 89)).heap.size = w.heap.size + 1 := by simp
 have HW := Hd hw
 have HB := Hd hb
 have HK := Hd hK
 clear hnum hbo hdg hK hb hw V h16 h2
 generalize l.drop 2 = D at *
 by_cases hD : D = []
 ·subst hD
  have q0 : (str []).toList.isEmpty = true := by rw [str_toList]; rfl
  clear HL HQ HP HN HV
  rw [if_pos (.inl rfl)]
  generalize numVal 2 [] = nv
  go_enter Tryz.func110, Tryz.ntmps110
  go_wp2_with (go_at_call 107; refine (pre_any _ _ _).mono ?_; rintro e w' ⟨rfl, rfl⟩)
  refine bodyPost_ret (HK.out.res Tryz.results110 Tryz.underlying89 rfl infoTok _ rfl) rfl ?_
  exact ⟨rfl, HB.out⟩
 ·have q0 : (str D).toList.isEmpty = false := by rw [str_toList]; cases D with | nil => exact absurd rfl hD | cons _ _ => rfl
  generalize hA : (D).all (isDig 2) = al at *
  generalize numVal 2 D = nv at *
  generalize hPB : parseB 2 0 D = po at *
  generalize hTW : (D).takeWhile ([48, 49].contains ·) = TW at *
  clear hTW hA
  cases al
  ·rw [if_pos (.inr (by simp))]
   have hq := HQ.out
   clear HQ HP HN HV hD
   go_enter Tryz.func110, Tryz.ntmps110
   go_wp2_with (go_at_call 107; refine (pre_any _ _ _).mono ?_; rintro e w' ⟨rfl, rfl⟩)
   refine (HL.out _).mono ?_
   rintro e w1 ⟨rfl, hb1⟩
   have hb1' : Below (w.heap.size + 1) (w.alloc (.cells tkZero.toArray 89)) w1 := by rw [← HW.out]; exact hb1
   have hK1 := HK.out.below hb1' (by omega)
   have hbb := HB.out.trans (hb1'.mono (by omega))
   obtain ⟨c0, c1, c2, c3, c4, f0, f1, f2, f3, f4⟩ := hK1.z5
   have HK1 := Hd hK1
   have HBB := Hd hbb
   clear hb1 hb1' hK1 hbb
   go_wp2
   refine bodyPost_ret ((HK1.out.put5 rfl _ _ _ _ _).res Tryz.results110 Tryz.underlying89 rfl infoTok _ rfl) rfl ?_
   exact ⟨rfl, below_put5 HBB.out (Nat.le_refl _) _ _ _ _ _⟩
  ·rw [if_neg (by simp [hD])]
   obtain ⟨ne, hne⟩ : ∃ ne : Nat, ne = (if 18446744073709551616 ≤ nv then 5 else 0) := ⟨_, rfl⟩
   rw [← hne]
   have HNE := Hd hne
   clear hne
   have hq := HQ.out
   have HP2 := Hd (HP.out hD rfl)
   clear HQ HP hD
   go_enter Tryz.func110, Tryz.ntmps110
   go_wp2_with (go_at_call 107; refine (pre_any _ _ _).mono ?_; rintro e w' ⟨rfl, rfl⟩)
   refine (HL.out _).mono ?_
   rintro e w1 ⟨rfl, hb1⟩
   have hb1' : Below (w.heap.size + 1) (w.alloc (.cells tkZero.toArray 89)) w1 := by rw [← HW.out]; exact hb1
   have hK1 := HK.out.below hb1' (by omega)
   have hbb := HB.out.trans (hb1'.mono (by omega))
   have HV1 := Hd (HV.out.below hbb)
   have HK1 := Hd hK1
   have HBB := Hd hbb
   have hlt := hK1.lt
   clear hb1 hb1' hK1 hbb HV
   go_wp2_with fail
   refine (HP2.out _ HV1.out).mono ?_
   rintro e w2 ⟨⟨v, rfl, hv⟩, hb2⟩
   have hK2 := HK1.out.below hb2 hlt
   have HBB2 := Hd (HBB.out.trans (hb2.mono (by omega)))
   obtain ⟨c0, c1, c2, c3, c4, f0, f1, f2, f3, f4⟩ := hK2.z5
   have HK2 := Hd hK2
   rw [str_data, hPB, HN.out] at hv
   clear hK2 hb2
   by_cases hov : 18446744073709551616 ≤ nv
   ·rw [if_pos hov] at hv
    obtain rfl : ne = 5 := HNE.out.trans (if_pos hov)
    obtain ⟨N, rfl⟩ := hv
    clear hov HNE
    go_wp2
    refine bodyPost_ret ((HK2.out.put5 rfl _ _ _ _ _).res Tryz.results110 Tryz.underlying89 rfl infoTok _ rfl) rfl ?_
    exact ⟨rfl, below_put5 HBB2.out (Nat.le_refl _) _ _ _ _ _⟩
   ·rw [if_neg hov] at hv
    obtain rfl : ne = 0 := HNE.out.trans (if_neg hov)
    clear HNE
    have hv' : v = .tuple #[.int .u64 (nv : Int), .nilIface] := hv
    subst hv'
    clear hov hv
    go_wp2
    refine bodyPost_ret ((HK2.out.put5 rfl _ _ _ _ _).res Tryz.results110 Tryz.underlying89 rfl infoTok _ rfl) rfl ?_
    exact ⟨rfl, below_put5 HBB2.out (Nat.le_refl _) _ _ _ _ _⟩

set_option maxHeartbeats 4000000 in
set_option maxRecDepth 100000 in
theorem number10_any (l : List UInt8) (hs : l.length ≤ 281474976710656) (h16 : [48, 120].isPrefixOf l = false) (h2 : [48, 98].isPrefixOf l = false) (hne : l ≠ []) (w : World) (V : Vs w) : Calls Tryz.prog 110 #[.string (str l)] w fun e w' =>
  e = .returned (tkRet (numErr l) 3 l (numVal (baseOf l) (digs l))) ∧ Below w.heap.size w w' := by
 have hK := Blk.alloc w 89 tkZero
 have hb := (Below.refl w.heap.size w).alloc (Nat.le_refl _) (.cells tkZero.toArray 89)
 have hsz : (str l).size = l.length := str_size l
 have hbo : baseOf l = 10 := by unfold baseOf; rw [if_neg (by rw [h16]; simp), if_neg (by rw [h2]; simp)]
 have hdg : digs l = l := by unfold digs; rw [if_pos hbo]
 have p1 : preB (str l) ⟨#[48, 120]⟩ = false := h16
 have p2 : preB (str l) ⟨#[48, 98]⟩ = false := h2
 have hDl : (l).length ≤ 281474976710656 := by exact hs
 have HL := Hd fun W => leadSet_any [48, 49, 50, 51, 52, 53, 54, 55, 56, 57] l (by decide) (by decide) hDl W
 have HQ := Hd (lead_eq (set := [48, 49, 50, 51, 52, 53, 54, 55, 56, 57]) (base := 10) decSet_is l)
 have HP := Hd fun (h1 : l ≠ []) (h2 : (l).all (isDig 10) = true) W V => parsePub_any 10 (by omega) (str l) (by rw [str_size]; exact fun h => h1 (List.eq_nil_of_length_eq_zero h)) (by rw [str_size]; exact hDl) (fun c hc => by have := List.all_eq_true.1 h2 c hc; simpa [isDig] using this) W V
 have HN := Hd (parseB_num (base := 10) (by omega) l)
 have hnum : numErr l = if l = [] ∨ ¬ (l).all (isDig 10) = true then 4 else if 18446744073709551616 ≤ numVal 10 l then 5 else 0 := by unfold numErr; rw [hbo, hdg]
 rw [hnum, hbo, hdg]
 have HV := Hd V
 have hw : (w.alloc (.cells tkZero.toArray 89)).heap.size = w.heap.size + 1 := by simp
 have HW := Hd hw
 have HB := Hd hb
 have HK := Hd hK
 clear hnum hbo hdg hK hb hw V h16 h2
 obtain ⟨D, hDD⟩ : ∃ D, D = l := ⟨_, rfl⟩
 by_cases hD : l = []
 ·exact absurd hD hne
 ·have q0 : (str l).toList.isEmpty = false := by rw [str_toList]; cases l with | nil => exact absurd rfl hD | cons _ _ => rfl
  clear hDD hne
  generalize hA : (l).all (isDig 10) = al at *
  generalize numVal 10 l = nv at *
  generalize hPB : parseB 10 0 l = po at *
  generalize hTW : (l).takeWhile ([48, 49, 50, 51, 52, 53, 54, 55, 56, 57].contains ·) = TW at *
  clear hTW hA
  cases al
  ·rw [if_pos (.inr (by simp))]
   have hq := HQ.out
   clear HQ HP HN HV hD
   go_enter Tryz.func110, Tryz.ntmps110
   go_wp2_with (go_at_call 107; refine (pre_any _ _ _).mono ?_; rintro e w' ⟨rfl, rfl⟩)
   refine (HL.out _).mono ?_
   rintro e w1 ⟨rfl, hb1⟩
   have hb1' : Below (w.heap.size + 1) (w.alloc (.cells tkZero.toArray 89)) w1 := by rw [← HW.out]; exact hb1
   have hK1 := HK.out.below hb1' (by omega)
   have hbb := HB.out.trans (hb1'.mono (by omega))
   obtain ⟨c0, c1, c2, c3, c4, f0, f1, f2, f3, f4⟩ := hK1.z5
   have HK1 := Hd hK1
   have HBB := Hd hbb
   clear hb1 hb1' hK1 hbb
   go_wp2
   refine bodyPost_ret ((HK1.out.put5 rfl _ _ _ _ _).res Tryz.results110 Tryz.underlying89 rfl infoTok _ rfl) rfl ?_
   exact ⟨rfl, below_put5 HBB.out (Nat.le_refl _) _ _ _ _ _⟩
  ·rw [if_neg (by simp [hD])]
   obtain ⟨ne, hne⟩ : ∃ ne : Nat, ne = (if 18446744073709551616 ≤ nv then 5 else 0) := ⟨_, rfl⟩
   rw [← hne]
   have HNE := Hd hne
   clear hne
   have hq := HQ.out
   have HP2 := Hd (HP.out hD rfl)
   clear HQ HP hD
   go_enter Tryz.func110, Tryz.ntmps110
   go_wp2_with (go_at_call 107; refine (pre_any _ _ _).mono ?_; rintro e w' ⟨rfl, rfl⟩)
   refine (HL.out _).mono ?_
   rintro e w1 ⟨rfl, hb1⟩
   have hb1' : Below (w.heap.size + 1) (w.alloc (.cells tkZero.toArray 89)) w1 := by rw [← HW.out]; exact hb1
   have hK1 := HK.out.below hb1' (by omega)
   have hbb := HB.out.trans (hb1'.mono (by omega))
   have HV1 := Hd (HV.out.below hbb)
   have HK1 := Hd hK1
   have HBB := Hd hbb
   have hlt := hK1.lt
   clear hb1 hb1' hK1 hbb HV
   go_wp2_with fail
   refine (HP2.out _ HV1.out).mono ?_
   rintro e w2 ⟨⟨v, rfl, hv⟩, hb2⟩
   have hK2 := HK1.out.below hb2 hlt
   have HBB2 := Hd (HBB.out.trans (hb2.mono (by omega)))
   obtain ⟨c0, c1, c2, c3, c4, f0, f1, f2, f3, f4⟩ := hK2.z5
   have HK2 := Hd hK2
   rw [str_data, hPB, HN.out] at hv
   clear hK2 hb2
   by_cases hov : 18446744073709551616 ≤ nv
   ·rw [if_pos hov] at hv
    obtain rfl : ne = 5 := HNE.out.trans (if_pos hov)
    obtain ⟨N, rfl⟩ := hv
    clear hov HNE
    go_wp2
    refine bodyPost_ret ((HK2.out.put5 rfl _ _ _ _ _).res Tryz.results110 Tryz.underlying89 rfl infoTok _ rfl) rfl ?_
    exact ⟨rfl, below_put5 HBB2.out (Nat.le_refl _) _ _ _ _ _⟩
   ·rw [if_neg hov] at hv
    obtain rfl : ne = 0 := HNE.out.trans (if_neg hov)
    clear HNE
    have hv' : v = .tuple #[.int .u64 (nv : Int), .nilIface] := hv
    subst hv'
    clear hov hv
    go_wp2
    refine bodyPost_ret ((HK2.out.put5 rfl _ _ _ _ _).res Tryz.results110 Tryz.underlying89 rfl infoTok _ rfl) rfl ?_
    exact ⟨rfl, below_put5 HBB2.out (Nat.le_refl _) _ _ _ _ _⟩

end Go.Proofs.YthdbaligapdbeaaGreatDoor
/- The first token: contract of the code. -/
namespace Go.Proofs.YthdbaligapdbeaaGreatDoor
open Go Go.RowKit
set_option linter.unusedVariables false

theorem tkRet_form (e k n : Nat) (t : List UInt8) : ∃ (K : Int) (T : ByteArray) (N : Int), tkRet e k t n = .tuple #[.agg #[.int .i64 K, .string T, .int .u64 N, .int .i64 0, .int .i64 0], .int .i64 (e : Int)] := by
 unfold tkRet
 by_cases h : e = 0
 ·rw [if_pos h]; exact ⟨_, _, _, rfl⟩
 ·rw [if_neg h]; exact ⟨_, _, _, rfl⟩
theorem run_takeWhile (l : List UInt8) : l.takeWhile ([48, 49, 50, 51, 52, 53, 54, 55, 56, 57, 95, 97, 98, 99, 100, 101, 102, 103, 104, 105, 106, 107, 108, 109, 110, 111, 112, 113, 114, 115, 116, 117, 118, 119, 120, 121, 122, 65, 66, 67, 68, 69, 70, 71, 72, 73, 74, 75, 76, 77, 78, 79, 80, 81, 82, 83, 84, 85, 86, 87, 88, 89, 90].contains ·) = run l := by
 unfold run
 have h : wordSet = [48, 49, 50, 51, 52, 53, 54, 55, 56, 57, 95, 97, 98, 99, 100, 101, 102, 103, 104, 105, 106, 107, 108, 109, 110, 111, 112, 113, 114, 115, 116, 117, 118, 119, 120, 121, 122, 65, 66, 67, 68, 69, 70, 71, 72, 73, 74, 75, 76, 77, 78, 79, 80, 81, 82, 83, 84, 85, 86, 87, 88, 89, 90] := by decide +kernel
 rw [← h]
 congr 1
 exact funext wordSet_is
theorem head_dec (r : List UInt8) : ((str (r.takeWhile ([48, 49, 50, 51, 52, 53, 54, 55, 56, 57].contains ·))).toList.isEmpty) = !(r.head?.any isDec) := by
 rw [str_toList]
 cases r with
 | nil => rfl
 | cons c r =>
  have h : ([48, 49, 50, 51, 52, 53, 54, 55, 56, 57] : List UInt8).contains c = isDec c := (decSet_is c).trans (isDec_dig c).symm
  rw [List.takeWhile_cons, h]
  cases hc : isDec c <;> simp [hc]
theorem number_any (l : List UInt8) (hs : l.length ≤ 281474976710656) (hne : l ≠ []) (w : World) (V : Vs w) : Calls Tryz.prog 110 #[.string (str l)] w fun e w' =>
  e = .returned (tkRet (numErr l) 3 l (numVal (baseOf l) (digs l))) ∧ Below w.heap.size w w' := by
 cases h16 : [48, 120].isPrefixOf l with
 | true => exact number16_any l hs h16 w V
 | false =>
  cases h2 : [48, 98].isPrefixOf l with
  | true => exact number2_any l hs h16 h2 w V
  | false => exact number10_any l hs h16 h2 hne w V
theorem run_nil_first {l : List UInt8} (h : run l = []) : tokErr l = (if punctLen l = 0 then 4 else 0) ∧ tokKind l = 4 ∧ l.take (tokLen l) = l.take (punctLen l) ∧ tokNum l = 0 := by
 refine ⟨by unfold tokErr; rw [if_pos h], by unfold tokKind; rw [if_pos h], by unfold tokLen; rw [if_pos h], ?_⟩
 unfold tokNum
 rw [if_neg (by simp [h])]
theorem run_dec_first {l : List UInt8} (h : run l ≠ []) (hd : (run l).head?.any isDec = true) : tokErr l = numErr (run l) ∧ tokKind l = 3 ∧ l.take (tokLen l) = run l ∧ tokNum l = numVal (baseOf (run l)) (digs (run l)) := by
 refine ⟨by unfold tokErr; rw [if_neg h, if_pos hd], by unfold tokKind; rw [if_neg h, if_pos hd], by unfold tokLen; rw [if_neg h]; exact (run_eq_take l).symm, ?_⟩
 unfold tokNum
 rw [if_pos ⟨h, hd⟩]
theorem run_word_first {l : List UInt8} (h : run l ≠ []) (hd : (run l).head?.any isDec = false) : tokErr l = (if 64 < (run l).length then 5 else 0) ∧ tokKind l = (if isKey (run l) = true then 2 else 1) ∧ l.take (tokLen l) = run l ∧ tokNum l = 0 := by
 refine ⟨by unfold tokErr; rw [if_neg h, hd]; rfl, by unfold tokKind; rw [if_neg h, hd]; rfl, by unfold tokLen; rw [if_neg h]; exact (run_eq_take l).symm, ?_⟩
 unfold tokNum
 rw [if_neg (by simp [hd])]

set_option maxHeartbeats 4000000 in
set_option maxRecDepth 100000 in
theorem first_any (l : List UInt8) (hs : l.length ≤ 1000000) (hne : l ≠ []) (w : World) (V : Vs w) : Calls Tryz.prog 73 #[.string (str l)] w fun e w' =>
  e = .returned (tkRet (tokErr l) (tokKind l) (l.take (tokLen l)) (tokNum l)) ∧ Below w.heap.size w w' := by
 have hK := Blk.alloc w 89 tkZero
 have hb := (Below.refl w.heap.size w).alloc (Nat.le_refl _) (.cells tkZero.toArray 89)
 have hw : (w.alloc (.cells tkZero.toArray 89)).heap.size = w.heap.size + 1 := by simp
 have HL := Hd fun W => leadSet_any [48, 49, 50, 51, 52, 53, 54, 55, 56, 57, 95, 97, 98, 99, 100, 101, 102, 103, 104, 105, 106, 107, 108, 109, 110, 111, 112, 113, 114, 115, 116, 117, 118, 119, 120, 121, 122, 65, 66, 67, 68, 69, 70, 71, 72, 73, 74, 75, 76, 77, 78, 79, 80, 81, 82, 83, 84, 85, 86, 87, 88, 89, 90] l (by decide +kernel) (by decide +kernel) (by omega) W
 rw [run_takeWhile] at HL
 have HW := Hd hw
 have HB := Hd hb
 have HK := Hd hK
 have HV := Hd V
 have hrl := run_le l
 clear hK hb hw V
 by_cases hr : run l = []
 ·obtain ⟨e1, e2, e3, e4⟩ := run_nil_first hr
  rw [e1, e2, e3, e4]
  rw [hr] at HL
  obtain ⟨c, r, rfl⟩ : ∃ c r, l = c :: r := by
   cases l with
   | nil => exact absurd rfl hne
   | cons c r => exact ⟨c, r, rfl⟩
  have HP := Hd fun W => punct_any c r (by rw [List.length_cons] at hs; omega) W
  obtain ⟨K, T, N, hf⟩ := tkRet_form (if punctLen (c :: r) = 0 then 4 else 0) 4 0 ((c :: r).take (punctLen (c :: r)))
  rw [hf] at HP ⊢
  have q0 : (str []).toList.isEmpty = true := by rw [str_toList]; rfl
  clear e1 e2 e3 e4 hf hr hne hrl
  generalize hE : (if punctLen (c :: r) = 0 then 4 else 0) = E at *
  clear hE
  go_enter Tryz.func73, Tryz.ntmps73
  go_wp2_with fail
  refine (HL.out _).mono ?_
  rintro e w1 ⟨rfl, hb1⟩
  have hb1' : Below (w.heap.size + 1) (w.alloc (.cells tkZero.toArray 89)) w1 := by rw [← HW.out]; exact hb1
  have hK1 := HK.out.below hb1' (by omega)
  have hbb := HB.out.trans (hb1'.mono (by omega))
  have HK1 := Hd hK1
  have HBB := Hd hbb
  have hlt := hK1.lt
  clear hb1 hb1' hK1 hbb HV HL
  go_wp2_with fail
  refine (HP.out _).mono ?_
  rintro e w2 ⟨rfl, hb2⟩
  have hK2 := HK1.out.below hb2 hlt
  have HBB2 := Hd (HBB.out.trans (hb2.mono (by omega)))
  obtain ⟨c0, c1, c2, c3, c4, f0, f1, f2, f3, f4⟩ := hK2.z5
  have HK2 := Hd hK2
  clear hK2 hb2
  go_wp2
  refine bodyPost_ret ((HK2.out.put5 rfl _ _ _ _ _).res Tryz.results73 Tryz.underlying89 rfl infoTok _ rfl) rfl ?_
  exact ⟨rfl, below_put5 HBB2.out (Nat.le_refl _) _ _ _ _ _⟩
 ·have q0 : (str (run l)).toList.isEmpty = false := by rw [str_toList]; cases h : run l with | nil => exact absurd h hr | cons _ _ => rfl
  have HD := Hd fun W => leadSet_any [48, 49, 50, 51, 52, 53, 54, 55, 56, 57] (run l) (by decide) (by decide) (by omega) W
  have q1 := head_dec (run l)
  cases hd : (run l).head?.any isDec with
  | true =>
   obtain ⟨e1, e2, e3, e4⟩ := run_dec_first hr hd
   rw [e1, e2, e3, e4]
   rw [hd] at q1
   have HP := Hd fun W V => number_any (run l) (by omega) hr W V
   obtain ⟨K, T, N, hf⟩ := tkRet_form (numErr (run l)) 3 (numVal (baseOf (run l)) (digs (run l))) (run l)
   rw [hf] at HP ⊢
   clear e1 e2 e3 e4 hf hr hne hrl hd
   generalize numErr (run l) = E at *
   generalize (run l).takeWhile ([48, 49, 50, 51, 52, 53, 54, 55, 56, 57].contains ·) = TW at *
   generalize run l = R at *
   go_enter Tryz.func73, Tryz.ntmps73
   go_wp2_with fail
   refine (HL.out _).mono ?_
   rintro e w1 ⟨rfl, hb1⟩
   have hb1' : Below (w.heap.size + 1) (w.alloc (.cells tkZero.toArray 89)) w1 := by rw [← HW.out]; exact hb1
   have hK1 := HK.out.below hb1' (by omega)
   have hbb := HB.out.trans (hb1'.mono (by omega))
   have HK1 := Hd hK1
   have HBB := Hd hbb
   have hlt := hK1.lt
   clear hb1 hb1' hK1 hbb HL
   go_wp2_with fail
   refine (HD.out _).mono ?_
   rintro e w2 ⟨rfl, hb2⟩
   have HK2 := Hd (HK1.out.below hb2 hlt)
   have HBB2 := Hd (HBB.out.trans (hb2.mono (by omega)))
   have hlt2 := HK2.out.lt
   clear hb2
   go_wp2_with fail
   refine (HP.out _ (HV.out.below HBB2.out)).mono ?_
   rintro e w3 ⟨rfl, hb3⟩
   have hK3 := HK2.out.below hb3 hlt2
   have HBB3 := Hd (HBB2.out.trans (hb3.mono (by omega)))
   obtain ⟨c0, c1, c2, c3, c4, f0, f1, f2, f3, f4⟩ := hK3.z5
   have HK3 := Hd hK3
   clear hK3 hb3
   go_wp2
   refine bodyPost_ret ((HK3.out.put5 rfl _ _ _ _ _).res Tryz.results73 Tryz.underlying89 rfl infoTok _ rfl) rfl ?_
   exact ⟨rfl, below_put5 HBB3.out (Nat.le_refl _) _ _ _ _ _⟩
  | false =>
   obtain ⟨e1, e2, e3, e4⟩ := run_word_first hr hd
   rw [e1, e2, e3, e4]
   rw [hd] at q1
   have HP := Hd fun W V => word_any (run l) (by omega) W V
   obtain ⟨K, T, N, hf⟩ := tkRet_form (if 64 < (run l).length then 5 else 0) (if isKey (run l) = true then 2 else 1) 0 (run l)
   rw [hf] at HP ⊢
   clear e1 e2 e3 e4 hf hr hne hrl hd
   generalize (if 64 < (run l).length then 5 else 0) = E at *
   generalize (run l).takeWhile ([48, 49, 50, 51, 52, 53, 54, 55, 56, 57].contains ·) = TW at *
   generalize run l = R at *
   go_enter Tryz.func73, Tryz.ntmps73
   go_wp2_with fail
   refine (HL.out _).mono ?_
   rintro e w1 ⟨rfl, hb1⟩
   have hb1' : Below (w.heap.size + 1) (w.alloc (.cells tkZero.toArray 89)) w1 := by rw [← HW.out]; exact hb1
   have hK1 := HK.out.below hb1' (by omega)
   have hbb := HB.out.trans (hb1'.mono (by omega))
   have HK1 := Hd hK1
   have HBB := Hd hbb
   have hlt := hK1.lt
   clear hb1 hb1' hK1 hbb HL
   go_wp2_with fail
   refine (HD.out _).mono ?_
   rintro e w2 ⟨rfl, hb2⟩
   have HK2 := Hd (HK1.out.below hb2 hlt)
   have HBB2 := Hd (HBB.out.trans (hb2.mono (by omega)))
   have hlt2 := HK2.out.lt
   clear hb2
   go_wp2_with fail
   refine (HP.out _ (HV.out.below HBB2.out)).mono ?_
   rintro e w3 ⟨rfl, hb3⟩
   have hK3 := HK2.out.below hb3 hlt2
   have HBB3 := Hd (HBB2.out.trans (hb3.mono (by omega)))
   obtain ⟨c0, c1, c2, c3, c4, f0, f1, f2, f3, f4⟩ := hK3.z5
   have HK3 := Hd hK3
   clear hK3 hb3
   go_wp2
   refine bodyPost_ret ((HK3.out.put5 rfl _ _ _ _ _).res Tryz.results73 Tryz.underlying89 rfl infoTok _ rfl) rfl ?_
   exact ⟨rfl, below_put5 HBB3.out (Nat.le_refl _) _ _ _ _ _⟩
end Go.Proofs.YthdbaligapdbeaaGreatDoor
/- All tokens: contract of the code. -/
namespace Go.Proofs.YthdbaligapdbeaaGreatDoor
open Go Go.RowKit
set_option linter.unusedVariables false

def tcell (t : Tok) : List Value := [.int .i64 (t.kind : Int), .string (str t.text), .int .u64 (t.num : Int), .int .i64 (t.pos : Int), .int .i64 (t.line : Int)]
def tcells (ts : List Tok) : List Value := ts.flatMap tcell
theorem tcells_length (ts : List Tok) : (tcells ts).length = ts.length * 5 := by
 induction ts with
 | nil => rfl
 | cons a t ih => simp only [tcells, List.flatMap_cons, List.length_append] at ih ⊢; rw [ih]; simp [tcell]; omega
theorem tcells_snoc (ts : List Tok) (t : Tok) : tcells ts ++ tcell t = tcells (ts ++ [t]) := by simp [tcells]
theorem tcells_get : ∀ (ts : List Tok) (i j : Nat) (h : i < ts.length) (_ : j < 5), (tcells ts)[i * 5 + j]? = (tcell ts[i])[j]? := by
 intro ts
 induction ts with
 | nil => intro i j h; simp at h
 | cons a t ih =>
  intro i j h hj
  match i with
  | 0 =>
   have e2 : tcells (a :: t) = tcell a ++ tcells t := by simp [tcells]
   rw [e2, Nat.zero_mul, Nat.zero_add, List.getElem?_append_left (by simp [tcell]; omega)]
   rfl
  | i + 1 =>
   have e2 : tcells (a :: t) = tcell a ++ tcells t := by simp [tcells]
   rw [e2, List.getElem?_append_right (by simp [tcell]; omega)]
   have := ih i j (by simpa using h) hj
   simp only [tcell, List.length_cons, List.length_nil] at this ⊢
   have e3 : (i + 1) * 5 + j - (0 + 1 + 1 + 1 + 1 + 1) = i * 5 + j := by omega
   rw [e3, this]
   rfl
theorem infoTok2 : (Tryz.prog.info? 89).map (fun i => (i.zero, i.size, i.bytes)) = some (some (.agg #[.int .i64 0, .string ⟨#[]⟩, .int .u64 0, .int .i64 0, .int .i64 0]), 5, 48) := by kernel_rfl
theorem lexR_end {l : List UInt8} {f d line : Nat} {acc : List Tok} (hf : 0 < f) (h : l.length ≤ d + skipM false (l.drop d)) : lexR l f d line acc = (acc, l.length, 0) := by
 obtain ⟨g, rfl⟩ : ∃ g, f = g + 1 := ⟨f - 1, by omega⟩
 rw [lexR]
 rw [if_pos h]
theorem lexR_err {l : List UInt8} {f d line : Nat} {acc : List Tok} (hf : 0 < f) (h : ¬ l.length ≤ d + skipM false (l.drop d)) (he : tokErr (l.drop (d + skipM false (l.drop d))) ≠ 0) : lexR l f d line acc = ([], d + skipM false (l.drop d), tokErr (l.drop (d + skipM false (l.drop d)))) := by
 obtain ⟨g, rfl⟩ : ∃ g, f = g + 1 := ⟨f - 1, by omega⟩
 rw [lexR]
 rw [if_neg h, if_pos he]
def tokAt (l : List UInt8) (a line : Nat) : Tok := ⟨tokKind (l.drop a), (l.drop a).take (tokLen (l.drop a)), tokNum (l.drop a), a, line⟩
theorem lexR_tok {l : List UInt8} {f d line : Nat} {acc : List Tok} (h : ¬ l.length ≤ d + skipM false (l.drop d)) (he : tokErr (l.drop (d + skipM false (l.drop d))) = 0) :
  lexR l (f + 1) d line acc = lexR l f (d + skipM false (l.drop d) + tokLen (l.drop (d + skipM false (l.drop d)))) (line + lineFeeds ((l.drop d).take (skipM false (l.drop d)))) (acc ++ [tokAt l (d + skipM false (l.drop d)) (line + lineFeeds ((l.drop d).take (skipM false (l.drop d))))]) := by
 conv => lhs; rw [lexR]
 rw [if_neg h, if_neg (by simp [he])]
 rfl

theorem clone_any (s : ByteArray) (hs : s.size ≤ 281474976710656) (w : World) : Calls Tryz.prog 63 #[.string s] w fun e w' => e = .returned (.string s) ∧ Below w.heap.size w w' := by
 have H := Hd fun W => Tryz.stringslite_Clone s W hs
 go_enter Tryz.func63, Tryz.ntmps63
 go_wp2_with fail
 refine (H.out _).mono ?_
 rintro e w1 ⟨rfl, hb⟩
 go_wp2
 go_ret
 exact ⟨rfl, hb⟩
theorem count_any (s : List UInt8) (w : World) : Calls Tryz.prog 46 #[.string (str s), .string ⟨#[10]⟩] w fun e w' => e = .returned (.int .i64 (lineFeeds s : Int)) ∧ w = w' :=
 (Tryz.strings_Count_one (str s) 10 w).mono fun e w' ⟨he, hw⟩ => ⟨he, hw.symm⟩
theorem lineFeeds_le (s : List UInt8) : lineFeeds s ≤ s.length := List.count_le_length

structure LexSt (l : List UInt8) (w wr : World) (v : Value) (d line : Nat) (acc : List Tok) : Prop where
 eq : ∃ f, l.length < f + d ∧ lexR l (l.length + 1) 0 1 [] = lexR l f d line acc
 own : wr.ownsRow w.heap.size 89 5 v acc.length (tcells acc)
 bel : Below w.heap.size w wr
 few : acc.length ≤ d
 lines : line ≤ d + 1

set_option maxHeartbeats 4000000 in
set_option maxRecDepth 100000 in
theorem lex_any (l : List UInt8) (hs : l.length ≤ 281474976710656) (w : World) (V : Vs w) : Calls Tryz.prog 45 #[.string (str l)] w fun e w' =>
  ∃ v, e = .returned (.tuple #[v, .int .i64 ((lexAll l).2.1 : Int), .int .i64 ((lexAll l).2.2 : Int)]) ∧ w'.ownsRow w.heap.size 89 5 v (lexAll l).1.length (tcells (lexAll l).1) ∧ Below w.heap.size w w' := by
 have hsz : (str l).size = l.length := str_size l
 by_cases hbig : 65536 < l.length
 ·have hl : lexAll l = ([], 65536, 5) := by unfold lexAll; rw [if_pos hbig]
  rw [hl]
  have HO := Hd (World.ownsRow_nil w w.heap.size 89 5)
  go_enter Tryz.func45, Tryz.ntmps45
  go_wp2
  go_ret3
  exact ⟨_, rfl, HO.out, Below.refl _ _⟩
 ·have hl : lexAll l = lexR l (l.length + 1) 0 1 [] := by unfold lexAll; rw [if_neg hbig]
  rw [hl]
  clear hl
  have HC := Hd fun W => clone_any (str l) (by rw [hsz]; exact hs) W
  have HS := Hd fun i (hi : i ≤ l.length) W => skip_any (str l) i W (by rw [hsz]; unfold maxLen; omega) (by rw [hsz]; exact hi)
  rw [str_data] at HS
  have HV := Hd V
  clear V
  obtain ⟨R, hR⟩ : ∃ R, R = lexR l (l.length + 1) 0 1 [] := ⟨_, rfl⟩
  have HR := Hd hR
  rw [← hR]
  clear hR hs
  obtain ⟨R1, R2, R3⟩ := R
  go_enter Tryz.func45, Tryz.ntmps45
  go_wp2_with fail
  refine (HC.out _).mono ?_
  rintro e w1 ⟨rfl, hb1⟩
  have h0 : Hid (LexSt l w w1 (.slice none 0 0) 0 1 []) := ⟨⟨l.length + 1, by omega, rfl⟩, World.ownsRow_nil _ _ _ _, hb1, by simp, by omega⟩
  clear hb1 HC
  go_wp2
  go_loopw [5, 6, 7] (fun v d line wr => ∃ (dd ll : Nat) (acc : List Tok), dd ≤ l.length ∧ d = .int .i64 (dd : Int) ∧ line = .int .i64 (ll : Int) ∧ Hid (LexSt l w wr v dd ll acc)) (fun _ d _ _ => l.length - (intOf d).toNat)
  case atStart => exact ⟨0, 1, [], by omega, rfl, rfl, h0⟩
  case round =>
   obtain ⟨d, line, acc, hd, rfl, rfl, hT⟩ := hrel
   have hk := skipM_le (l.drop d) false
   rw [List.length_drop] at hk
   have HS1 := Hd fun W => HS.out d hd W
   have E1 := Hd fun (f : Nat) (hf : 0 < f) => lexR_end (l := l) (d := d) (line := line) (acc := acc) (f := f) hf
   have E2 := Hd fun (f : Nat) (hf : 0 < f) => lexR_err (l := l) (d := d) (line := line) (acc := acc) (f := f) hf
   have E3 := Hd fun (f : Nat) => lexR_tok (l := l) (d := d) (line := line) (acc := acc) (f := f)
   have hx1 : ∀ a, d ≤ a → (str l).extract d a = str ((l.drop d).take (a - d)) := fun a _ => by rw [extract_mid]; rfl
   obtain ⟨k, hkk⟩ : ∃ k, k = skipM false (l.drop d) := ⟨_, rfl⟩
   rw [← hkk] at hk HS1 E1 E2 E3
   obtain ⟨a, haa⟩ : ∃ a, a = d + k := ⟨_, rfl⟩
   have hda : d ≤ a := by omega
   have hal : a ≤ l.length := by omega
   have hkd : a - d = k := by omega
   have hx2 := hx1 a hda
   rw [hkd] at hx2
   rw [← haa] at HS1 E1 E2 E3
   clear hx1 hkk hk hkd HS
   by_cases hend : l.length ≤ a
   ·have hRR : (R1, R2, R3) = (acc, l.length, 0) := by
     obtain ⟨f, hf, he⟩ := hT.out.eq
     exact HR.out.trans (he.trans (E1.out f (by omega) hend))
    have h1 : R1 = acc := congrArg (·.1) hRR
    have h2 : R2 = l.length := congrArg (·.2.1) hRR
    have h3 : R3 = 0 := congrArg (·.2.2) hRR
    subst h1 h2 h3
    obtain rfl : a = l.length := by omega
    clear hRR E1 E2 E3 HR hx2 haa
    go_wp2_with (go_at_call 72; refine (HS1.out _).mono ?_; rintro e w' ⟨rfl, rfl⟩)
    go_ret3
    exact ⟨_, rfl, hT.out.own, hT.out.bel⟩
   ·have hx3 : (str l).extract a l.length = str (l.drop a) := by rw [← hsz, extract_tail]; rfl
    have HF := Hd fun W V => first_any (l.drop a) (by rw [List.length_drop]; omega) (by intro h; have := congrArg List.length h; rw [List.length_drop] at this; simp at this; omega) W V
    have HN := Hd fun W => count_any ((l.drop d).take k) W
    have hlf := lineFeeds_le ((l.drop d).take k)
    have hlk : lineFeeds ((l.drop d).take k) ≤ k := by rw [List.length_take] at hlf; omega
    have hll := hT.out.lines
    generalize lineFeeds ((l.drop d).take k) = nf at *
    generalize hs1 : str ((l.drop d).take k) = S1 at *
    clear hs1 hlf
    by_cases herr : tokErr (l.drop a) = 0
    ·have hlen := tokLen_le (l.drop a)
     rw [List.length_drop] at hlen
     have hpos := tokLen_pos herr
     have hnext : Hid (∃ f, l.length < f + (a + tokLen (l.drop a)) ∧ lexR l (l.length + 1) 0 1 [] = lexR l f (a + tokLen (l.drop a)) (line + nf) (acc ++ [tokAt l a (line + nf)])) := by
      obtain ⟨f, hf, he⟩ := hT.out.eq
      obtain ⟨g, rfl⟩ : ∃ g, f = g + 1 := ⟨f - 1, by omega⟩
      exact ⟨g, by omega, he.trans (E3.out g hend herr)⟩
     have htok : Hid (tcell (tokAt l a (line + nf)) = [.int .i64 (tokKind (l.drop a) : Int), .string (str ((l.drop a).take (tokLen (l.drop a)))), .int .u64 (tokNum (l.drop a) : Int), .int .i64 (a : Int), .int .i64 ((line + nf : Nat) : Int)]) := rfl
     have hret : tkRet 0 (tokKind (l.drop a)) ((l.drop a).take (tokLen (l.drop a))) (tokNum (l.drop a)) = .tuple #[.agg #[.int .i64 (tokKind (l.drop a) : Int), .string (str ((l.drop a).take (tokLen (l.drop a)))), .int .u64 (tokNum (l.drop a) : Int), .int .i64 0, .int .i64 0], .int .i64 0] := rfl
     have htl : (str ((l.drop a).take (tokLen (l.drop a)))).size = tokLen (l.drop a) := by rw [str_size, List.length_take, List.length_drop]; omega
     rw [herr, hret] at HF
     obtain ⟨nl, hnl⟩ : ∃ nl, nl = line + nf := ⟨_, rfl⟩
     rw [← hnl] at hnext htok
     have hln : wrap64 ((line : Int) + (nf : Int)) = (nl : Int) := by rw [IntWalk.wrap64_in _ (by omega)]; omega
     have hnlb : nl ≤ a + 1 := by rw [hnl, haa]; exact Nat.le_trans (Nat.add_le_add hll hlk) (by rw [Nat.add_right_comm]; exact Nat.le_refl _)
     clear E1 E2 E3 haa hret herr hnl
     generalize tokAt l a nl = tok at *
     generalize tokKind (l.drop a) = K at *
     generalize tokNum (l.drop a) = N at *
     generalize tokLen (l.drop a) = L at *
     generalize str ((l.drop a).take L) = T at *
     generalize str (l.drop a) = S2 at *
     go_wp2_with (first | (go_at_call 72; refine (HS1.out _).mono ?_; rintro e w' ⟨rfl, rfl⟩) | (go_at_call 46; refine (HN.out _).mono ?_; rintro e w' ⟨rfl, rfl⟩))
     refine (HF.out _ (HV.out.below hT.out.bel)).mono ?_
     rintro e w2 ⟨rfl, hb2⟩
     have HB2 := Hd (hT.out.bel.trans (hb2.mono hT.out.bel.size))
     have hown2 := own_below hT.out.own hb2 (Nat.le_refl _)
     obtain ⟨va, vc, hvl⟩ : ∃ x c, u5 = .slice x acc.length c := by
      rcases hT.out.own.2 with ⟨hv, h0⟩ | ⟨g, cap, cur, hv, _⟩
      ·exact ⟨none, 0, by rw [hv, h0]⟩
      ·exact ⟨_, _, hv⟩
     clear hb2
     obtain ⟨i0, hi0, hz0, hz1, hz2⟩ := info_parts infoTok2
     have hfew := hT.out.few
     have hwsz := HB2.out.size
     subst hvl
     have HNX := Hd (fun (w3 : World) (g3 c3 : Nat) (ho : w3.ownsRow w.heap.size 89 5 (.slice (some ⟨g3, 0, none⟩) (acc.length + 1) c3) (acc.length + 1) (tcells acc ++ [.int .i64 (K : Int), .string T, .int .u64 (N : Int), .int .i64 (a : Int), .int .i64 (nl : Int)])) (hg : ((w2.alloc (.cells #[.int .i64 (K : Int), .string T, .int .u64 (N : Int), .int .i64 (a : Int), .int .i64 (nl : Int)] 89)).alloc (.cells #[.int .i64 (K : Int), .string T, .int .u64 (N : Int), .int .i64 (a : Int), .int .i64 (nl : Int)] 89)).grownBy w3 (Value.slice va acc.length vc).ownBlock) =>
      (show LexSt l w w3 (.slice (some ⟨g3, 0, none⟩) (acc.length + 1) c3) (a + L) nl (acc ++ [tok]) from ⟨hnext.out, by
        have h1 : (acc ++ [tok]).length = acc.length + 1 := by simp
        rw [h1, ← tcells_snoc, htok.out]
        exact ho, ((HB2.out.alloc HB2.out.size _).alloc (by simp; omega) _).grown hg (by simp; omega) (fun q hq => (hown2.lt q hq).1), by simp; omega, by omega⟩))
     have HT1 := Hd (fun (w3 : World) (hg : ((w2.alloc (.cells #[.int .i64 (K : Int), .string T, .int .u64 (N : Int), .int .i64 (a : Int), .int .i64 (nl : Int)] 89)).alloc (.cells #[.int .i64 (K : Int), .string T, .int .u64 (N : Int), .int .i64 (a : Int), .int .i64 (nl : Int)] 89)).grownBy w3 (Value.slice va acc.length vc).ownBlock) =>
      (show w3.cell? ⟨w2.heap.size, 1, none⟩ = some (.string T) by
       rw [hg.cell_far ⟨w2.heap.size, 1, none⟩ (by simp; omega) (fun hq => absurd (hown2.lt _ hq.symm).2 (Nat.lt_irrefl _))]
       exact ((Blk.alloc w2 89 [.int .i64 (K : Int), .string T, .int .u64 (N : Int), .int .i64 (a : Int), .int .i64 (nl : Int)]).alloc_other _).cell 1))
     have hown := (hown2.alloc (.cells #[.int .i64 (K : Int), .string T, .int .u64 (N : Int), .int .i64 (a : Int), .int .i64 (nl : Int)] 89)).alloc (.cells #[.int .i64 (K : Int), .string T, .int .u64 (N : Int), .int .i64 (a : Int), .int .i64 (nl : Int)] 89)
     clear hown2 hnext htok hT
     go_wp2_with (at_builtin; refine wpList_append_lies (w := (w2.alloc (.cells #[.int .i64 (K : Int), .string T, .int .u64 (N : Int), .int .i64 (a : Int), .int .i64 (nl : Int)] 89)).alloc (.cells #[.int .i64 (K : Int), .string T, .int .u64 (N : Int), .int .i64 (a : Int), .int .i64 (nl : Int)] 89)) (by rfl) _ _ _ (by rfl) w.heap.size 89 i0 (.agg #[.int .i64 0, .string ⟨#[]⟩, .int .u64 0, .int .i64 0, .int .i64 0]) 5 48 Tryz.underlying59 hi0 hz0 hz1 hz2 (by rfl) (by decide) (.slice va acc.length vc) acc.length (tcells acc) (by rfl) hown ⟨w2.heap.size + 1, 0, none⟩ 1 1 [.int .i64 (K : Int), .string T, .int .u64 (N : Int), .int .i64 (a : Int), .int .i64 (nl : Int)] (by simp [Act.eval]) (by rfl) (World.news_of_block (cs := #[.int .i64 (K : Int), .string T, .int .u64 (N : Int), .int .i64 (a : Int), .int .i64 (nl : Int)]) (t := 89) (fr := (0, 0)) (by have := heap_alloc_new (w2.alloc (.cells #[.int .i64 (K : Int), .string T, .int .u64 (N : Int), .int .i64 (a : Int), .int .i64 (nl : Int)] 89)) (.cells #[.int .i64 (K : Int), .string T, .int .u64 (N : Int), .int .i64 (a : Int), .int .i64 (nl : Int)] 89); simpa using this)) (by intro z hz; simp at hz; rcases hz with rfl | rfl | rfl | rfl | rfl <;> rfl) (by decide) (by unfold maxLen; omega) (by omega) (by simp; omega) (w2.heap.size + 2) (by simp) ?_; intro g3 c3 w3 ho3 hg3 hat3 hlt3; have hcz := HT1.out _ hg3)
     have HX3 := Hd (HNX.out w3 g3 c3 ho3 hg3)
     clear ho3 hg3 hat3 hlt3 HT1 HNX hown
     go_wp2
     go_roundw
     case rel => exact ⟨a + L, nl, acc ++ [tok], by omega, by go_num, rfl, HX3⟩
     case measure => simp [intOf]; omega
    ·have hRR : (R1, R2, R3) = ([], a, tokErr (l.drop a)) := by
      obtain ⟨f, hf, he⟩ := hT.out.eq
      exact HR.out.trans (he.trans (E2.out f (by omega) hend herr))
     have h1 : R1 = [] := congrArg (·.1) hRR
     have h2 : R2 = a := congrArg (·.2.1) hRR
     have h3 : R3 = tokErr (l.drop a) := congrArg (·.2.2) hRR
     subst h1 h2
     obtain ⟨K, T, N, hf⟩ := tkRet_form (tokErr (l.drop R2)) (tokKind (l.drop R2)) (tokNum (l.drop R2)) ((l.drop R2).take (tokLen (l.drop R2)))
     rw [hf] at HF
     rw [← h3] at HF herr
     clear hRR E1 E2 E3 HR haa hf h3
     generalize str (l.drop R2) = S2 at *
     have hE : 0 < R3 := by omega
     have HO := Hd fun W => World.ownsRow_nil W w.heap.size 89 5
     clear herr
     go_wp2_with (first | (go_at_call 72; refine (HS1.out _).mono ?_; rintro e w' ⟨rfl, rfl⟩) | (go_at_call 46; refine (HN.out _).mono ?_; rintro e w' ⟨rfl, rfl⟩))
     refine (HF.out _ (HV.out.below hT.out.bel)).mono ?_
     rintro e w2 ⟨rfl, hb2⟩
     have HB2 := Hd (hT.out.bel.trans (hb2.mono hT.out.bel.size))
     clear hb2
     go_wp2
     go_ret3
     exact ⟨_, rfl, HO.out _, HB2.out.alloc HB2.out.size _⟩
end Go.Proofs.YthdbaligapdbeaaGreatDoor
