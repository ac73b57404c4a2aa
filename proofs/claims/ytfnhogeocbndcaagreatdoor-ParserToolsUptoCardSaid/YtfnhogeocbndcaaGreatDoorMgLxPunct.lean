/- The code's has, isTruth and bareType: contracts. -/
import Derived.Test.YtfnhogeocbndcaaGreatDoorMgLxTk0
import Derived.Test.YtfnhogeocbndcaaGreatDoorMgPsOp
import Derived.Test.YtfnhogeocbndcaaGreatDoorMgPsKid
import Derived.Laws.StructEq
import Derived.Test.YtfnhogeocbndcaaGreatDoorMgLxType
import Derived.Shelf.Strconv.ParseUint10b64
namespace Go.Proofs.YtfnhogeocbndcaaGreatDoor
open Go Go.RowKit
set_option linter.unusedVariables false

/-- The variable exprs reads as laid. -/
def Ex (w : World) : Prop := w.cell? ⟨0, 0, none⟩ = some (.int .i64 18) ∧ w.cell? ⟨0, 1, none⟩ = some (.int .i64 26)
theorem Ex.below {w w' : World} (h : Ex w) (hb : Below w.heap.size w w') : Ex w' := by
  have h1 := cell_block_lt h.1
  have h2 := cell_block_lt h.2
  exact ⟨(hb.cell (p := ⟨0, 0, none⟩) h1).trans h.1, (hb.cell (p := ⟨0, 1, none⟩) h2).trans h.2⟩
def inG (a b k : Int) : Bool := decide (a ≤ k) && decide (k ≤ b)
set_option maxHeartbeats 1000000 in
set_option maxRecDepth 100000 in
theorem has_any (a b : Int) (l : Lab) (x : Option Addr) (n k : Nat) (w : World) :
    Calls Tryz.prog 90 #[.agg #[.int .i64 a, .int .i64 b], .agg #[.int .i64 l.kind, .string (str l.name), .int .u64 l.num, .int .i64 l.wd, .bool l.sg, .int .i64 l.op, .int .i64 l.fac, .int .i64 l.pip, .int .i64 l.unr, .int .i64 l.line, .slice x n k]] w fun e w' => e = .returned (.bool (inG a b l.kind)) ∧ Below w.heap.size w w' := by
  have HB := Lib.hid (((Below.refl w.heap.size w).alloc (Nat.le_refl _) (.cells #[.int .i64 a, .int .i64 b] 102)).alloc (by simp) (.cells #[.int .i64 l.kind, .string (str l.name), .int .u64 l.num, .int .i64 l.wd, .bool l.sg, .int .i64 l.op, .int .i64 l.fac, .int .i64 l.pip, .int .i64 l.unr, .int .i64 l.line, .slice x n k] 28))
  obtain ⟨a0, a1, a2, a3, a4, a5, a6, a7, a8, a9⟩ := l
  dsimp only at *
  by_cases h1 : a ≤ a0
  · by_cases h2 : a0 ≤ b
    · have HR : Hid (inG a b a0 = true) := Lib.hid (by simp [inG, h1, h2])
      go_enter Tryz.func90, Tryz.ntmps90
      go_wp2
      go_ret
      exact ⟨by rw [HR.out]; rfl, HB.out⟩
    · have HR : Hid (inG a b a0 = false) := Lib.hid (by simp [inG, h2])
      go_enter Tryz.func90, Tryz.ntmps90
      go_wp2
      go_ret
      exact ⟨by rw [HR.out]; rfl, HB.out⟩
  · have HR : Hid (inG a b a0 = false) := Lib.hid (by simp [inG, h1])
    go_enter Tryz.func90, Tryz.ntmps90
    go_wp2
    go_ret
    exact ⟨by rw [HR.out]; rfl, HB.out⟩
def isTr (k wd : Int) (sg : Bool) : Bool := decide (k = 18) && (decide (wd = 1) && !sg)
set_option maxHeartbeats 1000000 in
set_option maxRecDepth 100000 in
theorem isTruth_any (l : Lab) (x : Option Addr) (n k : Nat) (w : World) :
    Calls Tryz.prog 91 #[.agg #[.int .i64 l.kind, .string (str l.name), .int .u64 l.num, .int .i64 l.wd, .bool l.sg, .int .i64 l.op, .int .i64 l.fac, .int .i64 l.pip, .int .i64 l.unr, .int .i64 l.line, .slice x n k]] w fun e w' => e = .returned (.bool (isTr l.kind l.wd l.sg)) ∧ Below w.heap.size w w' := by
  have HB := Lib.hid ((Below.refl w.heap.size w).alloc (Nat.le_refl _) (.cells #[.int .i64 l.kind, .string (str l.name), .int .u64 l.num, .int .i64 l.wd, .bool l.sg, .int .i64 l.op, .int .i64 l.fac, .int .i64 l.pip, .int .i64 l.unr, .int .i64 l.line, .slice x n k] 28))
  obtain ⟨a0, a1, a2, a3, a4, a5, a6, a7, a8, a9⟩ := l
  dsimp only at *
  by_cases h1 : a0 = 18
  · subst h1
    by_cases h2 : a3 = 1
    · subst h2
      cases a4
      all_goals
        go_enter Tryz.func91, Tryz.ntmps91
        go_wp2
        go_ret
        exact ⟨rfl, HB.out⟩
    · have HR : Hid (isTr 18 a3 a4 = false) := Lib.hid (by simp [isTr, h2])
      go_enter Tryz.func91, Tryz.ntmps91
      go_wp2
      go_ret
      exact ⟨by rw [HR.out]; rfl, HB.out⟩
  · have HR : Hid (isTr a0 a3 a4 = false) := Lib.hid (by simp [isTr, h1])
    go_enter Tryz.func91, Tryz.ntmps91
    go_wp2
    go_ret
    exact ⟨by rw [HR.out]; rfl, HB.out⟩
/-- Does a bare node keep its type? -/
def keepsT (l : Lab) : Bool := !(inG 18 26 l.kind) || (decide (l.kind = 24) || isTr l.kind l.wd l.sg)
def bareL (l : Lab) : Lab := { l with line := 0, wd := if keepsT l then l.wd else 0, sg := if keepsT l then l.sg else false }
theorem blk_two {w : World} (o : Obj) (t : TypeId) (cs : List Value) : Blk ((w.alloc o).alloc (.cells cs.toArray t)) (w.heap.size + 1) t cs := by
  have h := Blk.alloc (w.alloc o) t cs
  have hs : (w.alloc o).heap.size = w.heap.size + 1 := by simp
  rw [hs] at h
  exact h
set_option maxHeartbeats 1000000 in
set_option maxRecDepth 100000 in
theorem bareType_any (l : Lab) (x : Option Addr) (n k : Nat) (w : World) (hE : Ex w) :
    Calls Tryz.prog 49 #[.agg #[.int .i64 l.kind, .string (str l.name), .int .u64 l.num, .int .i64 l.wd, .bool l.sg, .int .i64 l.op, .int .i64 l.fac, .int .i64 l.pip, .int .i64 l.unr, .int .i64 l.line, .slice x n k]] w fun e w' => e = .returned (.agg #[.int .i64 (bareL l).wd, .bool (bareL l).sg]) ∧ Below w.heap.size w w' := by
  have hW : Below w.heap.size w ((w.alloc (.cells #[.int .i64 l.kind, .string (str l.name), .int .u64 l.num, .int .i64 l.wd, .bool l.sg, .int .i64 l.op, .int .i64 l.fac, .int .i64 l.pip, .int .i64 l.unr, .int .i64 l.line, .slice x n k] 28)).alloc (.cells #[.int .i64 0, .bool false] 25)) := ((Below.refl w.heap.size w).alloc (Nat.le_refl _) _).alloc (by simp) _
  have HB := Lib.hid hW
  have e0 := (hE.below hW).1
  have e1 := (hE.below hW).2
  have HH := Lib.hid fun W => has_any 18 26 l x n k W
  have HT := Lib.hid fun W => isTruth_any l x n k W
  have HX1 := Lib.hid ((Blk.alloc w 28 [.int .i64 l.kind, .string (str l.name), .int .u64 l.num, .int .i64 l.wd, .bool l.sg, .int .i64 l.op, .int .i64 l.fac, .int .i64 l.pip, .int .i64 l.unr, .int .i64 l.line, .slice x n k]).alloc_other (.cells #[.int .i64 0, .bool false] 25))
  have HX2 := Lib.hid (blk_two (w := w) (.cells #[.int .i64 l.kind, .string (str l.name), .int .u64 l.num, .int .i64 l.wd, .bool l.sg, .int .i64 l.op, .int .i64 l.fac, .int .i64 l.pip, .int .i64 l.unr, .int .i64 l.line, .slice x n k] 28) 25 [.int .i64 0, .bool false])
  have hw1 : (bareL l).wd = if keepsT l then l.wd else 0 := rfl
  have hw2 : (bareL l).sg = if keepsT l then l.sg else false := rfl
  have hk : keepsT l = (!(inG 18 26 l.kind) || (decide (l.kind = 24) || isTr l.kind l.wd l.sg)) := rfl
  have HK := Lib.hid hk
  have HW1 := Lib.hid hw1
  have HW2 := Lib.hid hw2
  clear hw1 hw2 hk hE hW
  generalize keepsT l = kt at *
  generalize (bareL l).wd = bw at *
  generalize (bareL l).sg = bs at *
  generalize inG 18 26 l.kind = g1 at *
  generalize isTr l.kind l.wd l.sg = g2 at *
  obtain ⟨a0, a1, a2, a3, a4, a5, a6, a7, a8, a9⟩ := l
  dsimp only at *
  go_enter Tryz.func49, Tryz.ntmps49
  go_wp2_with fail
  refine (HH.out _).mono ?_
  rintro e w1 ⟨rfl, hb1⟩
  have HBy := Lib.hid (HB.out.trans (hb1.mono HB.out.size))
  have HY1 := Lib.hid (HX1.out.below hb1 (by simp; omega))
  have HY2 := Lib.hid (HX2.out.below hb1 (by simp))
  have c0 := HY1.out.cell
  have c1 := HY2.out.cell
  have f1 := HY2.out.frozen
  clear hb1
  cases g1 with
  | false =>
    go_wp2
    refine bodyPost_ret ((HY2.out.stor2 rfl _ _).res1 Tryz.results49 Tryz.underlying25 rfl infoTy _ rfl) rfl ?_
    exact ⟨by rw [HW1.out, HW2.out, HK.out]; rfl, (HBy.out.setCell (p := ⟨w.heap.size + 1, 0, none⟩) (by show w.heap.size ≤ w.heap.size + 1; omega) _).setCell (p := ⟨w.heap.size + 1, 1, none⟩) (by show w.heap.size ≤ w.heap.size + 1; omega) _⟩
  | true =>
    by_cases h24 : a0 = 24
    · subst h24
      go_wp2
      refine bodyPost_ret ((HY2.out.stor2 rfl _ _).res1 Tryz.results49 Tryz.underlying25 rfl infoTy _ rfl) rfl ?_
      exact ⟨by rw [HW1.out, HW2.out, HK.out]; rfl, (HBy.out.setCell (p := ⟨w.heap.size + 1, 0, none⟩) (by show w.heap.size ≤ w.heap.size + 1; omega) _).setCell (p := ⟨w.heap.size + 1, 1, none⟩) (by show w.heap.size ≤ w.heap.size + 1; omega) _⟩
    · have HD : Hid (decide (a0 = 24) = false) := Lib.hid (decide_eq_false h24)
      go_wp2_with fail
      refine (HT.out _).mono ?_
      rintro e w2 ⟨rfl, hb2⟩
      have HBz := Lib.hid (HBy.out.trans (hb2.mono HBy.out.size))
      have HZ1 := Lib.hid (HY1.out.below hb2 HY1.out.lt)
      have HZ2 := Lib.hid (HY2.out.below hb2 HY2.out.lt)
      clear c0 c1 f1 hb2
      have c0 := HZ1.out.cell
      have c1 := HZ2.out.cell
      have f1 := HZ2.out.frozen
      cases g2 with
      | false =>
        go_wp2
        refine bodyPost_ret ((HZ2.out.stor2 rfl _ _).res1 Tryz.results49 Tryz.underlying25 rfl infoTy _ rfl) rfl ?_
        exact ⟨by rw [HW1.out, HW2.out, HK.out, HD.out]; rfl, (HBz.out.setCell (p := ⟨w.heap.size + 1, 0, none⟩) (by show w.heap.size ≤ w.heap.size + 1; omega) _).setCell (p := ⟨w.heap.size + 1, 1, none⟩) (by show w.heap.size ≤ w.heap.size + 1; omega) _⟩
      | true =>
        go_wp2
        refine bodyPost_ret ((HZ2.out.stor2 rfl _ _).res1 Tryz.results49 Tryz.underlying25 rfl infoTy _ rfl) rfl ?_
        exact ⟨by rw [HW1.out, HW2.out, HK.out, HD.out]; rfl, (HBz.out.setCell (p := ⟨w.heap.size + 1, 0, none⟩) (by show w.heap.size ≤ w.heap.size + 1; omega) _).setCell (p := ⟨w.heap.size + 1, 1, none⟩) (by show w.heap.size ≤ w.heap.size + 1; omega) _⟩
end Go.Proofs.YtfnhogeocbndcaaGreatDoor
/- Numbers of base 2, 10 and 16: mathematics, and contracts of the library's ParseUint at digits alone. -/
namespace Go.Proofs.YtfnhogeocbndcaaGreatDoor
open Go Go.RowKit
set_option linter.unusedVariables false

/-- The number that digits spell, none if it is 2 to the 64 or more. -/
def parseB (base : Nat) : Nat → List UInt8 → Option Nat
  | acc, [] => some acc
  | acc, c :: r => if 18446744073709551616 ≤ acc * base + dv c then none else parseB base (acc * base + dv c) r
theorem fold_ge {base : Nat} (hb : 1 ≤ base) : ∀ (l : List UInt8) (acc : Nat), acc ≤ l.foldl (fun n b => n * base + dv b) acc := by
  intro l
  induction l with
  | nil => intro acc; exact Nat.le_refl _
  | cons c r ih =>
    intro acc
    have h1 : acc * 1 ≤ acc * base := Nat.mul_le_mul_left acc hb
    exact Nat.le_trans (by omega) (ih (acc * base + dv c))
theorem parseB_is {base : Nat} (hb : 1 ≤ base) : ∀ (l : List UInt8) (acc : Nat), acc < 18446744073709551616 → parseB base acc l = if 18446744073709551616 ≤ l.foldl (fun n b => n * base + dv b) acc then none else some (l.foldl (fun n b => n * base + dv b) acc) := by
  intro l
  induction l with
  | nil => intro acc h; rw [parseB]; show _ = if 18446744073709551616 ≤ acc then none else some acc; rw [if_neg (by omega)]
  | cons c r ih =>
    intro acc h
    rw [parseB, List.foldl_cons]
    by_cases h2 : 18446744073709551616 ≤ acc * base + dv c
    · have := fold_ge hb r (acc * base + dv c)
      rw [if_pos h2, if_pos (by omega)]
    · rw [if_neg h2]
      exact ih _ (by omega)
theorem parseB_num {base : Nat} (hb : 1 ≤ base) (l : List UInt8) : parseB base 0 l = if 18446744073709551616 ≤ numVal base l then none else some (numVal base l) := parseB_is hb l 0 (by omega)

theorem or_hex : ∀ b : UInt8, dv b < 16 → ¬ (48 ≤ b.toNat ∧ b.toNat ≤ 57) → bits .or .u8 ((b.toNat : Nat) : Int) 32 = ((dv b + 87 : Nat) : Int) := by
  intro b h1 h2
  have := all_u8 (fun b => !(decide (dv b < 16) && !(decide (48 ≤ b.toNat ∧ b.toNat ≤ 57))) || decide (bits .or .u8 ((b.toNat : Nat) : Int) 32 = ((dv b + 87 : Nat) : Int))) (by decide +kernel) b
  rw [decide_eq_true h1, decide_eq_false h2] at this
  simpa using this
theorem lower_any (b : UInt8) (h1 : dv b < 16) (h2 : ¬ (48 ≤ b.toNat ∧ b.toNat ≤ 57)) (w : World) : Calls Tryz.prog 169 #[.int .u8 (b.toNat : Int)] w fun e w' => e = .returned (.int .u8 ((dv b : Nat) + 87 : Int)) ∧ w = w' :=
  (Tryz.internal_strconv_lower (b.toNat : Int) w).mono fun e w' ⟨he, hw⟩ => ⟨by rw [he, or_hex b h1 h2]; rfl, hw.symm⟩
/-- What the library's inner function returns. -/
def parsed : Option Nat → Value
  | some n => .tuple #[.int .u64 (n : Int), .nilIface]
  | none => .tuple #[.int .u64 18446744073709551615, .iface 149 (.int .i64 1)]

set_option maxHeartbeats 32000000 in
set_option maxRecDepth 100000 in
theorem parse16_any (t : ByteArray) (hne : t.size ≠ 0) (hmax : t.size ≤ 9223372036854775806) (hd : ∀ c ∈ t.data.toList, dv c < 16) (w : World) :
    Calls Tryz.prog 151 #[.string t, .int .i64 16, .int .i64 64] w fun e w' => e = .returned (parsed (parseB 16 0 t.data.toList)) ∧ w' = Lib.bytesWorld w 5 t := by
  have hemp : t.toList.isEmpty = false := by
    rw [← decide_eq_emptyBytes]
    exact decide_eq_false (fun h => hne (by rw [h]; rfl))
  have hcv := Lib.run_convert_string_bytes (P := Tryz.prog) w 9 63 5 t (u := .string) Tryz.underlying9 Tryz.underlying63 Tryz.underlying5
  have hB : ∀ j, j < t.size → (Lib.bytesWorld w 5 t).cell? ⟨w.heap.size, j, none⟩ = some (.int .u8 (t.data.toList.getD j 0).toNat) := fun j hj => Lib.bytesWorld_cell w 5 t j hj
  obtain ⟨W1, hW1⟩ : ∃ W1, W1 = Lib.bytesWorld w 5 t := ⟨_, rfl⟩
  rw [← hW1] at hcv hB ⊢
  clear hW1
  obtain ⟨bs, hL⟩ : ∃ bs, bs = t.data.toList := ⟨_, rfl⟩
  have hLn : bs.length = t.size := by rw [hL, Lib.size_eq]
  rw [← hL] at hB hd ⊢
  clear hL
  have hmv : IntKind.u64.wrap (IntKind.u64.wrap 18446744073709551616 - 1) = 18446744073709551615 := by
    rw [IntKind.wrap_u64, IntKind.wrap_u64]
    decide
  have HD := Lib.hid hd
  clear hd
  go_enter Tryz.func151, Tryz.ntmps151
  go_wp2
  go_loop [12, 13, 101] (fun vu vn vi => ∃ (k acc : Nat) (a : Int), vu = .bool false ∧ vn = .int .u64 a ∧ vi = .int .i64 k ∧ k ≤ t.size ∧ Hid (a = (acc : Int) ∧ acc < 18446744073709551616 ∧ parseB 16 0 bs = parseB 16 acc (bs.drop k)))
    (fun _ _ vi => t.size - (intOf vi).toNat)
  case atStart => exact ⟨0, 0, 0, rfl, rfl, rfl, by omega, rfl, by omega, rfl⟩
  case round =>
    obtain ⟨k, acc, a, rfl, rfl, rfl, hk, hh⟩ := hrel
    obtain ⟨ha, hacc, hdec⟩ := hh.out
    clear hh
    have a0 : 0 ≤ a := by omega
    have a1 : a < 18446744073709551616 := by omega
    by_cases hkn : k < t.size
    · have hc := hB k hkn
      have hdrop : bs.drop k = bs[k]'(by omega) :: bs.drop (k + 1) := List.drop_eq_getElem_cons (by omega)
      have hget : bs.getD k 0 = bs[k]'(by omega) := by simp [List.getD, List.getElem?_eq_getElem (show k < bs.length by omega)]
      have hdv := HD.out (bs[k]'(by omega)) (List.getElem_mem _)
      rw [hdrop] at hdec
      rw [hget] at hc
      generalize bs[k]'(by omega) = c at hc hdec hdv
      have hc256 : c.toNat < 256 := c.toNat_lt
      clear hB hdrop hget
      have HPN := Lib.hid fun (h : 18446744073709551616 ≤ acc * 16 + dv c) => (show parseB 16 acc (c :: bs.drop (k + 1)) = none by rw [parseB, if_pos h])
      have HPS := Lib.hid fun (h : ¬ 18446744073709551616 ≤ acc * 16 + dv c) => (show parseB 16 acc (c :: bs.drop (k + 1)) = parseB 16 (acc * 16 + dv c) (bs.drop (k + 1)) by rw [parseB, if_neg h])
      by_cases hdig : 48 ≤ c.toNat ∧ c.toNat ≤ 57
      · have hdvc : dv c = c.toNat - 48 := by unfold dv; rw [if_pos hdig]
        obtain ⟨hd0, hd1⟩ := hdig
        have hdl : c.toNat < 48 + dv c + 1 := by omega
        have hdm : c.toNat ≤ 48 + (16 - 1) := by omega
        clear hdl
        by_cases hov : 18446744073709551616 ≤ acc * 16 + dv c
        · have hF : parseB 16 acc (c :: bs.drop (k + 1)) = none := by rw [parseB, if_pos hov]
          rw [hF] at hdec
          have icut : 1152921504606846976 ≤ a := by omega
          clear hacc hF ha hov hdvc hdv
          go_wp2
          go_ret2
          exact ⟨rfl, rfl⟩
        · have hF : parseB 16 acc (c :: bs.drop (k + 1)) = parseB 16 (acc * 16 + dv c) (bs.drop (k + 1)) := by rw [parseB, if_neg hov]
          have HN : Hid (a * 16 + ((c.toNat : Int) - 48) = ((acc * 16 + dv c : Nat) : Int) ∧ acc * 16 + dv c < 18446744073709551616 ∧ parseB 16 0 bs = parseB 16 (acc * 16 + dv c) (bs.drop (k + 1))) := Lib.hid ⟨by omega, by omega, hdec.trans hF⟩
          have icut : a < 1152921504606846976 := by omega
          have iov : a * 16 + ((c.toNat : Int) - 48) < 18446744073709551616 := by omega
          clear hacc hF hov hdec ha hdvc hdv
          go_wp2
          refine ⟨⟨k + 1, acc * 16 + dv c, a * 16 + ((c.toNat : Int) - 48), rfl, (by first | rfl | (congr 1; omega)), (by first | rfl | (congr 1; omega)), by omega, HN⟩, by simp [intOf]; omega⟩
      · have h95 : (((c.toNat : Nat) : Int) == 95) = false := by
          have : c.toNat ≠ 95 := by
            unfold dv at hdv
            split at hdv
            · contradiction
            · split at hdv
              · omega
              · split at hdv <;> omega
          simp
          omega
        have hhex : 58 ≤ c.toNat ∧ 10 ≤ dv c := by
          unfold dv at hdv ⊢
          split at hdv
          · contradiction
          · split at hdv
            · rename_i h1 h2; rw [if_neg h1, if_pos h2]; omega
            · split at hdv
              · rename_i h1 h2 h3; rw [if_neg h1, if_neg h2, if_pos h3]; omega
              · omega
        have h58 := hhex.1
        have h10 := hhex.2
        have HLW := Lib.hid fun W => lower_any c hdv hdig W
        clear hhex hdig
        generalize dv c = d at *
        by_cases hov : 18446744073709551616 ≤ acc * 16 + d
        · have hF : parseB 16 acc (c :: bs.drop (k + 1)) = none := HPN.out hov
          rw [hF] at hdec
          have icut : 1152921504606846976 ≤ a := by omega
          clear hacc hF ha hov HPN HPS
          go_wp2_with (go_at_call 169; refine (HLW.out _).mono ?_; rintro e w' ⟨rfl, rfl⟩)
          go_ret2
          exact ⟨by rw [hdec]; rfl, rfl⟩
        · have hF : parseB 16 acc (c :: bs.drop (k + 1)) = parseB 16 (acc * 16 + d) (bs.drop (k + 1)) := HPS.out hov
          have HN : Hid (a * 16 + (d : Int) = ((acc * 16 + d : Nat) : Int) ∧ acc * 16 + d < 18446744073709551616 ∧ parseB 16 0 bs = parseB 16 (acc * 16 + d) (bs.drop (k + 1))) := Lib.hid ⟨by omega, by omega, hdec.trans hF⟩
          have icut : a < 1152921504606846976 := by omega
          have iov : a * 16 + (d : Int) < 18446744073709551616 := by omega
          clear hacc hF hov hdec ha HPN HPS
          go_wp2_with (go_at_call 169; refine (HLW.out _).mono ?_; rintro e w' ⟨rfl, rfl⟩)
          refine ⟨⟨k + 1, acc * 16 + d, a * 16 + (d : Int), rfl, (by first | rfl | (congr 1; omega)), (by first | rfl | (congr 1; omega)), by omega, HN⟩, by simp [intOf]; omega⟩
    · have hkk : k = t.size := by omega
      subst hkk
      have hF : parseB 16 acc (bs.drop t.size) = some acc := by rw [List.drop_eq_nil_of_le (by omega)]; rfl
      rw [hF] at hdec
      subst ha
      clear hacc hF a0 a1
      go_wp2
      go_ret2
      exact ⟨rfl, rfl⟩

theorem parse10_same : ∀ (l : List UInt8), (∀ c ∈ l, dv c < 10) → ∀ acc, Lib.uintTuple 149 (Lib.parseUint10 acc l) = parsed (parseB 10 acc l) := by
  intro l
  induction l with
  | nil => intro _ acc; rfl
  | cons c r ih =>
    intro h acc
    have hc := h c (by simp)
    have hr : ∀ x ∈ r, dv x < 10 := fun x hx => h x (List.mem_cons_of_mem _ hx)
    have hd : 48 ≤ c.toNat ∧ c.toNat ≤ 57 ∧ dv c = c.toNat - 48 := by
      unfold dv at hc ⊢
      split at hc
      · rename_i h1; rw [if_pos h1]; omega
      · split at hc
        · omega
        · split at hc <;> omega
    rw [Lib.parseUint10, parseB, if_pos ⟨hd.1, hd.2.1⟩, hd.2.2]
    by_cases h1 : 1844674407370955162 ≤ acc
    · rw [if_pos h1, if_pos (by omega)]; rfl
    · rw [if_neg h1]
      by_cases h2 : 18446744073709551616 ≤ acc * 10 + (c.toNat - 48)
      · rw [if_pos h2, if_pos h2]; rfl
      · rw [if_neg h2, if_neg h2]
        exact ih hr _

set_option maxHeartbeats 32000000 in
set_option maxRecDepth 100000 in
theorem parse2_any (t : ByteArray) (hne : t.size ≠ 0) (hmax : t.size ≤ 9223372036854775806) (hd : ∀ c ∈ t.data.toList, dv c < 2) (w : World) :
    Calls Tryz.prog 151 #[.string t, .int .i64 2, .int .i64 64] w fun e w' => e = .returned (parsed (parseB 2 0 t.data.toList)) ∧ w' = Lib.bytesWorld w 5 t := by
  have hemp : t.toList.isEmpty = false := by
    rw [← decide_eq_emptyBytes]
    exact decide_eq_false (fun h => hne (by rw [h]; rfl))
  have hcv := Lib.run_convert_string_bytes (P := Tryz.prog) w 9 63 5 t (u := .string) Tryz.underlying9 Tryz.underlying63 Tryz.underlying5
  have hB : ∀ j, j < t.size → (Lib.bytesWorld w 5 t).cell? ⟨w.heap.size, j, none⟩ = some (.int .u8 (t.data.toList.getD j 0).toNat) := fun j hj => Lib.bytesWorld_cell w 5 t j hj
  obtain ⟨W1, hW1⟩ : ∃ W1, W1 = Lib.bytesWorld w 5 t := ⟨_, rfl⟩
  rw [← hW1] at hcv hB ⊢
  clear hW1
  obtain ⟨bs, hL⟩ : ∃ bs, bs = t.data.toList := ⟨_, rfl⟩
  have hLn : bs.length = t.size := by rw [hL, Lib.size_eq]
  rw [← hL] at hB hd ⊢
  clear hL
  have hmv : IntKind.u64.wrap (IntKind.u64.wrap 18446744073709551616 - 1) = 18446744073709551615 := by
    rw [IntKind.wrap_u64, IntKind.wrap_u64]
    decide
  have HD := Lib.hid hd
  clear hd
  go_enter Tryz.func151, Tryz.ntmps151
  go_wp2
  go_loop [12, 13, 101] (fun vu vn vi => ∃ (k acc : Nat) (a : Int), vu = .bool false ∧ vn = .int .u64 a ∧ vi = .int .i64 k ∧ k ≤ t.size ∧ Hid (a = (acc : Int) ∧ acc < 18446744073709551616 ∧ parseB 2 0 bs = parseB 2 acc (bs.drop k)))
    (fun _ _ vi => t.size - (intOf vi).toNat)
  case atStart => exact ⟨0, 0, 0, rfl, rfl, rfl, by omega, rfl, by omega, rfl⟩
  case round =>
    obtain ⟨k, acc, a, rfl, rfl, rfl, hk, hh⟩ := hrel
    obtain ⟨ha, hacc, hdec⟩ := hh.out
    clear hh
    have a0 : 0 ≤ a := by omega
    have a1 : a < 18446744073709551616 := by omega
    by_cases hkn : k < t.size
    · have hc := hB k hkn
      have hdrop : bs.drop k = bs[k]'(by omega) :: bs.drop (k + 1) := List.drop_eq_getElem_cons (by omega)
      have hget : bs.getD k 0 = bs[k]'(by omega) := by simp [List.getD, List.getElem?_eq_getElem (show k < bs.length by omega)]
      have hdv := HD.out (bs[k]'(by omega)) (List.getElem_mem _)
      rw [hdrop] at hdec
      rw [hget] at hc
      generalize bs[k]'(by omega) = c at hc hdec hdv
      have hc256 : c.toNat < 256 := c.toNat_lt
      clear hB hdrop hget
      by_cases hdig : 48 ≤ c.toNat ∧ c.toNat ≤ 57
      · have hdvc : dv c = c.toNat - 48 := by unfold dv; rw [if_pos hdig]
        obtain ⟨hd0, hd1⟩ := hdig
        have hdl : c.toNat < 48 + dv c + 1 := by omega
        have hdm : c.toNat ≤ 48 + (2 - 1) := by omega
        clear hdl
        by_cases hov : 18446744073709551616 ≤ acc * 2 + dv c
        · have hF : parseB 2 acc (c :: bs.drop (k + 1)) = none := by rw [parseB, if_pos hov]
          rw [hF] at hdec
          have icut : 9223372036854775808 ≤ a := by omega
          clear hacc hF ha hov hdvc hdv
          go_wp2
          go_ret2
          exact ⟨rfl, rfl⟩
        · have hF : parseB 2 acc (c :: bs.drop (k + 1)) = parseB 2 (acc * 2 + dv c) (bs.drop (k + 1)) := by rw [parseB, if_neg hov]
          have HN : Hid (a * 2 + ((c.toNat : Int) - 48) = ((acc * 2 + dv c : Nat) : Int) ∧ acc * 2 + dv c < 18446744073709551616 ∧ parseB 2 0 bs = parseB 2 (acc * 2 + dv c) (bs.drop (k + 1))) := Lib.hid ⟨by omega, by omega, hdec.trans hF⟩
          have icut : a < 9223372036854775808 := by omega
          have iov : a * 2 + ((c.toNat : Int) - 48) < 18446744073709551616 := by omega
          clear hacc hF hov hdec ha hdvc hdv
          go_wp2
          refine ⟨⟨k + 1, acc * 2 + dv c, a * 2 + ((c.toNat : Int) - 48), rfl, (by first | rfl | (congr 1; omega)), (by first | rfl | (congr 1; omega)), by omega, HN⟩, by simp [intOf]; omega⟩
      · exfalso
        apply hdig
        unfold dv at hdv
        split at hdv
        · assumption
        · split at hdv
          · omega
          · split at hdv <;> omega
    · have hkk : k = t.size := by omega
      subst hkk
      have hF : parseB 2 acc (bs.drop t.size) = some acc := by rw [List.drop_eq_nil_of_le (by omega)]; rfl
      rw [hF] at hdec
      subst ha
      clear hacc hF a0 a1
      go_wp2
      go_ret2
      exact ⟨rfl, rfl⟩
end Go.Proofs.YtfnhogeocbndcaaGreatDoor
/- Keywords, words and punctuation: contracts of the code. -/
namespace Go.Proofs.YtfnhogeocbndcaaGreatDoor
open Go Go.RowKit
set_option linter.unusedVariables false

/-- Is the string one of a list? -/
def has (zs : List (List UInt8)) (x : ByteArray) : Bool := zs.contains x.data.toList
theorem strs_getD (zs : List (List UInt8)) (j : Nat) (h : j < zs.length) : (zs.map str).getD j ByteArray.empty = str zs[j] := by
  rw [List.getD, List.getElem?_map, List.getElem?_eq_getElem h]
  rfl
theorem contains_any (zs : List (List UInt8)) (g n : Nat) (t : TypeId) (x : ByteArray) (w : World) (hn : n = zs.length) (hb : n ≤ 1000) (hB : Blk w g t (zs.map fun l => .string (str l))) :
    Calls Tryz.prog 124 #[.slice (some ⟨g, 0, none⟩) n n, .string x] w fun e w' => e = .returned (.bool (has zs x)) ∧ w = w' := by
  subst hn
  refine (Tryz.slices_Contains_string g 0 zs.length zs.length (zs.map str) x w (by simp) (by omega) (fun j hj => ?_)).mono ?_
  · rw [List.length_map] at hj
    rw [Nat.zero_add, hB.cell j, List.getElem?_map, List.getElem?_eq_getElem hj, strs_getD zs j hj]
    rfl
  · rintro e w' ⟨rfl, rfl⟩
    refine ⟨?_, rfl⟩
    have : Lib.containsS ((zs.map str).take zs.length) x = has zs x := by
      rw [Bool.eq_iff_iff, Lib.containsS_iff]
      have e1 : (zs.map str).take zs.length = zs.map str := List.take_of_length_le (by simp)
      rw [e1, has, List.contains_iff_mem, List.mem_map]
      constructor
      · rintro ⟨a, ha, rfl⟩; exact ha
      · intro h; exact ⟨_, h, str_of x⟩
    rw [this]

set_option maxHeartbeats 2000000 in
set_option maxRecDepth 100000 in
theorem keyword_any (s : ByteArray) (hs : s.size ≤ 281474976710656) (w : World) (V : Vs w) : Calls Tryz.prog 126 #[.string s] w fun e w' =>
    e = .returned (.bool (isKey s.data.toList)) ∧ Below w.heap.size w w' := by
  have hK := Blk.alloc w 9 (keywords.map fun l => .string (str l))
  have hb := (Below.refl w.heap.size w).alloc (Nat.le_refl _) (.cells (keywords.map fun l => .string (str l)).toArray 9)
  have HT := Lib.hid fun W V => type_any s hs W V
  have HV := Lib.hid V
  have hik : isKey s.data.toList = (tyB s.data.toList || has keywords s) := by unfold isKey tyB has; rw [Bool.or_comm]
  rw [hik]
  clear V hik
  have HK := Lib.hid hK
  have HB := Lib.hid hb
  have hw : (w.alloc (.cells (keywords.map fun l => Value.string (str l)).toArray 9)).heap.size = w.heap.size + 1 := by simp
  have HW := Lib.hid hw
  clear hK hb hw
  obtain ⟨ty1, hty1⟩ : ∃ ty1, ty1 = (typeOf s.data.toList).1 := ⟨_, rfl⟩
  obtain ⟨ty2, hty2⟩ : ∃ ty2, ty2 = (typeOf s.data.toList).2 := ⟨_, rfl⟩
  rcases htb : tyB s.data.toList with _ | _
  all_goals
    go_enter Tryz.func126, Tryz.ntmps126
    go_wp2_with fail
    refine (HT.out _ (HV.out.below HB.out)).mono ?_
    rintro e w1 ⟨rfl, hb1⟩
    rw [htb]
    unfold tyV
    rw [← hty1, ← hty2]
    have hb1' : Below (w.heap.size + 1) (w.alloc (.cells (keywords.map fun l => Value.string (str l)).toArray 9)) w1 := by rw [← HW.out]; exact hb1
    have hK1 := HK.out.below hb1' (by omega)
    have hbb := HB.out.trans (hb1'.mono (by omega))
    have HK1 := Lib.hid hK1
    have HBB := Lib.hid hbb
    have hs1 := hK1.lt
    clear hb1 hb1' hK1 hbb HT HV hty1 hty2
  · have HC := Lib.hid fun W (h : Blk W w.heap.size 9 (keywords.map fun l => .string (str l))) => contains_any keywords w.heap.size 19 9 s W rfl (by omega) h
    go_wp2_with (go_at_call 124; refine (HC.out _ (HK1.out.alloc_other _)).mono ?_; rintro e w' ⟨rfl, rfl⟩)
    go_ret
    exact ⟨by simp, HBB.out.alloc (by omega) _⟩
  · go_wp2
    go_ret
    exact ⟨by simp, HBB.out.alloc (by omega) _⟩
end Go.Proofs.YtfnhogeocbndcaaGreatDoor
/- Words and punctuation: contracts of the code. -/
namespace Go.Proofs.YtfnhogeocbndcaaGreatDoor
open Go Go.RowKit
set_option linter.unusedVariables false

/-- A token's cells. -/
def tk (kind : Nat) (text : ByteArray) (num line pos : Nat) : List Value := [.int .i64 (kind : Int), .string text, .int .u64 (num : Int), .int .i64 (pos : Int), .int .i64 (line : Int)]
def tkZero : List Value := [.int .i64 0, .string ⟨#[]⟩, .int .u64 0, .int .i64 0, .int .i64 0]
/-- What a function returns that reads one token. -/
def tkRet (err kind : Nat) (text : List UInt8) (num : Nat) : Value := .tuple #[.agg (if err = 0 then [.int .i64 (kind : Int), .string (str text), .int .u64 (num : Int), .int .i64 0, .int .i64 0] else tkZero).toArray, .int .i64 (err : Int)]
theorem Blk.z5 {w : World} {g : Nat} {t : TypeId} (h : Blk w g t tkZero) : w.cell? ⟨g, 0, none⟩ = some (.int .i64 0) ∧ w.cell? ⟨g, 1, none⟩ = some (.string ⟨#[]⟩) ∧ w.cell? ⟨g, 2, none⟩ = some (.int .u64 0) ∧ w.cell? ⟨g, 3, none⟩ = some (.int .i64 0) ∧ w.cell? ⟨g, 4, none⟩ = some (.int .i64 0) ∧
    w.frozen? ⟨g, 0, none⟩ = false ∧ w.frozen? ⟨g, 1, none⟩ = false ∧ w.frozen? ⟨g, 2, none⟩ = false ∧ w.frozen? ⟨g, 3, none⟩ = false ∧ w.frozen? ⟨g, 4, none⟩ = false :=
  ⟨h.cell 0, h.cell 1, h.cell 2, h.cell 3, h.cell 4, h.frozen 0, h.frozen 1, h.frozen 2, h.frozen 3, h.frozen 4⟩
/-- Five cells that are stored one after another. -/
def put5 (w : World) (g : Nat) (a b c d e : Value) : World := ((((w.setCell ⟨g, 0, none⟩ a).setCell ⟨g, 1, none⟩ b).setCell ⟨g, 2, none⟩ c).setCell ⟨g, 3, none⟩ d).setCell ⟨g, 4, none⟩ e
theorem Blk.put5 {w : World} {g : Nat} {t : TypeId} {cs : List Value} (h : Blk w g t cs) (hl : cs.length = 5) (a b c d e : Value) : Blk (put5 w g a b c d e) g t [a, b, c, d, e] := by
  have := ((((h.set 0 a).set 1 b).set 2 c).set 3 d).set 4 e
  match cs, hl with
  | [_, _, _, _, _], _ => exact this
theorem below_put5 {B : Nat} {a w : World} (h : Below B a w) {g : Nat} (hg : B ≤ g) (x0 x1 x2 x3 x4 : Value) : Below B a (put5 w g x0 x1 x2 x3 x4) :=
  ((((h.setCell (p := ⟨g, 0, none⟩) hg _).setCell (p := ⟨g, 1, none⟩) hg _).setCell (p := ⟨g, 2, none⟩) hg _).setCell (p := ⟨g, 3, none⟩) hg _).setCell (p := ⟨g, 4, none⟩) hg _
theorem infoTok : (Tryz.prog.info? 53).map (·.size) = some 5 := by kernel_rfl

set_option maxHeartbeats 2000000 in
set_option maxRecDepth 100000 in
theorem word_any (l : List UInt8) (hs : l.length ≤ 281474976710656) (w : World) (V : Vs w) : Calls Tryz.prog 88 #[.string (str l)] w fun e w' =>
    e = .returned (tkRet (if 64 < l.length then 5 else 0) (if isKey l = true then 2 else 1) l 0) ∧ Below w.heap.size w w' := by
  have hK := Blk.alloc w 53 tkZero
  have hb := (Below.refl w.heap.size w).alloc (Nat.le_refl _) (.cells tkZero.toArray 53)
  have hsz : (str l).size = l.length := str_size l
  have HT := Lib.hid fun W V => keyword_any (str l) (by rw [hsz]; exact hs) W V
  rw [str_data] at HT
  have HV := Lib.hid V
  have hw : (w.alloc (.cells tkZero.toArray 53)).heap.size = w.heap.size + 1 := by simp
  have HW := Lib.hid hw
  have HB := Lib.hid hb
  have HK := Lib.hid hK
  clear hK hb hw V
  by_cases h64 : 64 < l.length
  · rw [if_pos h64]
    generalize (if isKey l = true then 2 else 1) = k
    go_enter Tryz.func88, Tryz.ntmps88
    go_wp2
    refine bodyPost_ret ((HK.out.res Tryz.results88 Tryz.underlying53 rfl infoTok _ rfl)) rfl ?_
    exact ⟨rfl, HB.out⟩
  · rw [if_neg h64]
    rcases hik : isKey l with _ | _
    all_goals
      go_enter Tryz.func88, Tryz.ntmps88
      go_wp2_with fail
      refine (HT.out _ (HV.out.below HB.out)).mono ?_
      rintro e w1 ⟨rfl, hb1⟩
      rw [hik]
      have hb1' : Below (w.heap.size + 1) (w.alloc (.cells tkZero.toArray 53)) w1 := by rw [← HW.out]; exact hb1
      have hK1 := HK.out.below hb1' (by omega)
      have hbb := HB.out.trans (hb1'.mono (by omega))
      obtain ⟨c0, c1, c2, c3, c4, f0, f1, f2, f3, f4⟩ := hK1.z5
      have HK1 := Lib.hid hK1
      have HBB := Lib.hid hbb
      clear hb1 hb1' hK1 hbb HT HV
      go_wp2
      refine bodyPost_ret ((HK1.out.put5 rfl _ _ _ _ _).res Tryz.results88 Tryz.underlying53 rfl infoTok _ rfl) rfl ?_
      exact ⟨rfl, below_put5 HBB.out (Nat.le_refl _) _ _ _ _ _⟩

theorem punct_two {l : List UInt8} (h : 1 < l.length ∧ pairs.contains (l.take 2) = true) : punctLen l = 2 := by unfold punctLen; rw [if_pos h]
theorem punct_one {c : UInt8} {r : List UInt8} (h : ¬ (1 < (c :: r).length ∧ pairs.contains ((c :: r).take 2) = true)) : punctLen (c :: r) = if isPunct c = true then 1 else 0 := by unfold punctLen; rw [if_neg h]

set_option maxHeartbeats 2000000 in
set_option maxRecDepth 100000 in
theorem punct_any (c : UInt8) (r : List UInt8) (hs : r.length ≤ 281474976710656) (w : World) : Calls Tryz.prog 86 #[.string (str (c :: r))] w fun e w' =>
    e = .returned (tkRet (if punctLen (c :: r) = 0 then 4 else 0) 4 ((c :: r).take (punctLen (c :: r))) 0) ∧ Below w.heap.size w w' := by
  have hbb := ((Below.refl w.heap.size w).alloc (Nat.le_refl _) (.cells tkZero.toArray 53)).alloc (by simp) (.cells (pairs.map fun l => .string (str l)).toArray 9)
  have hK := (Blk.alloc w 53 tkZero).alloc_other (.cells (pairs.map fun l => .string (str l)).toArray 9)
  have hw : (w.alloc (.cells tkZero.toArray 53)).heap.size = w.heap.size + 1 := by simp
  have hP := Blk.alloc (w.alloc (.cells tkZero.toArray 53)) 9 (pairs.map fun l => .string (str l))
  rw [hw] at hP
  have hsz : (str (c :: r)).size = r.length + 1 := by rw [str_size, List.length_cons]
  have h0 : ∀ h : 0 < (str (c :: r)).size, (str (c :: r))[0]'h = c := fun _ => rfl
  have HC := Lib.hid fun x W (h : Blk W (w.heap.size + 1) 9 (pairs.map fun l => .string (str l))) => contains_any pairs (w.heap.size + 1) 10 9 x W rfl (by omega) h
  have HBB := Lib.hid hbb
  have HK := Lib.hid hK
  have HP := Lib.hid hP
  have hx2 : (str (c :: r)).extract 0 2 = str ((c :: r).take 2) := by rw [extract_head]; rfl
  have hx1 : (str (c :: r)).extract 0 1 = str [c] := by rw [extract_head]; rfl
  have hip : decide (0 ≤ ib punctSet c) = isPunct c := indexByte_punct c
  clear hK hbb hP hw
  by_cases h2 : 1 < (c :: r).length ∧ pairs.contains ((c :: r).take 2) = true
  · rw [punct_two h2]
    have hl : 1 ≤ r.length := by have := h2.1; rw [List.length_cons] at this; omega
    have hh : has pairs (str ((c :: r).take 2)) = true := h2.2
    generalize hT2 : str ((c :: r).take 2) = T2 at *
    have HT2 := Lib.hid hT2
    generalize hS : str (c :: r) = S at *
    clear hS h2 hT2
    go_enter Tryz.func86, Tryz.ntmps86
    go_wp2_with (go_at_call 124; refine Calls.mono (HC.out _ _ ?_) ?_; exact HP.out; rintro e w' ⟨rfl, rfl⟩)
    refine bodyPost_ret (((Blk.alloc w 53 [.int .i64 4, .string _, .int .u64 0, .int .i64 0, .int .i64 0]).alloc_other _).res Tryz.results86 Tryz.underlying53 rfl infoTok _ rfl) rfl ?_
    exact ⟨by rw [← HT2.out]; rfl, ((Below.refl w.heap.size w).alloc (Nat.le_refl _) _).alloc (by simp) _⟩
  · rw [punct_one h2]
    have hh : 1 ≤ r.length → has pairs (str ((c :: r).take 2)) = false := fun h => by
      cases hq : has pairs (str ((c :: r).take 2)) with
      | false => rfl
      | true => exact absurd ⟨by rw [List.length_cons]; omega, hq⟩ h2
    have HT1 : Hid (str ((c :: r).take 1) = str [c]) := rfl
    have HT0 : Hid (str ((c :: r).take 0) = str []) := rfl
    have HI := Lib.hid hip
    clear hip h2
    generalize hT2 : str ((c :: r).take 2) = T2 at *
    clear hT2
    have hset : ib [40, 41, 123, 125, 91, 93, 44, 59, 58, 61, 43, 45, 42, 47, 37, 38, 124, 94, 126, 33, 60, 62, 63, 35] c = ib punctSet c := rfl
    rcases hpc : isPunct c with _ | _
    · have hlt : ib [40, 41, 123, 125, 91, 93, 44, 59, 58, 61, 43, 45, 42, 47, 37, 38, 124, 94, 126, 33, 60, 62, 63, 35] c < 0 := by
        rw [hset]
        have h := HI.out
        rw [hpc] at h
        have := of_decide_eq_false h
        omega
      clear HT1 hset
      by_cases hl : 1 ≤ r.length
      · have hh := hh hl
        generalize hS : str (c :: r) = S at *
        clear hS hpc
        go_enter Tryz.func86, Tryz.ntmps86
        go_wp2_with (first | (go_at_call 124; refine Calls.mono (HC.out _ _ ?_) ?_; exact HP.out; rintro e w' ⟨rfl, rfl⟩) | (go_at_call 83; refine (ib_any _ _ _).mono ?_; rintro e w' ⟨rfl, rfl⟩))
        refine bodyPost_ret (((Blk.alloc w 53 [.int .i64 0, .string _, .int .u64 0, .int .i64 0, .int .i64 0]).alloc_other _).res Tryz.results86 Tryz.underlying53 rfl infoTok _ rfl) rfl ?_
        exact ⟨rfl, ((Below.refl w.heap.size w).alloc (Nat.le_refl _) _).alloc (by simp) _⟩
      · clear hh
        generalize hS : str (c :: r) = S at *
        clear hS hpc
        go_enter Tryz.func86, Tryz.ntmps86
        go_wp2_with (first | (go_at_call 124; refine Calls.mono (HC.out _ _ ?_) ?_; exact HP.out; rintro e w' ⟨rfl, rfl⟩) | (go_at_call 83; refine (ib_any _ _ _).mono ?_; rintro e w' ⟨rfl, rfl⟩))
        refine bodyPost_ret (((Blk.alloc w 53 [.int .i64 0, .string _, .int .u64 0, .int .i64 0, .int .i64 0]).alloc_other _).res Tryz.results86 Tryz.underlying53 rfl infoTok _ rfl) rfl ?_
        exact ⟨rfl, ((Below.refl w.heap.size w).alloc (Nat.le_refl _) _).alloc (by simp) _⟩
    · have hlt : 0 ≤ ib [40, 41, 123, 125, 91, 93, 44, 59, 58, 61, 43, 45, 42, 47, 37, 38, 124, 94, 126, 33, 60, 62, 63, 35] c := by
        rw [hset]
        have h := HI.out
        rw [hpc] at h
        exact of_decide_eq_true h
      clear HT0 hset
      by_cases hl : 1 ≤ r.length
      · have hh := hh hl
        generalize hS : str (c :: r) = S at *
        clear hS hpc
        go_enter Tryz.func86, Tryz.ntmps86
        go_wp2_with (first | (go_at_call 124; refine Calls.mono (HC.out _ _ ?_) ?_; exact HP.out; rintro e w' ⟨rfl, rfl⟩) | (go_at_call 83; refine (ib_any _ _ _).mono ?_; rintro e w' ⟨rfl, rfl⟩))
        refine bodyPost_ret (((Blk.alloc w 53 [.int .i64 4, .string _, .int .u64 0, .int .i64 0, .int .i64 0]).alloc_other _).res Tryz.results86 Tryz.underlying53 rfl infoTok _ rfl) rfl ?_
        exact ⟨rfl, ((Below.refl w.heap.size w).alloc (Nat.le_refl _) _).alloc (by simp) _⟩
      · clear hh
        generalize hS : str (c :: r) = S at *
        clear hS hpc
        go_enter Tryz.func86, Tryz.ntmps86
        go_wp2_with (first | (go_at_call 124; refine Calls.mono (HC.out _ _ ?_) ?_; exact HP.out; rintro e w' ⟨rfl, rfl⟩) | (go_at_call 83; refine (ib_any _ _ _).mono ?_; rintro e w' ⟨rfl, rfl⟩))
        refine bodyPost_ret (((Blk.alloc w 53 [.int .i64 4, .string _, .int .u64 0, .int .i64 0, .int .i64 0]).alloc_other _).res Tryz.results86 Tryz.underlying53 rfl infoTok _ rfl) rfl ?_
        exact ⟨rfl, ((Below.refl w.heap.size w).alloc (Nat.le_refl _) _).alloc (by simp) _⟩
end Go.Proofs.YtfnhogeocbndcaaGreatDoor
