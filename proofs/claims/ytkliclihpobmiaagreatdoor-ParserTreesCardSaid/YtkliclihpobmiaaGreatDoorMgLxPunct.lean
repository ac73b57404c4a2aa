/- Words and punctuation: contracts of the code. -/
import Derived.Test.YtkliclihpobmiaaGreatDoorMgPqLv
namespace Go.Proofs.YtkliclihpobmiaaGreatDoor
open Go Go.RowKit
set_option linter.unusedVariables false

def tk (kind : Nat) (text : ByteArray) (num line pos : Nat) : List Value := [.int .i64 (kind : Int), .string text, .int .u64 (num : Int), .int .i64 (pos : Int), .int .i64 (line : Int)]
def tkZero : List Value := [.int .i64 0, .string ⟨#[]⟩, .int .u64 0, .int .i64 0, .int .i64 0]
def tkRet (err kind : Nat) (text : List UInt8) (num : Nat) : Value := .tuple #[.agg (if err = 0 then [.int .i64 (kind : Int), .string (str text), .int .u64 (num : Int), .int .i64 0, .int .i64 0] else tkZero).toArray, .int .i64 (err : Int)]
theorem Blk.z5 {w : World} {g : Nat} {t : TypeId} (h : Blk w g t tkZero) : w.cell? ⟨g, 0, none⟩ = some (.int .i64 0) ∧ w.cell? ⟨g, 1, none⟩ = some (.string ⟨#[]⟩) ∧ w.cell? ⟨g, 2, none⟩ = some (.int .u64 0) ∧ w.cell? ⟨g, 3, none⟩ = some (.int .i64 0) ∧ w.cell? ⟨g, 4, none⟩ = some (.int .i64 0) ∧
  w.frozen? ⟨g, 0, none⟩ = false ∧ w.frozen? ⟨g, 1, none⟩ = false ∧ w.frozen? ⟨g, 2, none⟩ = false ∧ w.frozen? ⟨g, 3, none⟩ = false ∧ w.frozen? ⟨g, 4, none⟩ = false :=
 ⟨h.cell 0, h.cell 1, h.cell 2, h.cell 3, h.cell 4, h.frozen 0, h.frozen 1, h.frozen 2, h.frozen 3, h.frozen 4⟩
def put5 (w : World) (g : Nat) (a b c d e : Value) : World := ((((w.setCell ⟨g, 0, none⟩ a).setCell ⟨g, 1, none⟩ b).setCell ⟨g, 2, none⟩ c).setCell ⟨g, 3, none⟩ d).setCell ⟨g, 4, none⟩ e
theorem Blk.put5 {w : World} {g : Nat} {t : TypeId} {cs : List Value} (h : Blk w g t cs) (hl : cs.length = 5) (a b c d e : Value) : Blk (put5 w g a b c d e) g t [a, b, c, d, e] := by
 have := ((((h.set 0 a).set 1 b).set 2 c).set 3 d).set 4 e
 match cs, hl with
 | [_, _, _, _, _], _ => exact this
theorem below_put5 {B : Nat} {a w : World} (h : Below B a w) {g : Nat} (hg : B ≤ g) (x0 x1 x2 x3 x4 : Value) : Below B a (put5 w g x0 x1 x2 x3 x4) :=
 ((((h.setCell (p := ⟨g, 0, none⟩) hg _).setCell (p := ⟨g, 1, none⟩) hg _).setCell (p := ⟨g, 2, none⟩) hg _).setCell (p := ⟨g, 3, none⟩) hg _).setCell (p := ⟨g, 4, none⟩) hg _
theorem infoTok : (Tryz.prog.info? 53).map (·.size) = some 5 := by kernel_rfl

set_option maxHeartbeats 2000000 in
set_option maxRecDepth 100000 in
theorem word_any (l : List UInt8) (hs : l.length ≤ 281474976710656) (w : World) (V : Vs w) : Calls Tryz.prog 88 #[.string (str l)] w fun e w' =>
  e = .returned (tkRet (if 64 < l.length then 5 else 0) (if isKey l = true then 2 else 1) l 0) ∧ Below w.heap.size w w' := by
 have hK := Blk.alloc w 53 tkZero
 have hb := (Below.refl w.heap.size w).alloc (Nat.le_refl _) (.cells tkZero.toArray 53)
 have hsz : (str l).size = l.length := str_size l
 have HT := Hd fun W V => keyword_any (str l) (by rw [hsz]; exact hs) W V
 rw [str_data] at HT
 have HV := Hd V
 have hw : (w.alloc (.cells tkZero.toArray 53)).heap.size = w.heap.size + 1 := by simp
 have HW := Hd hw
 have HB := Hd hb
 have HK := Hd hK
 clear hK hb hw V
 by_cases h64 : 64 < l.length
 ·rw [if_pos h64]
  generalize (if isKey l = true then 2 else 1) = k
  go_enter Tryz.func88, Tryz.ntmps88
  go_wp2
  refine bodyPost_ret ((HK.out.res Tryz.results88 Tryz.underlying53 rfl infoTok _ rfl)) rfl ?_
  exact ⟨rfl, HB.out⟩
 ·rw [if_neg h64]
  rcases hik : isKey l with _ | _
  all_goals
   go_enter Tryz.func88, Tryz.ntmps88
   go_wp2_with fail
   refine (HT.out _ (HV.out.below HB.out)).mono ?_
   rintro e w1 ⟨rfl, hb1⟩
   rw [hik]
   have hb1' : Below (w.heap.size + 1) (w.alloc (.cells tkZero.toArray 53)) w1 := by rw [← HW.out]; exact hb1
   have hK1 := HK.out.below hb1' (by omega)
   have hbb := HB.out.trans (hb1'.mono (by omega))
   obtain ⟨c0, c1, c2, c3, c4, f0, f1, f2, f3, f4⟩ := hK1.z5
   have HK1 := Hd hK1
   have HBB := Hd hbb
   clear hb1 hb1' hK1 hbb HT HV
   go_wp2
   refine bodyPost_ret ((HK1.out.put5 rfl _ _ _ _ _).res Tryz.results88 Tryz.underlying53 rfl infoTok _ rfl) rfl ?_
   exact ⟨rfl, below_put5 HBB.out (Nat.le_refl _) _ _ _ _ _⟩

theorem punct_two {l : List UInt8} (h : 1 < l.length ∧ pairs.contains (l.take 2) = true) : punctLen l = 2 := by unfold punctLen; rw [if_pos h]
theorem punct_one {c : UInt8} {r : List UInt8} (h : ¬ (1 < (c :: r).length ∧ pairs.contains ((c :: r).take 2) = true)) : punctLen (c :: r) = if isPunct c = true then 1 else 0 := by unfold punctLen; rw [if_neg h]

set_option maxHeartbeats 2000000 in
set_option maxRecDepth 100000 in
theorem punct_any (c : UInt8) (r : List UInt8) (hs : r.length ≤ 281474976710656) (w : World) : Calls Tryz.prog 86 #[.string (str (c :: r))] w fun e w' =>
  e = .returned (tkRet (if punctLen (c :: r) = 0 then 4 else 0) 4 ((c :: r).take (punctLen (c :: r))) 0) ∧ Below w.heap.size w w' := by
 have hbb := ((Below.refl w.heap.size w).alloc (Nat.le_refl _) (.cells tkZero.toArray 53)).alloc (by simp) (.cells (pairs.map fun l => .string (str l)).toArray 9)
 have hK := (Blk.alloc w 53 tkZero).alloc_other (.cells (pairs.map fun l => .string (str l)).toArray 9)
 have hw : (w.alloc (.cells tkZero.toArray 53)).heap.size = w.heap.size + 1 := by simp
 have hP := Blk.alloc (w.alloc (.cells tkZero.toArray 53)) 9 (pairs.map fun l => .string (str l))
 rw [hw] at hP
 have hsz : (str (c :: r)).size = r.length + 1 := by rw [str_size, List.length_cons]
 have h0 : ∀ h : 0 < (str (c :: r)).size, (str (c :: r))[0]'h = c := fun _ => rfl
 have HC := Hd fun x W (h : Blk W (w.heap.size + 1) 9 (pairs.map fun l => .string (str l))) => contains_any pairs (w.heap.size + 1) 10 9 x W rfl (by omega) h
 have HBB := Hd hbb
 have HK := Hd hK
 have HP := Hd hP
 have hx2 : (str (c :: r)).extract 0 2 = str ((c :: r).take 2) := by rw [extract_head]; rfl
 have hx1 : (str (c :: r)).extract 0 1 = str [c] := by rw [extract_head]; rfl
 have hip : decide (0 ≤ ib punctSet c) = isPunct c := indexByte_punct c
 clear hK hbb hP hw
 by_cases h2 : 1 < (c :: r).length ∧ pairs.contains ((c :: r).take 2) = true
 ·rw [punct_two h2]
  have hl : 1 ≤ r.length := by have := h2.1; rw [List.length_cons] at this; omega
  have hh : has pairs (str ((c :: r).take 2)) = true := h2.2
  generalize hT2 : str ((c :: r).take 2) = T2 at *
  have HT2 := Hd hT2
  generalize hS : str (c :: r) = S at *
  clear hS h2 hT2
  go_enter Tryz.func86, Tryz.ntmps86
  go_wp2_with (go_at_call 124; refine Calls.mono (HC.out _ _ ?_) ?_; exact HP.out; rintro e w' ⟨rfl, rfl⟩)
  refine bodyPost_ret (((Blk.alloc w 53 [.int .i64 4, .string _, .int .u64 0, .int .i64 0, .int .i64 0]).alloc_other _).res Tryz.results86 Tryz.underlying53 rfl infoTok _ rfl) rfl ?_
  exact ⟨by rw [← HT2.out]; rfl, ((Below.refl w.heap.size w).alloc (Nat.le_refl _) _).alloc (by simp) _⟩
 ·rw [punct_one h2]
  have hh : 1 ≤ r.length → has pairs (str ((c :: r).take 2)) = false := fun h => by
   cases hq : has pairs (str ((c :: r).take 2)) with
   | false => rfl
   | true => exact absurd ⟨by rw [List.length_cons]; omega, hq⟩ h2
  have HT1 : Hid (str ((c :: r).take 1) = str [c]) := rfl
  have HT0 : Hid (str ((c :: r).take 0) = str []) := rfl
  have HI := Hd hip
  clear hip h2
  generalize hT2 : str ((c :: r).take 2) = T2 at *
  clear hT2
  have hset : ib [40, 41, 123, 125, 91, 93, 44, 59, 58, 61, 43, 45, 42, 47, 37, 38, 124, 94, 126, 33, 60, 62, 63, 35] c = ib punctSet c := rfl
  rcases hpc : isPunct c with _ | _
  ·have hlt : ib [40, 41, 123, 125, 91, 93, 44, 59, 58, 61, 43, 45, 42, 47, 37, 38, 124, 94, 126, 33, 60, 62, 63, 35] c < 0 := by
    rw [hset]
    have h := HI.out
    rw [hpc] at h
    have := of_decide_eq_false h
    omega
   clear HT1 hset
   by_cases hl : 1 ≤ r.length
   ·have hh := hh hl
    generalize hS : str (c :: r) = S at *
    clear hS hpc
    go_enter Tryz.func86, Tryz.ntmps86
    go_wp2_with (first | (go_at_call 124; refine Calls.mono (HC.out _ _ ?_) ?_; exact HP.out; rintro e w' ⟨rfl, rfl⟩) | (go_at_call 83; refine (ib_any _ _ _).mono ?_; rintro e w' ⟨rfl, rfl⟩))
    refine bodyPost_ret (((Blk.alloc w 53 [.int .i64 0, .string _, .int .u64 0, .int .i64 0, .int .i64 0]).alloc_other _).res Tryz.results86 Tryz.underlying53 rfl infoTok _ rfl) rfl ?_
    exact ⟨rfl, ((Below.refl w.heap.size w).alloc (Nat.le_refl _) _).alloc (by simp) _⟩
   ·clear hh
    generalize hS : str (c :: r) = S at *
    clear hS hpc
    go_enter Tryz.func86, Tryz.ntmps86
    go_wp2_with (first | (go_at_call 124; refine Calls.mono (HC.out _ _ ?_) ?_; exact HP.out; rintro e w' ⟨rfl, rfl⟩) | (go_at_call 83; refine (ib_any _ _ _).mono ?_; rintro e w' ⟨rfl, rfl⟩))
    refine bodyPost_ret (((Blk.alloc w 53 [.int .i64 0, .string _, .int .u64 0, .int .i64 0, .int .i64 0]).alloc_other _).res Tryz.results86 Tryz.underlying53 rfl infoTok _ rfl) rfl ?_
    exact ⟨rfl, ((Below.refl w.heap.size w).alloc (Nat.le_refl _) _).alloc (by simp) _⟩
  ·have hlt : 0 ≤ ib [40, 41, 123, 125, 91, 93, 44, 59, 58, 61, 43, 45, 42, 47, 37, 38, 124, 94, 126, 33, 60, 62, 63, 35] c := by
    rw [hset]
    have h := HI.out
    rw [hpc] at h
    exact of_decide_eq_true h
   clear HT0 hset
   by_cases hl : 1 ≤ r.length
   ·have hh := hh hl
    generalize hS : str (c :: r) = S at *
    clear hS hpc
    go_enter Tryz.func86, Tryz.ntmps86
    go_wp2_with (first | (go_at_call 124; refine Calls.mono (HC.out _ _ ?_) ?_; exact HP.out; rintro e w' ⟨rfl, rfl⟩) | (go_at_call 83; refine (ib_any _ _ _).mono ?_; rintro e w' ⟨rfl, rfl⟩))
    refine bodyPost_ret (((Blk.alloc w 53 [.int .i64 4, .string _, .int .u64 0, .int .i64 0, .int .i64 0]).alloc_other _).res Tryz.results86 Tryz.underlying53 rfl infoTok _ rfl) rfl ?_
    exact ⟨rfl, ((Below.refl w.heap.size w).alloc (Nat.le_refl _) _).alloc (by simp) _⟩
   ·clear hh
    generalize hS : str (c :: r) = S at *
    clear hS hpc
    go_enter Tryz.func86, Tryz.ntmps86
    go_wp2_with (first | (go_at_call 124; refine Calls.mono (HC.out _ _ ?_) ?_; exact HP.out; rintro e w' ⟨rfl, rfl⟩) | (go_at_call 83; refine (ib_any _ _ _).mono ?_; rintro e w' ⟨rfl, rfl⟩))
    refine bodyPost_ret (((Blk.alloc w 53 [.int .i64 4, .string _, .int .u64 0, .int .i64 0, .int .i64 0]).alloc_other _).res Tryz.results86 Tryz.underlying53 rfl infoTok _ rfl) rfl ?_
    exact ⟨rfl, ((Below.refl w.heap.size w).alloc (Nat.le_refl _) _).alloc (by simp) _⟩
end Go.Proofs.YtkliclihpobmiaaGreatDoor
