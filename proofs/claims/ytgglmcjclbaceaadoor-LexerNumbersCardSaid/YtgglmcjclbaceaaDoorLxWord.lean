/- Keywords, words and punctuation: contracts of the code. -/
import Derived.Test.YtgglmcjclbaceaaDoorLxType
namespace Go.Proofs.YtgglmcjclbaceaaDoor
open Go Go.RowKit
set_option linter.unusedVariables false

/-- Is the string one of a list? -/
def has (zs : List (List UInt8)) (x : ByteArray) : Bool := zs.contains x.data.toList
theorem strs_getD (zs : List (List UInt8)) (j : Nat) (h : j < zs.length) : (zs.map str).getD j ByteArray.empty = str zs[j] := by
  rw [List.getD, List.getElem?_map, List.getElem?_eq_getElem h]
  rfl
theorem contains_any (zs : List (List UInt8)) (g n : Nat) (t : TypeId) (x : ByteArray) (w : World) (hn : n = zs.length) (hb : n ≤ 1000) (hB : Blk w g t (zs.map fun l => .string (str l))) :
    Calls Tryd.prog 39 #[.slice (some ⟨g, 0, none⟩) n n, .string x] w fun e w' => e = .returned (.bool (has zs x)) ∧ w = w' := by
  subst hn
  refine (Tryd.slices_Contains_string g 0 zs.length zs.length (zs.map str) x w (by simp) (by omega) (fun j hj => ?_)).mono ?_
  · rw [List.length_map] at hj
    rw [Nat.zero_add, hB.cell j, List.getElem?_map, List.getElem?_eq_getElem hj, strs_getD zs j hj]
    rfl
  · rintro e w' ⟨rfl, rfl⟩
    refine ⟨?_, rfl⟩
    have : Lib.containsS ((zs.map str).take zs.length) x = has zs x := by
      rw [Bool.eq_iff_iff, Lib.containsS_iff]
      have e1 : (zs.map str).take zs.length = zs.map str := List.take_of_length_le (by simp)
      rw [e1, has, List.contains_iff_mem, List.mem_map]
      constructor
      · rintro ⟨a, ha, rfl⟩; exact ha
      · intro h; exact ⟨_, h, str_of x⟩
    rw [this]

set_option maxHeartbeats 2000000 in
set_option maxRecDepth 100000 in
theorem keyword_any (s : ByteArray) (hs : s.size ≤ 281474976710656) (w : World) (V : Vs w) : Calls Tryd.prog 21 #[.string s] w fun e w' =>
    e = .returned (.bool (isKey s.data.toList)) ∧ Below w.heap.size w w' := by
  have hK := Blk.alloc w 9 (keywords.map fun l => .string (str l))
  have hb := (Below.refl w.heap.size w).alloc (Nat.le_refl _) (.cells (keywords.map fun l => .string (str l)).toArray 9)
  have HT := Lib.hid fun W V => type_any s hs W V
  have HV := Lib.hid V
  have hik : isKey s.data.toList = (tyB s.data.toList || has keywords s) := by unfold isKey tyB has; rw [Bool.or_comm]
  rw [hik]
  clear V hik
  have HK := Lib.hid hK
  have HB := Lib.hid hb
  have hw : (w.alloc (.cells (keywords.map fun l => Value.string (str l)).toArray 9)).heap.size = w.heap.size + 1 := by simp
  have HW := Lib.hid hw
  clear hK hb hw
  obtain ⟨ty1, hty1⟩ : ∃ ty1, ty1 = (typeOf s.data.toList).1 := ⟨_, rfl⟩
  obtain ⟨ty2, hty2⟩ : ∃ ty2, ty2 = (typeOf s.data.toList).2 := ⟨_, rfl⟩
  rcases htb : tyB s.data.toList with _ | _
  all_goals
    go_enter Tryd.func21, Tryd.ntmps21
    go_wp2_with fail
    refine (HT.out _ (HV.out.below HB.out)).mono ?_
    rintro e w1 ⟨rfl, hb1⟩
    rw [htb]
    unfold tyV
    rw [← hty1, ← hty2]
    have hb1' : Below (w.heap.size + 1) (w.alloc (.cells (keywords.map fun l => Value.string (str l)).toArray 9)) w1 := by rw [← HW.out]; exact hb1
    have hK1 := HK.out.below hb1' (by omega)
    have hbb := HB.out.trans (hb1'.mono (by omega))
    have HK1 := Lib.hid hK1
    have HBB := Lib.hid hbb
    have hs1 := hK1.lt
    clear hb1 hb1' hK1 hbb HT HV hty1 hty2
  · have HC := Lib.hid fun W (h : Blk W w.heap.size 9 (keywords.map fun l => .string (str l))) => contains_any keywords w.heap.size 19 9 s W rfl (by omega) h
    go_wp2_with (go_at_call 39; refine (HC.out _ (HK1.out.alloc_other _)).mono ?_; rintro e w' ⟨rfl, rfl⟩)
    go_ret
    exact ⟨by simp, HBB.out.alloc (by omega) _⟩
  · go_wp2
    go_ret
    exact ⟨by simp, HBB.out.alloc (by omega) _⟩
end Go.Proofs.YtgglmcjclbaceaaDoor
