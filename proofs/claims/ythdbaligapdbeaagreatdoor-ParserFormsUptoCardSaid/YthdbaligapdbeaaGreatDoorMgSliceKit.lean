/- Strings as lists of bytes. Nothing of the program stands here. -/
import Derived.Test.YthdbaligapdbeaaGreatDoorMgPsMath
import Derived.Test.YthdbaligapdbeaaGreatDoorMgLawKit
import Derived.WalkSpells
import Derived.Lib.IndexBytes
import Derived.Laws.StructEq
import Derived.Laws.ResultCell
import Derived.WalkKit
import Derived.OwnWalk
import Derived.Below
namespace Go.Proofs.YthdbaligapdbeaaGreatDoor
open Go Go.RowKit
set_option linter.unusedVariables false

theorem str_eq (a b : ByteArray) : (a.toList == b.toList) = decide (a = b) := by
 rw [← beq_toListBytes, Bool.eq_iff_iff, decide_eq_true_iff]
 cases a with
 | mk a =>
  cases b with
  | mk b =>
   rw [ByteArray.mk.injEq]
   show (a == b) = true ↔ a = b
   simp
theorem bytes_ext {a b : ByteArray} (h : a.data.toList = b.data.toList) : a = b := by
 cases a with
 | mk a =>
  cases b with
  | mk b =>
   rw [ByteArray.mk.injEq]
   exact Array.toList_inj.1 h
def str (l : List UInt8) : ByteArray := ⟨l.toArray⟩
theorem str_data (l : List UInt8) : (str l).data.toList = l := rfl
theorem str_size (l : List UInt8) : (str l).size = l.length := by rw [Lib.size_eq]; rfl
theorem str_of (s : ByteArray) : str s.data.toList = s := bytes_ext rfl
theorem str_toList (l : List UInt8) : (str l).toList = l := by rw [Lib.toList_data]; rfl
theorem str_inj {a b : List UInt8} (h : str a = str b) : a = b := by
 have := congrArg (fun s : ByteArray => s.data.toList) h
 exact this
theorem extract_head (s : ByteArray) (k : Nat) : s.extract 0 k = str (s.data.toList.take k) := by
 refine bytes_ext ?_
 rw [Lib.extract_data, str_data, List.drop_zero, Nat.sub_zero]
theorem extract_tail (s : ByteArray) (a : Nat) : s.extract a s.size = str (s.data.toList.drop a) := by
 refine bytes_ext ?_
 rw [Lib.extract_to_end, str_data]
theorem extract_mid (s : ByteArray) (a b : Nat) : s.extract a b = str ((s.data.toList.drop a).take (b - a)) := by
 refine bytes_ext ?_
 rw [Lib.extract_data, str_data]
theorem byte_back (b : UInt8) : ((b.toNat : Nat) : Int).toNat.toUInt8 = b := by simp
theorem takeWhile_len (p : UInt8 → Bool) (l : List UInt8) : (l.dropWhile p).length + (l.takeWhile p).length = l.length := by
 have := congrArg List.length (List.takeWhile_append_dropWhile (p := p) (l := l))
 rw [List.length_append] at this
 omega
theorem take_takeWhile (p : UInt8 → Bool) (l : List UInt8) : l.take (l.takeWhile p).length = l.takeWhile p :=
 (List.prefix_iff_eq_take.1 (List.takeWhile_prefix (p := p) (l := l))).symm
theorem ret_int {k : IntKind} {a b : Int} (h : a = b) : Ending.returned (.int k a) = .returned (.int k b) := by rw [h]
theorem ret_s {a b : ByteArray} (h : a = b) : Ending.returned (.string a) = .returned (.string b) := by rw [h]

end Go.Proofs.YthdbaligapdbeaaGreatDoor
/- A block of cells that a call has made: what it holds, what is stored into it, and a result that is read out of it. -/
namespace Go.Proofs.YthdbaligapdbeaaGreatDoor
open Go Go.RowKit

def Blk (w : World) (g : Nat) (t : TypeId) (cs : List Value) : Prop := w.heap[g]? = some (.cells cs.toArray t (0, 0))
theorem Blk.lt {w : World} {g : Nat} {t : TypeId} {cs : List Value} (h : Blk w g t cs) : g < w.heap.size := (Array.getElem?_eq_some_iff.1 h).1
theorem Blk.cell {w : World} {g : Nat} {t : TypeId} {cs : List Value} (h : Blk w g t cs) (i : Nat) : w.cell? ⟨g, i, none⟩ = cs[i]? := by
 have h' : w.heap[g]? = some (.cells cs.toArray t (0, 0)) := h
 simp [World.cell?, h']
theorem Blk.frozen {w : World} {g : Nat} {t : TypeId} {cs : List Value} (h : Blk w g t cs) (i : Nat) : w.frozen? ⟨g, i, none⟩ = false := by
 have h' : w.heap[g]? = some (.cells cs.toArray t (0, 0)) := h
 simp [World.frozen?, h']
theorem Blk.alloc (w : World) (t : TypeId) (cs : List Value) : Blk (w.alloc (.cells cs.toArray t)) w.heap.size t cs := heap_alloc_new _ _
theorem Blk.below {w w1 : World} {g B : Nat} {t : TypeId} {cs : List Value} (h : Blk w g t cs) (hb : Below B w w1) (hg : g < B) : Blk w1 g t cs := (hb.block g hg).trans h
theorem Blk.set {w : World} {g : Nat} {t : TypeId} {cs : List Value} (h : Blk w g t cs) (i : Nat) (v : Value) : Blk (w.setCell ⟨g, i, none⟩ v) g t (cs.set i v) := by
 unfold Blk
 rw [heap_setCell_same w g i cs.toArray t v h]
 simp
theorem Blk.set_other {w : World} {g : Nat} {t : TypeId} {cs : List Value} (h : Blk w g t cs) {a : Addr} (ha : g ≠ a.block) (v : Value) : Blk (w.setCell a v) g t cs := by
 unfold Blk
 rw [heap_setCell_other w a g v ha]
 exact h
theorem Blk.alloc_other {w : World} {g : Nat} {t : TypeId} {cs : List Value} (h : Blk w g t cs) (o : Obj) : Blk (w.alloc o) g t cs := by
 unfold Blk
 rw [Below.heap_alloc w o g h.lt]
 exact h
theorem Blk.drew {w : World} {g : Nat} {t : TypeId} {cs : List Value} (h : Blk w g t cs) : Blk w.drew g t cs := h

theorem Blk.res {P : Program} {fn : Func} {p u : Tmp} {ty : TypeId} (hr : fn.results = #[.cell p ty, .tmp u]) {w : World} {g : Nat} {cs : List Value} {d : TypeDesc} (h : Blk w g ty cs)
  (hu : P.underlying ty = some d) (hd : (match d with | .struct _ | .array _ _ => true | _ => false) = true) (hi : (P.info? ty).map (·.size) = some cs.length)
  (tmps : Array Value) (hp : tmps.getD p undef = .pointer (some ⟨g, 0, none⟩)) :
  (results fn tmps).run P w = .ok (.tuple #[.agg cs.toArray, tmps.getD u undef]) w := by
 rw [results_cell_tmp hr, hp]
 simp [asAddr, Result.andThen, run_loadVar_row w g ty ty cs.toArray (0, 0) d h hu hd (by simpa using hi)]
end Go.Proofs.YthdbaligapdbeaaGreatDoor
/- Slices that the code makes by appending one element at a time: the law of one append, and what is read out of such a slice. Nothing of the program stands here. -/
namespace Go.Proofs.YthdbaligapdbeaaGreatDoor
open Go.RowKit

theorem own_below {w w' : World} {base B : Nat} {e : TypeId} {size : Nat} {v : Value} {n : Nat} {xs : List Value} (h : w.ownsRow base e size v n xs) (hb : Below B w w') (hB : w.heap.size ≤ B) : w'.ownsRow base e size v n xs := by
 refine ⟨h.1, ?_⟩
 rcases h.2 with hn | ⟨g, cap, cur, hv, hg, hh, r⟩
 ·exact .inl hn
 ·exact .inr ⟨g, cap, cur, hv, hg, by rw [hb.block g (by have := (Array.getElem?_eq_some_iff.1 hh).1; omega)]; exact hh, r⟩
theorem own_mono {w : World} {base base' : Nat} {e : TypeId} {size : Nat} {v : Value} {n : Nat} {xs : List Value} (h : w.ownsRow base e size v n xs) (hb : base' ≤ base) : w.ownsRow base' e size v n xs := by
 refine ⟨h.1, ?_⟩
 rcases h.2 with hn | ⟨g, cap, cur, hv, hg, r⟩
 ·exact .inl hn
 ·exact .inr ⟨g, cap, cur, hv, by omega, r⟩
end Go.Proofs.YthdbaligapdbeaaGreatDoor
