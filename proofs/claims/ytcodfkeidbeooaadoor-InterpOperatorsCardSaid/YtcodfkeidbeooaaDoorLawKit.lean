/- Small lemmas that open an argument: a word is a natural number below 2 to the 64; an array of integers by value is written out. -/
import Derived.Test.YtcodfkeidbeooaaDoorRows
import Derived.WalkKit
import Derived.ProofKit
import Derived.OpenShut
import Derived.ShutString
import Derived.ChangeOld
import Derived.Below
import Derived.Lib.Hide
namespace Go.Proofs.YtcodfkeidbeooaaDoor
open Go.ChangeShapes Go.WideShapes Go.ChangeAt Go.RowKit

theorem own : ownKnob Tryd.prog.godebug = none := by kernel_rfl
theorem laidOut : laidOutB Tryd.prog = true := by kernel_rfl

theorem nat_u64 {a : Int} (h : (Lit.int .u64 a).wf = true) : ∃ x : Nat, a = (x : Int) ∧ x < 18446744073709551616 := by
  have := bounds_u64 h
  exact ⟨a.toNat, by omega, by omega⟩

theorem ints_of_cells {k : IntKind} : ∀ cs : List Value, (∀ i, i < cs.length → ∃ a, cs[i]? = some (.int k a) ∧ (Lit.int k a).wf = true) →
    ∃ xs : List Int, cs = xs.map (Value.int k) ∧ ∀ x ∈ xs, (Lit.int k x).wf = true := by
  intro cs
  induction cs with
  | nil => intro _; exact ⟨[], rfl, by simp⟩
  | cons c cs ih =>
    intro h
    obtain ⟨a, ha, wa⟩ := h 0 (by simp)
    obtain ⟨xs, hx, wx⟩ := ih fun i hi => by
      have := h (i + 1) (by simp; omega)
      simpa using this
    refine ⟨a :: xs, ?_, ?_⟩
    · simp at ha
      rw [ha, hx]
      rfl
    · intro x hx
      rcases List.mem_cons.1 hx with rfl | hx
      · exact wa
      · exact wx x hx

/-- An array of integers by value: the value written out. -/
theorem open_int_arr {H : Type} {enc : TypeId × Value → H} {P : Program} {w : World} {base : Nat} {spare : Nat → Bool} {held : Bool} {r : Reach} {b0 : Nat} {t e : TypeId} {n : Nat} {k : IntKind} {v : Value} {d : DataW H} {p : List MemPlace}
    (ht : P.underlying t = some (.array n e)) (he : P.underlying e = some (.int k)) (hce : P.cellsOf e = 1) (hct : P.cellsOf t = n) (hv : Value.okWide P w r b0 t v) (h : DataW.Trod enc P w base spare held t v d p) :
    ∃ xs : List Int, v = .agg (xs.map (Value.int k)).toArray ∧ xs.length = n ∧ ∀ x ∈ xs, (Lit.int k x).wf = true := by
  simp only [Value.okWide, ht] at hv
  obtain ⟨cs, rfl, hsz, _⟩ := hv
  obtain ⟨fuel, hf⟩ := h
  obtain ⟨ys, m, _, _, _, hl, hg⟩ := DataW.trod_array ht hf
  have hlen : cs.toList.length = n := by simpa [hct] using hsz
  obtain ⟨xs, hx, wx⟩ := ints_of_cells (k := k) cs.toList fun i hi => by
    have h1 := hg i (by omega)
    have h2 : ys[i]? = some ys[i] := List.getElem?_eq_getElem (by omega)
    rw [h2, hce] at h1
    obtain ⟨a, e0, _, wa⟩ := DataW.trod_int he h1
    refine ⟨a, ?_, wa⟩
    have e1 : ((cs.toList.drop i).take 1)[0]? = some (.int k a) := by
      have e2 : (Value.agg cs).cells.toList = cs.toList := rfl
      rw [e2] at e0
      rw [show i * 1 = i from by omega] at e0
      rw [e0]; rfl
    simpa [List.getElem?_take] using e1
  refine ⟨xs, ?_, ?_, wx⟩
  · rw [← hx]
  · rw [hx] at hlen; simpa using hlen
theorem list2 {α : Type} {l : List α} (h : l.length = 2) : ∃ a b, l = [a, b] := by
  match l, h with
  | [a, b], _ => exact ⟨a, b, rfl⟩
theorem list3 {α : Type} {l : List α} (h : l.length = 3) : ∃ a b c, l = [a, b, c] := by
  match l, h with
  | [a, b, c], _ => exact ⟨a, b, c, rfl⟩
end Go.Proofs.YtcodfkeidbeooaaDoor
