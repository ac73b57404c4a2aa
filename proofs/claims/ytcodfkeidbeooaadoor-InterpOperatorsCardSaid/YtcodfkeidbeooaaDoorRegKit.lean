/- An append of one element inside a region that draws its order. Nothing of the program stands here. -/
import Derived.Test.YtcodfkeidbeooaaDoorSliceKit
import Derived.Deep.RegionHeld3
import Derived.Deep.AppendLies
namespace Go.Proofs.YtcodfkeidbeooaaDoor
open Go.RowKit

theorem step_append_one {P : Program} (w : World) {ops : Array Oper} {o : Oper} {a : Act} {K : Act → World → Prop} {Q : Exit → Act → World → Prop} {E : Prop} (hgd : o.guard = none) (s x : Operand) (t : TypeId)
    (ho : o.op = .call { callee := .builtin .append, args := #[s, x], argTypes := #[t, t] })
    (base : Nat) (e : TypeId) (z : Value) (bytes : Nat) (ht : P.underlying t = some (.slice e)) (hinfo : (P.info? e).map (fun i => (i.zero, i.size, i.bytes)) = some (some z, 1, bytes))
    (hzs : z.cells.size = 1)
    (v : Value) (n : Nat) (xs : List Value) (hs : a.eval s = v) (hown : w.ownsRow base e 1 v n xs)
    (X : Value) (hX : X.oneCell' = true) (hx : a.eval x = .slice (some ⟨w.heap.size, 0, none⟩) 1 1)
    (hn : n < 16777216) (hby : bytes ≤ 64) (hbase : base ≤ w.heap.size)
    (h : ∀ v' w', w'.ownsRow base e 1 v' (n + 1) (xs ++ [X]) → Below base w w' → K (a.put o.dst v') w') :
    if Region.wanted o (yielded ops a.tmps) = true then Oper.wp P o a (w.alloc (.cells #[X] e)).drew K Q else E := by
  obtain ⟨i0, hi, hz0, hz1, hz2⟩ := info_parts hinfo
  refine step_append_lies (w := (w.alloc (.cells #[X] e)).drew) hgd s x t ho base e i0 z 1 bytes ht hi hz0 hz1 hz2 hzs (by decide) v n xs hs ((hown.alloc _).drew)
    ⟨w.heap.size, 0, none⟩ 1 1 [X] hx rfl (World.news_of_block (cs := #[X]) (t := e) (fr := (0, 0)) (heap_alloc_new w _)) ?_ (by decide) ?_ ?_ ?_ (w.heap.size + 1) ?_ ?_
  · intro u hu; simp at hu; subst hu; exact hX
  · unfold maxLen; omega
  · have h1 : (n + 1) * bytes ≤ 16777216 * 64 := Nat.mul_le_mul (by omega) hby
    omega
  · show base ≤ (w.alloc (.cells #[X] e)).heap.size
    simp; omega
  · show (w.alloc (.cells #[X] e)).heap.size = _
    simp
  · intro g cap w' hown' hg _ _
    refine h _ w' hown' ?_
    have h1 : Below base w (w.alloc (.cells #[X] e)).drew := ((Below.refl base w).alloc hbase _).drew
    refine h1.grown hg ?_ ?_
    · show base ≤ (w.alloc (.cells #[X] e)).heap.size
      simp; omega
    · intro k hk
      exact (hown.lt k hk).1
end Go.Proofs.YtcodfkeidbeooaaDoor
