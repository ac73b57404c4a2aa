/- The library's Repeat at a list of one number: contract. -/
import Derived.Test.YtaiddgndjiaoaaaGTopo
import Derived.Laws.CopyOwn
namespace Go.Proofs.Ytaiddgndjiaoaaa
open Go.RowKit
set_option linter.unusedVariables false

def repL (n k : Nat) : List Value := List.replicate k (.int .i64 (-1)) ++ List.replicate (n - k) (.int .i64 0)
theorem repL_length {n k : Nat} (h : k ≤ n) : (repL n k).length = n := by simp [repL]; omega
theorem repL_splice {n k m : Nat} (h : k + m ≤ n) : splice (repL n k) k (List.replicate m (Value.int .i64 (-1))) = repL n (k + m) := by
  unfold splice repL
  generalize Value.int .i64 (-1) = A
  generalize Value.int .i64 0 = Z
  have e1 : (List.replicate k A ++ List.replicate (n - k) Z).take k = List.replicate k A := by
    rw [List.take_append_of_le_length (by simp)]; simp
  have e2 : (List.replicate k A ++ List.replicate (n - k) Z).drop (k + (List.replicate m A).length) = List.replicate (n - (k + m)) Z := by
    rw [List.length_replicate, List.drop_append]
    simp
    omega
  rw [e1, e2, ← List.append_assoc, List.replicate_append_replicate]
theorem repL_get {n k j : Nat} (hj : j < k) : (repL n k)[j]? = some (.int .i64 (-1)) := by
  unfold repL
  rw [List.getElem?_append_left (by simpa using hj)]
  simp [hj]
theorem madeCells_one (n : Nat) : madeCells #[Value.int .i64 0] n = (List.replicate n (Value.int .i64 0)).toArray := by
  apply Array.ext
  · simp [madeCells]
  · intro i h1 h2
    simp [madeCells, Nat.mod_one]
theorem infoNumSize : (Try.prog.info? 3).map (·.size) = some 1 := by kernel_rfl

set_option maxHeartbeats 1000000 in
set_option maxRecDepth 100000 in
theorem repeat_any (g n : Nat) (hn : n ≤ 20000) (w : World) (hg : g < w.heap.size) (hc : w.cell? ⟨g, 0, none⟩ = some (.int .i64 (-1))) :
    Calls Try.prog 32 #[.slice (some ⟨g, 0, none⟩) 1 1, .int .i64 (n : Int)] w fun e w' => ∃ Br : Nat, e = .returned (.slice (some ⟨Br, 0, none⟩) n n) ∧ w.heap.size ≤ Br ∧ w'.rowIs Br 3 n (fun _ => .int .i64 (-1)) ∧ Below w.heap.size w w' := by
  have hmk := fun W => run_make_row' (P := Try.prog) 31 3 (.int .i64 0) 8 Try.underlying31 infoNum rfl .i64 .i64 n (by omega) (by omega) W
  go_enter Try.func32, Try.ntmps32
  have hmul : Calls Try.prog 47 #[.int .u64 1, .int .u64 (n : Int)] w fun e w' => e = .returned (.tuple #[.int .u64 0, .int .u64 (n : Int)]) ∧ w' = w := by
    have h := Try.bits_Mul 1 n (by omega) (by omega) w
    have e1 : 1 * n / 18446744073709551616 = 0 := by omega
    have e2 : 1 * n % 18446744073709551616 = n := by omega
    rw [e1, e2] at h
    exact h
  go_wp2_with fail
  refine hmul.mono ?_
  rintro e w1 ⟨rfl, hw1⟩
  subst hw1
  have hblk : (w1.alloc (.cells (madeCells #[.int .i64 0] n) 3)).heap[w1.heap.size]? = some (.cells (repL n 0).toArray 3 (0, 0)) := by
    rw [heap_alloc_new]
    congr 2
    simp [repL, madeCells_one]
  have hb0 : Below w1.heap.size w1 (w1.alloc (.cells (madeCells #[.int .i64 0] n) 3)) := (Below.refl _ _).alloc (Nat.le_refl _) _
  have hsrc : ∀ j v, (List.replicate (min 1 n) (Value.int .i64 (-1)))[j]? = some v → (w1.alloc (.cells (madeCells #[.int .i64 0] n) 3)).cell? ((⟨g, 0, none⟩ : Addr).add j) = some v := by
    intro j v hj
    have hj1 : j < min 1 n := by have := (List.getElem?_eq_some_iff.1 hj).1; simpa using this
    obtain rfl : j = 0 := by omega
    rw [Go.WideShapes.add_plain, hb0.cell (by exact hg), hc]
    rw [List.getElem?_replicate, if_pos hj1] at hj
    exact hj
  have HSRC := Lib.hid hsrc
  have HBLK := Lib.hid hblk
  clear hblk hsrc hmul hc
  go_wp2_with (refine wpList_copy_splice (by rfl) (.tmp 31) (.tmp 32) _ _ (by rfl) 3 Try.underlying31 infoNumSize _ _ n n 1 1 (by rfl) (by rfl) w1.heap.size 0 (repL n 0) 3 HBLK.out (List.replicate (min 1 n) (.int .i64 (-1))) (by simp [Nat.min_def]) (fun _ => ⟨rfl, _, rfl, HSRC.out⟩) (by rw [repL_length (by omega)]; simp; omega) (fun v hv => by rw [List.eq_of_mem_replicate hv]; rfl) w1.heap.size w1 hb0 (Nat.le_refl _) ?_; intro w2 hw2 hb2)
  have hw2' := hw2.out
  rw [repL_splice (by omega)] at hw2'
  have HW2 := Lib.hid hw2'
  clear hw2 hw2' hb0 HBLK hmk
  go_loopw [8] (fun kk wr => ∃ k : Nat, kk = .int .i64 k ∧ k ≤ n ∧ (1 ≤ n → 1 ≤ k) ∧ Hid (wr.heap[w1.heap.size]? = some (.cells (repL n k).toArray 3 (0, 0))) ∧ Below w1.heap.size w1 wr) (fun kk _ => n - (intOf kk).toNat)
  case atStart => exact ⟨min 1 n, by simp, by omega, by omega, by simpa using HW2, hb2⟩
  case round =>
    clear HW2 hb2
    obtain ⟨k, rfl, hk, hk1, hblk, hbel⟩ := hrel
    by_cases hkn : k < n
    · have hk1' := hk1 (by omega)
      have z0 : (0 : Int) ≤ (k : Int) := by omega
      have z1 : (k : Int) ≤ (n : Int) := by omega
      have z2 : (1 : Int) ≤ (k : Int) := by omega
      have hnk : ¬ (n = k) := by omega
      have hsrc : ∀ (W : World), W.heap[w1.heap.size]? = some (.cells (repL n k).toArray 3 (0, 0)) → ∀ j v, (List.replicate (min k (n - k)) (Value.int .i64 (-1)))[j]? = some v → W.cell? ((⟨w1.heap.size, 0, none⟩ : Addr).add j) = some v := by
        intro W hW j v hj
        have hj1 : j < min k (n - k) := by have := (List.getElem?_eq_some_iff.1 hj).1; simpa using this
        rw [Go.WideShapes.add_plain]
        simp only [World.cell?, hW]
        rw [List.getElem?_replicate, if_pos hj1] at hj
        simp only [Option.isSome_none, Bool.false_eq_true, if_false, Nat.zero_add]
        rw [← Array.getElem?_toList]
        show (repL n k)[j]? = _
        rw [repL_get (by omega)]
        exact hj
      have HS := Lib.hid hsrc
      clear hsrc hk1
      go_wp2
      go_region_law ((refine step_copy_splice (by rfl) (.tmp 41) (.tmp 44) _ _ (by rfl) 3 Try.underlying31 infoNumSize (some ⟨w1.heap.size, k, none⟩) (some ⟨w1.heap.size, 0, none⟩) (n - k) (n - k) k n (by simp [Act.eval, Act.put]) (by simp [Act.eval, Act.put]) w1.heap.size k (repL n k) 3 hblk.out (List.replicate (min k (n - k)) (Value.int .i64 (-1))) (by simp [Nat.min_def]) (fun _ => ⟨rfl, _, rfl, HS.out _ hblk.out⟩) (by rw [repL_length (by omega)]; simp; omega) (fun v hv => by rw [List.eq_of_mem_replicate hv]; rfl) w1.heap.size w1 (by exact ⟨hbel.os, hbel.tape, hbel.output, hbel.size, hbel.block⟩) (Nat.le_refl _) ?_; intro w5 hw5 hb5))
      have hw5' := hw5.out
      rw [repL_splice (by omega)] at hw5'
      have HW5 := Lib.hid hw5'
      have hsum : IntKind.i64.wrap ((k : Int) + ((min k (n - k) : Nat) : Int)) = ((k + min k (n - k) : Nat) : Int) := by
        rw [IntKind.wrap_i64]; omega
      have HSUM := Lib.hid hsum
      clear hw5 hw5' HS hblk hbel hsum hnk z0 z1 z2
      go_simp
      rw [HSUM.out]
      go_wp2
      go_roundw
      case rel => exact ⟨k + min k (n - k), rfl, by omega, by omega, HW5, hb5⟩
      case measure => simp [intOf]; omega
    · obtain rfl : n = k := by omega
      have hrow : Hid (wr.rowIs w1.heap.size 3 n (fun _ => .int .i64 (-1))) := ⟨_, hblk.out, by simp [repL_length], fun i hi => by
        rw [← Array.getElem?_toList]
        exact repL_get hi⟩
      clear hblk
      go_wp2
      go_ret
      exact ⟨w1.heap.size, rfl, Nat.le_refl _, hrow.out, hbel⟩
end Go.Proofs.Ytaiddgndjiaoaaa
