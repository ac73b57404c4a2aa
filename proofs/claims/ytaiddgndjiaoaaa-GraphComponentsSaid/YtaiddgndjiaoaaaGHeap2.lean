/- The library's heap over the queue: contracts of Push and Pop. -/
import Derived.Test.YtaiddgndjiaoaaaGHeap
namespace Go.Proofs.Ytaiddgndjiaoaaa
open Go.RowKit
set_option linter.unusedVariables false

theorem q_slice {w : World} {p : Nat} {v : Value} {q : List Nat} (hQ : QueueAt w p v q) : ∃ a cap, v = .slice a q.length cap := by
  rcases hQ.2.1.2 with ⟨hv, h0⟩ | ⟨g, cap, cur, hv, _⟩
  · exact ⟨none, 0, by rw [hv, h0]⟩
  · exact ⟨_, _, hv⟩

set_option maxHeartbeats 1000000 in
set_option maxRecDepth 100000 in
theorem hpush_any (p : Nat) (v : Value) (q : List Nat) (x : Nat) (w : World) (hQ : QueueAt w p v q) (hH : Heap q) (hq : q.length < 1000000) :
    Calls Try.prog 44 #[qi p, .iface 3 (.int .i64 (x : Int))] w fun e w' => e = .returned (.tuple #[]) ∧ ∃ v' q', q'.Perm (q ++ [x]) ∧ Heap q' ∧ QueueAt w' p v' q' ∧ Moved w v v' ∧ Keeps w w' p v.ownBlock := by
  have hMP := m_push p
  go_enter Try.func44, Try.ntmps44
  go_wp2_with fail
  refine (qpush_any p v q x _ hQ hq).mono ?_
  rintro e w1 ⟨rfl, v1, hQ1, hM1, hK1⟩
  obtain ⟨a1, c1, rfl⟩ := q_slice hQ1
  have hc1 := hQ1.1.cell (i := 0) (by omega)
  have hML := m_len hc1
  have hle : (q ++ [x]).length = q.length + 1 := by simp
  have HQ := Lib.hid hQ1
  have HM := Lib.hid hM1
  have HK := Lib.hid hK1
  have hU := Lib.hid (up_start hH x)
  rw [hle] at hML hc1
  rw [hle] at HQ HM
  have HLE := Lib.hid hle
  clear hQ hQ1 hM1 hK1 hle hMP hH
  go_wp2_with (go_at_call 45; refine (qlen_any _ _ _ _).mono ?_; rintro e w' ⟨rfl, rfl⟩)
  refine (up_any p _ (q ++ [x]) q.length _ HQ.out hU.out (by rw [HLE.out]; omega) (by rw [HLE.out]; omega)).mono ?_
  rintro e w2 ⟨rfl, q2, hp2, hh2, hQ2, hK2⟩
  have F := Lib.hid (And.intro hp2 (And.intro hh2 (And.intro hQ2 (Keeps.trans HK.out HM.out hK2))))
  clear hp2 hh2 hQ2 hK2
  go_wp2
  go_end0
  exact ⟨rfl, _, q2, F.out.1, F.out.2.1, F.out.2.2.1, HM.out, F.out.2.2.2⟩

set_option maxHeartbeats 1000000 in
set_option maxRecDepth 100000 in
theorem hpop_any (p : Nat) (v : Value) (q : List Nat) (w : World) (hQ : QueueAt w p v q) (hH : Heap q) (h0 : 0 < q.length) (hq : q.length < 1000000) :
    Calls Try.prog 46 #[qi p] w fun e w' => e = .returned (.iface 3 (.int .i64 (at0 q 0 : Nat))) ∧ ∃ v' q', (at0 q 0 :: q').Perm q ∧ Heap q' ∧ QueueAt w' p v' q' ∧ v'.ownBlock = v.ownBlock ∧ Keeps w w' p v.ownBlock := by
  obtain ⟨g, cap, rfl⟩ := qlen_pos hQ h0
  obtain ⟨n, hn⟩ : ∃ n, q.length = n + 1 := ⟨q.length - 1, by omega⟩
  have hc := hQ.1.cell (i := 0) (by omega)
  have hML := m_len hc
  have hMS := m_swap hc
  have hMP := m_pop p
  have hsw := Lib.hid (qswap_int g cap q.length q 0 (n : Int) (p - 1) 0 n rfl rfl rfl (by omega) (by omega) w hQ.2.1 (by omega))
  have hn6 : (n : Int) < 1000000 := by omega
  have HN := Lib.hid hn
  have HQ := Lib.hid hQ
  have HDn := Lib.hid (down_start hH hn)
  have HH := Lib.hid hH
  rw [hn] at hML hMS hc
  clear hQ hH
  go_enter Try.func46, Try.ntmps46
  go_wp2_with (go_at_call 45; refine (qlen_any _ _ _ _).mono ?_; rintro e w' ⟨rfl, rfl⟩)
  have h1 := hsw.out
  rw [HN.out] at h1
  refine h1.mono ?_
  rintro e w1 ⟨rfl, ho1, hg1⟩
  have hl1 : (swp q 0 n).length = n + 1 := by rw [swp_length, HN.out]
  have hQ1 : QueueAt w1 p (.slice (some ⟨g, 0, none⟩) (n + 1) cap) (swp q 0 n) := by
    have hQ := HQ.out
    rw [HN.out] at hQ
    have hne : some p ≠ (Value.slice (some ⟨g, 0, none⟩) (n + 1) cap).ownBlock := hQ.2.2
    refine ⟨row_grown hQ.1 hg1 hne, ?_, hne⟩
    rw [hl1]; exact ho1
  have K1 := Lib.hid (Keeps.of_grown hg1 p)
  have HQ1 := Lib.hid hQ1
  have HL1 := Lib.hid hl1
  clear h1 ho1 hg1 hQ1 hl1 hMS hML
  go_wp2_with fail
  refine (down_any p _ (swp q 0 n) n _ HQ1.out HDn.out HL1.out (by rw [HL1.out]; omega)).mono ?_
  rintro e w2 ⟨⟨b, rfl⟩, q2, hp2, ht2, hat, hQ2, hK2⟩
  have hl2 : q2.length = n + 1 := by rw [hp2.length_eq, HL1.out]
  have hpq : q2.Perm q := hp2.trans (swp_perm (by rw [HN.out]; omega) (by rw [HN.out]; omega))
  have hx : at0 q2 n = at0 q 0 := by
    rw [hat, swp_at (by rw [HN.out]; omega) (by rw [HN.out]; omega), if_pos rfl]
  have he : q2 = q2.take n ++ [at0 q 0] := by
    rw [← hx, at0_eq (by omega)]
    have h1 := List.take_succ_eq_append_getElem (l := q2) (i := n) (by omega)
    rw [List.take_of_length_le (by omega)] at h1
    exact h1
  have hlt : (q2.take n).length = n := by simp; omega
  have F := Lib.hid (And.intro (pop_perm HN.out hpq hx) (heap_take ht2 (by omega)))
  have hQ3 : QueueAt w2 p (.slice (some ⟨g, 0, none⟩) (n + 1) cap) (q2.take n ++ [at0 q 0]) := he ▸ hQ2
  have HQ3 := Lib.hid hQ3
  have K2 := Lib.hid (Keeps.trans (v := .slice (some ⟨g, 0, none⟩) (n + 1) cap) (v' := .slice (some ⟨g, 0, none⟩) (n + 1) cap) K1.out (.inl rfl) hK2)
  have HLT := Lib.hid hlt
  clear hl2 hp2 ht2 hat hQ2 hK2 hpq hx he hlt hQ3
  go_wp2_with fail
  refine (qpop_any p _ (q2.take n) (at0 q 0) _ HQ3.out (by rw [HLT.out]; omega)).mono ?_
  rintro e w3 ⟨rfl, v3, hQ4, hv3, hK3⟩
  have HQ4 := Lib.hid hQ4
  have HV3 := Lib.hid hv3
  have K3 := Lib.hid (Keeps.trans (v := .slice (some ⟨g, 0, none⟩) (n + 1) cap) (v' := .slice (some ⟨g, 0, none⟩) (n + 1) cap) K2.out (.inl rfl) hK3)
  clear hQ4 hv3 hK3
  go_wp2
  go_ret
  exact ⟨rfl, v3, q2.take n, F.out.1, F.out.2, HQ4.out, HV3.out, K3.out⟩
end Go.Proofs.Ytaiddgndjiaoaaa
