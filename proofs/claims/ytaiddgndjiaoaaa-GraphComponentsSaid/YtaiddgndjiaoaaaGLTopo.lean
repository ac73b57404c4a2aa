/- The law on Topo: the walk. -/
import Derived.Test.YtaiddgndjiaoaaaGRTopo
import Derived.Test.YtaiddgndjiaoaaaGOpen
namespace Go.Proofs.Ytaiddgndjiaoaaa
open Go.RowKit
set_option linter.unusedVariables false

theorem nums_bound {l : List Nat} {n : Nat} (h : ∀ v ∈ l, v < n) (hn : n ≤ 20000) (k : Nat) : -9223372036854775808 ≤ (l.map fun a : Nat => (a : Int)).getD k 0 ∧ (l.map fun a : Nat => (a : Int)).getD k 0 ≤ 9223372036854775807 := by
  rcases Nat.lt_or_ge k l.length with hk | hk
  · have e : (l.map fun a : Nat => (a : Int)).getD k 0 = (l[k] : Int) := by simp [List.getD, hk]
    have := h _ (List.getElem_mem hk)
    omega
  · have e : (l.map fun a : Nat => (a : Int)).getD k 0 = 0 := by simp [List.getD, hk]
    omega

theorem topoRun_lt {E : Nat → Nat → Bool} {n : Nat} : ∀ (k : Nat) (acc : List Nat), (∀ a ∈ acc, a < n) → ∀ l, topoRun E n k acc = some l → (∀ a ∈ l, a < n) ∧ l.length = acc.length + k := by
  intro k
  induction k with
  | zero => intro acc h l e; rw [topoRun] at e; injection e with e; subst e; exact ⟨h, rfl⟩
  | succ k ih =>
    intro acc h l e
    rw [topoRun] at e
    rcases hn : nextOf E n acc with _ | v
    · rw [hn] at e; cases e
    · rw [hn] at e
      have hv : v < n := by have := List.mem_of_find?_eq_some hn; simpa using this
      have := ih (acc ++ [v]) (fun a ha => by
        rcases List.mem_append.1 ha with ha | ha
        · exact h a ha
        · simp at ha; omega) l e
      refine ⟨this.1, ?_⟩
      have h2 := this.2
      simp at h2
      omega
theorem topo_lt {E : Nat → Nat → Bool} {n : Nat} : ∀ a ∈ (topo E n).getD [], a < n := by
  rcases h : topo E n with _ | l
  · intro a ha; simp at ha
  · exact (topoRun_lt n [] (fun a ha => by simp at ha) l h).1
theorem topo_len {E : Nat → Nat → Bool} {n : Nat} : ((topo E n).getD []).length ≤ n := by
  rcases h : topo E n with _ | l
  · simp
  · have := (topoRun_lt n [] (fun a ha => by simp at ha) l h).2
    simp at this
    simp [this]

set_option maxHeartbeats 2000000 in
set_option maxRecDepth 100000 in
theorem graphTopo_walk (N : Int) (_hN : -9223372036854775808 ≤ N ∧ N ≤ 9223372036854775807) (x : Option Addr) (len cap : Nat) (hlen : len ≤ 9223372036854775807) (ls : List (Int × Int)) (w : World) (hL : LinksAt w x len ls) :
    Calls Try.prog 4 #[gr N x len cap] w fun e w' => e = .returned (.bool true) ∧ Below w.heap.size w w' := by
  have hb := (Below.refl w.heap.size w).alloc (Nat.le_refl _) (.cells #[.int .i64 N, .slice x len cap] 24)
  by_cases hfew : nd N ≤ 24 ∧ len ≤ 100
  · have q := fewB_true hfew
    have hL1 := links_below hL hb (Nat.le_refl _)
    have hfew2 := hfew.2
    clear hL hfew
    go_enter Try.func4, Try.ntmps4
    go_wp2_with fail
    refine (awake_any _).mono ?_
    rintro e w1 ⟨rfl, H⟩
    obtain ⟨c0, c1, s1⟩ := boxed2 H
    go_wp2_with fail
    refine (few_any N x len cap hlen _).mono ?_
    rintro e w2 ⟨rfl, h2⟩
    replace H := H.trans (h2.mono H.size)
    clear c0 c1 s1 h2
    obtain ⟨c0, c1, s1⟩ := boxed2 H
    have hL2 := links_below hL1 H (Nat.le_refl _)
    go_wp2_with fail
    refine (Topo_any N x len cap ls _ hL2 (by omega)).mono ?_
    rintro e w3 ⟨v, rfl, hown, h3⟩
    replace H := H.trans (h3.mono H.size)
    clear c0 c1 s1
    obtain ⟨c0, c1, s1⟩ := boxed2 H
    have hL3 := links_below hL1 H (Nat.le_refl _)
    go_wp2_with fail
    refine (rTopo_any N x len cap ls _ hL3 (by omega)).mono ?_
    rintro e w4 ⟨v', rfl, hown', h4⟩
    replace H := H.trans (h4.mono H.size)
    have hlt : ∀ a ∈ (topo (edge ls (nd N)) (nd N)).getD [], a < nd N := topo_lt
    have hlen5 : ((topo (edge ls (nd N)) (nd N)).getD []).length ≤ nd N := topo_len
    have hown2 := own_below hown h4 (Nat.le_refl _)
    clear c0 c1 s1 hown hL1 hL2 hL3 h3
    generalize topo (edge ls (nd N)) (nd N) = T at *
    obtain ⟨y, c, rfl, hy⟩ := intsAt_own hown2
    obtain ⟨y', c', rfl, hy'⟩ := intsAt_own hown'
    have hbd := nums_bound hlt (nd_le N)
    clear hown2 hown' hlt
    have hls : (List.map (fun a : Nat => (a : Int)) (T.getD [])).length = (T.getD []).length := by simp
    rw [hls]
    have HBD := Lib.hid hbd
    have HLS := Lib.hid hls
    have hlen6 : (T.getD []).length ≤ 1000000 := by have := nd_le N; omega
    have hbel := hb.trans (H.mono (by simp))
    clear hbd hls hlen5
    generalize T.isSome = tb
    cases tb
    all_goals
      go_wp2_with (go_at_call 14; refine (same_any y y' _ c c' _ _ HLS.out hy hy' HBD.out hlen6).mono ?_; rintro e w' ⟨rfl, m, rfl⟩)
      go_ret
      exact ⟨rfl, ⟨hbel.os, hbel.tape, hbel.output, hbel.size, hbel.block⟩⟩
  · have q := fewB_false hfew
    clear hL hfew
    go_enter Try.func4, Try.ntmps4
    go_wp2_with fail
    refine (awake_any _).mono ?_
    rintro e w1 ⟨rfl, H⟩
    obtain ⟨c0, c1, s1⟩ := boxed2 H
    go_wp2_with fail
    refine (few_any N x len cap hlen _).mono ?_
    rintro e w2 ⟨rfl, h2⟩
    replace H := H.trans (h2.mono H.size)
    clear c0 c1 s1 h2
    go_wp2_with fail
    refine (awake_any _).mono ?_
    rintro e w3 ⟨rfl, h3⟩
    replace H := H.trans (h3.mono H.size)
    have hbel := hb.trans (H.mono (by simp))
    go_wp2
    go_ret
    exact ⟨rfl, hbel⟩
end Go.Proofs.Ytaiddgndjiaoaaa
