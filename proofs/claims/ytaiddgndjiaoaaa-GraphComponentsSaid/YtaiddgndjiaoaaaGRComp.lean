/- The reference's Components: contract. -/
import Derived.Test.YtaiddgndjiaoaaaGRReach
import Derived.Test.YtaiddgndjiaoaaaSliceKit
namespace Go.Proofs.Ytaiddgndjiaoaaa
open Go.RowKit
set_option linter.unusedVariables false

def bothB (M : Nat → Nat → Bool) (v u : Nat) : Bool := M v u && M u v
/-- The least node of v's component, by a closure M. -/
def compB (M : Nat → Nat → Bool) (v : Nat) : Nat := ((List.range v).find? (bothB M v)).getD v
theorem compB_eq {M : Nat → Nat → Bool} {v u : Nat} (h1 : u ≤ v) (h2 : ∀ y, y < u → bothB M v y = false) (h3 : u = v ∨ bothB M v u = true) : compB M v = u := by
  unfold compB
  rcases Nat.lt_or_ge u v with hlt | hge
  · have h4 : bothB M v u = true := h3.resolve_left (by omega)
    have : (List.range v).find? (bothB M v) = some u := by
      rw [List.find?_range_eq_some]
      exact ⟨h4, List.mem_range.2 hlt, fun j hj => by simp [h2 j hj]⟩
    rw [this]; rfl
  · have e : u = v := by omega
    subst e
    have : (List.range u).find? (bothB M u) = none := by
      rw [List.find?_eq_none]
      intro x hx
      simp [h2 x (List.mem_range.1 hx)]
    rw [this]; rfl
theorem compB_le (M : Nat → Nat → Bool) (v : Nat) : compB M v ≤ v := by
  unfold compB
  cases h : (List.range v).find? (bothB M v) with
  | none => simp
  | some u => have := List.mem_range.1 (List.mem_of_find?_eq_some h); simp; omega

set_option maxHeartbeats 4000000 in
set_option maxRecDepth 100000 in
theorem rComponents_any (N : Int) (x : Option Addr) (len cap : Nat) (ls : List (Int × Int)) (w : World) (hL : LinksAt w x len ls) (hlen : len ≤ 1000000) :
    Calls Try.prog 20 #[gr N x len cap] w fun e w' => ∃ v, e = .returned v ∧ w'.ownsRow w.heap.size 3 1 v (nd N) (nums ((List.range (nd N)).map (compB (wars (edge ls (nd N)) (nd N))))) ∧ Below w.heap.size w w' := by
  have hb := (Below.refl w.heap.size w).alloc (Nat.le_refl _) (.cells #[.int .i64 N, .slice x len cap] 24)
  have hL1 := links_below hL hb (Nat.le_refl _)
  have hn := nd_le N
  have hmat := fun W h => rMatrix_any N x len cap ls W h hlen
  clear hL
  generalize hnn : nd N = n at *
  generalize hEE : edge ls n = E at *
  have HMAT := Lib.hid hmat
  clear hmat hnn hEE
  go_enter Try.func20, Try.ntmps20
  go_wp2_with fail
  refine (HMAT.out _ hL1).mono ?_
  rintro e w1 ⟨v, rfl, ⟨y, c, rfl, hM⟩, hb1⟩
  have hs1 := hb1.size
  have hsz1 : w.heap.size ≤ w1.heap.size := by simp at hs1; omega
  have hb2 := hb.trans (hb1.mono (by simp))
  clear hb1 hs1 hb hL1
  go_wp2_with fail
  refine (rClosure_any y n c E (-1) (by omega) _ hM hn).mono ?_
  rintro e w2 ⟨v, rfl, ⟨y2, c2, rfl, hM2⟩, hb3⟩
  rw [cut_none] at hM2
  have hsz2 := Nat.le_trans hsz1 hb3.size
  have hb4 := hb2.trans (hb3.mono hsz1)
  generalize hMM : wars E n = M at *
  have HM2 := Lib.hid hM2
  have HMM := Lib.hid hMM
  clear hM hb3 hM2 hMM
  go_wp2
  go_loopw [4, 12] (fun o i wr => ∃ (k : Nat) (vo : Value), k ≤ n ∧ i = .int .i64 k ∧ o = vo ∧ Hid (wr.ownsRow w2.heap.size 3 1 vo k (nums ((List.range k).map (compB M)))) ∧ Hid (Below w2.heap.size w2 wr)) (fun _ i _ => n - (intOf i).toNat)
  case atStart => exact ⟨0, _, by omega, rfl, rfl, Lib.hid (World.ownsRow_nil _ _ _ _), Lib.hid (Below.refl _ _)⟩
  case round =>
    obtain ⟨k, vo, hk, rfl, rfl, hown, hbel⟩ := hrel
    by_cases hkn : k < n
    · rcases HM2.out with h0 | ⟨B, hyB, hB, hrows⟩
      · omega
      subst hyB
      obtain ⟨gk, ck, e1, hgk, hrk⟩ := hrows k hkn
      have e2 : wr.cell? ⟨B, k, none⟩ = some (.slice (some ⟨gk, 0, none⟩) n ck) := by rw [hbel.out.cell (by exact hB)]; exact e1
      have hrk2 : Hid (∀ b, b < n → wr.cell? ⟨gk, b, none⟩ = some (.bool (M k b))) := Lib.hid fun b hb => by rw [hbel.out.cell (by exact hgk)]; exact hrk b hb
      have hro2 : Hid (∀ a, a < n → ∃ g c, wr.cell? ⟨B, a, none⟩ = some (.slice (some ⟨g, 0, none⟩) n c) ∧ ∀ b, b < n → wr.cell? ⟨g, b, none⟩ = some (.bool (M a b))) := Lib.hid fun a ha => by
        obtain ⟨g, c, h1, h2, h3⟩ := hrows a ha
        exact ⟨g, c, by rw [hbel.out.cell (by exact hB)]; exact h1, fun b hb => by rw [hbel.out.cell (by exact h2)]; exact h3 b hb⟩
      have hszw := hbel.out.size
      have hk0 : (0 : Int) ≤ (k : Int) := by omega
      have hk1 : (k : Int) < (n : Int) := by omega
      clear hrows e1 hrk
      generalize wr = W at *
      have hnx : ∀ (u : Nat) (v1 : Value) (w4 : World), u ≤ k → (∀ y, y < u → bothB M k y = false) → (u = k ∨ bothB M k u = true) → w4.ownsRow w2.heap.size 3 1 v1 (k + 1) (nums ((List.range k).map (compB M)) ++ [.int .i64 (u : Int)]) → Hid (w4.ownsRow w2.heap.size 3 1 v1 (k + 1) (nums ((List.range (k + 1)).map (compB M)))) := by
        intro u v1 w4 h1 h2 h3 ho
        refine Lib.hid ?_
        rw [List.range_succ, List.map_append, List.map_cons, List.map_nil, compB_eq h1 h2 h3, ← nums_append]
        exact ho
      have HNX := Lib.hid hnx
      clear hnx
      go_wp2
      go_loopw [6] (fun u wr => ∃ uu : Nat, uu ≤ k ∧ u = .int .i64 uu ∧ Hid (∀ y, y < uu → bothB M k y = false) ∧ Hid (wr = W)) (fun u _ => k - (intOf u).toNat)
      case atStart => exact ⟨0, by omega, rfl, Lib.hid (fun y h => by omega), by first | exact Lib.hid rfl | exact Lib.hid trivial⟩
      case round =>
        obtain ⟨u, huk, rfl, hno, hw⟩ := hrel
        obtain rfl : W = wr := hw.out.symm
        clear hw
        have hown' := hown.out
        have hu0 : (0 : Int) ≤ (u : Int) := by omega
        have hu1 : (u : Int) < (n : Int) := by omega
        by_cases huk2 : u = k
        · subst huk2
          go_wp2_with (at_builtin; refine wpList_append_one W (by rfl) _ _ _ (by rfl) w2.heap.size 3 _ 8 Try.underlying31 infoNum (by rfl) _ u _ (by rfl) hown' _ (by rfl) (by rfl) (by omega) (by omega) hszw ?_; intro v1 w4 hown1 hb1; have hown4 := HNX.out u v1 w4 (by omega) hno.out (.inl rfl) hown1; have hbel4 := Lib.hid (hbel.out.trans hb1))
          go_roundw
          case rel => exact ⟨u + 1, v1, by omega, by go_num, rfl, hown4, hbel4⟩
          case measure => simp [intOf]; omega
        · have hne : ¬ (u : Int) = (k : Int) := by omega
          obtain ⟨gu, cu, e3, hru⟩ := hro2.out u (by omega)
          have e4 := hrk2.out u (by omega)
          have e5 := hru k hkn
          have hbt : Hid (bothB M k u = (M k u && M u k)) := Lib.hid rfl
          clear hru
          generalize M k u = p at *
          generalize M u k = r at *
          by_cases hpr : p = true ∧ r = true
          · have hyes : bothB M k u = true := by rw [hbt.out, hpr.1, hpr.2]; rfl
            have HYES := Lib.hid hyes
            obtain ⟨rfl, rfl⟩ := hpr
            clear hyes hbt
            go_wp2_with (at_builtin; refine wpList_append_one W (by rfl) _ _ _ (by rfl) w2.heap.size 3 _ 8 Try.underlying31 infoNum (by rfl) _ k _ (by rfl) hown' _ (by rfl) (by rfl) (by omega) (by omega) hszw ?_; intro v1 w4 hown1 hb1; have hown4 := HNX.out u v1 w4 (by omega) hno.out (.inr HYES.out) hown1; have hbel4 := Lib.hid (hbel.out.trans hb1))
            go_roundw
            case rel => exact ⟨k + 1, v1, by omega, by go_num, rfl, hown4, hbel4⟩
            case measure => simp [intOf]; omega
          · have hno2 : Hid (∀ y, y < u + 1 → bothB M k y = false) := Lib.hid fun y hy => by
              by_cases e : y = u
              · subst e
                rw [hbt.out]
                cases p <;> cases r <;> simp_all
              · exact hno.out y (by omega)
            clear hbt hno
            cases p
            all_goals cases r
            all_goals first
              | exact absurd ⟨rfl, rfl⟩ hpr
              | (clear hpr
                 go_wp2
                 go_roundw
                 case rel => exact ⟨u + 1, by omega, by go_num, hno2, by first | exact Lib.hid rfl | exact Lib.hid trivial⟩
                 case measure => simp [intOf]; omega)
    · obtain rfl : n = k := by omega
      have hbelo := hb4.trans (hbel.out.mono hsz2)
      have HO := Lib.hid (own_mono hown.out hsz2)
      go_wp2
      go_ret
      refine ⟨_, rfl, ?_, hbelo⟩
      rw [HMM.out]
      exact HO.out
end Go.Proofs.Ytaiddgndjiaoaaa
