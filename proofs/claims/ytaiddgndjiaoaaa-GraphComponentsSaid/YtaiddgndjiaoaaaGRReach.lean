/- The reference's Reach: contract. -/
import Derived.Test.YtaiddgndjiaoaaaGRClo
import Derived.Test.YtaiddgndjiaoaaaGReach
namespace Go.Proofs.Ytaiddgndjiaoaaa
open Go.RowKit
set_option linter.unusedVariables false

theorem cut_none (E : Nat → Nat → Bool) : cut E (-1) = E := by
  funext a b
  unfold cut
  have h1 : ¬ ((a : Int) = -1) := by omega
  have h2 : ¬ ((b : Int) = -1) := by omega
  simp [h1, h2]
/-- Whether u is reached from the number fr. -/
def rch (E : Nat → Nat → Bool) (n : Nat) (fr : Int) (u : Nat) : Bool := decide (0 ≤ fr) && (decide (fr < (n : Int)) && (decide ((u : Int) = fr) || wars E n fr.toNat u))

set_option maxHeartbeats 4000000 in
set_option maxRecDepth 100000 in
theorem rReach_any (N : Int) (x : Option Addr) (len cap : Nat) (ls : List (Int × Int)) (fr : Int) (w : World) (hL : LinksAt w x len ls) (hlen : len ≤ 1000000) (hfr : -9223372036854775808 ≤ fr ∧ fr ≤ 9223372036854775807) :
    Calls Try.prog 22 #[gr N x len cap, .int .i64 fr] w fun e w' => ReachRes (edge ls (nd N)) (nd N) fr w.heap.size w e w' := by
  have hb := (Below.refl w.heap.size w).alloc (Nat.le_refl _) (.cells #[.int .i64 N, .slice x len cap] 24)
  have hL1 := links_below hL hb (Nat.le_refl _)
  have hn := nd_le N
  have hmat := fun W h => rMatrix_any N x len cap ls W h hlen
  have hmk := fun W => run_make_row' (P := Try.prog) 39 4 (.bool false) 1 Try.underlying39 infoBool rfl .i64 .i64 (nd N) (by omega) (by omega) W
  clear hL
  generalize hnn : nd N = n at *
  generalize hEE : edge ls n = E at *
  have hEl : ∀ a b, E a b = true → a < n ∧ b < n := by rw [← hEE]; exact edge_lt'
  have HMAT := Lib.hid hmat
  have HEL := Lib.hid hEl
  clear hmat hnn hEE hEl
  go_enter Try.func22, Try.ntmps22
  go_wp2_with fail
  refine (HMAT.out _ hL1).mono ?_
  rintro e w1 ⟨v, rfl, ⟨y, c, rfl, hM⟩, hb1⟩
  have hs1 := hb1.size
  have hsz1 : w.heap.size ≤ w1.heap.size := by simp at hs1; omega
  have hb2 := hb.trans (hb1.mono (by simp))
  clear hb1 hs1 hb hL1
  go_wp2_with fail
  refine (rClosure_any y n c E (-1) (by omega) _ hM hn).mono ?_
  rintro e w2 ⟨v, rfl, ⟨y2, c2, rfl, hM2⟩, hb3⟩
  rw [cut_none] at hM2
  have hsz2 := Nat.le_trans hsz1 hb3.size
  have hb4 := hb2.trans (hb3.mono hsz1)
  have HM2 := Lib.hid hM2
  clear hM hb3 hM2
  have hR0 : Hid ((w2.alloc (.cells (madeCells #[.bool false] n) 4)).rowIs w2.heap.size 4 n (fun u => .bool (if u < 0 then rch E n fr u else false))) := (World.rowIs_made w2 (.bool false) n 4).congr fun u _ => by simp
  have hB0 : Below w2.heap.size w2 (w2.alloc (.cells (madeCells #[.bool false] n) 4)) := (Below.refl _ _).alloc (Nat.le_refl _) _
  go_wp2
  clear hmk
  go_loopw [16] (fun i wr => ∃ k : Nat, k ≤ n ∧ i = .int .i64 k ∧ Hid (wr.rowIs w2.heap.size 4 n (fun u => .bool (if u < k then rch E n fr u else false))) ∧ Below w2.heap.size w2 wr) (fun i _ => n - (intOf i).toNat)
  case atStart => exact ⟨0, by omega, rfl, hR0, hB0⟩
  case round =>
    clear hR0 hB0
    obtain ⟨k, hk, rfl, hrow, hbel⟩ := hrel
    by_cases hkn : k < n
    · have ck := hrow.out.cell hkn
      have fk := hrow.out.frozen k
      have hk0 : (0 : Int) ≤ (k : Int) := by omega
      have hset : Hid ((wr.setCell ⟨w2.heap.size, k, none⟩ (.bool (rch E n fr k))).rowIs w2.heap.size 4 n (fun u => .bool (if u < k + 1 then rch E n fr u else false))) := (World.rowIs.set hrow.out k _).congr fun u _ => by
        by_cases e : u = k
        · subst e; simp
        · rw [if_neg e]
          congr 1
          by_cases h : u < k
          · rw [if_pos h, if_pos (by omega)]
          · rw [if_neg h, if_neg (by omega)]
      have hbel2 := fun b : Bool => hbel.setCell (p := ⟨w2.heap.size, k, none⟩) (Nat.le_refl _) (.bool b)
      rcases HM2.out with h0 | ⟨B, hyB, hB, hrows⟩
      · omega
      · subst hyB
        by_cases hok : 0 ≤ fr ∧ fr < (n : Int)
        · obtain ⟨f, rfl⟩ := Int.eq_ofNat_of_zero_le hok.1
          have hfn : f < n := by omega
          obtain ⟨g, gc, h1, hg, h2⟩ := hrows f hfn
          have c1 : wr.cell? ⟨B, f, none⟩ = some (.slice (some ⟨g, 0, none⟩) n gc) := by rw [hbel.cell (by exact hB)]; exact h1
          have d1 : wr.cell? ⟨g, k, none⟩ = some (.bool (wars E n f k)) := by rw [hbel.cell (by exact hg)]; exact h2 k hkn
          clear hrows h1 h2 hrow
          by_cases hkf : k = f
          · have hv : rch E n (f : Int) k = true := by simp [rch, hkf, hfn]
            rw [hv] at hset
            have q := hbel2 true
            clear hbel2
            subst hkf
            clear hv hok
            go_wp2
            go_roundw
            case rel => exact ⟨k + 1, by omega, by go_num, hset, q⟩
            case measure => simp [intOf]; omega
          · have hv : rch E n (f : Int) k = wars E n f k := by
              have : ¬ ((k : Int) = (f : Int)) := by omega
              simp [rch, hfn, this]
            rw [hv] at hset
            have q := hbel2 (wars E n f k)
            have q1 : (k == f) = false := by simp [hkf]
            have q2 : (((k : Nat) : Int) == ((f : Nat) : Int)) = false := by simp; omega
            clear hbel2 hv hok hkf
            generalize wars E n f k = z at *
            go_wp2
            go_roundw
            case rel => exact ⟨k + 1, by omega, by go_num, hset, q⟩
            case measure => simp [intOf]; omega
        · have hv : rch E n fr k = false := by
            unfold rch
            rw [Bool.and_eq_false_iff, Bool.and_eq_false_iff, decide_eq_false_iff_not, decide_eq_false_iff_not]
            omega
          rw [hv] at hset
          have q := hbel2 false
          have hcase : fr < 0 ∨ (0 ≤ fr ∧ (n : Int) ≤ fr) := by omega
          clear hbel2 hv hok hrows hrow
          rcases hcase with h1 | ⟨h1, h2⟩
          all_goals
            go_wp2
            go_roundw
            case rel => exact ⟨k + 1, by omega, by go_num, hset, q⟩
            case measure => simp [intOf]; omega
    · obtain rfl : n = k := by omega
      have HR := Lib.hid (And.intro hrow.out (And.intro (hb4.trans (hbel.mono hsz2)) HEL.out))
      clear hrow
      go_wp2
      go_ret
      refine ⟨w2.heap.size, fun u => if u < n then rch E n fr u else false, rfl, HR.out.1, fun u hu => ?_, HR.out.2.1⟩
      show (if u < n then rch E n fr u else false) = true ↔ _
      rw [if_pos hu]
      unfold rch
      rw [Bool.and_eq_true, Bool.and_eq_true, Bool.or_eq_true, decide_eq_true_eq, decide_eq_true_eq, decide_eq_true_eq]
      constructor
      · rintro ⟨h1, h2, h3⟩
        refine ⟨⟨h1, h2⟩, ?_⟩
        rcases h3 with h3 | h3
        · exact .inl h3
        · exact .inr (wars_sound h3)
      · rintro ⟨⟨h1, h2⟩, h3⟩
        refine ⟨h1, h2, ?_⟩
        rcases h3 with h3 | h3
        · exact .inl h3
        · exact .inr (wars_complete HR.out.2.2 h3)
end Go.Proofs.Ytaiddgndjiaoaaa
