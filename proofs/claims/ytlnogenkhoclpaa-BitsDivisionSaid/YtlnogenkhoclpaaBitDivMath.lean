/- Plain mathematics of division: quotient times divisor plus remainder. -/
import Derived.Test.YtlnogenkhoclpaaBitComm
namespace Go.Proofs.Ytlnogenkhoclpaa
open Go.RowKit

theorem frm_of_nat (w : Int) (x : Nat) : frm w (x : Int) = fit w x := by unfold frm fit; rw [← Int.natCast_emod]; rfl
theorem frm_add_mul {w q r b x : Int} {Q R B : Nat} (hq : (Q : Int) % (md w : Int) = q % (md w : Int)) (hr : (R : Int) % (md w : Int) = r % (md w : Int)) (hb : (B : Int) % (md w : Int) = b % (md w : Int)) (hx : q * b + r = x) :
    frm w (((frm w ((Q : Int) * (B : Int)) : Nat) : Int) + (R : Int)) = frm w x := by
  apply frm_congr
  rw [frm_cast, ← hx, Int.add_emod, Int.emod_emod, Int.mul_emod, hq, hb, hr, ← Int.mul_emod, ← Int.add_emod]
theorem frm_mask0 {w : Int} {x A B : Nat} (hA : A < md w) (hB : B = 0) : frm w (((frm w ((x : Int) * (B : Int)) : Nat) : Int) + (A : Int)) = A := by
  subst hB
  have h : frm w (0 : Int) = 0 := by unfold frm; simp
  rw [show ((x : Int) * ((0 : Nat) : Int)) = 0 from by simp, h]
  have h2 : frm w (A : Int) = A := by rw [frm_of_nat, fit_self hA]
  simpa using h2
theorem div_u {n : Int} {A B : Nat} (hA : A < md n) : bin 2 n (bin 4 n (bin 5 n A B) B) (bin 6 n A B) = A := by
  show frm n (((frm n (((if B = 0 then mask n else A / B : Nat) : Int) * (B : Int)) : Nat) : Int) + ((if B = 0 then A else A % B : Nat) : Int)) = A
  by_cases hB : B = 0
  · rw [if_pos hB, if_pos hB]; exact frm_mask0 hA hB
  · rw [if_neg hB, if_neg hB, frm_add_mul (q := ((A / B : Nat) : Int)) (r := ((A % B : Nat) : Int)) (b := (B : Int)) (x := (A : Int)) rfl rfl rfl]
    · rw [frm_of_nat, fit_self hA]
    · rw [← Int.natCast_mul, ← Int.natCast_add]
      congr 1
      rw [Nat.mul_comm]; exact Nat.div_add_mod A B
theorem div_s {n : Int} {A B : Nat} (hA : A < md n) (hB' : B < md n) : bin 2 n (bin 4 n (bin 7 n A B) B) (bin 8 n A B) = A := by
  show frm n (((frm n (((if B = 0 then mask n else frm n ((sgn n A).tdiv (sgn n B)) : Nat) : Int) * (B : Int)) : Nat) : Int) + ((if B = 0 then A else frm n ((sgn n A).tmod (sgn n B)) : Nat) : Int)) = A
  by_cases hB : B = 0
  · rw [if_pos hB, if_pos hB]; exact frm_mask0 hA hB
  · rw [if_neg hB, if_neg hB, frm_add_mul (q := (sgn n A).tdiv (sgn n B)) (r := (sgn n A).tmod (sgn n B)) (b := sgn n B) (x := sgn n A)]
    · rw [frm_sgn, fit_self hA]
    · rw [frm_cast, Int.emod_emod]
    · rw [frm_cast, Int.emod_emod]
    · rw [sgn_emod, fit_self hB']
      exact Int.emod_eq_of_lt (by omega) (by omega)
    · rw [Int.mul_comm]; exact Int.mul_tdiv_add_tmod _ _
/-- What the law asks of the signed remainder. -/
structure SRem (M N T : Int) : Prop where
  lo : 0 ≤ M → 0 ≤ T
  hi : M ≤ 0 → T ≤ 0
  p : 0 < N → T < N ∧ -N < T
  q : N < 0 → T < -N ∧ N < T
theorem srem_tmod (M N : Int) : SRem M N (M.tmod N) := by
  refine ⟨Int.tmod_nonneg N, fun h => ?_, fun h => ⟨Int.tmod_lt_of_pos M h, Int.lt_tmod_of_pos M h⟩, fun h => ?_⟩
  · have h1 := Int.tmod_nonneg N (show 0 ≤ -M by omega)
    rw [Int.neg_tmod] at h1
    omega
  · have h1 := Int.tmod_lt_of_pos M (show 0 < -N by omega)
    have h2 := Int.lt_tmod_of_pos M (show 0 < -N by omega)
    rw [Int.tmod_neg] at h1 h2
    omega
theorem sgn_srem {n : Int} {A B : Nat} (hB' : B < md n) (hB : B ≠ 0) : sgn n (bin 8 n A B) = (sgn n A).tmod (sgn n B) := by
  have e : bin 8 n A B = frm n ((sgn n A).tmod (sgn n B)) := by
    show (if B = 0 then A else frm n ((sgn n A).tmod (sgn n B))) = _
    rw [if_neg hB]
  rw [e]
  have h := srem_tmod (sgn n A) (sgn n B)
  have hr := sgn_range n B
  have h0 := sgn_zero hB' hB
  apply sgn_frm
  rcases Int.lt_trichotomy (sgn n B) 0 with hn | hz | hp
  · have := h.q hn; omega
  · exact absurd hz h0
  · have := h.p hp; omega
end Go.Proofs.Ytlnogenkhoclpaa
