/- The law on names: the walk. -/
import Derived.Test.YtlnogenkhoclpaaBitNam
import Derived.Below
import Derived.Laws.StructEq
namespace Go.Proofs.Ytlnogenkhoclpaa
open Go.RowKit

theorem str_eq (a b : ByteArray) : (a.toList == b.toList) = decide (a = b) := by
  rw [← beq_toListBytes, Bool.eq_iff_iff, decide_eq_true_iff]
  cases a with
  | mk a =>
    cases b with
    | mk b =>
      rw [ByteArray.mk.injEq]
      show (a == b) = true ↔ a = b
      simp
/-- The last operator below k with a name, 0 if there is none. -/
def atN (s : ByteArray) : Nat → Nat
  | 0 => 0
  | k + 1 => if 1 ≤ k ∧ nm k = s then k else atN s k
theorem atN_le (s : ByteArray) (k : Nat) : atN s k ≤ k := by
  induction k with
  | zero => simp [atN]
  | succ k ih => unfold atN; split <;> omega
theorem atN_none {s : ByteArray} : ∀ {k : Nat}, (∀ j, 1 ≤ j → j < k → nm j ≠ s) → atN s k = 0 := by
  intro k
  induction k with
  | zero => intro _; rfl
  | succ k ih =>
    intro h
    have h1 : ¬ (1 ≤ k ∧ nm k = s) := fun hh => h k hh.1 (by omega) hh.2
    rw [atN, if_neg h1]
    exact ih fun j h1 h2 => h j h1 (by omega)
theorem atN_one {s : ByteArray} {i : Nat} (hi : 1 ≤ i) (hs : nm i = s) : ∀ {k : Nat}, i < k → (∀ j, i < j → j < k → nm j ≠ s) → atN s k = i := by
  intro k
  induction k with
  | zero => intro h; omega
  | succ k ih =>
    intro h hn
    by_cases hk : k = i
    · subst hk
      rw [atN, if_pos ⟨hi, hs⟩]
    · have h1 : ¬ (1 ≤ k ∧ nm k = s) := fun hh => hn k (by omega) (by omega) hh.2
      rw [atN, if_neg h1]
      exact ih (by omega) fun j h1 h2 => hn j h1 (by omega)
theorem nm_inj' : ∀ i : Fin 29, ∀ j : Fin 29, 1 ≤ i.val → 1 ≤ j.val → nm i.val = nm j.val → i = j := by decide +kernel
theorem nm_inj {i j : Nat} (hi : 1 ≤ i ∧ i ≤ 28) (hj : 1 ≤ j ∧ j ≤ 28) (h : nm i = nm j) : i = j := by
  have := nm_inj' ⟨i, by omega⟩ ⟨j, by omega⟩ hi.1 hj.1 h
  simpa using this
theorem nm_ne' : ∀ i : Fin 29, 1 ≤ i.val → nm i.val ≠ ⟨#[]⟩ := by decide +kernel
theorem nm_ne {i : Nat} (hi : 1 ≤ i ∧ i ≤ 28) : nm i ≠ ⟨#[]⟩ := nm_ne' ⟨i, by omega⟩ hi.1
theorem atN_nm {s : ByteArray} {i : Nat} (hi : 1 ≤ i ∧ i ≤ 28) (hs : nm i = s) : atN s 29 = i :=
  atN_one hi.1 hs (by omega) fun j h1 h2 he => by
    have := nm_inj hi ⟨by omega, by omega⟩ (hs.trans he.symm)
    omega

theorem Find_any (s : ByteArray) (w : World) : Calls Try.prog 31 #[.string s] w fun e w' => e = .returned (.int .i64 (atN s 29 : Nat)) ∧ w = w' := by
  go_enter Try.func31, Try.ntmps31
  go_wp2
  go_loop [3] (fun i => ∃ k : Nat, 1 ≤ k ∧ k ≤ 29 ∧ i = .int .i64 k ∧ Hid (∀ j, 1 ≤ j → j < k → nm j ≠ s)) (fun i => 29 - (intOf i).toNat)
  case atStart => exact ⟨1, by omega, by omega, rfl, fun j h1 h2 => absurd h1 (by omega)⟩
  case round =>
    obtain ⟨k, hk1, hk, rfl, hn⟩ := hrel
    by_cases hlt : k ≤ 28
    · rcases hb : ((nm k).toList == s.toList) with _ | _
      · have hne : nm k ≠ s := by rw [str_eq] at hb; exact of_decide_eq_false hb
        have hn1 : Hid (∀ j, 1 ≤ j → j < k + 1 → nm j ≠ s) := fun j h1 h2 => by
          by_cases hj : j = k
          · rw [hj]; exact hne
          · exact hn.out j h1 (by omega)
        clear hne
        go_wp2_with (go_at_call 30; refine (Name_any _ _).mono ?_; rintro e w' ⟨rfl, rfl⟩)
        go_round
        case rel => exact ⟨k + 1, by omega, by omega, by go_num, hn1⟩
        case measure => simp [intOf]; omega
      · have he : nm k = s := by rw [str_eq] at hb; exact of_decide_eq_true hb
        have hat := Lib.hid (atN_nm ⟨hk1, hlt⟩ he)
        clear he
        go_wp2_with (go_at_call 30; refine (Name_any _ _).mono ?_; rintro e w' ⟨rfl, rfl⟩)
        go_ret
        exact ⟨ret_int (by rw [hat.out]), rfl⟩
    · have hk9 : k = 29 := by omega
      have hat : Hid (atN s 29 = 0) := atN_none (by rw [← hk9]; exact hn.out)
      clear hk9
      go_wp2
      go_ret
      exact ⟨ret_int (by rw [hat.out]; rfl), rfl⟩

set_option maxHeartbeats 1000000 in
theorem names_valid (o : Nat) (ho : 1 ≤ o ∧ o ≤ 28) (s : ByteArray) (w : World) :
    Calls Try.prog 10 #[.int .i64 (o : Int), .string s] w fun e w' => e = .returned (.bool true) ∧ Below w.heap.size w w' := by
  have ho1 := ho.1
  have ho2 := ho.2
  have hne := nm_ne ho
  have hf : atN (nm o) 29 = o := atN_nm ho rfl
  have hemp : ((nm o).toList == (⟨#[]⟩ : ByteArray).toList) = false := by rw [str_eq]; exact decide_eq_false hne
  have hl : atN s 29 ≤ 29 := atN_le s 29
  clear ho hne
  go_enter Try.func10, Try.ntmps10
  go_wp2_with (go_at_call 11; refine (awake_any _).mono ?_; rintro e w' ⟨rfl, rfl⟩)
  refine (rNames_any _).mono ?_
  rintro e w1 ⟨g, rfl, hg, hc0, hbel⟩
  have HC := Lib.hid hc0
  have hco := hc0 o (by omega)
  clear hc0
  go_wp2
  clear hco
  go_loop [7, 8] (fun a i => ∃ k : Nat, 1 ≤ k ∧ k ≤ 29 ∧ i = .int .i64 k ∧ a = .int .i64 (atN s k : Nat)) (fun _ i => 29 - (intOf i).toNat)
  case atStart => exact ⟨1, by omega, by omega, rfl, rfl⟩
  case round =>
    obtain ⟨k, hk1, hk, rfl, rfl⟩ := hrel
    by_cases hlt : k ≤ 28
    · have hck := HC.out k (by omega)
      rcases hb : ((nm k).toList == s.toList) with _ | _
      · have hat : Hid (atN s k = atN s (k + 1)) := by
          have hne : ¬ (1 ≤ k ∧ nm k = s) := fun hh => by rw [str_eq] at hb; exact of_decide_eq_false hb hh.2
          show _ = _
          rw [atN, if_neg hne]
        go_wp2
        go_round
        case rel => exact ⟨k + 1, by omega, by omega, by go_num, by rw [hat.out]⟩
        case measure => simp [intOf]; omega
      · have hat : Hid (k = atN s (k + 1)) := by
          have he : nm k = s := by rw [str_eq] at hb; exact of_decide_eq_true hb
          show _ = _
          rw [atN, if_pos ⟨hk1, he⟩]
        go_wp2
        go_round
        case rel => exact ⟨k + 1, by omega, by omega, by go_num, by rw [← hat.out]⟩
        case measure => simp [intOf]; omega
    · obtain rfl : k = 29 := by omega
      go_wp2_with (first
        | (go_at_call 30; refine (Name_any _ _).mono ?_; rintro e w' ⟨rfl, rfl⟩)
        | (go_at_call 31; refine (Find_any _ _).mono ?_; rintro e w' ⟨rfl, rfl⟩)
        | (go_at_call 32; refine (IsBinary_any _ _).mono ?_; rintro e w' ⟨rfl, rfl⟩)
        | (go_at_call 33; refine (IsCompare_any _ _).mono ?_; rintro e w' ⟨rfl, rfl⟩)
        | (go_at_call 13; refine (rIsBinary_any _ _).mono ?_; rintro e w' ⟨rfl, rfl⟩)
        | (go_at_call 34; refine (rIsCompare_any _ _).mono ?_; rintro e w' ⟨rfl, rfl⟩))
      all_goals
        go_ret
        exact ⟨rfl, hbel⟩
set_option maxHeartbeats 1000000 in
theorem names_invalid (o : Int) (ho : o < 1 ∨ 28 < o) (s : ByteArray) (w : World) :
    Calls Try.prog 10 #[.int .i64 o, .string s] w fun e w' => e = .returned (.bool true) ∧ Below w.heap.size w w' := by
  have he : nm o.toNat = ⟨#[]⟩ := by
    by_cases h0 : o ≤ 0
    · have : o.toNat = 0 := by omega
      rw [this]; rfl
    · exact nm_far (by omega)
  have hl : atN s 29 ≤ 29 := atN_le s 29
  rcases ho with ho | ho
  all_goals
    go_enter Try.func10, Try.ntmps10
    go_wp2_with (go_at_call 11; refine (awake_any _).mono ?_; rintro e w' ⟨rfl, rfl⟩)
    refine (rNames_any _).mono ?_
    rintro e w1 ⟨g, rfl, hg, hc0, hbel⟩
    have HC := Lib.hid hc0
    clear hc0
    go_wp2
    go_loop [7, 8] (fun a i => ∃ k : Nat, 1 ≤ k ∧ k ≤ 29 ∧ i = .int .i64 k ∧ a = .int .i64 (atN s k : Nat)) (fun _ i => 29 - (intOf i).toNat)
    case atStart => exact ⟨1, by omega, by omega, rfl, rfl⟩
    case round =>
      obtain ⟨k, hk1, hk, rfl, rfl⟩ := hrel
      by_cases hlt : k ≤ 28
      · have hck := HC.out k (by omega)
        rcases hb : ((nm k).toList == s.toList) with _ | _
        · have hat : Hid (atN s k = atN s (k + 1)) := by
            have hne : ¬ (1 ≤ k ∧ nm k = s) := fun hh => by rw [str_eq] at hb; exact of_decide_eq_false hb hh.2
            show _ = _
            rw [atN, if_neg hne]
          go_wp2
          go_round
          case rel => exact ⟨k + 1, by omega, by omega, by go_num, by rw [hat.out]⟩
          case measure => simp [intOf]; omega
        · have hat : Hid (k = atN s (k + 1)) := by
            have he : nm k = s := by rw [str_eq] at hb; exact of_decide_eq_true hb
            show _ = _
            rw [atN, if_pos ⟨hk1, he⟩]
          go_wp2
          go_round
          case rel => exact ⟨k + 1, by omega, by omega, by go_num, by rw [← hat.out]⟩
          case measure => simp [intOf]; omega
      · obtain rfl : k = 29 := by omega
        go_wp2_with (first
          | (go_at_call 30; refine (Name_any _ _).mono ?_; rintro e w' ⟨rfl, rfl⟩)
          | (go_at_call 31; refine (Find_any _ _).mono ?_; rintro e w' ⟨rfl, rfl⟩)
          | (go_at_call 32; refine (IsBinary_any _ _).mono ?_; rintro e w' ⟨rfl, rfl⟩)
          | (go_at_call 33; refine (IsCompare_any _ _).mono ?_; rintro e w' ⟨rfl, rfl⟩)
          | (go_at_call 13; refine (rIsBinary_any _ _).mono ?_; rintro e w' ⟨rfl, rfl⟩)
          | (go_at_call 34; refine (rIsCompare_any _ _).mono ?_; rintro e w' ⟨rfl, rfl⟩))
        all_goals
          go_ret
          exact ⟨rfl, hbel⟩

theorem bitsNames_walk (op : Int) (_ho : -9223372036854775808 ≤ op ∧ op ≤ 9223372036854775807) (s : ByteArray) (_hs : s.size ≤ maxLen) (w : World) :
    Calls Try.prog 10 #[.int .i64 op, .string s] w fun e w' => e = .returned (.bool true) ∧ Below w.heap.size w w' := by
  by_cases h : 1 ≤ op ∧ op ≤ 28
  · obtain ⟨o, rfl⟩ : ∃ o : Nat, op = (o : Int) := ⟨op.toNat, by omega⟩
    exact names_valid o ⟨by omega, by omega⟩ s w
  · exact names_invalid op (by omega) s w
end Go.Proofs.Ytlnogenkhoclpaa
