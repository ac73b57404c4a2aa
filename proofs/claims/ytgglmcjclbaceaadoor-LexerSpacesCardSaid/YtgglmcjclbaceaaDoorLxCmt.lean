/- A list of texts that comes in, opened; the law's comment; texts with comments between the tokens. -/
import Derived.Test.YtgglmcjclbaceaaDoorLxJoin
import Derived.SliceStrings
namespace Go.Proofs.YtgglmcjclbaceaaDoor
open Go Go.RowKit
set_option linter.unusedVariables false

/-- A list of texts in memory. -/
def TextsAt (w : World) (x : Option Addr) (len : Nat) (ss : Nat → List UInt8) : Prop := len = 0 ∨ ∃ b o, x = some ⟨b, o, none⟩ ∧ b < w.heap.size ∧ ∀ i, i < len → w.cell? ⟨b, o + i, none⟩ = some (.string (str (ss i)))
theorem TextsAt.below {w w' : World} {x : Option Addr} {len : Nat} {ss : Nat → List UInt8} (h : TextsAt w x len ss) (hb : Below w.heap.size w w') : TextsAt w' x len ss := by
  rcases h with h | ⟨b, o, hx, hlt, hc⟩
  · exact .inl h
  · exact .inr ⟨b, o, hx, Nat.lt_of_lt_of_le hlt hb.size, fun i hi => by rw [hb.cell (p := ⟨b, o + i, none⟩) hlt]; exact hc i hi⟩

def noLf (l : List UInt8) : List UInt8 := l.filter (· != 10)
def cm (l : List UInt8) : List UInt8 := [47, 47] ++ noLf l ++ [10]
theorem noLf_succ {l : List UInt8} {k : Nat} (h : k < l.length) : noLf (l.take (k + 1)) = noLf (l.take k) ++ (if l[k] = 10 then [] else [l[k]]) := by
  unfold noLf
  rw [List.take_succ_eq_append_getElem h, List.filter_append]
  congr 1
  by_cases e : l[k] = 10
  · simp [e]
  · simp [e]
theorem noLf_len (l : List UInt8) : (noLf l).length ≤ l.length := List.length_filter_le _ _
theorem skip_cm : ∀ (l X : List UInt8), skipM true (noLf l ++ 10 :: X) = (noLf l).length + 1 + skipM false X := by
  intro l
  induction l with
  | nil => intro X; show skipM true (10 :: X) = _; rw [skipT]; simp [noLf]
  | cons c l ih =>
    intro X
    by_cases e : c = 10
    · have : noLf (c :: l) = noLf l := by simp [noLf, e]
      rw [this]; exact ih X
    · have : noLf (c :: l) = c :: noLf l := by simp [noLf, e]
      have hd : decide (c.toNat ≠ 10) = true := decide_eq_true (fun h => e (UInt8.toNat_inj.1 h))
      rw [this, List.cons_append, skipT, hd, ih, List.length_cons]
      omega

set_option maxHeartbeats 1000000 in
set_option maxRecDepth 100000 in
theorem comment_any (l : List UInt8) (hl : l.length ≤ 20) (w : World) : Calls Tryd.prog 18 #[.string (str l)] w fun e w' => e = .returned (.string (str (cm l))) ∧ w = w' := by
  have hsz : (str l).size = l.length := str_size l
  have h0 : Hid ((⟨#[47, 47]⟩ : ByteArray) = str ([47, 47] ++ noLf (l.take 0))) := by show _ = _; rfl
  have HN := Lib.hid fun k (h : k < l.length) => noLf_succ h
  have HL := Lib.hid fun k => Nat.le_trans (noLf_len (l.take k)) (List.length_take_le k l)
  go_enter Tryd.func18, Tryd.ntmps18
  go_wp2
  go_loop [3, 4] (fun s i => ∃ (S : ByteArray) (k : Nat), s = .string S ∧ i = .int .i64 (k : Int) ∧ k ≤ l.length ∧ S.size ≤ k + 2 ∧ Hid (S = str ([47, 47] ++ noLf (l.take k)))) (fun _ i => l.length - (intOf i).toNat)
  case atStart => exact ⟨_, 0, rfl, rfl, by omega, by show (2 : Nat) ≤ 2; omega, h0⟩
  case round =>
    clear h0
    obtain ⟨S, k, rfl, rfl, hk, hS, hE⟩ := hrel
    by_cases hlt : k < l.length
    · obtain ⟨c, hcc⟩ : ∃ c, c = l[k] := ⟨_, rfl⟩
      have hat : ∀ h : k < (str l).size, (str l)[k]'h = c := fun _ => hcc.symm
      have hn := HN.out k hlt
      rw [← hcc] at hn
      have hex : (str l).extract k (k + 1) = str [c] := by
        rw [extract_mid, Nat.add_sub_cancel_left]
        show str ((l.drop k).take 1) = _
        rw [List.drop_eq_getElem_cons hlt, ← hcc]
        rfl
      have hcs : (str [c]).size = 1 := by rw [str_size]; rfl
      clear hcc
      by_cases hlf : c = 10
      · have hne : ((c.toNat : Nat) : Int) = 10 := by rw [hlf]; rfl
        have hE2 : Hid (S = str ([47, 47] ++ noLf (l.take (k + 1)))) := by
          show _ = _
          rw [hn, if_pos hlf, List.append_nil]
          exact hE.out
        clear hn hE hlf hex hcs
        go_wp2
        go_round
        case rel => exact ⟨S, k + 1, rfl, by go_num, by omega, by omega, hE2⟩
        case measure => simp [intOf]; omega
      · have hne : ¬ ((c.toNat : Nat) : Int) = 10 := fun h => hlf (UInt8.toNat_inj.1 (by have : c.toNat = 10 := by omega
                                                                                         exact this))
        have hE2 : Hid (S ++ str [c] = str ([47, 47] ++ noLf (l.take (k + 1)))) := by
          show _ = _
          rw [hn, if_neg hlf, hE.out, str_append, List.append_assoc]
        have hS2 : (S ++ str [c]).size ≤ k + 1 + 2 := by rw [ByteArray.size_append, hcs]; omega
        clear hn hE hlf
        generalize str [c] = C at *
        go_wp2
        go_round
        case rel => exact ⟨S ++ C, k + 1, rfl, by go_num, by omega, hS2, hE2⟩
        case measure => simp [intOf]; omega
    · obtain rfl : k = l.length := by omega
      have hE2 : Hid (S ++ ⟨#[10]⟩ = str (cm l)) := by
        show _ = _
        have e : (⟨#[10]⟩ : ByteArray) = str [10] := rfl
        rw [hE.out, e, str_append, List.take_length]
        rfl
      clear hE hlt hk
      go_wp2
      go_ret
      exact ⟨by rw [← hE2.out]; rfl, rfl⟩
end Go.Proofs.YtgglmcjclbaceaaDoor
