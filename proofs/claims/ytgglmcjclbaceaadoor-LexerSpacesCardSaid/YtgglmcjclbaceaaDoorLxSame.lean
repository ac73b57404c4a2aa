/- The law's same and the reference's Join: contracts. -/
import Derived.Test.YtgglmcjclbaceaaDoorLxSep
import Derived.Test.YtgglmcjclbaceaaDoorLxAwake
import Derived.Test.YtgglmcjclbaceaaDoorLxRef3
import Derived.Laws.StructEq
import Derived.Deep.QuietTactic
import Derived.BigQuiet
namespace Go.Proofs.YtgglmcjclbaceaaDoor
open Go Go.RowKit
set_option linter.unusedVariables false

/-- A list of tokens in memory, or none. -/
def TkV (w : World) (v : Value) (ts : List Tok) : Prop := (ts = [] ∧ v = .slice none 0 0) ∨ ∃ g c, v = .slice (some ⟨g, 0, none⟩) ts.length c ∧ TkIn w g ts
theorem TkV.own {w : World} {base : Nat} {e : TypeId} {v : Value} {ts : List Tok} (h : w.ownsRow base e 5 v ts.length (tcells ts)) : TkV w v ts := by
  rcases toks_own h with h | ⟨g, c, h, _, h2⟩
  · exact .inl h
  · exact .inr ⟨g, c, h, h2⟩
theorem TkV.below {w w' : World} {v : Value} {ts : List Tok} (h : TkV w v ts) (hb : Below w.heap.size w w') : TkV w' v ts := by
  rcases h with h | ⟨g, c, h, h2⟩
  · exact .inl h
  · exact .inr ⟨g, c, h, h2.below hb h2.1⟩
structure SmSt (ts us : List Tok) (w wr : World) (g1 g2 : Nat) : Prop where
  t1 : TkIn wr g1 ts
  t2 : TkIn wr g2 us
  bel : Below w.heap.size w wr
theorem ktn_at {ts us : List Tok} (h : ts.map ktn = us.map ktn) (i : Nat) : (tat ts i).kind = (tat us i).kind ∧ (tat ts i).text = (tat us i).text ∧ (tat ts i).num = (tat us i).num := by
  have h1 : (ts.map ktn)[i]? = (us.map ktn)[i]? := by rw [h]
  rw [List.getElem?_map, List.getElem?_map] at h1
  unfold tat List.getD
  cases e1 : ts[i]? with
  | none =>
    cases e2 : us[i]? with
    | none => exact ⟨rfl, rfl, rfl⟩
    | some b => rw [e1, e2] at h1; cases h1
  | some a =>
    cases e2 : us[i]? with
    | none => rw [e1, e2] at h1; cases h1
    | some b =>
      rw [e1, e2] at h1
      have h2 : ktn a = ktn b := by simpa using h1
      unfold ktn at h2
      injection h2 with q1 q2
      injection q2 with q2 q3
      exact ⟨q1, q2, q3⟩

set_option maxHeartbeats 4000000 in
set_option maxRecDepth 100000 in
theorem same_any (ts us : List Tok) (v1 v2 : Value) (w : World) (h1 : TkV w v1 ts) (h2 : TkV w v2 us) (h : ts.map ktn = us.map ktn) (hn : ts.length ≤ 2000) :
    Calls Tryd.prog 15 #[v1, v2] w fun e w' => e = .returned (.bool true) ∧ Below w.heap.size w w' := by
  have hl : us.length = ts.length := by have := congrArg List.length h; simpa using this.symm
  have HK := Lib.hid (ktn_at h)
  have HB0 := Lib.hid (Below.refl w.heap.size w)
  clear h
  rcases h1 with ⟨h0, rfl⟩ | ⟨g1, c1, rfl, hT1⟩
  · obtain rfl : ts = [] := h0
    obtain rfl : us = [] := List.eq_nil_of_length_eq_zero hl
    rcases h2 with ⟨_, rfl⟩ | ⟨g2, c2, rfl, hT2⟩
    all_goals
      clear hl hn HK
      go_enter Tryd.func15, Tryd.ntmps15
      go_wp2
      go_loop [5] (fun i => i = .int .i64 0) (fun _ => 0)
      case atStart => rfl
      case round =>
        obtain rfl := hrel
        go_wp2
        go_ret
        exact ⟨by simp, HB0.out⟩
  · rcases h2 with ⟨h0, rfl⟩ | ⟨g2, c2, rfl, hT2⟩
    · obtain rfl : us = [] := h0
      obtain rfl : ts = [] := List.eq_nil_of_length_eq_zero hl.symm
      clear hl hn HK hT1
      go_enter Tryd.func15, Tryd.ntmps15
      go_wp2
      go_loop [5] (fun i => i = .int .i64 0) (fun _ => 0)
      case atStart => rfl
      case round =>
        obtain rfl := hrel
        go_wp2
        go_ret
        exact ⟨by simp, HB0.out⟩
    · have hS0 : Hid (SmSt ts us w w g1 g2) := ⟨hT1, hT2, HB0.out⟩
      rw [hl]
      have HL := Lib.hid hl
      clear hT1 hT2 HB0 hl
      go_enter Tryd.func15, Tryd.ntmps15
      go_wp2
      go_loopw [5] (fun i wr => ∃ ii : Nat, i = .int .i64 (ii : Int) ∧ ii ≤ ts.length ∧ Hid (SmSt ts us w wr g1 g2)) (fun i _ => ts.length - (intOf i).toNat)
      case atStart => exact ⟨0, rfl, by omega, hS0⟩
      case round =>
        clear hS0
        obtain ⟨i, rfl, hi, hT⟩ := hrel
        obtain ⟨wo, rfl⟩ : ∃ wo : World, wo = wr := ⟨_, rfl⟩
        by_cases hlt : i < ts.length
        · obtain ⟨c0, c1, c2, c3, c4⟩ := hT.out.t1.2 i hlt
          obtain ⟨d0, d1, d2, d3, d4⟩ := hT.out.t2.2 i (by rw [HL.out]; exact hlt)
          obtain ⟨k1, k2, k3⟩ := HK.out i
          rw [← k1] at d0
          rw [← k2] at d1
          rw [← k3] at d2
          clear c3 c4 d3 d4 k1 k2 k3
          generalize str (tat ts i).text = T at *
          generalize (tat ts i).kind = K at *
          generalize (tat ts i).num = N at *
          have hw : ∀ nq, Hid (SmSt ts us w (wo.drewN nq) g1 g2) := fun nq => by
            have h1 := Below.refl wo.heap.size wo
            have h2 : Below wo.heap.size wo (wo.drewN nq) := ⟨h1.os, h1.tape, h1.output, h1.size, h1.block⟩
            exact ⟨hT.out.t1.below h2 hT.out.t1.1, hT.out.t2.below h2 hT.out.t2.1, hT.out.bel.trans (h2.mono hT.out.bel.size)⟩
          have HW := Lib.hid hw
          have e1 : decide ((K : Int) = (K : Int)) = true := by simp
          clear hw hT
          go_wp2
          go_quiet (fail)
          have hN := HW.out nq
          clear HW c0 c1 c2 d0 d1 d2
          go_wp2
          go_roundw
          case rel => exact ⟨i + 1, by go_num, by omega, hN⟩
          case measure => simp [intOf]; omega
        · have HBO := Lib.hid hT.out.bel
          clear hT
          go_wp2
          go_ret
          exact ⟨by simp, HBO.out⟩

/-- The texts of the first k tokens, with single blanks between them. -/
def joinP (i : Nat) (t : Tok) : List UInt8 × Tok := (if i = 0 then [] else [32], t)
def J (ts : List Tok) (k : Nat) : List UInt8 := sepL ((ts.take k).mapIdx joinP)
theorem sepL_append (ps qs : List (List UInt8 × Tok)) : sepL (ps ++ qs) = sepL ps ++ sepL qs := by
  induction ps with
  | nil => rfl
  | cons p ps ih => obtain ⟨b, t⟩ := p; simp [sepL, ih]
theorem J_zero (ts : List Tok) : J ts 0 = [] := by simp [J, sepL]
theorem J_succ {ts : List Tok} {k : Nat} (h : k < ts.length) : J ts (k + 1) = J ts k ++ ((if k = 0 then [] else [32]) ++ (tat ts k).text) := by
  unfold J
  rw [List.take_succ_eq_append_getElem h, List.mapIdx_concat, sepL_append, tat_get h]
  have hl : (ts.take k).length = k := by rw [List.length_take]; omega
  rw [hl]
  simp [sepL, joinP]
def tsum (ts : List Tok) : Nat := (ts.map fun t => t.text.length).sum
theorem J_len {ts : List Tok} : ∀ k, k ≤ ts.length → (J ts k).length + tsum (ts.drop k) ≤ tsum ts + k := by
  intro k
  induction k with
  | zero => intro _; rw [J_zero]; simp
  | succ k ih =>
    intro h
    have := ih (by omega)
    rw [J_succ (by omega)]
    rw [List.drop_eq_getElem_cons (show k < ts.length by omega)] at this
    have e : tsum (ts[k] :: ts.drop (k + 1)) = ts[k].text.length + tsum (ts.drop (k + 1)) := rfl
    rw [e] at this
    rw [tat_get (show k < ts.length by omega)]
    simp only [List.length_append]
    split <;> simp <;> omega

set_option maxHeartbeats 1000000 in
set_option maxRecDepth 100000 in
theorem rJoin_any (ts : List Tok) (v : Value) (w : World) (h1 : TkV w v ts) (hn : ts.length ≤ 2000) (ht : tsum ts ≤ 2000) :
    Calls Tryd.prog 16 #[v] w fun e w' => e = .returned (.string (str (J ts ts.length))) ∧ w = w' := by
  have HJ := Lib.hid fun k (h : k < ts.length) => J_succ h
  have HB := Lib.hid fun k (h : k ≤ ts.length) => (by have := J_len k h; omega : (J ts k).length ≤ 4000)
  have h0 : Hid (J ts 0 = []) := J_zero ts
  generalize hF : J ts = F at *
  rcases h1 with ⟨e0, rfl⟩ | ⟨g, c, rfl, hT⟩
  · obtain rfl : ts = [] := e0
    have h00 : F ([] : List Tok).length = [] := h0.out
    rw [h00]
    clear hF h00 h0 HJ HB
    go_enter Tryd.func16, Tryd.ntmps16
    go_wp2
    go_loop [3, 4] (fun s i => s = .string ⟨#[]⟩ ∧ i = .int .i64 0) (fun _ _ => 0)
    case atStart => exact ⟨rfl, rfl⟩
    case round =>
      obtain ⟨rfl, rfl⟩ := hrel
      go_wp2
      go_ret
      exact ⟨rfl, rfl⟩
  · have HT := Lib.hid hT
    clear hT hF ht
    go_enter Tryd.func16, Tryd.ntmps16
    go_wp2
    go_loop [3, 4] (fun s i => ∃ (S : ByteArray) (k : Nat), s = .string S ∧ i = .int .i64 (k : Int) ∧ k ≤ ts.length ∧ S.size ≤ 4000 ∧ Hid (S = str (F k))) (fun _ i => ts.length - (intOf i).toNat)
    case atStart => exact ⟨⟨#[]⟩, 0, rfl, rfl, by omega, by show (0 : Nat) ≤ 4000; omega, by show _ = _; rw [h0.out]; rfl⟩
    case round =>
      clear h0
      obtain ⟨S, k, rfl, rfl, hk, hS, hE⟩ := hrel
      by_cases hlt : k < ts.length
      · obtain ⟨c0, c1, c2, c3, c4⟩ := HT.out.2 k hlt
        have hst := HJ.out k hlt
        have hbd := HB.out (k + 1) (by omega)
        have hsz : (str (tat ts k).text).size ≤ 4000 := by
          rw [str_size]
          rw [hst] at hbd
          simp only [List.length_append] at hbd
          omega
        by_cases hk0 : k = 0
        · have hN : Hid (S ++ str (tat ts k).text = str (F (k + 1))) := by
            show _ = _
            rw [hE.out, str_append, hst, if_pos hk0]
            rfl
          have hSN : (S ++ str (tat ts k).text).size ≤ 4000 := by rw [hN.out, str_size]; exact hbd
          have hg : decide (0 < (k : Int)) = false := decide_eq_false (by omega)
          have hkz : ¬ (0 : Int) < (k : Int) := by omega
          clear hst hbd hE c0 c2 c3 c4 hk0
          generalize str (tat ts k).text = T at *
          go_wp2
          go_round
          case rel => exact ⟨S ++ T, k + 1, rfl, by go_num, by omega, hSN, hN⟩
          case measure => simp [intOf]; omega
        · have hN : Hid (S ++ ⟨#[32]⟩ ++ str (tat ts k).text = str (F (k + 1))) := by
            show _ = _
            have e : (⟨#[32]⟩ : ByteArray) = str [32] := rfl
            rw [hE.out, e, str_append, str_append, hst, if_neg hk0, List.append_assoc]
          have hSN : (S ++ ⟨#[32]⟩ ++ str (tat ts k).text).size ≤ 4000 := by rw [hN.out, str_size]; exact hbd
          have hS1 : (S ++ (⟨#[32]⟩ : ByteArray)).size = S.size + 1 := by simp [ByteArray.size_append]; rfl
          have hg : (0 : Int) < (k : Int) := by omega
          clear hst hbd hE c0 c2 c3 c4 hk0
          generalize str (tat ts k).text = T at *
          go_wp2
          go_round
          case rel => exact ⟨S ++ ⟨#[32]⟩ ++ T, k + 1, rfl, by go_num, by omega, hSN, hN⟩
          case measure => simp [intOf]; omega
      · obtain rfl : k = ts.length := by omega
        have hE2 := hE.out
        subst hE2
        go_wp2
        go_ret
        exact ⟨rfl, rfl⟩
end Go.Proofs.YtgglmcjclbaceaaDoor
