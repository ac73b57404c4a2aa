/- The library's heap over the queue: contracts of up, down, Push and Pop. -/
import Derived.Test.YtaiddgndjiaoaaaGQ
import Derived.Deep.RegionWith
namespace Go.Proofs.Ytaiddgndjiaoaaa
open Go.RowKit
set_option linter.unusedVariables false

theorem wrap_chk (xt : TypeId) (a : Addr) (nm : String) : Builtin.ssaWrapNilChk_ #[xt] xt #[.pointer (some a), strVal "", strVal nm] = pure (.pointer (some a)) := by rfl
theorem method_value {P : Program} {t te : TypeId} {name : String} {f : FuncId} {a : Addr} {W : World} {k : Nat} {v : Value} (hu : P.underlying t = some (.pointer te))
    (hm : ((P.info? t).bind fun i => (i.methods.find? (·.name == name)).map fun m => (m.path, m.func)) = some (#[], some (f, false))) (hl : (loadVar te a).run P W = .ok v W) :
    (method (k + 1) t (.pointer (some a)) name).run P W = .ok (f, v) W := by
  rcases hi : P.info? t with _ | i
  · rw [hi] at hm; simp at hm
  · rw [hi] at hm
    simp only [Option.bind_some] at hm
    rcases hq : i.methods.find? (·.name == name) with _ | m
    · rw [hq] at hm; simp at hm
    · rw [hq] at hm
      simp only [Option.map_some, Option.some.injEq, Prod.mk.injEq] at hm
      simp [method, typeInfo, hi, hq, hm.1, hm.2, follow, receiverAt, run_underlying hu, Place.get, wrap_chk, asAddr, hl]

theorem load_slice {W : World} {p : Nat} {a : Option Addr} {n c : Nat} (hc : W.cell? ⟨p, 0, none⟩ = some (.slice a n c)) : (loadVar 65 ⟨p, 0, none⟩).run Try.prog W = .ok (.slice a n c) W := by go_simp
theorem m_less {W : World} {p : Nat} {a : Option Addr} {n c : Nat} (hc : W.cell? ⟨p, 0, none⟩ = some (.slice a n c)) : (method 219 64 (.pointer (some ⟨p, 0, none⟩)) "Less").run Try.prog W = .ok (89, .slice a n c) W :=
  method_value Try.underlying64 (by kernel_rfl) (load_slice hc)
theorem m_swap {W : World} {p : Nat} {a : Option Addr} {n c : Nat} (hc : W.cell? ⟨p, 0, none⟩ = some (.slice a n c)) : (method 219 64 (.pointer (some ⟨p, 0, none⟩)) "Swap").run Try.prog W = .ok (92, .slice a n c) W :=
  method_value Try.underlying64 (by kernel_rfl) (load_slice hc)
theorem m_len {W : World} {p : Nat} {a : Option Addr} {n c : Nat} (hc : W.cell? ⟨p, 0, none⟩ = some (.slice a n c)) : (method 219 64 (.pointer (some ⟨p, 0, none⟩)) "Len").run Try.prog W = .ok (45, .slice a n c) W :=
  method_value Try.underlying64 (by kernel_rfl) (load_slice hc)
theorem m_push (p : Nat) (W : World) : (method 219 64 (.pointer (some ⟨p, 0, none⟩)) "Push").run Try.prog W = .ok (91, .pointer (some ⟨p, 0, none⟩)) W := by kernel_rfl
theorem m_pop (p : Nat) (W : World) : (method 219 64 (.pointer (some ⟨p, 0, none⟩)) "Pop").run Try.prog W = .ok (90, .pointer (some ⟨p, 0, none⟩)) W := by kernel_rfl

abbrev qi (p : Nat) : Value := .iface 64 (.pointer (some ⟨p, 0, none⟩))
theorem qlen_pos {w : World} {p : Nat} {v : Value} {q : List Nat} (hQ : QueueAt w p v q) (h : 0 < q.length) : ∃ g cap, v = .slice (some ⟨g, 0, none⟩) q.length cap := by
  rcases hQ.2.1.2 with ⟨_, h0⟩ | ⟨g, cap, cur, hv, _⟩
  · omega
  · exact ⟨g, cap, hv⟩

set_option maxHeartbeats 1000000 in
set_option maxRecDepth 100000 in
theorem up_any (p : Nat) (v : Value) (q : List Nat) (j : Nat) (w : World) (hQ : QueueAt w p v q) (hU : UpInv q j) (hj : j < q.length) (hq : q.length ≤ 1000000) :
    Calls Try.prog 62 #[qi p, .int .i64 (j : Int)] w fun e w' => e = .returned (.tuple #[]) ∧ ∃ q', q'.Perm q ∧ Heap q' ∧ QueueAt w' p v q' ∧ Keeps w w' p v.ownBlock := by
  obtain ⟨g, cap, rfl⟩ := qlen_pos hQ (by omega)
  go_enter Try.func62, Try.ntmps62
  go_wp2
  go_loopw [1] (fun j wr => ∃ (k : Nat) (q' : List Nat), j = .int .i64 k ∧ k < q.length ∧ Hid (q'.Perm q ∧ UpInv q' k ∧ QueueAt wr p (.slice (some ⟨g, 0, none⟩) q.length cap) q' ∧ Keeps w wr p (some g))) (fun j _ => (intOf j).toNat)
  case atStart => exact ⟨j, q, rfl, hj, List.Perm.refl _, hU, hQ, Keeps.refl _ _ _⟩
  case round =>
    obtain ⟨k, q', rfl, hk, hh⟩ := hrel
    have hc := hh.out.2.2.1.1.cell (i := 0) (by omega)
    have hML := fun m => m_less (W := wr.drewN m) hc
    have hMS := fun m => m_swap (W := wr.drewN m) hc
    have hML0 := m_less hc
    have hl : q'.length = q.length := hh.out.1.length_eq
    have hown : wr.ownsRow (p - 1) 3 1 (.slice (some ⟨g, 0, none⟩) q'.length cap) q'.length (nums q') := by
      have h := hh.out.2.2.1.2.1
      rwa [← hl] at h
    have hcell : ∀ i, i < q.length → wr.cell? ⟨g, i, none⟩ = some (.int .i64 (at0 q' i : Nat)) := fun i hi => by
      rw [hown.cellAt i (by omega)]; exact nums_at (by omega)
    have HSW := Lib.hid (fun (i j m : Nat) (hi : i < q'.length) (hj : j < q'.length) => qswap_any g cap q' (p - 1) i j hi hj (wr.drewN m) hown (by omega))
    clear hown
    have HC := Lib.hid hcell
    have HL := Lib.hid hl
    clear hl hcell
    by_cases h0 : 0 < k
    · have hpar : ((k : Int) - 1) / 2 = ((par k : Nat) : Int) := by unfold par; omega
      have hpk := par_lt h0
      have hne : (par k == k) = false := by simp; omega
      have hne2 : (((par k : Nat) : Int) == (k : Int)) = false := by simp; omega
      by_cases hlt : at0 q' k < at0 q' (par k)
      · have hd : decide (at0 q' k < at0 q' (par k)) = true := decide_eq_true hlt
        go_wp2_with (first
          | (go_at_call 89; refine (qless_any g q.length cap q' k (par k) (by omega) (by omega) _ HC.out hq).mono ?_; rintro e w' ⟨rfl, m, rfl⟩))
        have hsw := HSW.out (par k) k m (by have := HL.out; omega) (by have := HL.out; omega)
        rw [HL.out] at hsw
        refine hsw.mono ?_
        rintro e w2 ⟨rfl, ho2, hg2⟩
        have hR : Hid ((swp q' (par k) k).Perm q ∧ UpInv (swp q' (par k) k) (par k) ∧ QueueAt w2 p (.slice (some ⟨g, 0, none⟩) q.length cap) (swp q' (par k) k) ∧ Keeps w w2 p (some g)) := by
          have e1 := HL.out
          have hh := hh.out
          have hne : some p ≠ (Value.slice (some ⟨g, 0, none⟩) q.length cap).ownBlock := hh.2.2.1.2.2
          refine ⟨(swp_perm (by omega) (by omega)).trans hh.1, up_step hh.2.1 h0 (by omega) hlt, ⟨row_grown (w := wr.drewN m) hh.2.2.1.1 hg2 hne, ?_, hne⟩, ?_⟩
          · rw [swp_length, e1]; exact ho2
          · exact Keeps.trans (v := .slice (some ⟨g, 0, none⟩) q.length cap) (v' := .slice (some ⟨g, 0, none⟩) q.length cap) (hh.2.2.2.drewN m) (.inl rfl) (Keeps.of_grown hg2 p)
        clear hsw ho2 hg2
        go_wp2
        go_roundw
        case rel => exact ⟨par k, _, rfl, by omega, hR⟩
        case measure => simp [intOf]; omega
      · have hd : decide (at0 q' k < at0 q' (par k)) = false := decide_eq_false hlt
        go_wp2_with (first
          | (go_at_call 89; refine (qless_any g q.length cap q' k (par k) (by omega) (by omega) _ HC.out hq).mono ?_; rintro e w' ⟨rfl, m, rfl⟩))
        go_end0
        exact ⟨rfl, q', hh.out.1, up_stop hh.out.2.1 (.inr (by omega)), hh.out.2.2.1, hh.out.2.2.2.drewN m⟩
    · obtain rfl : k = 0 := by omega
      go_wp2
      go_end0
      exact ⟨rfl, q', hh.out.1, up_stop hh.out.2.1 (.inl rfl), hh.out.2.2.1, hh.out.2.2.2⟩

theorem qless_int (g n cap : Nat) (q : List Nat) (x y : Int) (i j : Nat) (hx : x = (i : Int)) (hy : y = (j : Int)) (hi : i < n) (hj : j < n) (w : World) (hq : ∀ k, k < n → w.cell? ⟨g, k, none⟩ = some (.int .i64 (at0 q k : Nat))) (hn : n ≤ 1000000) (r : Bool) (hr : decide (at0 q i < at0 q j) = r) :
    Calls Try.prog 89 #[.slice (some ⟨g, 0, none⟩) n cap, .int .i64 x, .int .i64 y] w fun e w' => e = .returned (.bool r) ∧ ∃ m, w' = w.drewN m := by
  subst hx hy hr
  exact qless_any g n cap q i j hi hj w hq hn
theorem qswap_int (g cap n : Nat) (q : List Nat) (x y : Int) (base i j : Nat) (hx : x = (i : Int)) (hy : y = (j : Int)) (hl : q.length = n) (hi : i < n) (hj : j < n) (w : World) (hown : w.ownsRow base 3 1 (.slice (some ⟨g, 0, none⟩) n cap) n (nums q)) (hn : n ≤ 1000000) :
    Calls Try.prog 92 #[.slice (some ⟨g, 0, none⟩) n cap, .int .i64 x, .int .i64 y] w fun e w' => e = .returned (.tuple #[]) ∧
      w'.ownsRow base 3 1 (.slice (some ⟨g, 0, none⟩) n cap) n (nums (swp q i j)) ∧ w.grownBy w' (some g) := by
  subst hx hy hl
  exact qswap_any g cap q base i j hi hj w hown hn

def SomeBool (e : Ending) : Prop := ∃ b, e = .returned (.bool b)
/-- The state of a walk downwards. -/
def DownAt (w wr : World) (p g cap n : Nat) (q q' : List Nat) (k : Nat) : Prop :=
  q'.Perm q ∧ DownInv q' n k ∧ at0 q' n = at0 q n ∧ QueueAt wr p (.slice (some ⟨g, 0, none⟩) q.length cap) q' ∧ Keeps w wr p (some g)
theorem downAt_drew {w wr : World} {p g cap n : Nat} {q q' : List Nat} {k : Nat} (h : DownAt w wr p g cap n q q' k) (m : Nat) : DownAt w (wr.drewN m) p g cap n q q' k :=
  ⟨h.1, h.2.1, h.2.2.1, h.2.2.2.1, h.2.2.2.2.drewN m⟩
theorem downAt_step {w wr w2 : World} {p g cap n : Nat} {q q' : List Nat} {k j : Nat} (h : DownAt w wr p g cap n q q' k) (hn : n < q.length) (j0 : 0 < j) (hj : j < n) (hp : par j = k) (hc : ∀ c, 0 < c → c < n → par c = k → at0 q' j ≤ at0 q' c) (hlt : at0 q' j < at0 q' k)
    (ho2 : w2.ownsRow (p - 1) 3 1 (.slice (some ⟨g, 0, none⟩) q.length cap) q.length (nums (swp q' k j))) (hg2 : wr.grownBy w2 (some g)) : DownAt w w2 p g cap n q (swp q' k j) j := by
  obtain ⟨h1, h2, h3, h4, h5⟩ := h
  have hl := h1.length_eq
  have hpj := par_lt j0
  have hne : some p ≠ (Value.slice (some ⟨g, 0, none⟩) q.length cap).ownBlock := h4.2.2
  refine ⟨(swp_perm (by omega) (by omega)).trans h1, down_step h2 (by omega) j0 hj hp hc hlt, ?_, ⟨row_grown h4.1 hg2 hne, by rw [swp_length, hl]; exact ho2, hne⟩, ?_⟩
  · rw [swp_at (by omega) (by omega), if_neg (by omega), if_neg (by omega)]
    exact h3
  · exact Keeps.trans (v := .slice (some ⟨g, 0, none⟩) q.length cap) (v' := .slice (some ⟨g, 0, none⟩) q.length cap) h5 (.inl rfl) (Keeps.of_grown hg2 p)
theorem par_child {c k : Nat} (h0 : 0 < c) : par c = k ↔ c = 2 * k + 1 ∨ c = 2 * k + 2 := by unfold par; omega

set_option maxHeartbeats 2000000 in
set_option maxRecDepth 100000 in
theorem down_any (p : Nat) (v : Value) (q : List Nat) (n : Nat) (w : World) (hQ : QueueAt w p v q) (hD : DownInv q n 0) (hn : q.length = n + 1) (hq : q.length ≤ 1000000) :
    Calls Try.prog 63 #[qi p, .int .i64 0, .int .i64 (n : Int)] w fun e w' => SomeBool e ∧ ∃ q', q'.Perm q ∧ HeapTo q' n ∧ at0 q' n = at0 q n ∧ QueueAt w' p v q' ∧ Keeps w w' p v.ownBlock := by
  obtain ⟨g, cap, rfl⟩ := qlen_pos hQ (by omega)
  have hnq : n < q.length := by omega
  have hn6 : (n : Int) ≤ 1000000 := by omega
  clear hn
  go_enter Try.func63, Try.ntmps63
  go_wp2
  go_loopw [7] (fun j wr => ∃ (k : Nat) (q' : List Nat), j = .int .i64 k ∧ k ≤ n ∧ Hid (DownAt w wr p g cap n q q' k)) (fun j _ => n - (intOf j).toNat)
  case atStart => exact ⟨0, q, rfl, by omega, List.Perm.refl _, hD, rfl, hQ, Keeps.refl _ _ _⟩
  case round =>
    obtain ⟨k, q', rfl, hk, hh⟩ := hrel
    have hc := hh.out.2.2.2.1.1.cell (i := 0) (by omega)
    have hML := fun m => m_less (W := wr.drewN m) hc
    have hMS := fun m => m_swap (W := wr.drewN m) hc
    have hML0 := m_less hc
    have hl : q'.length = q.length := hh.out.1.length_eq
    have hown : wr.ownsRow (p - 1) 3 1 (.slice (some ⟨g, 0, none⟩) q.length cap) q.length (nums q') := by
      have h := hh.out.2.2.2.1.2.1
      rwa [hl] at h
    have hcell : ∀ i, i < q.length → wr.cell? ⟨g, i, none⟩ = some (.int .i64 (at0 q' i : Nat)) := fun i hi => by
      rw [hown.cellAt i (by omega)]; exact nums_at (by omega)
    have HSW := Lib.hid (fun (x y : Int) (i j m : Nat) hx hy (hi : i < q.length) (hj : j < q.length) => qswap_int g cap q.length q' x y (p - 1) i j hx hy hl hi hj (wr.drewN m) hown hq)
    have HC := Lib.hid hcell
    clear hown hl hcell
    by_cases h1 : 2 * k + 1 < n
    · by_cases h2 : 2 * k + 2 < n
      · by_cases h3 : at0 q' (2 * k + 2) < at0 q' (2 * k + 1)
        · have HCH : ∀ c, 0 < c → c < n → par c = k → at0 q' (2 * k + 2) ≤ at0 q' c := fun c c0 _ cp => by
            rcases (par_child c0).1 cp with rfl | rfl <;> omega
          go_wp2_with fail
          refine (qless_int g _ cap q' _ _ (2 * k + 2) (2 * k + 1) (by omega) (by omega) (by omega) (by omega) _ (by exact HC.out) hq true (decide_eq_true h3)).mono ?_
          rintro e w' ⟨rfl, m, rfl⟩
          by_cases hlt : at0 q' (2 * k + 2) < at0 q' k
          · go_wp2_with fail
            refine (qless_int g _ cap q' _ _ (2 * k + 2) k (by omega) (by omega) (by omega) (by omega) _ (by exact HC.out) hq true (decide_eq_true hlt)).mono ?_
            rintro e w' ⟨rfl, m2, rfl⟩
            go_wp2_with fail
            refine (HSW.out _ _ k (2 * k + 2) _ (by omega) (by omega) (by omega) (by omega)).mono ?_
            rintro e w2 ⟨rfl, ho2, hg2⟩
            have hR := Lib.hid (downAt_step (downAt_drew hh.out _) hnq (by omega) (by omega) ((par_child (by omega)).2 (by omega)) HCH hlt ho2 hg2)
            clear ho2 hg2
            go_wp2
            go_roundw
            case rel => exact ⟨2 * k + 2, _, by go_num, by omega, hR⟩
            case measure => simp [intOf]; omega
          · go_wp2_with fail
            refine (qless_int g _ cap q' _ _ (2 * k + 2) k (by omega) (by omega) (by omega) (by omega) _ (by exact HC.out) hq false (decide_eq_false hlt)).mono ?_
            rintro e w' ⟨rfl, m2, rfl⟩
            have hE := Lib.hid (downAt_drew hh.out m2)
            go_wp2
            go_ret
            exact ⟨⟨_, rfl⟩, q', hh.out.1, down_stop hh.out.2.1 (fun c c0 cn cp => by have := HCH c c0 cn cp; omega), hh.out.2.2.1, hh.out.2.2.2.1, hh.out.2.2.2.2.drewN _⟩
        · have HCH : ∀ c, 0 < c → c < n → par c = k → at0 q' (2 * k + 1) ≤ at0 q' c := fun c c0 _ cp => by
            rcases (par_child c0).1 cp with rfl | rfl <;> omega
          go_wp2_with fail
          refine (qless_int g _ cap q' _ _ (2 * k + 2) (2 * k + 1) (by omega) (by omega) (by omega) (by omega) _ (by exact HC.out) hq false (decide_eq_false h3)).mono ?_
          rintro e w' ⟨rfl, m, rfl⟩
          by_cases hlt : at0 q' (2 * k + 1) < at0 q' k
          · go_wp2_with fail
            refine (qless_int g _ cap q' _ _ (2 * k + 1) k (by omega) (by omega) (by omega) (by omega) _ (by exact HC.out) hq true (decide_eq_true hlt)).mono ?_
            rintro e w' ⟨rfl, m2, rfl⟩
            go_wp2_with fail
            refine (HSW.out _ _ k (2 * k + 1) _ (by omega) (by omega) (by omega) (by omega)).mono ?_
            rintro e w2 ⟨rfl, ho2, hg2⟩
            have hR := Lib.hid (downAt_step (downAt_drew hh.out _) hnq (by omega) (by omega) ((par_child (by omega)).2 (by omega)) HCH hlt ho2 hg2)
            clear ho2 hg2
            go_wp2
            go_roundw
            case rel => exact ⟨2 * k + 1, _, by go_num, by omega, hR⟩
            case measure => simp [intOf]; omega
          · go_wp2_with fail
            refine (qless_int g _ cap q' _ _ (2 * k + 1) k (by omega) (by omega) (by omega) (by omega) _ (by exact HC.out) hq false (decide_eq_false hlt)).mono ?_
            rintro e w' ⟨rfl, m2, rfl⟩
            have hE := Lib.hid (downAt_drew hh.out m2)
            go_wp2
            go_ret
            exact ⟨⟨_, rfl⟩, q', hh.out.1, down_stop hh.out.2.1 (fun c c0 cn cp => by have := HCH c c0 cn cp; omega), hh.out.2.2.1, hh.out.2.2.2.1, hh.out.2.2.2.2.drewN _⟩
      · have HCH : ∀ c, 0 < c → c < n → par c = k → at0 q' (2 * k + 1) ≤ at0 q' c := fun c c0 cn cp => by
          rcases (par_child c0).1 cp with rfl | rfl <;> omega
        by_cases hlt : at0 q' (2 * k + 1) < at0 q' k
        · go_wp2_with fail
          refine (qless_int g _ cap q' _ _ (2 * k + 1) k (by omega) (by omega) (by omega) (by omega) _ (by exact HC.out) hq true (decide_eq_true hlt)).mono ?_
          rintro e w' ⟨rfl, m2, rfl⟩
          go_wp2_with fail
          refine (HSW.out _ _ k (2 * k + 1) _ (by omega) (by omega) (by omega) (by omega)).mono ?_
          rintro e w2 ⟨rfl, ho2, hg2⟩
          have hR := Lib.hid (downAt_step (downAt_drew hh.out _) hnq (by omega) (by omega) ((par_child (by omega)).2 (by omega)) HCH hlt ho2 hg2)
          clear ho2 hg2
          go_wp2
          go_roundw
          case rel => exact ⟨2 * k + 1, _, by go_num, by omega, hR⟩
          case measure => simp [intOf]; omega
        · go_wp2_with fail
          refine (qless_int g _ cap q' _ _ (2 * k + 1) k (by omega) (by omega) (by omega) (by omega) _ (by exact HC.out) hq false (decide_eq_false hlt)).mono ?_
          rintro e w' ⟨rfl, m2, rfl⟩
          have hE := Lib.hid (downAt_drew hh.out m2)
          go_wp2
          go_ret
          exact ⟨⟨_, rfl⟩, q', hh.out.1, down_stop hh.out.2.1 (fun c c0 cn cp => by have := HCH c c0 cn cp; omega), hh.out.2.2.1, hh.out.2.2.2.1, hh.out.2.2.2.2.drewN _⟩
    · go_wp2
      go_ret
      exact ⟨⟨_, rfl⟩, q', hh.out.1, down_stop hh.out.2.1 (fun c c0 cn cp => by have := (par_child c0).1 cp; omega), hh.out.2.2.1, hh.out.2.2.2.1, hh.out.2.2.2.2⟩
end Go.Proofs.Ytaiddgndjiaoaaa
