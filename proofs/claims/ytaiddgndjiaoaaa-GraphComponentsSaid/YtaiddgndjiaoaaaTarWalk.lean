/- Package graph's Components: the contract of the search from one node. -/
import Derived.Test.YtaiddgndjiaoaaaTar
namespace Go.Proofs.Ytaiddgndjiaoaaa
open Go.RowKit
set_option linter.unusedVariables false

theorem tar_idx {E : Nat → Nat → Bool} {n : Nat} {T0 O0 T X : List Nat} {v k low : Nat} (h : TarMid E n T0 O0 v T X k low) (hv : v ∉ T0) : plc T v = (T0.length : Int) := by
  have hvT : v ∈ T := pre_mem h.grow (by simp)
  unfold plc
  rw [if_pos hvT, idx_pre h.grow (by simp), List.idxOf_append, if_neg hv]
  simp

/-- In the midst of v's list. -/
structure TarRd (w0 wr : World) (B b2 po pv pn px pw pl Bn Bl : Nat) (E : Nat → Nat → Bool) (n : Nat) (T0 O0 : List Nat) (v : Nat) (T X : List Nat) (k low : Nat) : Prop where
  mid : TarMid E n T0 O0 v T X k low
  mem : TarMem w0 wr B b2 po pv pn px pw pl Bn Bl n (lst E n T (O0 ++ X)) T (O0 ++ X)
/-- What the search hands back. -/
def TarRes (w0 : World) (B b2 po pv pn px pw pl Bn Bl : Nat) (E : Nat → Nat → Bool) (n : Nat) (T0 O0 : List Nat) (v : Nat) (e : Ending) (w' : World) : Prop :=
  ∃ (T X : List Nat) (low : Nat), e = .returned (.int .i64 (low : Int)) ∧ TarOut E n T0 O0 v T X low ∧ TarMem w0 w' B b2 po pv pn px pw pl Bn Bl n (lst E n T (O0 ++ X)) T (O0 ++ X)
/-- While the component's nodes get it. -/
structure TarFin (w0 wr : World) (B b2 po pv pn px pw pl Bn Bl : Nat) (E : Nat → Nat → Bool) (n : Nat) (T O X : List Nat) (g ln cap m i : Nat) : Prop where
  mem : TarMem w0 wr B b2 po pv pn px pw pl Bn Bl n (fun u => if u ∈ X.take i then (m : Int) else lst E n T (O ++ X) u) T (O ++ X)
  cells : ∀ j, j < X.length → wr.cell? ⟨g, O.length + j, none⟩ = some (.int .i64 (at0 X j : Nat))
  p1 : wr.rowIs po 31 1 (fun _ => .slice (some ⟨g, 0, none⟩) ln cap)
  p2 : wr.ownsRow b2 3 1 (.slice (some ⟨g, 0, none⟩) ln cap) ln (nums (O ++ X))
theorem TarFin.step {w0 wr : World} {B b2 po pv pn px pw pl Bn Bl : Nat} {E : Nat → Nat → Bool} {n : Nat} {T O X : List Nat} {g ln cap m i : Nat} (L : TarLay w0.heap.size b2 po pv pn px pw pl Bn Bl) (h : TarFin w0 wr B b2 po pv pn px pw pl Bn Bl E n T O X g ln cap m i) (hi : i < X.length) :
    TarFin w0 (wr.setCell ⟨Bl, at0 X i, none⟩ (.int .i64 (m : Int))) B b2 po pv pn px pw pl Bn Bl E n T O X g ln cap m (i + 1) := by
  obtain ⟨d1, d2, d3, d4, d5, d6⟩ := L.d1
  have g1 := grown_setCell wr Bl (at0 X i) (.int .i64 (m : Int))
  have hg : some g ≠ some Bl := fun e => own_far h.p2 L.lBl e.symm
  refine ⟨(tar_store L h.mem (at0 X i) m).congr fun u _ => ?_, fun j hj => cell_grown g1 (h.cells j hj) hg, row_grown h.p1 g1 (some_ne d3), own_set_other h.p2 (own_far h.p2 L.lBl) _ _⟩
  rw [take_at0 hi]
  by_cases e : u = at0 X i
  · subst e; simp
  · simp [e]
theorem tar_fin0 {w0 wr : World} {B b2 po pv pn px pw pl Bn Bl : Nat} {E : Nat → Nat → Bool} {n : Nat} {T O X : List Nat} {g ln cap : Nat} (m q : Nat)
    (h : TarMem w0 wr B b2 po pv pn px pw pl Bn Bl n (lst E n T (O ++ X)) T (O ++ X)) (hc : ∀ j, j < X.length → wr.cell? ⟨g, O.length + j, none⟩ = some (.int .i64 (at0 X j : Nat)))
    (p1 : wr.rowIs po 31 1 (fun _ => .slice (some ⟨g, 0, none⟩) ln cap)) (p2 : wr.ownsRow b2 3 1 (.slice (some ⟨g, 0, none⟩) ln cap) ln (nums (O ++ X))) :
    TarFin w0 (wr.drewN q) B b2 po pv pn px pw pl Bn Bl E n T O X g ln cap m 0 := by
  have hb : Below wr.heap.size wr (wr.drewN q) := ⟨rfl, rfl, rfl, Nat.le_refl _, fun _ _ => rfl⟩
  exact ⟨(h.drewN q).congr fun u _ => by simp, hc, row_below p1 hb p1.lt, own_below p2 hb (Nat.le_refl _)⟩
/-- All nodes of the component have it, and leave the list. -/
theorem tar_close {w0 wr : World} {B b2 po pv pn px pw pl Bn Bl : Nat} {E : Nat → Nat → Bool} {n : Nat} {T0 O0 T X : List Nat} {v low g ln cap m : Nat} (L : TarLay w0.heap.size b2 po pv pn px pw pl Bn Bl) (hE : ∀ a b, E a b = true → a < n ∧ b < n)
    (hT : Tar E n T0 O0) (hM : TarMid E n T0 O0 v T X (adj E n v).length low) (hlow : low = T0.length) (hm : LeastTo X X.length m) (h : TarFin w0 wr B b2 po pv pn px pw pl Bn Bl E n T O0 X g ln cap m X.length) (hln : ln = O0.length + X.length) :
    TarRes w0 B b2 po pv pn px pw pl Bn Bl E n T0 O0 v (.returned (.int .i64 (low : Int))) (wr.setCell ⟨po, 0, none⟩ (.slice (some ⟨g, 0, none⟩) O0.length cap)) := by
  have hO0 : ∀ o, o ∈ O0 → o ∈ T0 := fun o ho => hT.sub.subset ho
  refine ⟨T, [], low, rfl, tar_top hE hO0 hM hlow, ?_⟩
  rw [List.append_nil]
  refine (tar_leave L h.mem h.p1 h.p2 (by omega)).congr fun u _ => ?_
  obtain ⟨⟨i, hi, rfl⟩, hle⟩ := hm
  have hmem : at0 X i ∈ X := by rw [at0_eq hi]; exact List.getElem_mem hi
  have hmin : ∀ y, y ∈ X → at0 X i ≤ y := fun y hy => by
    obtain ⟨j, hj, rfl⟩ := List.getElem_of_mem hy
    have := hle j hj
    rwa [at0_eq hj] at this
  rw [List.take_length]
  by_cases hu : u ∈ X
  · rw [if_pos hu, lst_done (hM.st.sub.subset (List.mem_append_right _ hu)) (fun h1 => hM.xnew u hu (hO0 u h1)), tar_comp hE hO0 hM hlow hmem hmin hu]
  · rw [if_neg hu]
    unfold lst
    simp [hu]

set_option maxHeartbeats 4000000 in
set_option maxRecDepth 100000 in
theorem walkT_any (E : Nat → Nat → Bool) (n : Nat) (hn : n ≤ 20000) (hE : ∀ a b, E a b = true → a < n ∧ b < n) (w0 : World) (B b2 po pv pn px pw pl Bn Bl : Nat) (L : TarLay w0.heap.size b2 po pv pn px pw pl Bn Bl) (hA : AdjAt w0 B n (adj E n)) :
    ∀ (m : Nat) (T O : List Nat) (v : Nat) (w : World), n < T.length + m → v < n → v ∉ T → Tar E n T O → (∀ o, o ∈ O → Path E o v) → TarMem w0 w B b2 po pv pn px pw pl Bn Bl n (lst E n T O) T O →
      Calls Try.prog 35 #[.int .i64 (v : Int), .pointer (some ⟨po, 0, none⟩), .pointer (some ⟨pv, 0, none⟩), .pointer (some ⟨pn, 0, none⟩), .pointer (some ⟨px, 0, none⟩), .pointer (some ⟨pw, 0, none⟩), .pointer (some ⟨pl, 0, none⟩)] w fun e w' => TarRes w0 B b2 po pv pn px pw pl Bn Bl E n T O v e w' := by
  intro m
  induction m with
  | zero =>
    intro T O v w h hv hvT hS _ _
    have h1 := acc_le (tar_start hS hv hvT).st.nodup (tar_start hS hv hvT).st.lt
    simp at h1; omega
  | succ m ih =>
    intro T O v w hm hv hvT hS hA0 h
    obtain ⟨d1, d2, d3, d4, d5, d6⟩ := L.d1
    have hSv := tar_start hS hv hvT
    have hTl : T.length < n := by have h1 := acc_le hSv.st.nodup hSv.st.lt; simp at h1; omega
    have hOl : O.length ≤ T.length := hS.sub.length_le
    obtain ⟨vp, hp1, hp2⟩ := h.open'
    obtain ⟨va, vc, rfl⟩ := own_shape2 hp2
    have c1 := hp1.cell (i := 0) (by omega)
    have hsz2 := h.sz
    obtain ⟨x, c, hcx, hlx⟩ := hA.2 v hv
    have hB : B < w0.heap.size := hA.1
    have HLX := Lib.hid hlx
    clear hlx
    have HPO := Lib.hid hp1
    have HRV := Lib.hid h.rv
    have HRN := Lib.hid h.rn
    have HCN := Lib.hid h.cn
    have HENT := Lib.hid (fun (w3 : World) (v' : Value) ho hb => (tar_enter (v := v) (w3 := w3) (v' := v') L h hvT ho hb).congr (g := lst E n (T ++ [v]) (O ++ [v])) fun u _ => (lst_enter hvT u).symm)
    have HIX : Hid (plc (T ++ [v]) v = (T.length : Int)) := Lib.hid (by rw [plc_push hvT, if_pos rfl])
    have HS := Lib.hid hSv
    have HSI := Lib.hid hS
    have HAO := Lib.hid hA0
    have IH := Lib.hid ih
    have HA := Lib.hid hA
    have HOWN := Lib.hid hp2
    have HVT := Lib.hid hvT
    have HM := Lib.hid hm
    have hlen := adj_length E n v
    have hv0 : (0 : Int) ≤ (v : Int) := by omega
    have hv1 : (v : Int) < (n : Int) := by omega
    have hT0 : ((T.length : Int) + 1) ≤ 1000000 := by omega
    clear hm hvT hS hA0 h hSv hp1 hp2 ih hA
    go_enter Try.func35, Try.ntmps35
    go_wp2_with (at_builtin; (refine wpList_append_one w (by rfl) _ _ _ (by rfl) b2 3 _ 8 Try.underlying31 infoNum (by rfl) _ O.length _ (by rfl) HOWN.out _ (by rfl) (by rfl) (by omega) (by omega) hsz2 ?_; intro v1 w3 hown3 hb3; obtain ⟨ya, yc, hy⟩ := own_shape2 hown3; subst hy; have f1 := (row_below HPO.out hb3 L.lpo).cell (i := 0) (by omega); have f2 := (row_below HPO.out hb3 L.lpo).frozen 0; have hM := Lib.hid (HENT.out w3 _ hown3 hb3); have gA := grown_setCell w3 po 0 (.slice ya (O.length + 1) yc); have rv4 := row_grown (row_below HRV.out hb3 L.lpv) gA (some_ne d1.symm); have rn4 := row_grown (row_below HRN.out hb3 L.lBn) gA (some_ne d2.symm); have k1 := rv4.cell (i := 0) (by omega); have k2 : (w3.setCell ⟨po, 0, none⟩ (.slice ya (O.length + 1) yc)).cell? ⟨pn, 0, none⟩ = some (.slice (some ⟨Bn, 0, none⟩) n n) := cell_grown gA ((hb3.cell (p := ⟨pn, 0, none⟩) (by exact L.lpn)).trans HCN.out) (some_ne L.en.1); have k3 := rn4.cell hv; have k4 := rn4.frozen v; have gB := grown_setCell (w3.setCell ⟨po, 0, none⟩ (.slice ya (O.length + 1) yc)) Bn v (.int .i64 (T.length : Int)); have rv5 := row_grown rv4 gB (some_ne d4); have k5 := rv5.cell (i := 0) (by omega); have k6 := rv5.frozen 0; have k7 := hM.out.cn; have k8 := hM.out.rn.cell hv; have k9 := hM.out.cx; have k10 : (((w3.setCell ⟨po, 0, none⟩ (.slice ya (O.length + 1) yc)).setCell ⟨Bn, v, none⟩ (.int .i64 (T.length : Int))).setCell ⟨pv, 0, none⟩ (.int .i64 ((T.length : Int) + 1))).cell? ⟨B, v, none⟩ = some (.slice x (adj E n v).length c) := (by rw [hM.out.bel.cell (by exact hB)]; exact hcx); rw [HIX.out] at k8; clear gA gB rv4 rn4 rv5))
    clear c1 f1 f2 k1 k2 k3 k4 k5 k6 k7 k8 k9 k10 hown3 hb3 HPO HENT HOWN hsz2 hcx HRV HRN HCN HIX
    go_loopw [10, 37] (fun lo i wr => ∃ (k low : Nat) (T' X : List Nat), k ≤ (adj E n v).length ∧ lo = .int .i64 (low : Int) ∧ i = .int .i64 (k : Int) ∧ Hid (TarRd w0 wr B b2 po pv pn px pw pl Bn Bl E n T O v T' X k low)) (fun _ i _ => (adj E n v).length - (intOf i).toNat)
    case atStart => exact ⟨0, T.length, T ++ [v], [v], by omega, rfl, rfl, Lib.hid ⟨HS.out, hM.out⟩⟩
    case round =>
      clear HS hM
      obtain ⟨k, low, T', X, hk, rfl, rfl, hh⟩ := hrel
      have hTl' : T'.length ≤ n := acc_le hh.out.mid.st.nodup hh.out.mid.st.lt
      have hlow := hh.out.mid.lowle
      have HO0 : Hid (∀ o, o ∈ O → o ∈ T) := Lib.hid fun o ho => HSI.out.sub.subset ho
      by_cases hkl : k < (adj E n v).length
      · rcases HLX.out with h0 | ⟨g, hx, hg, hcells⟩
        · omega
        subst hx
        have hck : wr.cell? ⟨g, k, none⟩ = some (.int .i64 (at0 (adj E n v) k : Nat)) := by rw [hh.out.mem.bel.cell (by exact hg)]; exact hcells k hkl
        have hun := (at0_adj hkl).1
        have hEu := Lib.hid (at0_adj hkl).2
        have HDN := Lib.hid fun h1 h2 => tar_done hh.out.mid hkl h1 h2
        have HOP := Lib.hid fun h1 => tar_open hh.out.mid HO0.out hkl h1
        have HCL := Lib.hid fun (T2 X2 : List Nat) (low2 : Nat) h1 h2 => tar_call (T2 := T2) (X2 := X2) (low2 := low2) hh.out.mid HO0.out HAO.out hkl h1 h2
        clear hcells
        generalize hu : at0 (adj E n v) k = u at *
        clear hu
        have hu0 : (0 : Int) ≤ (u : Int) := by omega
        have hu1 : (u : Int) < (n : Int) := by omega
        have q1 := hh.out.mem.cn
        have q2 := hh.out.mem.rn.cell hun
        by_cases hT : u ∈ T'
        · have e2 : plc T' u = (T'.idxOf u : Int) := if_pos hT
          rw [e2] at q2
          have hid := List.idxOf_lt_length_iff.2 hT
          have q3 := hh.out.mem.cl
          have q4 := hh.out.mem.rl.cell hun
          clear e2
          generalize T'.idxOf u = j at *
          have z1 : ((j : Int) == -1) = false := by rw [beq_eq_false_iff_ne]; omega
          by_cases hO : u ∈ O ++ X
          · rw [lst_open hO] at q4
            have hmm : min (low : Int) (j : Int) = ((min low j : Nat) : Int) := by omega
            have hh2 : Hid (TarRd w0 wr B b2 po pv pn px pw pl Bn Bl E n T O v T' X (k + 1) (min low j)) := Lib.hid ⟨HOP.out hO, hh.out.mem⟩
            clear HDN HOP HCL hh hT hO
            go_wp2
            go_roundw
            case rel => exact ⟨k + 1, min low j, T', X, by omega, by go_num, by go_num, hh2⟩
            case measure => simp [intOf]; omega
          · rw [lst_done hT hO] at q4
            have hh2 : Hid (TarRd w0 wr B b2 po pv pn px pw pl Bn Bl E n T O v T' X (k + 1) low) := Lib.hid ⟨HDN.out hT hO, hh.out.mem⟩
            clear HDN HOP HCL hh hT hO
            generalize compB (wars E n) u = cb at *
            have z2 : ((cb : Int) == -1) = false := by rw [beq_eq_false_iff_ne]; omega
            go_wp2
            go_roundw
            case rel => exact ⟨k + 1, low, T', X, by omega, rfl, by go_num, hh2⟩
            case measure => simp [intOf]; omega
        · have e2 : plc T' u = -1 := if_neg hT
          rw [e2] at q2
          have q7 := hh.out.mem.cw
          have hgr := hh.out.mid.grow.length_le
          have HC := Lib.hid (IH.out T' (O ++ X) u wr (by have := HM.out; simp at hgr; omega) hun hT hh.out.mid.st (fun o ho => by
            have hE1 := hEu.out
            rcases List.mem_append.1 ho with ho | ho
            · exact (HAO.out o ho).trans (.one hE1)
            · rcases hh.out.mid.a o ho with rfl | h1
              · exact .one hE1
              · exact h1.trans (.one hE1)) hh.out.mem)
          have hCL := Lib.hid fun (T2 X2 : List Nat) (low2 : Nat) h2 => HCL.out T2 X2 low2 hT h2
          clear HDN HOP HCL hh e2 hgr hT
          go_wp2_with fail
          refine (HC.out).mono ?_
          rintro e w4 ⟨T2, X2, low2, rfl, s1, s2⟩
          have hmm : min (low : Int) (low2 : Int) = ((min low low2 : Nat) : Int) := by omega
          have hh2 : Hid (TarRd w0 w4 B b2 po pv pn px pw pl Bn Bl E n T O v T2 (X ++ X2) (k + 1) (min low low2)) := Lib.hid ⟨hCL.out T2 X2 low2 s1, by rw [← List.append_assoc]; exact s2⟩
          have hl2 : low2 ≤ 20000 := by
            rcases s1.lowat with ⟨_, h1⟩ | ⟨_, h1, _⟩ <;> omega
          clear s1 s2 HC hCL
          go_wp2
          go_roundw
          case rel => exact ⟨k + 1, min low low2, T2, X ++ X2, by omega, by go_num, by go_num, hh2⟩
          case measure => simp [intOf]; omega
      · obtain rfl : (adj E n v).length = k := by omega
        have q1 := hh.out.mem.cn
        have q2 := hh.out.mem.rn.cell hv
        rw [tar_idx hh.out.mid HVT.out] at q2
        by_cases hlw : low = T.length
        · subst hlw
          obtain ⟨vp, hp1, hp2⟩ := hh.out.mem.open'
          rcases own_cases hp2 rfl with ⟨_, hnil⟩ | ⟨gp, cap, hvp, hgb, hgs, hcap, hcm, hpc⟩
          · have := hh.out.mid.vX
            rw [(List.append_eq_nil_iff.1 hnil).2] at this
            simp at this
          subst hvp
          have hXl : (O ++ X).length = O.length + X.length := by simp
          have hXp : 0 < X.length := List.length_pos_of_mem hh.out.mid.vX
          have hOX : (O ++ X).length ≤ T'.length := hh.out.mid.st.sub.length_le
          have hXn : ∀ i, i < X.length → at0 X i < n := fun i hi => by
            rw [at0_eq hi]
            exact hh.out.mid.st.lt _ (hh.out.mid.st.sub.subset (List.mem_append_right _ (List.getElem_mem hi)))
          have hcx : ∀ j, j < X.length → wr.cell? ⟨gp, O.length + j, none⟩ = some (.int .i64 (at0 X j : Nat)) := fun j hj => by
            rw [hpc (O.length + j) (by omega)]
            have : (O ++ X).getD (O.length + j) 0 = at0 X j := by simp [at0, List.getD, List.getElem?_append_right]
            rw [this]
          have HMIN := Lib.hid (min_any gp O.length (cap - O.length) X wr hXp (by omega) (fun i hi => by have := hXn i hi; omega) hcx)
          have HCLS := Lib.hid fun (m : Nat) (W : World) (ln : Nat) (h1 : LeastTo X X.length m) (h2 : TarFin w0 W B b2 po pv pn px pw pl Bn Bl E n T' O X gp ln cap m X.length) (h3 : ln = O.length + X.length) => tar_close L hE HSI.out hh.out.mid rfl h1 h2 h3
          have HF0 := Lib.hid fun (m q : Nat) => tar_fin0 m q hh.out.mem hcx hp1 hp2
          have HXN := Lib.hid hXn
          have c1 := hp1.cell (i := 0) (by omega)
          clear hpc hcx hXn hp1 hp2 hh
          have hxl : X.length = (O ++ X).length - O.length := by omega
          have hlnn : (O ++ X).length ≤ 20000 := by omega
          generalize (O ++ X).length = ln at *
          have z2 : ¬ ln = O.length := by omega
          have z3 : (O.length : Int) ≤ (ln : Int) := by omega
          have z4 : (ln : Int) ≤ (cap : Int) := by omega
          have z5 : (0 : Int) ≤ (O.length : Int) := by omega
          rw [hxl] at HMIN
          have HXL := Lib.hid hxl
          have HLN := Lib.hid hXl
          have hxn : X.length ≤ 20000 := by omega
          clear hxl hXl hOX
          generalize hse : O.length = s at *
          have HSE := Lib.hid hse
          clear hse
          go_wp2_with fail
          refine (HMIN.out).mono ?_
          rintro e w4 ⟨m1, rfl, hm1, q, rfl⟩
          have HF := Lib.hid (HF0.out m1 q)
          have HM1 : Hid (LeastTo X X.length m1) := Lib.hid (by rw [HXL.out]; exact hm1)
          have HCL2 := Lib.hid fun (W : World) h => HCLS.out m1 W ln HM1.out h HLN.out
          clear hm1 HMIN HF0 HCLS q1 q2 c1
          generalize wr.drewN q = wq at *
          have c1 := HF.out.p1.cell (i := 0) (by omega)
          go_wp2
          generalize ln - s = ls at *
          go_loopw [79] (fun i wv => ∃ j : Nat, j ≤ X.length ∧ i = .int .i64 (j : Int) ∧ Hid (TarFin w0 wv B b2 po pv pn px pw pl Bn Bl E n T' O X gp ln cap m1 j)) (fun i _ => X.length - (intOf i).toNat)
          case atStart => exact ⟨0, by omega, rfl, HF⟩
          case round =>
            clear HF c1
            obtain ⟨j, hj, rfl, hF⟩ := hrel
            have hjl : Hid (ls = X.length) := Lib.hid HXL.out.symm
            have hcapln : s + j ≤ 20000 := by have := HLN.out; omega
            by_cases hjx : j < X.length
            · have hx1 := HXN.out j hjx
              have q1 : wr.cell? ⟨gp, s + j, none⟩ = some (.int .i64 (at0 X j : Nat)) := HSE.out ▸ hF.out.cells j hjx
              have q2 := hF.out.mem.cl
              have q3 := hF.out.mem.rl.cell hx1
              have q4 := hF.out.mem.rl.frozen (at0 X j)
              have hF2 := Lib.hid (hF.out.step L hjx)
              have hlt : (j : Int) < (ls : Int) := by have := hjl.out; omega
              have hj0 : (0 : Int) ≤ (j : Int) := by omega
              clear hF
              generalize at0 X j = y at *
              have hy0 : (0 : Int) ≤ (y : Int) := by omega
              have hy1 : (y : Int) < (n : Int) := by omega
              go_wp2
              go_roundw
              case rel => exact ⟨j + 1, by omega, by go_num, hF2⟩
              case measure => simp [intOf]; omega
            · obtain rfl : j = X.length := by omega
              have hlt : ¬ ((X.length : Int) < (ls : Int)) := by have := hjl.out; omega
              have q1 := hF.out.p1.cell (i := 0) (by omega)
              have q2 := hF.out.p1.frozen 0
              have HR := Lib.hid (HCL2.out _ hF.out)
              clear hF
              go_wp2
              go_ret
              exact HR.out
        · have HR : Hid (TarRes w0 B b2 po pv pn px pw pl Bn Bl E n T O v (.returned (.int .i64 (low : Int))) wr) := Lib.hid ⟨T', X, low, rfl, tar_low hE hh.out.mid hlw, hh.out.mem⟩
          have z1 : ((low : Int) == (T.length : Int)) = false := by rw [beq_eq_false_iff_ne]; omega
          clear hh
          go_wp2
          go_ret
          exact HR.out
end Go.Proofs.Ytaiddgndjiaoaaa
