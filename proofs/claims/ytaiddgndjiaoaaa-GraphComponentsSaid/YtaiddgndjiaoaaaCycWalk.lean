/- Package graph's Cycle: the contract of the search from one node. -/
import Derived.Test.YtaiddgndjiaoaaaCyc
import Derived.Test.YtaiddgndjiaoaaaGTurn
import Derived.Laws.Cover3
namespace Go.Proofs.Ytaiddgndjiaoaaa
open Go.RowKit
set_option linter.unusedVariables false

/-- The law of one append where the world's size is known under another name. -/
theorem wpList_append_sz {P : Program} (w : World) (sz : Nat) (hw : w.heap.size = sz) {ops : Array Oper} {rest : List Oper} {o : Oper} {a : Act} {Q : Exit → Act → World → Prop} (hgd : o.guard = none) (s x : Operand) (t : TypeId)
    (ho : o.op = .call { callee := .builtin .append, args := #[s, x], argTypes := #[t, t] })
    (base : Nat) (e : TypeId) (z : Value) (bytes : Nat) (ht : P.underlying t = some (.slice e)) (hinfo : (P.info? e).map (fun i => (i.zero, i.size, i.bytes)) = some (some z, 1, bytes))
    (hzs : z.cells.size = 1)
    (v : Value) (n : Nat) (xs : List Value) (hs : a.eval s = v) (hown : w.ownsRow base e 1 v n xs)
    (X : Value) (hX : X.oneCell' = true) (hx : a.eval x = .slice (some ⟨sz, 0, none⟩) 1 1)
    (hn : n < 16777216) (hby : bytes ≤ 64) (hbase : base ≤ w.heap.size)
    (h : ∀ v' w', w'.ownsRow base e 1 v' (n + 1) (xs ++ [X]) → Below base w w' → wpList P ops Q rest (a.put o.dst v') w') : wpList P ops Q (o :: rest) a (w.alloc (.cells #[X] e)) := by
  subst hw
  exact wpList_append_one w hgd s x t ho base e z bytes ht hinfo hzs v n xs hs hown X hX hx hn hby hbase h

/-- What the search from one node hands back: nil, or a cycle. -/
def CycRes (w0 : World) (B b2 ps pp pl pn pw Bs Bl : Nat) (E : Nat → Nat → Bool) (n : Nat) (P F : List Nat) (v : Nat) (e : Ending) (w' : World) : Prop :=
  (e = .returned (.slice none 0 0) ∧ ∃ F', Srch E n P F' ∧ v ∈ F' ∧ (∀ u, u ∈ F → u ∈ F') ∧ CycAt w0 w' B b2 ps pp pl pn pw Bs Bl n P F') ∨
  (∃ (C : List Nat) (g j c : Nat), e = .returned (.slice (some ⟨g, j, none⟩) C.length c) ∧ IsCyc E n C ∧ g < w'.heap.size ∧ (∀ k, k < C.length → w'.cell? ⟨g, j + k, none⟩ = some (.int .i64 (at0 C k : Nat))) ∧ Below w0.heap.size w0 w')

/-- In the midst of node v's list: its first k successors are finished. -/
structure CycMid (w0 wr : World) (B b2 ps pp pl pn pw Bs Bl : Nat) (E : Nat → Nat → Bool) (n : Nat) (P F F' : List Nat) (v k : Nat) : Prop where
  srch : Srch E n (P ++ [v]) F'
  done : ∀ u, u ∈ (adj E n v).take k → u ∈ F'
  keep : ∀ u, u ∈ F → u ∈ F'
  mem : CycAt w0 wr B b2 ps pp pl pn pw Bs Bl n (P ++ [v]) F'

set_option maxHeartbeats 4000000 in
set_option maxRecDepth 100000 in
theorem walkC_any (E : Nat → Nat → Bool) (n : Nat) (hn : n ≤ 20000) (w0 : World) (B b2 ps pp pl pn pw Bs Bl : Nat) (L : CycLay w0.heap.size b2 ps pp pl pn pw Bs Bl) (hA : AdjAt w0 B n (adj E n)) :
    ∀ (m : Nat) (P F : List Nat) (v : Nat) (w : World), unmarked (seenB P F) n < m → v < n → v ∉ P → v ∉ F → Srch E n P F → (0 < P.length → E (at0 P (P.length - 1)) v = true) → CycAt w0 w B b2 ps pp pl pn pw Bs Bl n P F →
      Calls Try.prog 33 #[.int .i64 (v : Int), .pointer (some ⟨ps, 0, none⟩), .pointer (some ⟨pp, 0, none⟩), .pointer (some ⟨pl, 0, none⟩), .pointer (some ⟨pn, 0, none⟩), .pointer (some ⟨pw, 0, none⟩)] w fun e w' => CycRes w0 B b2 ps pp pl pn pw Bs Bl E n P F v e w' := by
  intro m
  induction m with
  | zero => intro P F v w h; omega
  | succ m ih =>
    intro P F v w hm hv hvP hvF hS hEv h
    have hSv := srch_push hS hv hvP hvF hEv
    have hPl : P.length ≤ n := acc_le hS.nodup hS.lt
    obtain ⟨vp, hp1, hp2⟩ := h.path
    obtain ⟨va, vc, rfl⟩ := own_shape2 hp2
    have g1 := grown_setCell w Bs v (.bool true)
    have g2 := grown_setCell (w.setCell ⟨Bs, v, none⟩ (.bool true)) Bl v (.int .i64 (P.length : Int))
    have c1 := h.cs
    have c2 := h.rs.cell hv
    have c3 := h.rs.frozen v
    have hrl1 := row_grown h.rl g1 (some_ne L.s6)
    have d1 := cell_grown g1 h.cl (some_ne L.s3)
    have d2 := cell_grown g1 (hp1.cell (i := 0) (by omega)) (some_ne L.s2)
    have d3 := hrl1.cell hv
    have d4 := hrl1.frozen v
    have hpp2 := row_grown (row_grown hp1 g1 (some_ne L.s2)) g2 (some_ne L.t2)
    have e1 := hpp2.cell (i := 0) (by omega)
    have hown2 := own_set_other (own_set_other hp2 (own_far hp2 L.lBs) v (.bool true)) (own_far hp2 L.lBl) v (.int .i64 (P.length : Int))
    have hum : unmarked (seenB (P ++ [v]) F) n < m := by
      have := unmarked_lt (R := seenB P F) (R' := seenB (P ++ [v]) F) (fun u h => by rw [seenB_push]; split <;> simp [h]) hv (by simp [seenB, hvP, hvF]) (by simp [seenB])
      omega
    have hsz2 : b2 ≤ ((w.setCell ⟨Bs, v, none⟩ (.bool true)).setCell ⟨Bl, v, none⟩ (.int .i64 (P.length : Int))).heap.size := by have := h.sz; simp [World.setCell]; omega
    obtain ⟨x, c, hcx, hlx⟩ := hA.2 v hv
    have hB : B < w0.heap.size := hA.1
    have HLX := Lib.hid hlx
    clear hlx
    have hPP := Lib.hid hpp2
    have HENT := Lib.hid (fun (w3 : World) (v' : Value) ho hb => cyc_enter (v := v) (w3 := w3) (v' := v') L h hvP ho hb)
    have HUM := Lib.hid hum
    have HS := Lib.hid hSv
    have IH := Lib.hid ih
    have HA := Lib.hid hA
    have HOWN := Lib.hid hown2
    have hlen := adj_length E n v
    have hv0 : (0 : Int) ≤ (v : Int) := by omega
    have hv1 : (v : Int) < (n : Int) := by omega
    have hVP := Lib.hid hvP
    have HSV := Lib.hid hS
    clear hm hvP hvF hS hEv h hSv hp1 hp2 g1 g2 hrl1 hpp2 hown2 hum ih hA
    have hnil1 : ∀ W : World, (binOp .neq 31 (.slice none 0 0) (.slice none 0 0)).run Try.prog W = .ok (.bool false) W := fun W => run_neq_slice_nil (P := Try.prog) W 31 3 none 0 0 Try.underlying31
    have hnil2 : ∀ (W : World) (a : Addr) (l c : Nat), (binOp .neq 31 (.slice (some a) l c) (.slice none 0 0)).run Try.prog W = .ok (.bool true) W := fun W a l c => run_neq_slice_nil (P := Try.prog) W 31 3 (some a) l c Try.underlying31
    go_enter Try.func33, Try.ntmps33
    go_wp2_with (at_builtin; (refine wpList_append_sz ((w.setCell ⟨Bs, v, none⟩ (.bool true)).setCell ⟨Bl, v, none⟩ (.int .i64 (P.length : Int))) w.heap.size (by simp [World.setCell]) (by rfl) _ _ _ (by rfl) b2 3 _ 8 Try.underlying31 infoNum (by rfl) _ P.length _ (by rfl) HOWN.out _ (by rfl) (by rfl) (by omega) (by omega) hsz2 ?_; intro v1 w3 hown3 hb3; obtain ⟨ya, yc, hy⟩ := own_shape2 hown3; subst hy; have f1 := (row_below hPP.out hb3 L.lpp).cell (i := 0) (by omega); have f2 := (row_below hPP.out hb3 L.lpp).frozen 0; have hM := Lib.hid (HENT.out w3 _ hown3 hb3); have k1 := hM.out.cn; have k2 : (w3.setCell ⟨pp, 0, none⟩ (.slice ya (P.length + 1) yc)).cell? ⟨B, v, none⟩ = some (.slice x (adj E n v).length c) := (by rw [hM.out.bel.cell (by exact hB)]; exact hcx)))
    clear c1 c2 c3 d1 d2 d3 d4 e1 f1 f2 k1 k2 hown3 hb3 hPP HENT HOWN hsz2 hcx
    go_loopw [28] (fun i wr => ∃ (k : Nat) (F' : List Nat), k ≤ (adj E n v).length ∧ i = .int .i64 k ∧ Hid (CycMid w0 wr B b2 ps pp pl pn pw Bs Bl E n P F F' v k)) (fun i _ => (adj E n v).length - (intOf i).toNat)
    case atStart => exact ⟨0, F, by omega, rfl, Lib.hid ⟨HS.out, by simp, fun u h => h, hM.out⟩⟩
    case round =>
      obtain ⟨k, F', hk, rfl, hh⟩ := hrel
      have hpl : (P ++ [v]).length = P.length + 1 := by simp
      obtain ⟨vp, hp1, hp2⟩ := hh.out.mem.path
      rcases own_cases hp2 rfl with ⟨_, hnil⟩ | ⟨gp, cap, hvp, hgb, hgs, hcap, hcm, hpc⟩
      · simp at hnil
      subst hvp
      by_cases hkl : k < (adj E n v).length
      · rcases HLX.out with h0 | ⟨g, hx, hg, hcells⟩
        · omega
        subst hx
        have hck : wr.cell? ⟨g, k, none⟩ = some (.int .i64 (at0 (adj E n v) k : Nat)) := by rw [hh.out.mem.bel.cell (by exact hg)]; exact hcells k hkl
        have hun := (at0_adj hkl).1
        have hEu := Lib.hid (at0_adj hkl).2
        have hta := Lib.hid (take_at0 hkl)
        have q1 := hh.out.mem.cl
        have q2 := hh.out.mem.rl.cell hun
        clear hcells
        generalize hu : at0 (adj E n v) k = u at *
        clear hu
        have hu0 : (0 : Int) ≤ (u : Int) := by omega
        have hu1 : (u : Int) < (n : Int) := by omega
        by_cases hP : u ∈ P ++ [v]
        · have e2 : plc (P ++ [v]) u = ((P ++ [v]).idxOf u : Int) := if_pos hP
          rw [e2] at q2
          have hid := List.idxOf_lt_length_iff.2 hP
          have hat : at0 (P ++ [v]) ((P ++ [v]).idxOf u) = u := by rw [at0_eq hid]; exact List.getElem_idxOf hid
          have hlast : at0 (P ++ [v]) ((P ++ [v]).length - 1) = v := by rw [hpl, Nat.add_sub_cancel]; exact at0_snoc_last P v
          generalize (P ++ [v]).idxOf u = j at *
          have hcyc := Lib.hid (srch_cyc hh.out.srch hid (by rw [hlast, hat]; exact hEu.out))
          have q3 := hp1.cell (i := 0) (by omega)
          have hbl := Lib.hid hh.out.mem.bel
          have hpc2 : Hid (∀ k, k < ((P ++ [v]).drop j).length → wr.cell? ⟨gp, j + k, none⟩ = some (.int .i64 (at0 ((P ++ [v]).drop j) k : Nat))) := by
            refine Lib.hid fun k hk => ?_
            rw [List.length_drop] at hk
            rw [at0_drop, hpc (j + k) (by omega)]
            rfl
          have hdl : Hid (((P ++ [v]).drop j).length = (P ++ [v]).length - j) := Lib.hid (by simp)
          clear hp1 hp2 hpc hh e2 hat hlast HS HSV hM IH hP
          generalize (P ++ [v]).length = ln at *
          have z1 : ¬ ((j : Int) = -1) := by omega
          have z2 : ¬ ln = j := by omega
          have z3 : (j : Int) ≤ (ln : Int) := by omega
          have z4 : (ln : Int) ≤ (cap : Int) := by omega
          have z5 : (0 : Int) ≤ (j : Int) := by omega
          go_wp2
          go_quiet (fail)
          go_wp2
          go_ret
          have hb := hbl.out
          refine .inr ⟨(P ++ [v]).drop j, gp, j, cap - j, ?_, hcyc.out, hgs, hpc2.out, ⟨hb.os, hb.tape, hb.output, hb.size, hb.block⟩⟩
          show Ending.returned (.slice (some ⟨gp, j, none⟩) (P.length + 1 - j) (cap - j)) = _
          rw [hdl.out, hpl]
        · have e2 : plc (P ++ [v]) u = -1 := if_neg hP
          rw [e2] at q2
          have q5 := hh.out.mem.cs
          have q6 := hh.out.mem.rs.cell hun
          have q7 := hh.out.mem.cw
          by_cases hF : u ∈ F'
          · have e3 : seenB (P ++ [v]) F' u = true := by simp [seenB, hF]
            rw [e3] at q6
            have hh2 : Hid (CycMid w0 wr B b2 ps pp pl pn pw Bs Bl E n P F F' v (k + 1)) := by
              refine Lib.hid ⟨hh.out.srch, fun x hx => ?_, hh.out.keep, hh.out.mem⟩
              rw [hta.out] at hx
              rcases List.mem_append.1 hx with hx | hx
              · exact hh.out.done x hx
              · rw [List.mem_singleton.1 hx]; exact hF
            clear hh hp1 hp2 hpc e2 e3 hM HS HSV
            go_wp2
            go_roundw
            case rel => exact ⟨k + 1, F', by omega, by go_num, hh2⟩
            case measure => simp [intOf]; omega
          · have e3 : seenB (P ++ [v]) F' u = false := by
              unfold seenB
              rw [decide_eq_false hP, decide_eq_false hF]; rfl
            rw [e3] at q6
            have hul : unmarked (seenB (P ++ [v]) F') n < m := by
              have h1 := hh.out.keep
              have := unmarked_le (R := seenB (P ++ [v]) F) (R' := seenB (P ++ [v]) F') (n := n) (fun x hx => by
                unfold seenB at hx ⊢
                rw [Bool.or_eq_true, decide_eq_true_eq, decide_eq_true_eq] at hx ⊢
                rcases hx with hx | hx
                · exact .inl hx
                · exact .inr (h1 x hx))
              have h2 := HUM.out
              omega
            have hcall := IH.out (P ++ [v]) F' u wr hul hun hP hF hh.out.srch (fun _ => by rw [hpl, Nat.add_sub_cancel, at0_snoc_last]; exact hEu.out) hh.out.mem
            have HC := Lib.hid hcall
            have HK := Lib.hid (And.intro hh.out.done hh.out.keep)
            clear hcall hul hh hp1 hp2 hpc e2 e3 hM HS HSV IH HUM hP hF
            go_wp2_with fail
            refine (HC.out).mono ?_
            rintro e w4 (⟨rfl, F2, s1, s2, s3, s4⟩ | ⟨C, g2, j, c2, rfl, s1, s2, s3, s4⟩)
            · have hh2 : Hid (CycMid w0 w4 B b2 ps pp pl pn pw Bs Bl E n P F F2 v (k + 1)) := by
                refine Lib.hid ⟨s1, fun x hx => ?_, fun x hx => s3 x (HK.out.2 x hx), s4⟩
                rw [hta.out] at hx
                rcases List.mem_append.1 hx with hx | hx
                · exact s3 x (HK.out.1 x hx)
                · rw [List.mem_singleton.1 hx]; exact s2
              clear s1 s2 s3 s4 HC HK
              go_wp2
              go_roundw
              case rel => exact ⟨k + 1, F2, by omega, by go_num, hh2⟩
              case measure => simp [intOf]; omega

            · have HR := Lib.hid (And.intro s1 (And.intro s2 (And.intro s3 s4)))
              clear s1 s2 s3 s4 HC HK
              go_wp2
              go_ret
              exact .inr ⟨C, g2, j, c2, rfl, HR.out.1, HR.out.2.1, HR.out.2.2.1, HR.out.2.2.2⟩
      · obtain rfl : (adj E n v).length = k := by omega
        rw [hpl] at hp1 hp2 hcap
        have HL := Lib.hid (cyc_leave L hh.out.mem hVP.out hp1 hp2)
        have hgl := grown_setCell wr Bl v (.int .i64 (-1))
        have q1 := hh.out.mem.cl
        have q2 := hh.out.mem.rl.cell hv
        have q3 := hh.out.mem.rl.frozen v
        have hp3 := row_grown hp1 hgl (some_ne L.t2)
        have q4 := hp3.cell (i := 0) (by omega)
        have q5 := hp3.frozen 0
        have hfin : Hid (Srch E n P (F' ++ [v]) ∧ ∀ u, u ∈ F → u ∈ F' ++ [v]) := by
          refine Lib.hid ⟨srch_pop hh.out.srch fun x hx hE => ?_, fun u hu => List.mem_append_left _ (hh.out.keep u hu)⟩
          have := hh.out.done x
          rw [List.take_length] at this
          exact this (adj_mem.2 ⟨hx, hE⟩)
        have hl1 : ((P.length : Int) + 1) ≤ 1000000 := by omega
        have hcap2 : ((P.length : Int) + 1) ≤ (cap : Int) := by omega
        clear hp1 hp2 hp3 hgl hh hpc hM HS HSV IH HUM hcap
        go_wp2
        go_ret
        exact .inl ⟨rfl, F' ++ [v], hfin.out.1, by simp, hfin.out.2, HL.out⟩
end Go.Proofs.Ytaiddgndjiaoaaa
