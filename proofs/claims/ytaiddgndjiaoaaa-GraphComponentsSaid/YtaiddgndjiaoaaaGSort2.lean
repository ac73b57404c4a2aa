/- The search for a topological order: its contract. -/
import Derived.Test.YtaiddgndjiaoaaaGSort1
namespace Go.Proofs.Ytaiddgndjiaoaaa
open Go.RowKit
set_option linter.unusedVariables false

/-- What the search hands back. -/
def TopoRes (E : Nat → Nat → Bool) (n base : Nat) (w : World) (e : Ending) (w' : World) : Prop :=
  ∃ v, e = .returned (.tuple #[v, .bool (topo E n).isSome]) ∧ w'.ownsRow base 3 1 v ((topo E n).getD []).length (nums ((topo E n).getD [])) ∧ Below base w w'

theorem own_len {w : World} {base : Nat} {e : TypeId} {size : Nat} {v : Value} {n : Nat} {xs : List Value} (h : w.ownsRow base e size v n xs) : sliceLen v = n := by
  rcases h.2 with ⟨hv, h0⟩ | ⟨g, cap, cur, hv, _⟩
  · rw [hv, h0]; rfl
  · rw [hv]; rfl
theorem own_val {w : World} {base : Nat} {e : TypeId} {size : Nat} {v : Value} {n : Nat} {xs : List Value} (h : w.ownsRow base e size v n xs) : ∃ a c, v = .slice a n c := by
  rcases h.2 with ⟨hv, h0⟩ | ⟨g, cap, cur, hv, _⟩
  · exact ⟨none, 0, by rw [hv, h0]⟩
  · exact ⟨_, _, hv⟩
theorem mid_le {E : Nat → Nat → Bool} {n k m : Nat} {acc q : List Nat} (h : TopoMid E n acc m ((adj E n m).take k) q) : q.length ≤ n :=
  acc_le h.qnodup fun v hv => by
    rcases (h.ready v).1 hv with h1 | h1
    · exact h1.1
    · exact (adj_mem.1 (List.mem_of_mem_take h1.1)).1

set_option maxHeartbeats 4000000 in
set_option maxRecDepth 100000 in
theorem sorted_any (E : Nat → Nat → Bool) (n B : Nat) (w : World) (hA : AdjAt w B n (adj E n)) (hn : n ≤ 20000) :
    Calls Try.prog 31 #[.slice (some ⟨B, 0, none⟩) n n] w fun e w' => TopoRes E n w.heap.size w e w' := by
  have hmk := fun W => run_make_row' (P := Try.prog) 31 3 (.int .i64 0) 8 Try.underlying31 infoNum rfl .i64 .i64 n (by omega) (by omega) W
  have hBlt : B < w.heap.size := hA.1
  have HA := Lib.hid hA
  clear hA
  go_enter Try.func31, Try.ntmps31
  go_wp2
  have hr0 : Hid (numRow (w.alloc (.cells (madeCells #[.int .i64 0] n) 3)) w.heap.size n (pc E 0)) := by
    have h : (w.alloc (.cells (madeCells #[.int .i64 0] n) 3)).rowIs w.heap.size 3 n (fun _ => .int .i64 0) := World.rowIs_made _ _ _ _
    exact h.congr fun u _ => by rw [pc_zero]; rfl
  have hb0 : Below w.heap.size w (w.alloc (.cells (madeCells #[.int .i64 0] n) 3)) := (Below.refl _ _).alloc (Nat.le_refl _) _
  clear hmk
  go_loopw [21] (fun i wr => ∃ k : Nat, k ≤ n ∧ i = .int .i64 k ∧ Hid (numRow wr w.heap.size n (pc E k)) ∧ Below w.heap.size w wr) (fun i _ => n - (intOf i).toNat)
  case atStart => exact ⟨0, by omega, rfl, hr0, hb0⟩
  case round =>
    clear hr0 hb0
    obtain ⟨i, hi, rfl, hrow, hbel⟩ := hrel
    obtain ⟨wo, rfl⟩ : ∃ wo : World, wo = wr := ⟨_, rfl⟩
    by_cases hin : i < n
    · obtain ⟨x, c, hcx, hlx⟩ := HA.out.2 i hin
      have hcx1 : wo.cell? ⟨B, i, none⟩ = some (.slice x (adj E n i).length c) := by rw [hbel.cell (by exact hBlt)]; exact hcx
      have HLX := Lib.hid hlx
      have hlen := adj_length E n i
      clear hcx hlx
      go_wp2
      go_loopw [27] (fun i' wr => ∃ k : Nat, k ≤ (adj E n i).length ∧ i' = .int .i64 k ∧ Hid (numRow wr w.heap.size n (pcm E n i k)) ∧ Below w.heap.size w wr) (fun i' _ => (adj E n i).length - (intOf i').toNat)
      case atStart => exact ⟨0, by omega, rfl, numRow_congr hrow.out fun u _ => (pcm_zero E n i u).symm, hbel⟩
      case round =>
        clear hcx1 hrow hbel
        obtain ⟨k, hk, rfl, hrow, hbel⟩ := hrel
        by_cases hkl : k < (adj E n i).length
        · rcases HLX.out with h0 | ⟨g, hx, hg, hcells⟩
          · omega
          · subst hx
            have hck : wr.cell? ⟨g, k, none⟩ = some (.int .i64 (at0 (adj E n i) k : Nat)) := by rw [hbel.cell (by exact hg)]; exact hcells k hkl
            have hun := (at0_adj hkl).1
            have hcm := hrow.out.cell hun
            have hfm := World.rowIs.frozen hrow.out (at0 (adj E n i) k)
            have hlp := pcm_le E n i k (at0 (adj E n i) k)
            have hset := Lib.hid (numRow_set hrow.out (at0 (adj E n i) k) (pcm E n i k (at0 (adj E n i) k) + 1) (fun u _ => pcm_step hkl u))
            have hbel2 := hbel.setCell (p := ⟨w.heap.size, at0 (adj E n i) k, none⟩) (Nat.le_refl _) (.int .i64 ((pcm E n i k (at0 (adj E n i) k) + 1 : Nat) : Int))
            clear hcells hrow
            generalize hy : pcm E n i k (at0 (adj E n i) k) = y at *
            generalize hu : at0 (adj E n i) k = u at *
            clear hy hu
            go_wp2
            go_roundw
            case rel => exact ⟨k + 1, by omega, by go_num, by simpa using hset, by simpa using hbel2⟩
            case measure => simp [intOf]; omega
        · obtain rfl : k = (adj E n i).length := by omega
          have hrow2 : Hid (numRow wr w.heap.size n (pc E (i + 1))) := numRow_congr hrow.out fun u hu => pcm_end hu
          clear hrow
          go_wp2
          go_roundw
          case rel => exact ⟨i + 1, by omega, by go_num, hrow2, hbel⟩
          case measure => simp [intOf]; omega
    · obtain rfl : n = i := by omega
      have hlt := World.rowIs.lt hrow.out
      have hst : Hid (St n w ((wo.alloc (.cells #[] 3)).alloc (.cells #[.slice (some ⟨wo.heap.size, 0, none⟩) 0 0] 65)) w.heap.size (wo.heap.size + 1) (cnt E n []) [] [] (.slice (some ⟨wo.heap.size, 0, none⟩) 0 0) (.slice none 0 0)) := by
        have hsz : (wo.alloc (.cells #[] 3)).heap.size = wo.heap.size + 1 := by simp
        refine ⟨?_, ⟨?_, ?_, ?_⟩, heap_nil, World.ownsRow_nil _ _ _ _, .inl rfl, (hbel.alloc (by omega) _).alloc (by rw [hsz]; omega) _⟩
        · exact numRow_congr ((hrow.out.alloc _).alloc _) fun u _ => pc_cnt E n u
        · have := World.rowIs_alloc (wo.alloc (.cells #[] 3)) #[.slice (some ⟨wo.heap.size, 0, none⟩) 0 0] 65 (fun _ => .slice (some ⟨wo.heap.size, 0, none⟩) 0 0) (fun j hj => by
            have : j = 0 := by simp at hj; omega
            subst this; rfl)
          rw [hsz] at this
          exact this
        · exact (World.ownsRow_made (base := wo.heap.size + 1 - 1) (e := 3) (size := 1) wo #[] 0 (by omega) (by omega) (by simp)).alloc _
        · show some (wo.heap.size + 1) ≠ some wo.heap.size
          intro e; injection e with e; omega
      generalize hpp : wo.heap.size + 1 = p at *
      have hBp : w.heap.size + 1 < p := by omega
      clear hrow
      clear hbel hlt
      go_wp2
      go_loopw [43] (fun i' wr => ∃ (k : Nat) (q : List Nat) (vq : Value), k ≤ n ∧ i' = .int .i64 k ∧ Hid (St n w wr w.heap.size p (cnt E n []) q [] vq (.slice none 0 0)) ∧ Hid (TopoFirst E n k q)) (fun i' _ => n - (intOf i').toNat)
      case atStart => exact ⟨0, [], _, by omega, rfl, hst, List.nodup_nil, fun v => ⟨fun h => by simp at h, fun h => by omega⟩⟩
      case round =>
        clear hst
        obtain ⟨k, q, vq, hk, rfl, hst, hfi⟩ := hrel
        obtain ⟨wp, rfl⟩ : ∃ wp : World, wp = wr := ⟨_, rfl⟩
        have hql : q.length ≤ k := acc_le hfi.out.qnodup fun v hv => ((hfi.out.ready v).1 hv).1
        by_cases hkn : k < n
        · have hcm := hst.out.row.cell hkn
          by_cases hc0 : cnt E n [] k = 0
          · rw [hc0] at hcm
            have HC0 := Lib.hid hc0
            clear hc0
            go_wp2_with fail
            refine (hpush_any p vq q k _ hst.out.que hst.out.heap (by omega)).mono ?_
            rintro e w2 ⟨rfl, v2, q2, hp2, hh2, hQ2, hM2, hK2⟩
            have hst2 := Lib.hid (hst.out.keeps hBp hQ2 hh2 hM2 hK2)
            have hfi2 := Lib.hid (first_push hfi.out HC0.out hp2)
            clear hp2 hh2 hQ2 hM2 hK2
            go_wp2
            go_roundw
            case rel => exact ⟨k + 1, q2, v2, by omega, by go_num, hst2, hfi2⟩
            case measure => simp [intOf]; omega
          · have hfi2 := Lib.hid (first_skip hfi.out hc0)
            generalize hy : cnt E n [] k = y at *
            have hy1 : (y == 0) = false := by simp; omega
            have hy2 : (((y : Nat) : Int) == 0) = false := by simp; omega
            clear hy hc0
            go_wp2
            go_roundw
            case rel => exact ⟨k + 1, q, vq, by omega, by go_num, hst, hfi2⟩
            case measure => simp [intOf]; omega
        · obtain rfl : n = k := by omega
          have hto := Lib.hid (first_done hfi.out)
          clear hfi
          go_wp2
          go_loopw [12] (fun vo wr => ∃ (acc q : List Nat) (vq : Value), Hid (St n w wr w.heap.size p (cnt E n acc) q acc vq vo) ∧ Hid (TopoAt E n acc q)) (fun vo _ => n - sliceLen vo)
          case atStart => exact ⟨[], q, vq, hst, hto⟩
          case round =>
            clear hst hto hql
            obtain ⟨acc, q, vq, hst, hto⟩ := hrel
            obtain ⟨vo, rfl⟩ : ∃ vo : Value, vo = u12 := ⟨_, rfl⟩
            obtain ⟨wp, rfl⟩ : ∃ wp : World, wp = wr := ⟨_, rfl⟩
            have hql : q.length ≤ n := acc_le hto.out.qnodup fun v hv => ((hto.out.ready v).1 hv).1
            have hal : acc.length ≤ n := acc_le hto.out.nodup hto.out.lt
            obtain ⟨qa, qc, rfl⟩ := q_slice hst.out.que
            have hcq := hst.out.que.1.cell (i := 0) (by omega)
            by_cases hq0 : 0 < q.length
            · go_wp2_with (go_at_call 45; refine (qlen_any _ _ _ _).mono ?_; rintro e w' ⟨rfl, rfl⟩)
              refine (hpop_any p _ q _ hst.out.que hst.out.heap hq0 (by omega)).mono ?_
              rintro e w2 ⟨rfl, v2, q2, hp2, hh2, hQ2, hv2, hK2⟩
              have hT := topo_taken hto.out hp2 (fun x hx => pop_min hst.out.heap hx)
              have hmid := Lib.hid (topo_pop hto.out hp2)
              have hst1 := Lib.hid (hst.out.keeps hBp hQ2 hh2 (.inl hv2) hK2)
              have hlen4 := hto.out.lt_n hq0
              have hsl : sliceLen vo = acc.length := own_len hst.out.ord
              clear hp2 hh2 hQ2 hv2 hK2 hst hcq
              generalize hmm : at0 q 0 = m at *
              have hmn : m < n := hT.1
              have HT := Lib.hid hT
              have HSL := Lib.hid hsl
              have hsz1 : p + 1 ≤ w2.heap.size := hst1.out.que.1.lt
              have hord := hst1.out.ord
              have hta := assert_int (m : Int)
              obtain ⟨x, c, hcx, hlx⟩ := HA.out.2 m hmn
              have HLX := Lib.hid hlx
              have hladj := adj_length E n m
              have CB := Lib.hid (show ∀ w3 : World, w2.grownBy w3 vo.ownBlock → w3.cell? ⟨B, m, none⟩ = some (.slice x (adj E n m).length c) from fun w3 hg => by
                have h1 := World.cell?_of_block (w := w2) (w' := w3) (a := ⟨B, m, none⟩) (hg.block B (by omega) (fun e => by have := hst1.out.ord.lt _ e.symm; omega))
                rw [h1, hst1.out.bel.cell (by exact hBlt)]
                exact hcx)
              clear hT hmm hsl hcx hlx
              go_wp2_with (at_builtin; refine wpList_append_at w2 (by rfl) _ _ _ (by rfl) (p + 1) 3 _ 8 Try.underlying31 infoNum (by rfl) vo acc.length (nums acc) (by rfl) hord _ (by rfl) w2.heap.size (by rfl) (by rfl) (by omega) (by omega) hsz1 ?_; intro g3 c3 w3 ho3 hg3 hl3; have hcb3 := CB.out _ hg3)
              rw [nums_append] at ho3
              have hst2 : Hid (St n w w3 w.heap.size p (cm E n acc m 0) q2 (acc ++ [m]) v2 (.slice (some ⟨g3, 0, none⟩) (acc.length + 1) c3)) := by
                have h := hst1.out.append hBp (acc2 := acc ++ [m]) (vo2 := .slice (some ⟨g3, 0, none⟩) (acc.length + 1) c3) (by simpa using ho3) hg3 hl3
                exact { h with row := numRow_congr h.row fun u _ => (cm_zero E n acc m u).symm }
              clear ho3 hg3 hl3 hord hcb3 hst1 hta
              go_loopw [74] (fun i' wr => ∃ (k : Nat) (q : List Nat) (vq : Value), k ≤ (adj E n m).length ∧ i' = .int .i64 k ∧ Hid (St n w wr w.heap.size p (cm E n acc m k) q (acc ++ [m]) vq (.slice (some ⟨g3, 0, none⟩) (acc.length + 1) c3)) ∧ Hid (TopoMid E n acc m ((adj E n m).take k) q)) (fun i' _ => (adj E n m).length - (intOf i').toNat)
              case atStart => exact ⟨0, q2, v2, by omega, rfl, hst2, by simpa using hmid⟩
              case round =>
                clear hst2 hmid
                obtain ⟨k, q5, vq5, hk, rfl, hst, hmid⟩ := hrel
                obtain ⟨wp, rfl⟩ : ∃ wp : World, wp = wr := ⟨_, rfl⟩
                by_cases hkl : k < (adj E n m).length
                · rcases HLX.out with h0 | ⟨g, hx, hg, hcells⟩
                  · omega
                  · subst hx
                    have hck : wp.cell? ⟨g, k, none⟩ = some (.int .i64 (at0 (adj E n m) k : Nat)) := by rw [hst.out.bel.cell (by exact hg)]; exact hcells k hkl
                    have hun := (at0_adj hkl).1
                    have hEu := Lib.hid (at0_adj hkl).2
                    have hcm := hst.out.row.cell hun
                    rw [cm_at hmn (freeb_iff.1 HT.out.2.1).1 hkl] at hcm
                    have hcm2 : wp.cell? ⟨w.heap.size, at0 (adj E n m) k, none⟩ = some (.int .i64 ((cnt E n (acc ++ [m]) (at0 (adj E n m) k) : Nat) + 1 : Int)) := by simpa using hcm
                    have hfm := World.rowIs.frozen hst.out.row (at0 (adj E n m) k)
                    have hcl := cnt_le E n (acc ++ [m]) (at0 (adj E n m) k)
                    have hset := Lib.hid (hst.out.set hBp (at0 (adj E n m) k) (cnt E n (acc ++ [m]) (at0 (adj E n m) k)) (fun u _ => cm_step hkl u))
                    have hnot := Lib.hid (at0_not_take (adj_nodup E n m) hkl)
                    have hta := Lib.hid (take_at0 hkl)
                    have hq5 := mid_le hmid.out
                    clear hcells hcm
                    generalize hu : at0 (adj E n m) k = u at *
                    clear hu
                    by_cases hc0 : cnt E n (acc ++ [m]) u = 0
                    · have HC0 := Lib.hid hc0
                      rw [hc0] at hcm2 hset
                      clear hc0 hcl
                      go_wp2_with fail
                      refine (hpush_any p vq5 q5 u _ hset.out.que hset.out.heap (by omega)).mono ?_
                      rintro e w4 ⟨rfl, v4, q4, hp4, hh4, hQ4, hM4, hK4⟩
                      have hst4 := Lib.hid (hset.out.keeps hBp hQ4 hh4 hM4 hK4)
                      have hmid4 := Lib.hid (mid_push hmid.out hmn (freeb_iff.1 HT.out.2.1).1 hEu.out hnot.out HC0.out hp4)
                      rw [← hta.out] at hmid4
                      clear hp4 hh4 hQ4 hM4 hK4
                      go_wp2
                      go_roundw
                      case rel => exact ⟨k + 1, q4, v4, by omega, by go_num, hst4, hmid4⟩
                      case measure => simp [intOf]; omega
                    · have hmid4 := Lib.hid (mid_skip hmid.out hc0)
                      rw [← hta.out] at hmid4
                      generalize hy : cnt E n (acc ++ [m]) u = y at *
                      have hy1 : (y == 0) = false := by simp; omega
                      have hy2 : (((y : Nat) : Int) == 0) = false := by simp; omega
                      clear hy hc0
                      go_wp2
                      go_roundw
                      case rel => exact ⟨k + 1, q5, vq5, by omega, by go_num, hset, hmid4⟩
                      case measure => simp [intOf]; omega
                · obtain rfl : (adj E n m).length = k := by omega
                  have hst5 : Hid (St n w wp w.heap.size p (cnt E n (acc ++ [m])) q5 (acc ++ [m]) vq5 (.slice (some ⟨g3, 0, none⟩) (acc.length + 1) c3)) :=
                    { hst.out with row := numRow_congr hst.out.row fun u hu => cm_end hu }
                  have hto5 := Lib.hid (topo_next hto.out hmn HT.out.2.1 HT.out.2.2 hlen4 (by have := hmid.out; rwa [List.take_length] at this))
                  clear hst hmid
                  go_wp2
                  go_roundw
                  case rel => exact ⟨acc ++ [m], q5, vq5, hst5, hto5⟩
                  case measure => rw [HSL.out]; simp [sliceLen]; omega
            · obtain rfl : q = [] := List.eq_nil_of_length_eq_zero (by omega)
              have hdone := Lib.hid (topo_done hto.out)
              obtain ⟨oa, oc, rfl⟩ := own_val hst.out.ord
              by_cases hlt : acc.length < n
              · have hd : topo E n = none := by rw [hdone.out, if_pos hlt]
                have HD := Lib.hid hd
                clear hd
                go_wp2_with (go_at_call 45; refine (qlen_any _ _ _ _).mono ?_; rintro e w' ⟨rfl, rfl⟩)
                go_ret2
                refine ⟨.slice none 0 0, ?_, ?_, hst.out.bel⟩
                · rw [HD.out]; rfl
                · rw [HD.out]; exact World.ownsRow_nil _ _ _ _
              · have hd : topo E n = some acc := by rw [hdone.out, if_neg hlt]
                have HD := Lib.hid hd
                clear hd
                go_wp2_with (go_at_call 45; refine (qlen_any _ _ _ _).mono ?_; rintro e w' ⟨rfl, rfl⟩)
                go_ret2
                refine ⟨.slice oa acc.length oc, ?_, ?_, hst.out.bel⟩
                · rw [HD.out]; rfl
                · rw [HD.out]; exact own_mono hst.out.ord (by omega)
end Go.Proofs.Ytaiddgndjiaoaaa
