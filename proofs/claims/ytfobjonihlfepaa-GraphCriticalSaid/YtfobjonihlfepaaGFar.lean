/- Greatest weights of paths: contracts of the code. -/
import Derived.Test.YtfobjonihlfepaaGRepeat
import Derived.Test.YtfobjonihlfepaaLMath
import Derived.Test.YtfobjonihlfepaaGLTopo
import Derived.Test.YtfobjonihlfepaaGReach
namespace Go.Proofs.Ytfobjonihlfepaa
open Go.RowKit
set_option linter.unusedVariables false

/-- A list of weights as it lies in memory. -/
def WeightsAt (w : World) (x : Option Addr) (len : Nat) (zs : List Int) : Prop :=
  zs.length = len ∧ (len = 0 ∨ ∃ b o, x = some ⟨b, o, none⟩ ∧ b < w.heap.size ∧ ∀ i, i < len → w.cell? ⟨b, o + i, none⟩ = some (.int .i64 (zs.getD i 0)) ∧ -9223372036854775808 ≤ zs.getD i 0 ∧ zs.getD i 0 ≤ 9223372036854775807)
theorem weights_below {w w' : World} {B : Nat} {x : Option Addr} {len : Nat} {zs : List Int} (h : WeightsAt w x len zs) (hb : Below B w w') (hB : w.heap.size ≤ B) : WeightsAt w' x len zs := by
  refine ⟨h.1, ?_⟩
  rcases h.2 with h0 | ⟨b, o, hx, hlt, hc⟩
  · exact .inl h0
  · refine .inr ⟨b, o, hx, Nat.lt_of_lt_of_le hlt hb.size, fun i hi => ?_⟩
    exact ⟨by rw [hb.cell (by show b < B; omega)]; exact (hc i hi).1, (hc i hi).2⟩
/-- The weight of a node. -/
def wt (zs : List Int) (v : Nat) : Int := if v < zs.length then max (-1073741824) (min (zs.getD v 0) 1073741824) else 0
theorem wt_bound (zs : List Int) (v : Nat) : -1073741824 ≤ wt zs v ∧ wt zs v ≤ 1073741824 := by
  unfold wt
  split <;> omega

theorem weightOf_any (x : Option Addr) (len cap : Nat) (zs : List Int) (v : Nat) (w : World) (hZ : WeightsAt w x len zs) (hl : len ≤ 9223372036854775807) (hv : v ≤ 20000) :
    Calls Try.prog 61 #[.slice x len cap, .int .i64 (v : Int)] w fun e w' => e = .returned (.int .i64 (wt zs v)) ∧ w = w' := by
  by_cases hvl : v < len
  · rcases hZ.2 with h0 | ⟨b, o, rfl, hb, hc⟩
    · omega
    · have c1 := (hc v hvl).1
      have c2 := (hc v hvl).2
      have hw := Lib.hid (show wt zs v = max (-1073741824) (min (zs.getD v 0) 1073741824) by unfold wt; rw [if_pos (by have := hZ.1; omega)])
      clear hc hZ
      generalize zs.getD v 0 = z at *
      go_enter Try.func61, Try.ntmps61
      go_wp2
      all_goals
        go_ret
        exact ⟨r_int (by have := hw.out; omega), rfl⟩
  · have hw := Lib.hid (show wt zs v = 0 by unfold wt; rw [if_neg (by have := hZ.1; omega)])
    clear hZ
    go_enter Try.func61, Try.ntmps61
    go_wp2
    go_ret
    exact ⟨r_int (by rw [hw.out]), rfl⟩
theorem rWeight_any (x : Option Addr) (len cap : Nat) (zs : List Int) (v : Nat) (w : World) (hZ : WeightsAt w x len zs) (hl : len ≤ 9223372036854775807) (hv : v ≤ 20000) :
    Calls Try.prog 30 #[.slice x len cap, .int .i64 (v : Int)] w fun e w' => e = .returned (.int .i64 (wt zs v)) ∧ w = w' := by
  by_cases hvl : v < len
  · rcases hZ.2 with h0 | ⟨b, o, rfl, hb, hc⟩
    · omega
    · have c1 := (hc v hvl).1
      have c2 := (hc v hvl).2
      have hw := Lib.hid (show wt zs v = max (-1073741824) (min (zs.getD v 0) 1073741824) by unfold wt; rw [if_pos (by have := hZ.1; omega)])
      clear hc hZ
      generalize zs.getD v 0 = z at *
      go_enter Try.func30, Try.ntmps30
      go_wp2
      all_goals
        go_ret
        exact ⟨r_int (by have := hw.out; omega), rfl⟩
  · have hw := Lib.hid (show wt zs v = 0 by unfold wt; rw [if_neg (by have := hZ.1; omega)])
    clear hZ
    go_enter Try.func30, Try.ntmps30
    go_wp2
    go_ret
    exact ⟨r_int (by rw [hw.out]), rfl⟩

/-- A row of integers as a function. -/
def intRow (w : World) (b n : Nat) (f : Nat → Int) : Prop := w.rowIs b 3 n (fun u => .int .i64 (f u))
theorem intRow_set {w : World} {b n : Nat} {f f' : Nat → Int} (h : intRow w b n f) (x : Nat) (y : Int) (hf : ∀ u, u < n → f' u = if u = x then y else f u) : intRow (w.setCell ⟨b, x, none⟩ (.int .i64 y)) b n f' :=
  (World.rowIs.set h x _).congr fun u hu => by
    rw [hf u hu]
    by_cases e : u = x <;> simp [e]
theorem intRow_congr {w : World} {b n : Nat} {f f' : Nat → Int} (h : intRow w b n f) (hf : ∀ u, u < n → f u = f' u) : intRow w b n f' := World.rowIs.congr h fun u hu => by rw [hf u hu]

/-- What farthest hands back. -/
def FarRes (E : Nat → Nat → Bool) (n : Nat) (W : Nat → Int) (base : Nat) (w : World) (e : Ending) (w' : World) : Prop :=
  Below base w w' ∧ match topo E n with
  | none => e = .returned (.tuple #[.slice none 0 0, .slice none 0 0, .bool false])
  | some l => ∃ (Bl Bb : Nat) (bf : Nat → Int), e = .returned (.tuple #[.slice (some ⟨Bl, 0, none⟩) n n, .slice (some ⟨Bb, 0, none⟩) n n, .bool true]) ∧ intRow w' Bl n (lg E n W l) ∧ intRow w' Bb n bf ∧ ∀ u, u < n → From E (lg E n W l) l u (lg E n W l u - W u) (bf u)

theorem tord_nodup {E : Nat → Nat → Bool} {n : Nat} : ∀ (k : Nat) (l : List Nat), l.length = k → Tord E n l → l.Nodup := by
  intro k
  induction k with
  | zero => intro l hl _; rw [List.eq_nil_of_length_eq_zero hl]; exact List.nodup_nil
  | succ k ih =>
    intro l hl h
    rcases List.eq_nil_or_concat l with rfl | ⟨l', v, rfl⟩
    · exact List.nodup_nil
    · have e : l'.concat v = l' ++ [v] := by simp
      rw [e] at hl h ⊢
      have h1 := h l' v [] rfl
      have h2 := tord_take h k
      have hk : l'.length = k := by simp at hl; omega
      rw [← hk, List.take_left] at h2
      exact List.nodup_append.2 ⟨ih l' hk h2, by simp, fun a ha b hb => by simp at hb; subst hb; exact fun e => h1.1 (e ▸ ha)⟩
theorem topo_nodup {E : Nat → Nat → Bool} {n : Nat} {l : List Nat} (h : topo E n = some l) : l.Nodup := tord_nodup _ l rfl (topo_tord h)
/-- A list of n different nodes has them all. -/
theorem all_mem {n : Nat} {l : List Nat} (h1 : l.Nodup) (h2 : ∀ u, u ∈ l → u < n) (h3 : l.length = n) : ∀ u, u < n → u ∈ l := by
  intro u hu
  refine Decidable.byContradiction fun h => ?_
  have := acc_le (n := n) (acc := u :: l) (List.nodup_cons.2 ⟨h, h1⟩) (fun v hv => by
    rcases List.mem_cons.1 hv with rfl | hv
    · exact hu
    · exact h2 v hv)
  simp at this
  omega

set_option maxHeartbeats 4000000 in
set_option maxRecDepth 100000 in
theorem farthest_any (N : Int) (x : Option Addr) (len cap : Nat) (ls : List (Int × Int)) (xw : Option Addr) (lw cw : Nat) (zs : List Int) (w : World) (hL : LinksAt w x len ls) (hlen : len ≤ 1000000) (hZ : WeightsAt w xw lw zs) (hlw : lw ≤ 9223372036854775807) :
    Calls Try.prog 48 #[gr N x len cap, .slice xw lw cw] w fun e w' => FarRes (edge ls (nd N)) (nd N) (wt zs) w.heap.size w e w' := by
  have hb := (Below.refl w.heap.size w).alloc (Nat.le_refl _) (.cells #[.int .i64 N, .slice x len cap] 24)
  have hL1 := links_below hL hb (Nat.le_refl _)
  have hn := nd_le N
  have hnext := fun W h => Next_any N x len cap ls W h hlen
  have hmk := fun W => run_make_row' (P := Try.prog) 31 3 (.int .i64 0) 8 Try.underlying31 infoNum rfl .i64 .i64 (nd N) (by omega) (by omega) W
  clear hL
  generalize hnn : nd N = n at *
  generalize hEE : edge ls n = E at *
  have hEl : ∀ a b, E a b = true → a < n ∧ b < n := by rw [← hEE]; exact edge_lt'
  have HNX := Lib.hid hnext
  have HEL := Lib.hid hEl
  clear hnext hnn hEE hEl
  go_enter Try.func48, Try.ntmps48
  go_wp2_with fail
  refine (HNX.out _ hL1).mono ?_
  rintro e w1 ⟨v, rfl, hadj, hb1⟩
  obtain ⟨B, rfl, hB, hA⟩ := adjAt_of hadj
  have hs1 := hb1.size
  have hsz : w.heap.size ≤ w1.heap.size := by simp at hs1; omega
  have hb2 := hb.trans (hb1.mono (by simp))
  clear hadj hL1 hb1 hs1 hb
  go_wp2_with fail
  refine (sorted_any E n B _ hA hn).mono ?_
  rintro e w2 ⟨vo, rfl, hown, hb3⟩
  have hb4 := hb2.trans (hb3.mono hsz)
  have hsz2 := Nat.le_trans hsz hb3.size
  have HA := Lib.hid (adjAt_below hA hb3 (Nat.le_refl _))
  rcases hT : topo E n with _ | l
  · rw [hT] at hown
    have HT := Lib.hid hT
    clear hT hA hown
    simp only [Option.isSome_none]
    go_wp2
    go_ret3
    refine ⟨hb4, ?_⟩
    rw [HT.out]
    rfl
  · rw [hT] at hown
    simp only [Option.getD_some, Option.isSome_some] at *
    obtain ⟨xo, co, rfl, hlo⟩ := listAt_own hown
    have hto := Lib.hid (topo_tord hT)
    have hll : l.length = n := by have := (topoRun_lt n [] (fun a ha => by simp at ha) l hT).2; simpa using this
    have HT := Lib.hid hT
    have HLO := Lib.hid hlo
    have HLL := Lib.hid hll
    clear hT hA hown hll hlo
    have hll2 : l.length ≤ 20000 := by have := HLL.out; omega
    have hz0 : (w2.alloc (.cells (madeCells #[.int .i64 0] n) 3)).heap.size = w2.heap.size + 1 := by simp
    have hr0 : (w2.alloc (.cells (madeCells #[.int .i64 0] n) 3)).rowIs w2.heap.size 3 n (fun _ => .int .i64 0) := World.rowIs_made _ _ _ _
    have hc0 : ((w2.alloc (.cells (madeCells #[.int .i64 0] n) 3)).alloc (.cells #[.int .i64 (-1)] 3)).cell? ⟨w2.heap.size + 1, 0, none⟩ = some (.int .i64 (-1)) := by
      have := heap_alloc_new (w2.alloc (.cells (madeCells #[.int .i64 0] n) 3)) (.cells #[.int .i64 (-1)] 3)
      rw [hz0] at this
      simp only [World.cell?, this]; rfl
    have hbA : Below w2.heap.size w2 ((w2.alloc (.cells (madeCells #[.int .i64 0] n) 3)).alloc (.cells #[.int .i64 (-1)] 3)) := ((Below.refl _ _).alloc (Nat.le_refl _) _).alloc (by rw [hz0]; omega) _
    have HR0 := Lib.hid (hr0.alloc (.cells #[.int .i64 (-1)] 3))
    have HC0 := Lib.hid hc0
    have HBA := Lib.hid hbA
    clear hr0 hc0 hz0 hbA
    go_wp2_with fail
    refine (repeat_any (w2.heap.size + 1) n hn _ (by simp) HC0.out).mono ?_
    rintro e w3 ⟨Bb, rfl, hBb, hrb, hb5⟩
    have hl0 : Hid (intRow w3 w2.heap.size n (cur E n (wt zs) (l.take 0))) := intRow_congr (f := fun _ => 0) (row_below HR0.out hb5 (by simp; omega)) (fun u _ => by simp [cur_nil])
    have hf0 : Hid (intRow w3 Bb n (fun _ => -1) ∧ ∀ u, u < n → From E (lg E n (wt zs) (l.take 0)) (l.take 0) u (cpre E n (wt zs) (l.take 0) u) (-1)) := ⟨hrb, fun u _ => .inl ⟨rfl, by simp [cpre_nil]⟩⟩
    have hbel0 : Below w2.heap.size w2 w3 := HBA.out.trans (hb5.mono (by simp; omega))
    have hBb2 : w2.heap.size + 2 ≤ Bb := by simp at hBb; omega
    have HZ0 := Lib.hid hZ
    clear hrb hb5 HR0 HC0 HBA hBb hZ hmk
    go_wp2
    go_loopw [31] (fun i wr => ∃ (k : Nat) (bf : Nat → Int), k ≤ l.length ∧ i = .int .i64 k ∧ Hid (intRow wr w2.heap.size n (cur E n (wt zs) (l.take k))) ∧ Hid (intRow wr Bb n bf ∧ ∀ u, u < n → From E (lg E n (wt zs) (l.take k)) (l.take k) u (cpre E n (wt zs) (l.take k) u) (bf u)) ∧ Below w2.heap.size w2 wr) (fun i _ => l.length - (intOf i).toNat)
    case atStart => exact ⟨0, fun _ => -1, by omega, rfl, hl0, hf0, hbel0⟩
    case round =>
      clear hl0 hf0 hbel0
      obtain ⟨k, bf, hk, rfl, hli, hfi, hbel⟩ := hrel
      obtain ⟨wp, rfl⟩ : ∃ wp : World, wp = wr := ⟨_, rfl⟩
      by_cases hkl : k < l.length
      · rcases HLO.out with h0 | ⟨g, hx, hg, hcells⟩
        · omega
        · subst hx
          have hck : wp.cell? ⟨g, k, none⟩ = some (.int .i64 (at0 l k : Nat)) := by rw [hbel.cell (by exact hg)]; exact hcells k hkl
          have hta := tord_at hto.out hkl
          have hTA := Lib.hid hta
          have hvn := hta.2.1
          have htk := Lib.hid (take_at0 hkl)
          clear hcells hta
          generalize hvv : at0 l k = v at *
          clear hvv
          have hcv := hli.out.cell hvn
          have hfv := World.rowIs.frozen hli.out v
          have hwb := wt_bound zs v
          have hlb := lg_bound (E := E) (n := n) (wt_bound zs) (l.take k).length (l.take k) rfl
          have hkl3 : (l.take k).length ≤ 20000 := by simp; omega
          have hcb : cur E n (wt zs) (l.take k) v = bst E n (lg E n (wt zs) (l.take k)) v := by unfold cur; rw [if_neg hTA.out.1]
          have hbb := bst_bound (E := E) (n := n) (w := v) (c := 1073741824 * ((l.take k).length : Int)) (by omega) (fun p => (hlb p).2)
          rw [← hcb] at hbb
          have hbb2 : cur E n (wt zs) (l.take k) v ≤ 30000000000000 := by omega
          have hbb1 := hbb.1
          have HZW := Lib.hid (fun (W : World) (hW : WeightsAt W xw lw zs) => weightOf_any xw lw cw zs v W hW hlw (by omega))
          have hZ4 := weights_below HZ0.out (hb4.trans (hbel.mono hsz2)) (Nat.le_refl _)
          clear hlb hcb hbb
          have hself : E v v = false := by
            cases h : E v v with
            | false => rfl
            | true => exact absurd (hTA.out.2.2 v hvn h) hTA.out.1
          have hlv : lg E n (wt zs) (l.take k ++ [v]) v = cur E n (wt zs) (l.take k) v + wt zs v := by
            have := curMid_start (E := E) (n := n) (wt := wt zs) (acc := l.take k) (v := v) (u := v) hTA.out.1
            rw [curMid_self, if_pos rfl] at this
            exact this
          have HLV := Lib.hid hlv
          have hset := Lib.hid (fun y (hy : y = lg E n (wt zs) (l.take k ++ [v]) v) => intRow_set (f' := curMid E n (wt zs) (l.take k) v 0) hli.out v y (fun u _ => by rw [curMid_start hTA.out.1, hy, hlv]))
          have hbelS := fun y : Int => hbel.setCell (p := ⟨w2.heap.size, v, none⟩) (Nat.le_refl _) (.int .i64 y)
          have HBS := Lib.hid hbelS
          have hfiS := Lib.hid (fun y : Int => (World.rowIs.setOther hfi.out.1 (a := ⟨w2.heap.size, v, none⟩) (by show Bb ≠ w2.heap.size; omega) (.int .i64 y)))
          have HFW := Lib.hid (fun u hu => from_weaken (n := n) (wt := wt zs) hTA.out.1 (hfi.out.2 u hu))
          have HSELF := Lib.hid hself
          obtain ⟨xv, cvv, hcx, hlx⟩ := HA.out.2 v hvn
          have hBlt : B < w2.heap.size := HA.out.1
          have HCX := Lib.hid (fun y : Int => (show (wp.setCell ⟨w2.heap.size, v, none⟩ (.int .i64 y)).cell? ⟨B, v, none⟩ = some (.slice xv (adj E n v).length cvv) by rw [(hbelS y).cell (by exact hBlt)]; exact hcx))
          have HLX := Lib.hid hlx
          have hadl := adj_length E n v
          have hv0 : (0 : Int) ≤ (v : Int) := by omega
          have hv1 : (v : Int) < (n : Int) := by omega
          clear hself hlv hbelS hcx hlx hli hfi
          generalize hcc : cur E n (wt zs) (l.take k) v = cc at *
          generalize hww : wt zs v = ww at *
          clear hcc hww
          have hsum : IntKind.i64.wrap (cc + ww) = cc + ww := by rw [IntKind.wrap_i64]; omega
          go_wp2
          go_region_with (go_at_call 61; refine (HZW.out _ (by exact hZ4)).mono ?_; rintro e w' ⟨rfl, rfl⟩)
          all_goals
            clear hsum hcv hfv hck
            have hrow := Lib.hid (hset.out (cc + ww) HLV.out.symm)
            have hbelw := HBS.out (cc + ww)
            have hfw := Lib.hid (hfiS.out (cc + ww))
            have hcB := HCX.out (cc + ww)
            generalize hW4 : wp.setCell ⟨w2.heap.size, v, none⟩ (.int .i64 (cc + ww)) = w4 at *
            have hR0 : Hid (intRow w4 Bb n bf ∧ ∀ u, u < n → From E (lg E n (wt zs) (l.take k ++ [v])) (l.take k ++ [v]) u (cmid E n (wt zs) (l.take k) v 0 u) (bf u)) := ⟨hfw.out, fun u hu => by rw [cmid_zero]; exact HFW.out u hu⟩
            clear hfw HFW hset HBS hfiS HCX hW4 hZ4
            go_wp2
            clear hcB
            go_loopw [49] (fun i' wr => ∃ (j : Nat) (bf' : Nat → Int), j ≤ (adj E n v).length ∧ i' = .int .i64 j ∧ Hid (intRow wr w2.heap.size n (curMid E n (wt zs) (l.take k) v j)) ∧ Hid (intRow wr Bb n bf' ∧ ∀ u, u < n → From E (lg E n (wt zs) (l.take k ++ [v])) (l.take k ++ [v]) u (cmid E n (wt zs) (l.take k) v j u) (bf' u)) ∧ Below w2.heap.size w2 wr) (fun i' _ => (adj E n v).length - (intOf i').toNat)
            case atStart => exact ⟨0, bf, by omega, rfl, hrow.out, hR0.out, hbelw.drew⟩
            case round =>
              clear hrow hR0 hbelw
              obtain ⟨j, bf', hj, rfl, hli, hfi, hbel⟩ := hrel
              by_cases hjl : j < (adj E n v).length
              · rcases HLX.out with h0 | ⟨g2, hx2, hg2, hcells⟩
                · omega
                · subst hx2
                  have hck : wr.cell? ⟨g2, j, none⟩ = some (.int .i64 (at0 (adj E n v) j : Nat)) := by rw [hbel.cell (by exact hg2)]; exact hcells j hjl
                  have hun := (at0_adj hjl).1
                  have hEu := (at0_adj hjl).2
                  have huv : at0 (adj E n v) j ≠ v := fun e => by rw [e, HSELF.out] at hEu; cases hEu
                  have huacc : at0 (adj E n v) j ∉ l.take k := fun h => hTA.out.1 ((tord_mem (tord_take hto.out k) h).2 v hvn hEu)
                  have hcu := hli.out.cell hun
                  have hcv := hli.out.cell hvn
                  rw [curMid_self] at hcv
                  have hcm : curMid E n (wt zs) (l.take k) v j (at0 (adj E n v) j) = cpre E n (wt zs) (l.take k) (at0 (adj E n v) j) := by
                    unfold curMid
                    rw [if_neg huv, if_neg (at0_not_take (adj_nodup E n v) hjl), cur_pre huacc]
                  rw [hcm] at hcu
                  have hfu := World.rowIs.frozen hli.out (at0 (adj E n v) j)
                  have hbu := hfi.out.1.cell hun
                  have hfbu := World.rowIs.frozen hfi.out.1 (at0 (adj E n v) j)
                  have hstep := Lib.hid (fun u => curMid_step (n := n) (wt := wt zs) (acc := l.take k) (u := u) hjl huv)
                  have HCM := Lib.hid hcm
                  have HTK := Lib.hid (fun hgt => from_take hjl hfi.out.2 hgt)
                  have HKP := Lib.hid (fun hle => from_keep hjl hfi.out.2 hle)
                  have HS1 := Lib.hid (fun (w5 : World) (h5 : intRow w5 w2.heap.size n (curMid E n (wt zs) (l.take k) v j)) (y : Int) hy => intRow_set (f' := curMid E n (wt zs) (l.take k) v (j + 1)) h5 (at0 (adj E n v) j) y hy)
                  have hu0 : (0 : Int) ≤ ((at0 (adj E n v) j : Nat) : Int) := by omega
                  have hu1 : ((at0 (adj E n v) j : Nat) : Int) < (n : Int) := by omega
                  clear hcells hcm
                  generalize hL : lg E n (wt zs) (l.take k ++ [v]) v = L at *
                  generalize hP : cpre E n (wt zs) (l.take k) (at0 (adj E n v) j) = P at *
                  generalize huu : at0 (adj E n v) j = u at *
                  clear huu hP
                  by_cases hgt : P < L
                  · have q1 : decide (P < L) = true := decide_eq_true hgt
                    have hT1 := Lib.hid (HTK.out hgt)
                    have hnew1 : Hid (intRow ((wr.setCell ⟨w2.heap.size, u, none⟩ (.int .i64 L)).setCell ⟨Bb, u, none⟩ (.int .i64 (v : Int))) w2.heap.size n (curMid E n (wt zs) (l.take k) v (j + 1))) :=
                      (World.rowIs.setOther (HS1.out wr hli.out L (fun x _ => by rw [hstep.out x]; by_cases e : x = u <;> simp [e, HCM.out]; omega)) (a := ⟨Bb, u, none⟩) (by show w2.heap.size ≠ Bb; omega) _)
                    have hnew2 : Hid (intRow ((wr.setCell ⟨w2.heap.size, u, none⟩ (.int .i64 L)).setCell ⟨Bb, u, none⟩ (.int .i64 (v : Int))) Bb n (fun x => if x = u then (v : Int) else bf' x)) :=
                      intRow_set (World.rowIs.setOther hfi.out.1 (a := ⟨w2.heap.size, u, none⟩) (by show Bb ≠ w2.heap.size; omega) _) u (v : Int) (fun x _ => rfl)
                    have hb9 := (hbel.setCell (p := ⟨w2.heap.size, u, none⟩) (Nat.le_refl _) (.int .i64 L)).setCell (p := ⟨Bb, u, none⟩) (by show w2.heap.size ≤ Bb; omega) (.int .i64 (v : Int))
                    have hbuS : (wr.setCell ⟨w2.heap.size, u, none⟩ (.int .i64 L)).cell? ⟨Bb, u, none⟩ = some (.int .i64 (bf' u)) := (World.rowIs.setOther hfi.out.1 (a := ⟨w2.heap.size, u, none⟩) (by show Bb ≠ w2.heap.size; omega) _).cell hun
                    clear HTK HKP HS1 hli hfi hbel hgt
                    go_wp2
                    go_quiet (fail)
                    go_wp2
                    go_roundw
                    case rel => exact ⟨j + 1, _, by omega, by go_num, hnew1, ⟨hnew2.out, hT1.out⟩, ⟨hb9.os, hb9.tape, hb9.output, hb9.size, hb9.block⟩⟩
                    case measure => simp [intOf]; omega
                  · have q1 : decide (P < L) = false := decide_eq_false hgt
                    have hT1 := Lib.hid (HKP.out (by omega))
                    have hnew1 : Hid (intRow wr w2.heap.size n (curMid E n (wt zs) (l.take k) v (j + 1))) := intRow_congr hli.out fun x _ => by
                      rw [hstep.out x]
                      by_cases e : x = u
                      · rw [if_pos e, HCM.out, e, HCM.out]; omega
                      · rw [if_neg e]
                    have hfi2 := Lib.hid hfi.out.1
                    clear HTK HKP HS1 hli hfi hgt
                    go_wp2
                    go_quiet (fail)
                    go_wp2
                    go_roundw
                    case rel => exact ⟨j + 1, bf', by omega, by go_num, hnew1, ⟨hfi2.out, hT1.out⟩, ⟨hbel.os, hbel.tape, hbel.output, hbel.size, hbel.block⟩⟩
                    case measure => simp [intOf]; omega
              · obtain rfl : (adj E n v).length = j := by omega
                have hpre : ∀ x, x ∈ l.take k → ∀ p, p < n → E p x = true → p ∈ l.take k := fun x hx => (tord_mem (tord_take hto.out k) hx).2
                have hnew1 : Hid (intRow wr w2.heap.size n (cur E n (wt zs) (l.take (k + 1)))) := intRow_congr hli.out fun u hu => by rw [curMid_end hvn hTA.out.1 hpre hu, htk.out]
                have hnew2 : Hid (intRow wr Bb n bf' ∧ ∀ u, u < n → From E (lg E n (wt zs) (l.take (k + 1))) (l.take (k + 1)) u (cpre E n (wt zs) (l.take (k + 1)) u) (bf' u)) := ⟨hfi.out.1, fun u hu => by
                  have := hfi.out.2 u hu
                  rw [cmid_end hvn hTA.out.1 HSELF.out hpre hu] at this
                  rw [htk.out]; exact this⟩
                clear hli hfi hpre
                go_wp2
                go_roundw
                case rel => exact ⟨k + 1, bf', by omega, by go_num, hnew1, hnew2, hbel⟩
                case measure => simp [intOf]; omega
      · obtain rfl : l.length = k := by omega
        have hli' := hli.out
        have hfi' := hfi.out
        rw [List.take_length] at hli' hfi'
        have hall : ∀ u, u < n → u ∈ l := all_mem (topo_nodup HT.out) (fun u hu => (tord_mem hto.out hu).1) HLL.out
        have h1 : Hid (intRow wp w2.heap.size n (lg E n (wt zs) l)) := intRow_congr hli' fun u hu => by unfold cur; rw [if_pos (hall u hu)]
        have h2 : Hid (intRow wp Bb n bf ∧ ∀ u, u < n → From E (lg E n (wt zs) l) l u (lg E n (wt zs) l u - wt zs u) (bf u)) := ⟨hfi'.1, fun u hu => by
          have := hfi'.2 u hu
          unfold cpre at this
          rw [if_pos (hall u hu)] at this
          exact this⟩
        clear hli hfi hli' hfi' hall
        go_wp2
        go_ret3
        refine ⟨hb4.trans (hbel.mono hsz2), ?_⟩
        rw [HT.out]
        exact ⟨w2.heap.size, Bb, bf, rfl, h1.out, h2.out.1, h2.out.2⟩
end Go.Proofs.Ytfobjonihlfepaa
