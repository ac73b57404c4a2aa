/- Longest, of the code and of the reference: contracts. -/
import Derived.Test.YtfobjonihlfepaaGFar
namespace Go.Proofs.Ytfobjonihlfepaa
open Go.RowKit
set_option linter.unusedVariables false

theorem int_val {a b : Int} (h : a = b) : Value.int .i64 a = .int .i64 b := by rw [h]
/-- What Longest hands back. -/
def LngRes (E : Nat → Nat → Bool) (n : Nat) (W : Nat → Int) (base : Nat) (w : World) (e : Ending) (w' : World) : Prop :=
  Below base w w' ∧ match topo E n with
  | none => e = .returned (.tuple #[.slice none 0 0, .bool false])
  | some l => ∃ Bl : Nat, e = .returned (.tuple #[.slice (some ⟨Bl, 0, none⟩) n n, .bool true]) ∧ intRow w' Bl n (lg E n W l)

set_option maxHeartbeats 1000000 in
theorem Longest_any (N : Int) (x : Option Addr) (len cap : Nat) (ls : List (Int × Int)) (xw : Option Addr) (lw cw : Nat) (zs : List Int) (w : World) (hL : LinksAt w x len ls) (hlen : len ≤ 1000000) (hZ : WeightsAt w xw lw zs) (hlw : lw ≤ 9223372036854775807) :
    Calls Try.prog 27 #[gr N x len cap, .slice xw lw cw] w fun e w' => LngRes (edge ls (nd N)) (nd N) (wt zs) w.heap.size w e w' := by
  have hb := (Below.refl w.heap.size w).alloc (Nat.le_refl _) (.cells #[.int .i64 N, .slice x len cap] 24)
  have hL1 := links_below hL hb (Nat.le_refl _)
  have hZ1 := weights_below hZ hb (Nat.le_refl _)
  clear hL hZ
  go_enter Try.func27, Try.ntmps27
  go_wp2_with fail
  refine (farthest_any N x len cap ls xw lw cw zs _ hL1 hlen hZ1 hlw).mono ?_
  rintro e w1 ⟨hb1, hm⟩
  have hbel := hb.trans (hb1.mono (by simp))
  rcases hT : topo (edge ls (nd N)) (nd N) with _ | l
  · rw [hT] at hm
    subst hm
    have HT := Lib.hid hT
    clear hT
    go_wp2
    go_ret2
    refine ⟨hbel, ?_⟩
    rw [HT.out]
    rfl
  · rw [hT] at hm
    obtain ⟨Bl, Bb, bf, rfl, h1, h2, h3⟩ := hm
    have HT := Lib.hid hT
    have H1 := Lib.hid h1
    clear hT h1 h2 h3
    go_wp2
    go_ret2
    refine ⟨hbel, ?_⟩
    rw [HT.out]
    exact ⟨Bl, rfl, H1.out⟩

set_option maxHeartbeats 4000000 in
set_option maxRecDepth 100000 in
theorem rLongest_any (N : Int) (x : Option Addr) (len cap : Nat) (ls : List (Int × Int)) (xw : Option Addr) (lw cw : Nat) (zs : List Int) (w : World) (hL : LinksAt w x len ls) (hlen : len ≤ 1000000) (hZ : WeightsAt w xw lw zs) (hlw : lw ≤ 9223372036854775807) :
    Calls Try.prog 28 #[gr N x len cap, .slice xw lw cw] w fun e w' => LngRes (edge ls (nd N)) (nd N) (wt zs) w.heap.size w e w' := by
  have hb := (Below.refl w.heap.size w).alloc (Nat.le_refl _) (.cells #[.int .i64 N, .slice x len cap] 24)
  have hL1 := links_below hL hb (Nat.le_refl _)
  have hn := nd_le N
  have htop := fun W h => rTopo_any N x len cap ls W h hlen
  have hmat := fun W h => rMatrix_any N x len cap ls W h hlen
  have hmk := fun W => run_make_row' (P := Try.prog) 31 3 (.int .i64 0) 8 Try.underlying31 infoNum rfl .i64 .i64 (nd N) (by omega) (by omega) W
  have HZ0 := Lib.hid hZ
  clear hL hZ
  generalize hnn : nd N = n at *
  generalize hEE : edge ls n = E at *
  have HTOP := Lib.hid htop
  have HMAT := Lib.hid hmat
  clear htop hmat hnn hEE
  go_enter Try.func28, Try.ntmps28
  go_wp2_with fail
  refine (HTOP.out _ hL1).mono ?_
  rintro e w1 ⟨vo, rfl, hown, hb1⟩
  obtain ⟨c0, c1, s1⟩ := boxed2 hb1
  have hL2 := links_below hL1 hb1 (Nat.le_refl _)
  have hb2 := hb.trans (hb1.mono (by simp))
  have hsz : w.heap.size ≤ w1.heap.size := by omega
  clear hL1 hb1
  rcases hT : topo E n with _ | l
  · have HT := Lib.hid hT
    clear hT hown
    simp only [Option.isSome_none]
    go_wp2
    go_ret2
    refine ⟨hb2, ?_⟩
    rw [HT.out]
    rfl
  · rw [hT] at hown
    simp only [Option.getD_some, Option.isSome_some] at *
    have hto := Lib.hid (topo_tord hT)
    have hll : l.length = n := by have := (topoRun_lt n [] (fun a ha => by simp at ha) l hT).2; simpa using this
    have HT := Lib.hid hT
    have HLL := Lib.hid hll
    have hll2 : l.length ≤ 20000 := by omega
    clear hT hll
    go_wp2_with fail
    refine (HMAT.out _ hL2).mono ?_
    rintro e w2 ⟨v, rfl, ⟨y, c, rfl, hM⟩, hb3⟩
    obtain ⟨xo, co, hvo, hlo⟩ := listAt_own (own_below hown hb3 (Nat.le_refl _))
    subst hvo
    have hb4 := hb2.trans (hb3.mono hsz)
    have hsz2 := Nat.le_trans hsz hb3.size
    have HM := Lib.hid hM
    have HLO := Lib.hid hlo
    have hr0 : Hid (intRow (w2.alloc (.cells (madeCells #[.int .i64 0] n) 3)) w2.heap.size n (lg E n (wt zs) (l.take 0))) := by
      have h : (w2.alloc (.cells (madeCells #[.int .i64 0] n) 3)).rowIs w2.heap.size 3 n (fun _ => .int .i64 0) := World.rowIs_made _ _ _ _
      exact h.congr fun u _ => by simp [lg]
    have hB0 : Below w2.heap.size w2 (w2.alloc (.cells (madeCells #[.int .i64 0] n) 3)) := (Below.refl _ _).alloc (Nat.le_refl _) _
    clear hM hlo hown hL2 c0 c1 s1 hb3 hb2
    go_wp2
    clear hmk
    go_loopw [28] (fun i wr => ∃ k : Nat, k ≤ l.length ∧ i = .int .i64 k ∧ Hid (intRow wr w2.heap.size n (lg E n (wt zs) (l.take k))) ∧ Below w2.heap.size w2 wr) (fun i _ => l.length - (intOf i).toNat)
    case atStart => exact ⟨0, by omega, rfl, hr0, hB0⟩
    case round =>
      clear hr0 hB0
      obtain ⟨k, hk, rfl, hli, hbel⟩ := hrel
      obtain ⟨wp, rfl⟩ : ∃ wp : World, wp = wr := ⟨_, rfl⟩
      by_cases hkl : k < l.length
      · rcases HLO.out with h0 | ⟨g, hx, hg, hcells⟩
        · omega
        · subst hx
          have hck : wp.cell? ⟨g, k, none⟩ = some (.int .i64 (at0 l k : Nat)) := by rw [hbel.cell (by exact hg)]; exact hcells k hkl
          have hvn := (tord_at hto.out hkl).2.1
          have htk := Lib.hid (take_at0 hkl)
          have hk0 : (0 : Int) ≤ (k : Int) := by omega
          have hk1 : (k : Int) < (l.length : Int) := by omega
          clear hcells
          generalize hvv : at0 l k = v at *
          clear hvv
          go_wp2
          clear hck
          go_loop [12, 37] (fun b p' => ∃ p : Nat, p ≤ n ∧ p' = .int .i64 p ∧ b = .int .i64 (bstTo E p (lg E n (wt zs) (l.take k)) v)) (fun _ p' => n - (intOf p').toNat)
          case atStart => exact ⟨0, by omega, rfl, rfl⟩
          case round =>
            obtain ⟨p, hp, rfl, rfl⟩ := hrel
            by_cases hpn : p < n
            · rcases HM.out with h0 | ⟨B, hyB, hB, hrows⟩
              · omega
              · subst hyB
                obtain ⟨g2, gc, h1, hg2, h2⟩ := hrows p hpn
                have d1 : wp.cell? ⟨B, p, none⟩ = some (.slice (some ⟨g2, 0, none⟩) n gc) := by rw [hbel.cell (by exact hB)]; exact h1
                have d2 : wp.cell? ⟨g2, v, none⟩ = some (.bool (E p v)) := by rw [hbel.cell (by exact hg2)]; exact h2 v hvn
                have d3 := hli.out.cell hpn
                have HB := Lib.hid (bstTo_succ E p (lg E n (wt zs) (l.take k)) v)
                clear hrows h1 h2 hli hbel
                generalize hb9 : bstTo E p (lg E n (wt zs) (l.take k)) v = b at *
                generalize hp9 : lg E n (wt zs) (l.take k) p = q at *
                rcases hE : E p v with _ | _
                · rw [hE] at d2
                  have HB2 : Hid (bstTo E (p + 1) (lg E n (wt zs) (l.take k)) v = b) := by show _ = _; rw [HB.out, hE]; rfl
                  clear hE HB hb9 hp9
                  go_wp2
                  go_round
                  case rel => exact ⟨p + 1, by omega, by go_num, by rw [HB2.out]⟩
                  case measure => simp [intOf]; omega
                · rw [hE] at d2
                  have HB2 : Hid (bstTo E (p + 1) (lg E n (wt zs) (l.take k)) v = max b q) := by show _ = _; rw [HB.out, hE]; rfl
                  clear hE HB hb9 hp9
                  go_wp2
                  all_goals
                    go_round
                    case rel => exact ⟨p + 1, by omega, by go_num, int_val (by have := HB2.out; omega)⟩
                    case measure => simp [intOf]; omega
            · obtain rfl : n = p := by omega
              have hcv := hli.out.cell hvn
              have hfv := World.rowIs.frozen hli.out v
              have hlb := lg_bound (E := E) (n := n) (wt_bound zs) (l.take k).length (l.take k) rfl
              have hkl3 : (l.take k).length ≤ 20000 := by simp; omega
              have hbb := bst_bound (E := E) (n := n) (w := v) (c := 1073741824 * ((l.take k).length : Int)) (by omega) (fun p => (hlb p).2)
              have hbe : bstTo E n (lg E n (wt zs) (l.take k)) v = bst E n (lg E n (wt zs) (l.take k)) v := rfl
              rw [hbe]
              have hwb := wt_bound zs v
              have hz := weights_below HZ0.out (hb4.trans (hbel.mono hsz2)) (Nat.le_refl _)
              have HZW := Lib.hid (rWeight_any xw lw cw zs v wp hz hlw (by omega))
              have hset := Lib.hid (fun y (hy : y = bst E n (lg E n (wt zs) (l.take k)) v + wt zs v) => intRow_set (f' := lg E n (wt zs) (l.take (k + 1))) hli.out v y (fun u _ => by rw [htk.out, lg_snoc]; unfold lgStep; rw [hy]))
              have hbel2 := fun y : Int => hbel.setCell (p := ⟨w2.heap.size, v, none⟩) (Nat.le_refl _) (.int .i64 y)
              clear hlb hz hbe
              generalize hbb9 : bst E n (lg E n (wt zs) (l.take k)) v = bb at *
              generalize hww9 : wt zs v = ww at *
              have hb10 : bb ≤ 30000000000000 := by omega
              have hr := Lib.hid (hset.out (bb + ww) rfl)
              have hb11 := hbel2 (bb + ww)
              clear hset hbel2 hbb9 hww9 hli
              go_wp2_with (go_at_call 30; refine (HZW.out).mono ?_; rintro e w' ⟨rfl, rfl⟩)
              go_roundw
              case rel => exact ⟨k + 1, by omega, by go_num, hr, hb11⟩
              case measure => simp [intOf]; omega
      · obtain rfl : l.length = k := by omega
        have hli' := hli.out
        rw [List.take_length] at hli'
        have H1 := Lib.hid hli'
        clear hli hli'
        go_wp2
        go_ret2
        refine ⟨hb4.trans (hbel.mono hsz2), ?_⟩
        rw [HT.out]
        exact ⟨w2.heap.size, rfl, H1.out⟩
end Go.Proofs.Ytfobjonihlfepaa
