/- Package graph's Components: contract. -/
import Derived.Test.YtaiddgndjiaoaaaTarWalk
namespace Go.Proofs.Ytaiddgndjiaoaaa
open Go.RowKit
set_option linter.unusedVariables false

theorem lst_nil (E : Nat → Nat → Bool) (n u : Nat) : lst E n [] [] u = -1 := if_neg (fun h => by simp at h)
/-- What Components hands back. -/
def CompOut (E : Nat → Nat → Bool) (n : Nat) (w : World) (e : Ending) (w' : World) : Prop :=
  ∃ Bl : Nat, e = .returned (.slice (some ⟨Bl, 0, none⟩) n n) ∧ w'.rowIs Bl 3 n (fun u => .int .i64 (compB (wars E n) u : Int)) ∧ Below w.heap.size w w'
/-- The outer loop: the nodes below k are visited, and no component is open. -/
structure TarTop (w0 wr : World) (B b2 po pv pn px pw pl Bn Bl : Nat) (E : Nat → Nat → Bool) (n : Nat) (T : List Nat) (k : Nat) : Prop where
  st : Tar E n T []
  all : ∀ u, u < k → u ∈ T
  mem : TarMem w0 wr B b2 po pv pn px pw pl Bn Bl n (lst E n T []) T []
theorem alloc1 (w : World) (v : Value) (t : TypeId) : (w.alloc (.cells #[v] t)).rowIs w.heap.size t 1 (fun _ => v) :=
  World.rowIs_alloc w #[v] t (fun _ => v) (fun j hj => by
    have : j = 0 := by simp at hj; omega
    subst this; rfl)

set_option maxHeartbeats 4000000 in
set_option maxRecDepth 100000 in
theorem Components_any (N : Int) (x : Option Addr) (len cap : Nat) (ls : List (Int × Int)) (w : World) (hL : LinksAt w x len ls) (hlen : len ≤ 1000000) :
    Calls Try.prog 19 #[gr N x len cap] w fun e w' => CompOut (edge ls (nd N)) (nd N) w e w' := by
  have hb := (Below.refl w.heap.size w).alloc (Nat.le_refl _) (.cells #[.int .i64 N, .slice x len cap] 24)
  have hL1 := links_below hL hb (Nat.le_refl _)
  have hn := nd_le N
  have hE : ∀ a b, edge ls (nd N) a b = true → a < nd N ∧ b < nd N := edge_lt'
  have hnext := fun W h => Next_any N x len cap ls W h hlen
  clear hL
  generalize hnn : nd N = n at *
  generalize hEE : edge ls n = E at *
  have HNX := Lib.hid hnext
  have HE := Lib.hid hE
  clear hnext hnn hEE hE
  go_enter Try.func19, Try.ntmps19
  go_wp2_with fail
  refine (HNX.out _ hL1).mono ?_
  rintro e w1 ⟨v, rfl, hadj, hb1⟩
  obtain ⟨B, rfl, hB, hA⟩ := adjAt_of hadj
  have hs1 := hb1.size
  have hsz : w.heap.size ≤ w1.heap.size := by simp at hs1; omega
  have hb2 := hb.trans (hb1.mono (by simp))
  clear hadj hL1 hb hb1 hs1
  -- the first row
  go_wp2_with fail
  have hW1 : Below w1.heap.size w1 ((w1.alloc (.cells #[.slice (some ⟨B, 0, none⟩) n n] 27)).alloc (.cells #[.int .i64 (-1)] 3)) := ((Below.refl w1.heap.size w1).alloc (Nat.le_refl _) _).alloc (by simp) _
  have hs1 : ((w1.alloc (.cells #[.slice (some ⟨B, 0, none⟩) n n] 27)).alloc (.cells #[.int .i64 (-1)] 3)).heap.size = w1.heap.size + 2 := by simp
  have hcx : ((w1.alloc (.cells #[.slice (some ⟨B, 0, none⟩) n n] 27)).alloc (.cells #[.int .i64 (-1)] 3)).cell? ⟨w1.heap.size, 0, none⟩ = some (.slice (some ⟨B, 0, none⟩) n n) := by go_simp
  refine (repeat_any (w1.heap.size + 1) n (by omega) _ (by simp) (by go_simp)).mono ?_
  rintro e w2 ⟨Bl, rfl, hBl, hrl, hb3⟩
  rw [hs1] at hBl
  have hcx2 := (hb3.cell (p := ⟨w1.heap.size, 0, none⟩) (by rw [hs1]; show w1.heap.size < w1.heap.size + 2; omega)).trans hcx
  have hbW2 := hW1.trans (hb3.mono (by rw [hs1]; omega))
  have hBl2 := hrl.lt
  have hz2 : w1.heap.size + 2 ≤ w2.heap.size := by have := hb3.size; rw [hs1] at this; exact this
  clear hW1 hs1 hcx hb3
  have hW2 : Below w2.heap.size w2 ((w2.alloc (.cells #[.slice (some ⟨Bl, 0, none⟩) n n] 31)).alloc (.cells #[.int .i64 (-1)] 3)) := ((Below.refl w2.heap.size w2).alloc (Nat.le_refl _) _).alloc (by simp) _
  have hs2 : ((w2.alloc (.cells #[.slice (some ⟨Bl, 0, none⟩) n n] 31)).alloc (.cells #[.int .i64 (-1)] 3)).heap.size = w2.heap.size + 2 := by simp
  have hcl : ((w2.alloc (.cells #[.slice (some ⟨Bl, 0, none⟩) n n] 31)).alloc (.cells #[.int .i64 (-1)] 3)).cell? ⟨w2.heap.size, 0, none⟩ = some (.slice (some ⟨Bl, 0, none⟩) n n) := by go_simp
  have hcx3 := (hW2.cell (p := ⟨w1.heap.size, 0, none⟩) (by show w1.heap.size < w2.heap.size; omega)).trans hcx2
  go_wp2_with fail
  refine (repeat_any (w2.heap.size + 1) n (by omega) _ (by simp) (by go_simp)).mono ?_
  rintro e w3 ⟨Bn, rfl, hBn, hrn, hb3⟩
  rw [hs2] at hBn
  have hcx4 := (hb3.cell (p := ⟨w1.heap.size, 0, none⟩) (by rw [hs2]; show w1.heap.size < w2.heap.size + 2; omega)).trans hcx3
  have hcl4 := (hb3.cell (p := ⟨w2.heap.size, 0, none⟩) (by rw [hs2]; show w2.heap.size < w2.heap.size + 2; omega)).trans hcl
  have hbl3 := hW2.trans (hb3.mono (by rw [hs2]; omega))
  have hrl3 := row_below hrl hbl3 hBl2
  have hbW3 := hbW2.trans (hbl3.mono (by omega))
  have hBn2 := hrn.lt
  have hz3 : w2.heap.size + 2 ≤ w3.heap.size := by have := hb3.size; rw [hs2] at this; exact this
  clear hW2 hs2 hcl hcx3 hb3 hbl3 hrl hcx2 hbW2
  have hb4 : Below w3.heap.size w3 ((((w3.alloc (.cells #[.slice (some ⟨Bn, 0, none⟩) n n] 31)).alloc (.cells #[.int .i64 0] 3)).alloc (.cells #[.slice none 0 0] 31)).alloc (.cells #[.func (Fn.func 35) #[] #[.pointer (some ⟨w3.heap.size + 1 + 1, 0, none⟩), .pointer (some ⟨w3.heap.size + 1, 0, none⟩), .pointer (some ⟨w3.heap.size, 0, none⟩), .pointer (some ⟨w1.heap.size, 0, none⟩), .pointer (some ⟨w3.heap.size + 1 + 1 + 1, 0, none⟩), .pointer (some ⟨w2.heap.size, 0, none⟩)]] 52)) := ((((Below.refl w3.heap.size w3).alloc (Nat.le_refl _) _).alloc (by simp) _).alloc (by simp; omega) _).alloc (by simp; omega) _
  have L : TarLay w1.heap.size (w3.heap.size + 4) (w3.heap.size + 1 + 1) (w3.heap.size + 1) w3.heap.size w1.heap.size (w3.heap.size + 1 + 1 + 1) w2.heap.size Bn Bl := by
    constructor <;> omega
  have hTM : TarMem w1 ((((w3.alloc (.cells #[.slice (some ⟨Bn, 0, none⟩) n n] 31)).alloc (.cells #[.int .i64 0] 3)).alloc (.cells #[.slice none 0 0] 31)).alloc (.cells #[.func (Fn.func 35) #[] #[.pointer (some ⟨w3.heap.size + 1 + 1, 0, none⟩), .pointer (some ⟨w3.heap.size + 1, 0, none⟩), .pointer (some ⟨w3.heap.size, 0, none⟩), .pointer (some ⟨w1.heap.size, 0, none⟩), .pointer (some ⟨w3.heap.size + 1 + 1 + 1, 0, none⟩), .pointer (some ⟨w2.heap.size, 0, none⟩)]] 52)) B (w3.heap.size + 4) (w3.heap.size + 1 + 1) (w3.heap.size + 1) w3.heap.size w1.heap.size (w3.heap.size + 1 + 1 + 1) w2.heap.size Bn Bl n (lst E n [] []) [] [] := by
    have h1 : (w3.alloc (.cells #[.slice (some ⟨Bn, 0, none⟩) n n] 31)).heap.size = w3.heap.size + 1 := by simp
    have h2 : ((w3.alloc (.cells #[.slice (some ⟨Bn, 0, none⟩) n n] 31)).alloc (.cells #[.int .i64 0] 3)).heap.size = w3.heap.size + 1 + 1 := by simp
    have k1 := alloc1 w3 (.slice (some ⟨Bn, 0, none⟩) n n) 31
    have k2 := alloc1 (w3.alloc (.cells #[.slice (some ⟨Bn, 0, none⟩) n n] 31)) (.int .i64 0) 3
    have k3 := alloc1 ((w3.alloc (.cells #[.slice (some ⟨Bn, 0, none⟩) n n] 31)).alloc (.cells #[.int .i64 0] 3)) (.slice none 0 0) 31
    rw [h1] at k2
    rw [h2] at k3
    refine ⟨hbW3.trans (hb4.mono (by omega)), by simp, by go_simp, ?_, ?_, by go_simp, ?_, ?_, ?_, .slice none 0 0, k3.alloc _, World.ownsRow_nil _ _ _ _⟩
    · exact (hb4.cell (p := ⟨w2.heap.size, 0, none⟩) (by show w2.heap.size < w3.heap.size; omega)).trans hcl4
    · exact (hb4.cell (p := ⟨w1.heap.size, 0, none⟩) (by show w1.heap.size < w3.heap.size; omega)).trans hcx4
    · exact ((k2.alloc _).alloc _).congr fun u _ => rfl
    · exact (row_below hrn hb4 hBn2).congr fun u _ => rfl
    · exact (row_below hrl3 hb4 (by omega)).congr fun u _ => by rw [lst_nil]
  have hT0 : Hid (TarTop w1 ((((w3.alloc (.cells #[.slice (some ⟨Bn, 0, none⟩) n n] 31)).alloc (.cells #[.int .i64 0] 3)).alloc (.cells #[.slice none 0 0] 31)).alloc (.cells #[.func (Fn.func 35) #[] #[.pointer (some ⟨w3.heap.size + 1 + 1, 0, none⟩), .pointer (some ⟨w3.heap.size + 1, 0, none⟩), .pointer (some ⟨w3.heap.size, 0, none⟩), .pointer (some ⟨w1.heap.size, 0, none⟩), .pointer (some ⟨w3.heap.size + 1 + 1 + 1, 0, none⟩), .pointer (some ⟨w2.heap.size, 0, none⟩)]] 52)) B (w3.heap.size + 4) (w3.heap.size + 1 + 1) (w3.heap.size + 1) w3.heap.size w1.heap.size (w3.heap.size + 1 + 1 + 1) w2.heap.size Bn Bl E n [] 0) := Lib.hid ⟨⟨by simp, by simp, List.Sublist.refl _, by simp⟩, fun u h => by omega, hTM⟩
  have q0 := hTM.cx
  have HW := Lib.hid (walkT_any E n (by omega) HE.out w1 _ _ _ _ _ _ _ _ _ _ L hA)
  have HB2 := Lib.hid hb2
  clear hTM hb4 hrn hrl3 hcx4 hcl4 hbW3 hb2 L
  go_wp2
  generalize ((((w3.alloc (.cells #[.slice (some ⟨Bn, 0, none⟩) n n] 31)).alloc (.cells #[.int .i64 0] 3)).alloc (.cells #[.slice none 0 0] 31)).alloc (.cells #[.func (Fn.func 35) #[] #[.pointer (some ⟨w3.heap.size + 1 + 1, 0, none⟩), .pointer (some ⟨w3.heap.size + 1, 0, none⟩), .pointer (some ⟨w3.heap.size, 0, none⟩), .pointer (some ⟨w1.heap.size, 0, none⟩), .pointer (some ⟨w3.heap.size + 1 + 1 + 1, 0, none⟩), .pointer (some ⟨w2.heap.size, 0, none⟩)]] 52)) = ws at *
  generalize w3.heap.size = z3 at *
  generalize hz22 : w2.heap.size = z2 at *
  generalize hz11 : w1.heap.size = z1 at *
  clear q0 hz22 
  go_loopw [23] (fun i wr => ∃ (k : Nat) (T : List Nat), k ≤ n ∧ i = .int .i64 (k : Int) ∧ Hid (TarTop w1 wr B (z3 + 4) (z3 + 1 + 1) (z3 + 1) z3 z1 (z3 + 1 + 1 + 1) z2 Bn Bl E n T k)) (fun i _ => n - (intOf i).toNat)
  case atStart => exact ⟨0, [], by omega, rfl, hT0⟩
  case round =>
    clear hT0
    obtain ⟨k, T, hk, rfl, hh⟩ := hrel
    have hbel := Lib.hid (HB2.out.trans (hh.out.mem.bel.mono (by rw [hz11]; exact hsz)))
    by_cases hkn : k < n
    · have q1 := hh.out.mem.cn
      have q2 := hh.out.mem.rn.cell hkn
      have q3 := hh.out.mem.cw
      have hk0 : (0 : Int) ≤ (k : Int) := by omega
      have hk1 : (k : Int) < (n : Int) := by omega
      by_cases hT : k ∈ T
      · have e2 : plc T k = (T.idxOf k : Int) := if_pos hT
        rw [e2] at q2
        clear e2
        generalize T.idxOf k = j at *
        have z1' : ((j : Int) == -1) = false := by rw [beq_eq_false_iff_ne]; omega
        have hh2 : Hid (TarTop w1 wr B (z3 + 4) (z3 + 1 + 1) (z3 + 1) z3 z1 (z3 + 1 + 1 + 1) z2 Bn Bl E n T (k + 1)) := by
          refine Lib.hid ⟨hh.out.st, fun u hu => ?_, hh.out.mem⟩
          by_cases e : u = k
          · subst e; exact hT
          · exact hh.out.all u (by omega)
        clear hh hT
        go_wp2
        go_roundw
        case rel => exact ⟨k + 1, T, by omega, by go_num, hh2⟩
        case measure => simp [intOf]; omega
      · have e2 : plc T k = -1 := if_neg hT
        rw [e2] at q2
        have HC := Lib.hid (HW.out (n + 1) T [] k wr (by omega) hkn hT hh.out.st (fun o h => by simp at h) hh.out.mem)
        have HK := Lib.hid hh.out.all
        clear hh e2 hT
        go_wp2_with fail
        refine (HC.out).mono ?_
        rintro e w4 ⟨T2, X, low, rfl, s1, s2⟩
        have hX : X = [] := by
          rcases s1.lowat with ⟨h, _⟩ | ⟨_, _, o, ho, _⟩
          · exact h
          · simp at ho
        subst hX
        have hh2 : Hid (TarTop w1 w4 B (z3 + 4) (z3 + 1 + 1) (z3 + 1) z3 z1 (z3 + 1 + 1 + 1) z2 Bn Bl E n T2 (k + 1)) := by
          refine Lib.hid ⟨s1.st, fun u hu => ?_, s2⟩
          by_cases e : u = k
          · subst e; exact pre_mem s1.grow (by simp)
          · exact pre_mem s1.grow (by simp [HK.out u (by omega)])
        clear s1 s2 HC HK
        go_wp2
        go_roundw
        case rel => exact ⟨k + 1, T2, by omega, by go_num, hh2⟩
        case measure => simp [intOf]; omega
    · obtain rfl : n = k := by omega
      have q1 := hh.out.mem.cl
      have HR : Hid (wr.rowIs Bl 3 n (fun u => .int .i64 (compB (wars E n) u : Int))) := Lib.hid (hh.out.mem.rl.congr fun u hu => by rw [lst_done (hh.out.all u hu) (by simp)])
      clear hh
      go_wp2
      go_ret
      exact ⟨Bl, rfl, HR.out, hbel.out⟩
end Go.Proofs.Ytaiddgndjiaoaaa
