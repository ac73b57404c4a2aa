/- Package graph's Cycle: contract. -/
import Derived.Test.YtfobjonihlfepaaCycWalk
namespace Go.Proofs.Ytfobjonihlfepaa
open Go.RowKit
set_option linter.unusedVariables false

/-- What Cycle hands back. -/
def CycOut (E : Nat → Nat → Bool) (n : Nat) (w : World) (e : Ending) (w' : World) : Prop :=
  ((e = .returned (.slice none 0 0) ∧ (topo E n).isSome = true) ∨
  (∃ (C : List Nat) (g j c : Nat), e = .returned (.slice (some ⟨g, j, none⟩) C.length c) ∧ IsCyc E n C ∧ g < w'.heap.size ∧ (∀ k, k < C.length → w'.cell? ⟨g, j + k, none⟩ = some (.int .i64 (at0 C k : Nat))))) ∧ Below w.heap.size w w'

set_option maxHeartbeats 4000000 in
set_option maxRecDepth 100000 in
theorem Cycle_any (N : Int) (x : Option Addr) (len cap : Nat) (ls : List (Int × Int)) (w : World) (hL : LinksAt w x len ls) (hlen : len ≤ 1000000) :
    Calls Try.prog 19 #[gr N x len cap] w fun e w' => CycOut (edge ls (nd N)) (nd N) w e w' := by
  have hb := (Below.refl w.heap.size w).alloc (Nat.le_refl _) (.cells #[.int .i64 N, .slice x len cap] 24)
  have hL1 := links_below hL hb (Nat.le_refl _)
  have hn := nd_le N
  have hnext := fun W h => Next_any N x len cap ls W h hlen
  have hmk := fun W => run_make_row' (P := Try.prog) 39 4 (.bool false) 1 Try.underlying39 infoBool2 rfl .i64 .i64 (nd N) (by omega) (by omega) W
  clear hL
  generalize hnn : nd N = n at *
  generalize hEE : edge ls n = E at *
  have HNX := Lib.hid hnext
  clear hnext hnn hEE
  have hnil1 : ∀ W : World, (binOp .neq 31 (.slice none 0 0) (.slice none 0 0)).run Try.prog W = .ok (.bool false) W := fun W => run_neq_slice_nil (P := Try.prog) W 31 3 none 0 0 Try.underlying31
  have hnil2 : ∀ (W : World) (a : Addr) (l c : Nat), (binOp .neq 31 (.slice (some a) l c) (.slice none 0 0)).run Try.prog W = .ok (.bool true) W := fun W a l c => run_neq_slice_nil (P := Try.prog) W 31 3 (some a) l c Try.underlying31
  go_enter Try.func19, Try.ntmps19
  go_wp2_with fail
  refine (HNX.out _ hL1).mono ?_
  rintro e w1 ⟨v, rfl, hadj, hb1⟩
  obtain ⟨B, rfl, hB, hA⟩ := adjAt_of hadj
  have hs1 := hb1.size
  have hsz : w.heap.size ≤ w1.heap.size := by simp at hs1; omega
  have hb2 := hb.trans (hb1.mono (by simp))
  clear hadj hL1 hb hb1 hs1
  go_wp2_with fail
  have hWA : Below w1.heap.size w1 ((((w1.alloc (.cells #[.slice (some ⟨B, 0, none⟩) n n] 27)).alloc (.cells (madeCells #[.bool false] n) 4)).alloc (.cells #[.slice (some ⟨w1.heap.size + 1, 0, none⟩) n n] 39)).alloc (.cells #[.int .i64 (-1)] 3)) :=
    ((((Below.refl w1.heap.size w1).alloc (Nat.le_refl _) _).alloc (by simp) _).alloc (by simp; omega) _).alloc (by simp; omega) _
  have hrow : ((((w1.alloc (.cells #[.slice (some ⟨B, 0, none⟩) n n] 27)).alloc (.cells (madeCells #[.bool false] n) 4)).alloc (.cells #[.slice (some ⟨w1.heap.size + 1, 0, none⟩) n n] 39)).alloc (.cells #[.int .i64 (-1)] 3)).rowIs (w1.heap.size + 1) 4 n (fun _ => .bool false) := by
    have h1 : (w1.alloc (.cells #[.slice (some ⟨B, 0, none⟩) n n] 27)).heap.size = w1.heap.size + 1 := by simp
    have := World.rowIs_made (w1.alloc (.cells #[.slice (some ⟨B, 0, none⟩) n n] 27)) (.bool false) n 4
    rw [h1] at this
    exact (this.alloc _).alloc _
  have hcn : ((((w1.alloc (.cells #[.slice (some ⟨B, 0, none⟩) n n] 27)).alloc (.cells (madeCells #[.bool false] n) 4)).alloc (.cells #[.slice (some ⟨w1.heap.size + 1, 0, none⟩) n n] 39)).alloc (.cells #[.int .i64 (-1)] 3)).cell? ⟨w1.heap.size, 0, none⟩ = some (.slice (some ⟨B, 0, none⟩) n n) := by go_simp
  have hcs : ((((w1.alloc (.cells #[.slice (some ⟨B, 0, none⟩) n n] 27)).alloc (.cells (madeCells #[.bool false] n) 4)).alloc (.cells #[.slice (some ⟨w1.heap.size + 1, 0, none⟩) n n] 39)).alloc (.cells #[.int .i64 (-1)] 3)).cell? ⟨w1.heap.size + 1 + 1, 0, none⟩ = some (.slice (some ⟨w1.heap.size + 1, 0, none⟩) n n) := by go_simp
  have hWs : ((((w1.alloc (.cells #[.slice (some ⟨B, 0, none⟩) n n] 27)).alloc (.cells (madeCells #[.bool false] n) 4)).alloc (.cells #[.slice (some ⟨w1.heap.size + 1, 0, none⟩) n n] 39)).alloc (.cells #[.int .i64 (-1)] 3)).heap.size = w1.heap.size + 4 := by simp
  refine (repeat_any (w1.heap.size + 1 + 1 + 1) n (by omega) _ (by simp) (by go_simp)).mono ?_
  rintro e w2 ⟨Br, rfl, hBr, hrr, hb3⟩
  rw [hWs] at hBr
  have hrw := row_below hrow hb3 (by rw [hWs]; omega)
  have hcn2 := (hb3.cell (p := ⟨w1.heap.size, 0, none⟩) (by rw [hWs]; show w1.heap.size < w1.heap.size + 4; omega)).trans hcn
  have hcs2 := (hb3.cell (p := ⟨w1.heap.size + 1 + 1, 0, none⟩) (by rw [hWs]; show w1.heap.size + 1 + 1 < w1.heap.size + 4; omega)).trans hcs
  have hbW := hWA.trans (hb3.mono (by rw [hWs]; omega))
  have hBr2 := hrr.lt
  clear hWA hrow hcn hcs hWs hb3
  have hb4 : Below w2.heap.size w2 (((w2.alloc (.cells #[.slice (some ⟨Br, 0, none⟩) n n] 31)).alloc (.cells #[.slice none 0 0] 31)).alloc (.cells #[.func (Fn.func 39) #[] #[.pointer (some ⟨w1.heap.size + 1 + 1, 0, none⟩), .pointer (some ⟨w2.heap.size + 1, 0, none⟩), .pointer (some ⟨w2.heap.size, 0, none⟩), .pointer (some ⟨w1.heap.size, 0, none⟩), .pointer (some ⟨w2.heap.size + 1 + 1, 0, none⟩)]] 56)) :=
    (((Below.refl w2.heap.size w2).alloc (Nat.le_refl _) _).alloc (by simp) _).alloc (by simp; omega) _
  have L : CycLay w1.heap.size (w2.heap.size + 3) (w1.heap.size + 1 + 1) (w2.heap.size + 1) w2.heap.size w1.heap.size (w2.heap.size + 1 + 1) (w1.heap.size + 1) Br := by
    constructor <;> omega
  have hCA : CycAt w1 (((w2.alloc (.cells #[.slice (some ⟨Br, 0, none⟩) n n] 31)).alloc (.cells #[.slice none 0 0] 31)).alloc (.cells #[.func (Fn.func 39) #[] #[.pointer (some ⟨w1.heap.size + 1 + 1, 0, none⟩), .pointer (some ⟨w2.heap.size + 1, 0, none⟩), .pointer (some ⟨w2.heap.size, 0, none⟩), .pointer (some ⟨w1.heap.size, 0, none⟩), .pointer (some ⟨w2.heap.size + 1 + 1, 0, none⟩)]] 56)) B (w2.heap.size + 3) (w1.heap.size + 1 + 1) (w2.heap.size + 1) w2.heap.size w1.heap.size (w2.heap.size + 1 + 1) (w1.heap.size + 1) Br n [] [] := by
    refine ⟨hbW.trans (hb4.mono (by omega)), by simp, ?_, by go_simp, ?_, by go_simp, ?_, ?_, .slice none 0 0, ?_, World.ownsRow_nil _ _ _ _⟩
    · exact (hb4.cell (p := ⟨w1.heap.size + 1 + 1, 0, none⟩) (by show w1.heap.size + 1 + 1 < w2.heap.size; omega)).trans hcs2
    · exact (hb4.cell (p := ⟨w1.heap.size, 0, none⟩) (by show w1.heap.size < w2.heap.size; omega)).trans hcn2
    · exact (row_below hrw hb4 (by omega)).congr fun u _ => rfl
    · exact (row_below hrr hb4 hBr2).congr fun u _ => rfl
    · have h1 : (w2.alloc (.cells #[.slice (some ⟨Br, 0, none⟩) n n] 31)).heap.size = w2.heap.size + 1 := by simp
      have h2 := World.rowIs_alloc (w2.alloc (.cells #[.slice (some ⟨Br, 0, none⟩) n n] 31)) #[.slice none 0 0] 31 (fun _ => .slice none 0 0) (fun j hj => by
        have : j = 0 := by simp at hj; omega
        subst this; rfl)
      rw [h1] at h2
      exact h2.alloc _
  have hS0 : Hid (Srch E n [] [] ∧ (∀ u, u < 0 → u ∈ ([] : List Nat)) ∧ CycAt w1 (((w2.alloc (.cells #[.slice (some ⟨Br, 0, none⟩) n n] 31)).alloc (.cells #[.slice none 0 0] 31)).alloc (.cells #[.func (Fn.func 39) #[] #[.pointer (some ⟨w1.heap.size + 1 + 1, 0, none⟩), .pointer (some ⟨w2.heap.size + 1, 0, none⟩), .pointer (some ⟨w2.heap.size, 0, none⟩), .pointer (some ⟨w1.heap.size, 0, none⟩), .pointer (some ⟨w2.heap.size + 1 + 1, 0, none⟩)]] 56)) B (w2.heap.size + 3) (w1.heap.size + 1 + 1) (w2.heap.size + 1) w2.heap.size w1.heap.size (w2.heap.size + 1 + 1) (w1.heap.size + 1) Br n [] []) :=
    Lib.hid ⟨⟨by simp, by simp, by simp, fun i h => by simp at h, .nil⟩, fun u h => by omega, hCA⟩
  have q0 := hCA.cn
  have HW := Lib.hid (walkC_any E n (by omega) w1 B _ _ _ _ _ _ _ _ L hA)
  have HB2 := Lib.hid hb2
  clear hCA hb4 hrr hrw hcn2 hcs2 hbW hb2
  go_wp2
  generalize (((w2.alloc (.cells #[.slice (some ⟨Br, 0, none⟩) n n] 31)).alloc (.cells #[.slice none 0 0] 31)).alloc (.cells #[.func (Fn.func 39) #[] #[.pointer (some ⟨w1.heap.size + 1 + 1, 0, none⟩), .pointer (some ⟨w2.heap.size + 1, 0, none⟩), .pointer (some ⟨w2.heap.size, 0, none⟩), .pointer (some ⟨w1.heap.size, 0, none⟩), .pointer (some ⟨w2.heap.size + 1 + 1, 0, none⟩)]] 56)) = ws at *
  generalize w2.heap.size = z2 at *
  clear q0
  go_loopw [22] (fun i wr => ∃ (k : Nat) (F : List Nat), k ≤ n ∧ i = .int .i64 k ∧ Hid (Srch E n [] F ∧ (∀ u, u < k → u ∈ F) ∧ CycAt w1 wr B (z2 + 3) (w1.heap.size + 1 + 1) (z2 + 1) z2 w1.heap.size (z2 + 1 + 1) (w1.heap.size + 1) Br n [] F)) (fun i _ => n - (intOf i).toNat)
  case atStart => exact ⟨0, [], by omega, rfl, hS0⟩
  case round =>
    obtain ⟨k, F, hk, rfl, hh⟩ := hrel
    have hbel := Lib.hid (HB2.out.trans (hh.out.2.2.bel.mono hsz))
    by_cases hkn : k < n
    · have q1 := hh.out.2.2.cs
      have q2 := hh.out.2.2.rs.cell hkn
      have q3 := hh.out.2.2.cw
      have hk0 : (0 : Int) ≤ (k : Int) := by omega
      have hk1 : (k : Int) < (n : Int) := by omega
      by_cases hF : k ∈ F
      · have e3 : seenB [] F k = true := by simp [seenB, hF]
        rw [e3] at q2
        have hh2 : Hid (Srch E n [] F ∧ (∀ u, u < k + 1 → u ∈ F) ∧ CycAt w1 wr B (z2 + 3) (w1.heap.size + 1 + 1) (z2 + 1) z2 w1.heap.size (z2 + 1 + 1) (w1.heap.size + 1) Br n [] F) := by
          refine Lib.hid ⟨hh.out.1, fun u hu => ?_, hh.out.2.2⟩
          by_cases e : u = k
          · subst e; exact hF
          · exact hh.out.2.1 u (by omega)
        clear hh e3
        go_wp2
        go_roundw
        case rel => exact ⟨k + 1, F, by omega, by go_num, hh2⟩
        case measure => simp [intOf]; omega
      · have e3 : seenB [] F k = false := by simp [seenB, hF]
        rw [e3] at q2
        have HC := Lib.hid (HW.out (unmarked (seenB [] F) n + 1) [] F k wr (by omega) hkn (by simp) hF hh.out.1 (fun h => by simp at h) hh.out.2.2)
        have HK := Lib.hid hh.out.2.1
        clear hh e3 hF
        go_wp2_with fail
        refine (HC.out).mono ?_
        rintro e w4 (⟨rfl, F2, s1, s2, s3, s4⟩ | ⟨C, g2, j, c2, rfl, s1, s2, s3, s4⟩)
        · have hh2 : Hid (Srch E n [] F2 ∧ (∀ u, u < k + 1 → u ∈ F2) ∧ CycAt w1 w4 B (z2 + 3) (w1.heap.size + 1 + 1) (z2 + 1) z2 w1.heap.size (z2 + 1 + 1) (w1.heap.size + 1) Br n [] F2) := by
            refine Lib.hid ⟨s1, fun u hu => ?_, s4⟩
            by_cases e : u = k
            · subst e; exact s2
            · exact s3 u (HK.out u (by omega))
          clear s1 s2 s3 s4 HC HK
          go_wp2
          go_roundw
          case rel => exact ⟨k + 1, F2, by omega, by go_num, hh2⟩
          case measure => simp [intOf]; omega
        · have HR := Lib.hid (And.intro s1 (And.intro s2 (And.intro s3 (HB2.out.trans (s4.mono hsz)))))
          clear s1 s2 s3 s4 HC HK
          go_wp2
          go_ret
          exact ⟨.inr ⟨C, g2, j, c2, rfl, HR.out.1, HR.out.2.1, HR.out.2.2.1⟩, HR.out.2.2.2⟩
    · obtain rfl : n = k := by omega
      have HT := Lib.hid (topo_some hh.out.1.fin hh.out.2.1)
      clear hh
      go_wp2
      go_ret
      exact ⟨.inl ⟨rfl, HT.out⟩, hbel.out⟩
end Go.Proofs.Ytfobjonihlfepaa
