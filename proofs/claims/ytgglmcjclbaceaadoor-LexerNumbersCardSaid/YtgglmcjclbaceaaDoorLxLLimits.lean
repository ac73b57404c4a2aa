/- The law on limits: the walk. -/
import Derived.Test.YtgglmcjclbaceaaDoorLxLim
import Derived.Test.YtgglmcjclbaceaaDoorLxAwake
import Derived.Test.YtgglmcjclbaceaaDoorLxRef3
import Derived.Laws.IdiomStrings
import Derived.Deep.OwnRows
namespace Go.Proofs.YtgglmcjclbaceaaDoor
open Go Go.RowKit
set_option linter.unusedVariables false

theorem infoByte : (Tryd.prog.info? 5).map (fun i => (i.zero, i.size, i.bytes)) = some (some (.int .u8 0), 1, 1) := by kernel_rfl
/-- A row of equal bytes, as a string. -/
theorem conv_row {w : World} {b n : Nat} (x : UInt8) (h : w.rowIs b 5 n (fun _ => .int .u8 (x.toNat : Int))) :
    (Go.convert 38 9 (.slice (some ⟨b, 0, none⟩) n n)).run Tryd.prog w = .ok (.string (str (List.replicate n x))) w := by
  have := run_convert_bytes_back (P := Tryd.prog) w 38 9 5 ⟨b, 0, none⟩ n (List.replicate n x) Tryd.underlying38 Tryd.underlying5 Tryd.underlying9 (fun j hj => by
    rw [Addr.add_lit]
    simpa using h.cell (i := j) (by simpa using hj))
  rw [List.length_replicate] at this
  exact this

/-- The state of the loop that fills. -/
structure FillSt (k : Nat) (w w2 wr : World) (q : Nat) : Prop where
  row : wr.rowIs w2.heap.size 5 k (fun j => .int .u8 (if j < q then 32 else 0))
  bel : Below w.heap.size w wr

set_option maxHeartbeats 2000000 in
set_option maxRecDepth 100000 in
theorem limits_main (l : List UInt8) (hl : l.length ≤ 100) (more : Nat) (hm : more ≤ 255) (w : World) (V : Vs w) : Calls Tryd.prog 10 #[.string (str l), .int .u8 (more : Int)] w fun e w' => e = .returned (.bool true) ∧ Below w.heap.size w w' := by
  have hsz : (str l).size = l.length := str_size l
  have HA := Lib.hid fun W V => awake_any W V
  have HV := Lib.hid V
  obtain ⟨k, hk⟩ : ∃ k, k + l.length = 65536 := ⟨65536 - l.length, by omega⟩
  obtain ⟨m1, hm1⟩ : ∃ m1, m1 = more + 1 := ⟨_, rfl⟩
  have hmc : (more : Int) + 1 = (m1 : Int) := by omega
  have hm1b : m1 ≤ 256 := by omega
  have hm1p : 0 < m1 := by omega
  clear hm1
  have hkc : (65536 : Int) - (l.length : Int) = (k : Int) := by omega
  have hz2 : decide (100 < (l.length : Int)) = false := decide_eq_false (by omega)
  have hmk := fun W => run_make_row' (P := Tryd.prog) 38 5 (.int .u8 0) 1 Tryd.underlying38 infoByte rfl .i64 .i64 k (by omega) (by omega) W
  have hmk2 := fun W => run_make_row' (P := Tryd.prog) 38 5 (.int .u8 0) 1 Tryd.underlying38 infoByte rfl .i64 .i64 m1 (by omega) (by omega) W
  have HMK2 := Lib.hid hmk2
  have HX1 := Lib.hid fun W V => lex_any (l ++ List.replicate k 32) (by simp; omega) W V
  have HX2 := Lib.hid fun W V => lex_any l (by omega) W V
  have HX3 := Lib.hid fun W V => lex_any ((l ++ List.replicate k 32) ++ List.replicate m1 0) (by simp; omega) W V
  have h3 : lexAll ((l ++ List.replicate k 32) ++ List.replicate m1 0) = ([], 65536, 5) := by unfold lexAll; rw [if_pos (by simp; omega)]
  rw [h3] at HX3
  rw [← lexAll_app l k (by omega)] at HX2
  have hcs := lexAll_cases (l ++ List.replicate k 32)
  have hll : (l ++ List.replicate k (32 : UInt8)).length = 65536 := by simp; omega
  rw [hll] at hcs
  generalize lexAll (l ++ List.replicate k 32) = R1 at *
  generalize lexAll l = R2 at *
  obtain ⟨ts1, n1, er⟩ := R1
  obtain ⟨ts2, n2, er2⟩ := R2
  have hen : Hid (er = 0 → n1 = 65536) := fun h => by
    rcases hcs with ⟨_, h2, _⟩ | ⟨h2, _⟩
    · exact h2
    · exact absurd h h2
  have HCAT : Hid (str l ++ str (List.replicate k 32) = str (l ++ List.replicate k 32)) := str_append _ _
  have HCAT2 : Hid (str (l ++ List.replicate k 32) ++ str (List.replicate m1 0) = str ((l ++ List.replicate k 32) ++ List.replicate m1 0)) := str_append _ _
  have hs1 : (str (List.replicate k 32)).size = k := by rw [str_size]; simp
  have hs2 : (str (l ++ List.replicate k 32)).size = 65536 := by rw [str_size]; exact hll
  have hs3 : (str (List.replicate m1 0)).size = m1 := by rw [str_size]; simp
  clear V h3 hcs hll hmk2
  go_enter Tryd.func10, Tryd.ntmps10
  go_wp2_with fail
  refine (HA.out _ HV.out).mono ?_
  rintro e w1 ⟨rfl, hb1⟩
  have hS0 : Hid (FillSt k w w1 (w1.alloc (.cells (madeCells #[.int .u8 0] k) 5)) 0) := ⟨(World.rowIs_made w1 (.int .u8 0) k 5).congr fun u _ => by simp, hb1.alloc hb1.size _⟩
  have hsz1 := hb1.size
  clear hb1 HA
  go_wp2
  clear hmk
  go_loopw [6, 31] (fun i p wr => ∃ q : Nat, p = .int .i64 (q : Int) ∧ q ≤ k ∧ Hid (FillSt k w w1 wr q)) (fun _ p _ => k - (intOf p).toNat)
  case atStart => exact ⟨0, rfl, by omega, hS0⟩
  case round =>
    clear hS0
    obtain ⟨q, rfl, hq, hT⟩ := hrel
    obtain ⟨wo, rfl⟩ : ∃ wo : World, wo = wr := ⟨_, rfl⟩
    by_cases hlt : q < k
    · have c0 := hT.out.row.cell hlt
      have f0 := hT.out.row.frozen q
      have hN : Hid (FillSt k w w1 (wo.setCell ⟨w1.heap.size, q, none⟩ (.int .u8 32)) (q + 1)) := ⟨(hT.out.row.set q (.int .u8 32)).congr fun u _ => by
        by_cases e : u = q
        · subst e; simp
        · rw [if_neg e]
          by_cases h : u < q
          · rw [if_pos h, if_pos (by omega)]
          · rw [if_neg h, if_neg (by omega)], hT.out.bel.setCell (p := ⟨w1.heap.size, q, none⟩) hsz1 _⟩
      clear hT
      go_wp2
      go_roundw
      case rel => exact ⟨q + 1, by go_num, by omega, hN⟩
      case measure => simp [intOf]; omega
    · obtain rfl : q = k := by omega
      have hrow := hT.out.row.congr (g := fun _ => .int .u8 ((32 : UInt8).toNat : Int)) fun u hu => by rw [if_pos hu]; rfl
      have HROW := Lib.hid hrow
      have HB := Lib.hid hT.out.bel
      have hcv := conv_row 32 hrow
      have hcat := HCAT.out
      clear hT hrow hlt hq
      go_wp2_with fail
      refine (HX1.out _ (HV.out.below HB.out)).mono ?_
      rintro e w3 ⟨v1, rfl, hown1, hb3⟩
      have HROW3 := Lib.hid (HROW.out.of_block (hb3.block _ HROW.out.lt))
      have HB3 := Lib.hid (HB.out.trans (hb3.mono HB.out.size))
      clear hown1 hb3 HB HROW hcv HX1
      go_wp2_with fail
      refine (HX2.out _ (HV.out.below HB3.out)).mono ?_
      rintro e w4 ⟨v2, rfl, hown2, hb4⟩
      have HROW4 := Lib.hid (HROW3.out.of_block (hb4.block _ HROW3.out.lt))
      have HB4 := Lib.hid (HB3.out.trans (hb4.mono HB3.out.size))
      clear hown2 hb4 HB3 HROW3 HX2
      have hrow5 := HROW4.out.alloc (.cells (madeCells #[.int .u8 0] m1) 5)
      have hrowe := (World.rowIs_made w4 (.int .u8 0) m1 5).congr (g := fun _ => .int .u8 ((0 : UInt8).toNat : Int)) fun u hu => rfl
      have HB5 := Lib.hid (HB4.out.alloc HB4.out.size (.cells (madeCells #[.int .u8 0] m1) 5))
      have hcv := conv_row 32 hrow5
      have hcv2 := conv_row 0 hrowe
      have hcat2 := HCAT2.out
      have hmk2 := HMK2.out
      clear hrow5 hrowe HROW4 HB4
      generalize str (List.replicate q 32) = S1 at *
      generalize str (l ++ List.replicate q 32) = S2 at *
      generalize str (List.replicate m1 0) = S3 at *
      generalize str (l ++ List.replicate q 32 ++ List.replicate m1 0) = S4 at *
      go_wp2_with fail
      refine (HX3.out _ (HV.out.below HB5.out)).mono ?_
      rintro e w6 ⟨v3, rfl, hown3, hb6⟩
      have HB6 := Lib.hid (HB5.out.trans (hb6.mono HB5.out.size))
      have hv3 : v3 = .slice none 0 0 ∨ ∃ g c, v3 = .slice (some ⟨g, 0, none⟩) 0 c := by
        rcases toks_own (ts := []) hown3 with ⟨_, h⟩ | ⟨g, c, h, _⟩
        · exact .inl h
        · exact .inr ⟨g, c, h⟩
      clear hown3 hb6 HB5 hcv hcv2 hcat hcat2 hmk2
      rcases hv3 with rfl | ⟨g, c, rfl⟩
      all_goals
        by_cases he : er = 0
        · obtain rfl := hen.out he
          subst he
          go_wp2
          go_ret
          exact ⟨by simp, HB6.out⟩
        · have he2 : ¬ ((er : Nat) : Int) = 0 := by omega
          have he3 : ((er : Int) == 0) = false := beq_eq_false_iff_ne.2 he2
          have he4 : ((er : Int) != 0) = true := by simp [he]
          go_wp2
          go_ret
          exact ⟨by simp, HB6.out⟩

set_option maxHeartbeats 1000000 in
set_option maxRecDepth 100000 in
theorem limits_off (l : List UInt8) (hl : l.length ≤ maxLen) (h : 100 < l.length) (more : Int) (w : World) (V : Vs w) : Calls Tryd.prog 10 #[.string (str l), .int .u8 more] w fun e w' => e = .returned (.bool true) ∧ Below w.heap.size w w' := by
  have hsz : (str l).size = l.length := str_size l
  have HA := Lib.hid fun W V => awake_any W V
  have HV := Lib.hid V
  unfold maxLen at hl
  clear V
  go_enter Tryd.func10, Tryd.ntmps10
  go_wp2_with fail
  refine (HA.out _ HV.out).mono ?_
  rintro e w1 ⟨rfl, hb1⟩
  have HV1 := Lib.hid (HV.out.below hb1)
  go_wp2_with fail
  refine (HA.out _ HV1.out).mono ?_
  rintro e w2 ⟨rfl, hb2⟩
  have hbb := hb1.trans (hb2.mono hb1.size)
  clear hb1 hb2
  go_wp2
  go_ret
  exact ⟨rfl, hbb⟩
theorem lexerLimits_walk (s : ByteArray) (hs : s.size ≤ maxLen) (more : Int) (hm : 0 ≤ more ∧ more ≤ 255) (w : World) (V : Vs w) : Calls Tryd.prog 10 #[.string s, .int .u8 more] w fun e w' => e = .returned (.bool true) ∧ Below w.heap.size w w' := by
  obtain ⟨l, rfl⟩ : ∃ l, s = str l := ⟨_, (str_of s).symm⟩
  rw [str_size] at hs
  by_cases h : 100 < l.length
  · exact limits_off l hs h more w V
  · obtain ⟨m, rfl⟩ : ∃ m : Nat, more = (m : Int) := ⟨more.toNat, by omega⟩
    exact limits_main l (by omega) m (by omega) w V
end Go.Proofs.YtgglmcjclbaceaaDoor
