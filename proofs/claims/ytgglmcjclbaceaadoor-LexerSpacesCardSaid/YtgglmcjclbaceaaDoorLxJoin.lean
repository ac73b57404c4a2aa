/- lexer.Join: contract. -/
import Derived.Test.YtgglmcjclbaceaaDoorLxBld
namespace Go.Proofs.YtgglmcjclbaceaaDoor
open Go Go.RowKit
set_option linter.unusedVariables false

theorem bld_alloc {T e : TypeId} {B b : Nat} {bs : List Value} {w : World} (h : Lib.IsBuilder T e B b bs w) (o : Obj) : Lib.IsBuilder T e B b bs (w.alloc o) := by
  have k : ∀ {p}, Lib.BuilderAt T e B b p bs w → Lib.BuilderAt T e B b p bs (w.alloc o) := fun {p} h => by
    obtain ⟨hB, v, hb, hown, hne⟩ := h
    exact ⟨hB, v, by rw [Lib.alloc_old w o b (Array.getElem?_eq_some_iff.1 hb).1]; exact hb, hown.alloc o, hne⟩
  exact h.imp k k
theorem byteCells_app (a b : List UInt8) : Lib.byteCells (a ++ b) = Lib.byteCells a ++ Lib.byteCells b := by simp [Lib.byteCells]
/-- The state of the loop. -/
structure JnSt (F : Nat → List UInt8) (w wr : World) (k : Nat) : Prop where
  bld : Lib.IsBuilder 57 5 w.heap.size w.heap.size (Lib.byteCells (F k)) wr
  bel : Below w.heap.size w wr

set_option maxHeartbeats 2000000 in
set_option maxRecDepth 100000 in
theorem join_any (ts : List Tok) (v : Value) (w : World) (h1 : TkV w v ts) (hn : ts.length ≤ 2000) (ht : tsum ts ≤ 2000) :
    Calls Tryd.prog 14 #[v] w fun e w' => e = .returned (.string (str (J ts ts.length))) ∧ Below w.heap.size w w' := by
  have HJ := Lib.hid fun k (h : k < ts.length) => J_succ h
  have HB := Lib.hid fun k (h : k ≤ ts.length) => (by have := J_len k h; omega : (J ts k).length ≤ 4000)
  have h0 : Hid (J ts 0 = []) := J_zero ts
  have HBY := Lib.hid fun B b bs W h hl hB => bldByte_any B b bs 32 W h hl hB
  have HST := Lib.hid fun B b bs s W h hl hB => bldString_any B b bs s W h hl hB
  have HEND := Lib.hid fun B b l W h hB => Tryd.Builder_String_any B b l W h hB
  have hS0 : Hid (JnSt (J ts) w (w.alloc (.cells #[.pointer none, .slice none 0 0] 57)) 0) := ⟨by rw [h0.out]; exact Lib.fresh_isBuilder 57 5 w, (Below.refl _ _).alloc (Nat.le_refl _) _⟩
  generalize hF : J ts = F at *
  have HV := Lib.hid h1
  clear hF ht h0
  obtain ⟨x, c, rfl⟩ : ∃ x c, v = .slice x ts.length c := by
    rcases h1 with ⟨rfl, rfl⟩ | ⟨g, c, rfl, _⟩
    · exact ⟨none, 0, rfl⟩
    · exact ⟨_, _, rfl⟩
  clear h1
  go_enter Tryd.func14, Tryd.ntmps14
  go_wp2
  go_loopw [4, 5, 8] (fun i t p wr => ∃ k : Nat, p = .int .i64 (k : Int) ∧ k ≤ ts.length ∧ Hid (JnSt F w wr k)) (fun _ _ p _ => ts.length - (intOf p).toNat)
  case atStart => exact ⟨0, rfl, by omega, hS0⟩
  case round =>
    clear hS0
    obtain ⟨k, rfl, hk, hT⟩ := hrel
    obtain ⟨wo, rfl⟩ : ∃ wo : World, wo = wr := ⟨_, rfl⟩
    by_cases hlt : k < ts.length
    · rcases HV.out with ⟨e0, _⟩ | ⟨g, c', hgv, hTk⟩
      · rw [e0] at hlt; simp at hlt
      · obtain ⟨rfl, rfl⟩ : x = some ⟨g, 0, none⟩ ∧ c = c' := by injection hgv with q1 q2 q3; exact ⟨q1, q3⟩
        have hTo := hTk.below hT.out.bel hTk.1
        obtain ⟨c0, c1, c2, c3, c4⟩ := hTo.2 k hlt
        have hst := HJ.out k hlt
        have hbd := HB.out (k + 1) (by omega)
        have hbk := HB.out k hk
        have hB := hT.out.bel
        have hwz := hB.size
        have hsz : (str (tat ts k).text).size ≤ 4000 := by
          rw [str_size]
          rw [hst] at hbd
          simp only [List.length_append] at hbd
          omega
        have hsc : Lib.strCells (str (tat ts k).text) = Lib.byteCells (tat ts k).text := rfl
        obtain ⟨tx, htx⟩ : ∃ tx, tx = (tat ts k).text := ⟨_, rfl⟩
        rw [← htx] at hst hsc hsz c1
        clear htx
        generalize (tat ts k).pos = a at *
        generalize (tat ts k).line = nl at *
        generalize (tat ts k).kind = K at *
        generalize (tat ts k).num = N at *
        have hlb : (Lib.byteCells (F k)).length = (F k).length := by simp [Lib.byteCells]
        generalize hTT : str tx = T at *
        obtain ⟨wa, hwa⟩ : ∃ wa, wa = wo.alloc (.cells #[.int .i64 (K : Int), .string T, .int .u64 (N : Int), .int .i64 (a : Int), .int .i64 (nl : Int)] 29) := ⟨_, rfl⟩
        have hblk : Blk wa wo.heap.size 29 [.int .i64 (K : Int), .string T, .int .u64 (N : Int), .int .i64 (a : Int), .int .i64 (nl : Int)] := by rw [hwa]; exact Blk.alloc wo 29 [.int .i64 (K : Int), .string T, .int .u64 (N : Int), .int .i64 (a : Int), .int .i64 (nl : Int)]
        have hba : Below w.heap.size w wa := by rw [hwa]; exact hB.alloc hwz _
        have hIs : Lib.IsBuilder 57 5 w.heap.size w.heap.size (Lib.byteCells (F k)) wa := by rw [hwa]; exact bld_alloc hT.out.bld _
        have hgt : w.heap.size < wo.heap.size := by
          rcases hT.out.bld with h | h
          · exact h.lt
          · exact h.lt
        by_cases hk0 : k = 0
        · have hkz : ¬ (0 : Int) < (k : Int) := by omega
          have e1 := hblk.cell 1
          have HC := Lib.hid (HST.out _ _ _ T wa hIs (by omega) hba.size)
          have HN : Hid (∀ w', Lib.BuilderAt 57 5 w.heap.size w.heap.size (.pointer (some ⟨w.heap.size, 0, none⟩)) (Lib.byteCells (F k) ++ Lib.strCells T) w' → Below w.heap.size wa w' → JnSt F w w' (k + 1)) := fun w' q1 q2 => ⟨.inr (by
            have : Lib.byteCells (F (k + 1)) = Lib.byteCells (F k) ++ Lib.strCells T := by rw [hst, if_pos hk0, List.nil_append, byteCells_app, hsc]
            rw [this]; exact q1), hba.trans q2⟩
          have hwaE := Lib.hid hwa
          rw [hwa] at HC e1
          clear hst hbd hsc hTk hTo hT hgv hIs hblk hba hk0 hTT hwa HBY HST HV HJ HB
          go_wp2_with fail
          refine HC.out.mono ?_
          rintro e w2 ⟨rfl, hat, hb2⟩
          have hN := Lib.hid (HN.out w2 hat (by rw [hwaE.out]; exact hb2))
          clear hat hb2 HN HC hwaE e1 c0 c1 c2 c3 c4
          go_wp2
          go_roundw
          case rel => exact ⟨k + 1, by go_num, by omega, hN⟩
          case measure => simp [intOf]; omega
        · have hkz : (0 : Int) < (k : Int) := by omega
          have HC1 := Lib.hid (HBY.out _ _ _ wa hIs (by omega) hba.size)
          have HC2 := Lib.hid fun w1 (h : Lib.BuilderAt 57 5 w.heap.size w.heap.size (.pointer (some ⟨w.heap.size, 0, none⟩)) (Lib.byteCells (F k) ++ [.int .u8 32]) w1) (hs : w.heap.size ≤ w1.heap.size) => HST.out _ _ _ T w1 (.inr h) (by rw [List.length_append, hlb]; simp; omega) hs
          have HN : Hid (∀ w1 w', Below w.heap.size wa w1 → Lib.BuilderAt 57 5 w.heap.size w.heap.size (.pointer (some ⟨w.heap.size, 0, none⟩)) (Lib.byteCells (F k) ++ [.int .u8 32] ++ Lib.strCells T) w' → Below w.heap.size w1 w' → JnSt F w w' (k + 1)) := fun w1 w' q0 q1 q2 => ⟨.inr (by
            have : Lib.byteCells (F (k + 1)) = Lib.byteCells (F k) ++ [.int .u8 32] ++ Lib.strCells T := by rw [hst, if_neg hk0, byteCells_app, byteCells_app, hsc, List.append_assoc]; rfl
            rw [this]; exact q1), (hba.trans q0).trans q2⟩
          have HK := Lib.hid hblk
          have hwaE := Lib.hid hwa
          have hsa := hba.size
          rw [hwa] at HC1
          clear hst hbd hsc hTk hTo hT hgv hIs hblk hba hk0 hTT hwa HBY HST HV HJ HB
          go_wp2_with fail
          refine HC1.out.mono ?_
          rintro e w1 ⟨rfl, hat1, hb1, hfr1⟩
          rw [← hwaE.out] at hb1 hfr1
          have e1 : w1.cell? ⟨wo.heap.size, 1, none⟩ = some (.string T) := by
            have h3 : w1.heap[wo.heap.size]? = wa.heap[wo.heap.size]? := hfr1 _ _ _ _ (by omega) (by decide) HK.out
            have h4 : Blk w1 wo.heap.size 29 [.int .i64 (K : Int), .string T, .int .u64 (N : Int), .int .i64 (a : Int), .int .i64 (nl : Int)] := h3.trans HK.out
            exact h4.cell 1
          have HC3 := Lib.hid (HC2.out w1 hat1 (Nat.le_trans hsa hb1.size))
          have HB1 := Lib.hid hb1
          clear hat1 hfr1 HC2 HC1 HK hwaE hb1 c0 c1 c2 c3 c4
          go_wp2_with fail
          refine HC3.out.mono ?_
          rintro e w2 ⟨rfl, hat, hb2⟩
          have hN := Lib.hid (HN.out w1 w2 HB1.out hat hb2)
          clear hat hb2 HN HC3 HB1 e1
          go_wp2
          go_roundw
          case rel => exact ⟨k + 1, by go_num, by omega, hN⟩
          case measure => simp [intOf]; omega
    · obtain rfl : k = ts.length := by omega
      have HC := Lib.hid (HEND.out _ _ _ wo hT.out.bld hT.out.bel.size)
      have HBL := Lib.hid hT.out.bel
      clear hT HBY HST HV HJ HB HEND
      go_wp2_with fail
      refine HC.out.mono ?_
      rintro e w2 ⟨rfl, hb2⟩
      have hbb := HBL.out.trans hb2
      clear hb2 HC HBL
      go_wp2
      go_ret
      exact ⟨rfl, hbb⟩
end Go.Proofs.YtgglmcjclbaceaaDoor
