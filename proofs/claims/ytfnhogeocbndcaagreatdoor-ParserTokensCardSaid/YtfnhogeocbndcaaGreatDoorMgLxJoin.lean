/- strings.Builder in this seat: copyCheck, WriteByte, WriteString. -/
import Derived.Test.YtfnhogeocbndcaaGreatDoorMgLxJn1
import Derived.Test.YtfnhogeocbndcaaGreatDoorShelf
namespace Go.Proofs.YtfnhogeocbndcaaGreatDoor
open Go Go.RowKit
set_option linter.unusedVariables false

theorem bldSize : (Tryz.prog.info? 65).map (·.size) = some 2 := by kernel_rfl
theorem bldLies : liesAt Tryz.prog Tryz.prog.depth 65 (2 / Tryz.prog.cellsOf 65) 0 65 1 = true := by kernel_rfl
theorem infoByteB : (Tryz.prog.info? 5).map (fun i => (i.zero, i.size, i.bytes)) = some (some (.int .u8 0), 1, 1) := by kernel_rfl

set_option maxHeartbeats 1000000 in
set_option maxRecDepth 100000 in
theorem bldCheck_used (b : Nat) (w : World) (h0 : w.cell? ⟨b, 0, none⟩ = some (.pointer (some ⟨b, 0, none⟩))) :
    Calls Tryz.prog 89 #[.pointer (some ⟨b, 0, none⟩)] w fun e w' => e = .returned (.tuple #[]) ∧ w' = w := by
  obtain ⟨j, hj, _⟩ := Option.map_eq_some_iff.1 bldSize
  go_enter Tryz.func89, Tryz.ntmps89
  go_wp2
  rw [Lib.run_neq_ptr_same w _ Tryz.underlying62 hj]
  go_wp2
  go_end0
  exact ⟨rfl, rfl⟩
set_option maxHeartbeats 1000000 in
set_option maxRecDepth 100000 in
theorem bldCheck_fresh (b : Nat) (w : World) (h0 : w.cell? ⟨b, 0, none⟩ = some (.pointer none)) (hsh : w.shape? b = some (65, 2)) (hfz : w.frozen? ⟨b, 0, none⟩ = false) :
    Calls Tryz.prog 89 #[.pointer (some ⟨b, 0, none⟩)] w fun e w' => e = .returned (.tuple #[]) ∧ w' = w.setCell ⟨b, 0, none⟩ (.pointer (some ⟨b, 0, none⟩)) := by
  obtain ⟨j, hj, hjs⟩ := Option.map_eq_some_iff.1 bldSize
  go_enter Tryz.func89, Tryz.ntmps89
  go_wp2
  rw [Lib.run_to_unsafe w ⟨b, 0, none⟩ Tryz.underlying62 Tryz.underlying118 hj (by rw [hjs]; decide) hsh (Nat.zero_lt_succ 1)]
  simp only [Result.andThen]
  rw [Oper.upon_value]
  go_wp2
  rw [run_callFunc_extern Tryz.func127 (by kernel_rfl) (by kernel_rfl) (by kernel_rfl) (e := Extern.AbiNoEscape.same) (by kernel_rfl)]
  rw [Lib.run_noEscape]
  simp only [Result.andThen]
  rw [Oper.upon_value]
  go_wp2
  rw [Lib.run_from_unsafe w ⟨b, 0, none⟩ Tryz.underlying118 Tryz.underlying62 hj hsh bldLies]
  simp only [Result.andThen]
  rw [Oper.upon_value]
  go_wp2
  go_end0
  exact ⟨rfl, rfl⟩
theorem bldCheck_any (B b : Nat) (bs : List Value) (w : World) (h : Lib.IsBuilder 65 5 B b bs w) :
    Calls Tryz.prog 89 #[.pointer (some ⟨b, 0, none⟩)] w fun e w' => e = .returned (.tuple #[]) ∧ Lib.BuilderAt 65 5 B b (.pointer (some ⟨b, 0, none⟩)) bs w' ∧ Below B w w' ∧ ∀ q, q ≠ b → w'.heap[q]? = w.heap[q]? := by
  rcases h with h | h
  · refine (bldCheck_fresh b w h.cell0 h.shape h.frozen0).mono ?_
    rintro e w' ⟨rfl, rfl⟩
    exact ⟨rfl, h.used _, (Below.refl B w).setCell (p := ⟨b, 0, none⟩) h.1 _, fun q hq => heap_setCell_other w ⟨b, 0, none⟩ q _ hq⟩
  · refine (bldCheck_used b w h.cell0).mono ?_
    rintro e w' ⟨rfl, rfl⟩
    exact ⟨rfl, h, Below.refl B _, fun _ _ => rfl⟩

set_option maxHeartbeats 2000000 in
set_option maxRecDepth 100000 in
theorem bldByte_any (B b : Nat) (bs : List Value) (c : Int) (w : World) (h : Lib.IsBuilder 65 5 B b bs w) (hlen : bs.length + 1 ≤ 100000) (hBw : B ≤ w.heap.size) :
    Calls Tryz.prog 46 #[.pointer (some ⟨b, 0, none⟩), .int .u8 c] w fun e w' => e = .returned .nilIface ∧ Lib.BuilderAt 65 5 B b (.pointer (some ⟨b, 0, none⟩)) (bs ++ [.int .u8 c]) w' ∧ Below B w w' ∧ ∀ q cs t fr, q ≠ b → t ≠ 5 → w.heap[q]? = some (.cells cs t fr) → w'.heap[q]? = w.heap[q]? := by
  obtain ⟨i0, hi, hz0, hz1, hz2⟩ := info_parts infoByteB
  have HC := Lib.hid (bldCheck_any B b bs w h)
  clear h
  go_enter Tryz.func46, Tryz.ntmps46
  go_wp2_with fail
  refine HC.out.mono ?_
  rintro e w1 ⟨rfl, ⟨hB, v, hbk, hown, hne⟩, hb1, hk1⟩
  have c0 : w1.cell? ⟨b, 0, none⟩ = some (.pointer (some ⟨b, 0, none⟩)) := by rw [Lib.cell_of_heap hbk]; rfl
  have c1 : w1.cell? ⟨b, 1, none⟩ = some v := by rw [Lib.cell_of_heap hbk]; rfl
  clear HC
  go_wp2_with (at_builtin; refine wpList_append_own _ rfl _ _ 63 rfl B 5 i0 (.int .u8 0) 1 1 Tryz.underlying63 hi hz0 hz1 hz2 rfl (by decide) _ _ _ rfl (hown.alloc _) ⟨w1.heap.size, 0, none⟩ 1 1 [.int .u8 c] rfl rfl ?c1 ?c2 ?c3 ?c4 ?c5 ?_)
  case c1 =>
    intro j u hj
    match j, hj with
    | 0, hj => simp at hj; subst hj; simp [Addr.add]
  case c2 => intro u hu; simp at hu; subst hu; rfl
  case c3 => unfold maxLen; omega
  case c4 => omega
  case c5 => have := hb1.size; simp; omega
  intro v' w2 hown' hgrow _
  have hlt : b < w1.heap.size := (Array.getElem?_eq_some_iff.1 hbk).1
  have hb2 : w2.heap[b]? = some (.cells #[.pointer (some ⟨b, 0, none⟩), v] 65 (0, 0)) := by
    rw [hgrow.block b (by simp; omega) (fun e => hne e.symm), Lib.alloc_old w1 _ b hlt]
    exact hbk
  have d0 : w2.cell? ⟨b, 0, none⟩ = some (.pointer (some ⟨b, 0, none⟩)) := by rw [Lib.cell_of_heap hb2]; rfl
  have d1 : w2.cell? ⟨b, 1, none⟩ = some v := by rw [Lib.cell_of_heap hb2]; rfl
  have f1 : w2.frozen? ⟨b, 1, none⟩ = false := Lib.frozen_of_heap hb2 1
  obtain ⟨g, cap, rfl⟩ : ∃ g cap, v' = .slice (some ⟨g, 0, none⟩) (bs.length + 1) cap := by
    rcases hown'.2 with ⟨_, h0⟩ | ⟨g, cap, cur, hv, _⟩
    · omega
    · exact ⟨g, cap, hv⟩
  go_wp2
  go_ret
  refine ⟨rfl, ?_, ?_, ?_⟩
  · exact Lib.BuilderAt.put (T := 65) (e := 5) hB hb2 (bs' := bs ++ [.int .u8 c]) (by simpa using hown') (by decide)
  · exact ((hb1.alloc (by have := hb1.size; omega) _).grown hgrow (by have := hb1.size; simp; omega) (fun k hk => (hown.lt k hk).1)).setCell (p := ⟨b, 1, none⟩) hB _
  · intro q cs t fr hqb hqt hq
    have h1 := (hk1 q hqb).trans hq
    have hq2 : q < w1.heap.size := (Array.getElem?_eq_some_iff.1 h1).1
    rw [heap_setCell_other w2 ⟨b, 1, none⟩ q _ hqb, hgrow.block q (by simp; omega) (fun e => Lib.ownBlock_ne hown h1 hqt e.symm), Lib.alloc_old w1 _ q hq2]
    exact hk1 q hqb

set_option maxHeartbeats 2000000 in
set_option maxRecDepth 100000 in
theorem bldString_any (B b : Nat) (bs : List Value) (s : ByteArray) (w : World) (h : Lib.IsBuilder 65 5 B b bs w) (hlen : bs.length + s.size ≤ 100000) (hBw : B ≤ w.heap.size) :
    Calls Tryz.prog 47 #[.pointer (some ⟨b, 0, none⟩), .string s] w fun e w' => e = .returned (.tuple #[.int .i64 s.size, .nilIface]) ∧ Lib.BuilderAt 65 5 B b (.pointer (some ⟨b, 0, none⟩)) (bs ++ Lib.strCells s) w' ∧ Below B w w' := by
  obtain ⟨i0, hi, hz0, hz1, hz2⟩ := info_parts infoByteB
  have HC := Lib.hid (bldCheck_any B b bs w h)
  clear h
  go_enter Tryz.func47, Tryz.ntmps47
  go_wp2_with fail
  refine HC.out.mono ?_
  rintro e w1 ⟨rfl, ⟨hB, v, hbk, hown, hne⟩, hb1, _⟩
  have c0 : w1.cell? ⟨b, 0, none⟩ = some (.pointer (some ⟨b, 0, none⟩)) := by rw [Lib.cell_of_heap hbk]; rfl
  have c1 : w1.cell? ⟨b, 1, none⟩ = some v := by rw [Lib.cell_of_heap hbk]; rfl
  clear HC
  go_wp2_with (at_builtin; refine Lib.wpList_append_own_string _ rfl _ _ 63 9 rfl B 5 i0 Tryz.underlying63 Tryz.underlying9 hi hz0 hz1 hz2 _ _ _ rfl hown s rfl ?c3 ?c4 ?c5 ?_)
  case c3 => unfold maxLen; omega
  case c4 => omega
  case c5 => have := hb1.size; omega
  intro v' w2 hown' hgrow _
  have hlt : b < w1.heap.size := (Array.getElem?_eq_some_iff.1 hbk).1
  have hb2 : w2.heap[b]? = some (.cells #[.pointer (some ⟨b, 0, none⟩), v] 65 (0, 0)) := by
    rw [hgrow.block b hlt (fun e => hne e.symm)]
    exact hbk
  have d0 : w2.cell? ⟨b, 0, none⟩ = some (.pointer (some ⟨b, 0, none⟩)) := by rw [Lib.cell_of_heap hb2]; rfl
  have d1 : w2.cell? ⟨b, 1, none⟩ = some v := by rw [Lib.cell_of_heap hb2]; rfl
  have f1 : w2.frozen? ⟨b, 1, none⟩ = false := Lib.frozen_of_heap hb2 1
  obtain ⟨ao, n', cap, rfl⟩ : ∃ ao n' cap, v' = .slice ao n' cap := by
    rcases hown'.2 with ⟨hv, _⟩ | ⟨g, cap, cur, hv, _⟩
    · exact ⟨_, _, _, hv⟩
    · exact ⟨_, _, _, hv⟩
  go_wp2
  go_ret2
  refine ⟨rfl, ?_, ?_⟩
  · exact Lib.BuilderAt.put (T := 65) (e := 5) hB hb2 (bs' := bs ++ Lib.strCells s) (by simpa [Lib.strCells_length] using hown') (by decide)
  · exact (hb1.grown hgrow (by have := hb1.size; omega) (fun k hk => (hown.lt k hk).1)).setCell (p := ⟨b, 1, none⟩) hB _
end Go.Proofs.YtfnhogeocbndcaaGreatDoor
/- lexer.Join: contract. -/
namespace Go.Proofs.YtfnhogeocbndcaaGreatDoor
open Go Go.RowKit
set_option linter.unusedVariables false

theorem bld_alloc {T e : TypeId} {B b : Nat} {bs : List Value} {w : World} (h : Lib.IsBuilder T e B b bs w) (o : Obj) : Lib.IsBuilder T e B b bs (w.alloc o) := by
  have k : ∀ {p}, Lib.BuilderAt T e B b p bs w → Lib.BuilderAt T e B b p bs (w.alloc o) := fun {p} h => by
    obtain ⟨hB, v, hb, hown, hne⟩ := h
    exact ⟨hB, v, by rw [Lib.alloc_old w o b (Array.getElem?_eq_some_iff.1 hb).1]; exact hb, hown.alloc o, hne⟩
  exact h.imp k k
theorem byteCells_app (a b : List UInt8) : Lib.byteCells (a ++ b) = Lib.byteCells a ++ Lib.byteCells b := by simp [Lib.byteCells]
/-- The state of the loop. -/
structure JnSt (F : Nat → List UInt8) (w wr : World) (k : Nat) : Prop where
  bld : Lib.IsBuilder 65 5 w.heap.size w.heap.size (Lib.byteCells (F k)) wr
  bel : Below w.heap.size w wr

set_option maxHeartbeats 2000000 in
set_option maxRecDepth 100000 in
theorem join_any (ts : List Tok) (v : Value) (w : World) (h1 : TkV w v ts) (hn : ts.length ≤ 4000) (ht : tsum ts ≤ 4000) :
    Calls Tryz.prog 21 #[v] w fun e w' => e = .returned (.string (str (J ts ts.length))) ∧ Below w.heap.size w w' := by
  have HJ := Lib.hid fun k (h : k < ts.length) => J_succ h
  have HB := Lib.hid fun k (h : k ≤ ts.length) => (by have := J_len k h; omega : (J ts k).length ≤ 8000)
  have h0 : Hid (J ts 0 = []) := J_zero ts
  have HBY := Lib.hid fun B b bs W h hl hB => bldByte_any B b bs 32 W h hl hB
  have HST := Lib.hid fun B b bs s W h hl hB => bldString_any B b bs s W h hl hB
  have HEND := Lib.hid fun B b l W h hB => Tryz.Builder_String_any B b l W h hB
  have hS0 : Hid (JnSt (J ts) w (w.alloc (.cells #[.pointer none, .slice none 0 0] 65)) 0) := ⟨by rw [h0.out]; exact Lib.fresh_isBuilder 65 5 w, (Below.refl _ _).alloc (Nat.le_refl _) _⟩
  generalize hF : J ts = F at *
  have HV := Lib.hid h1
  clear hF ht h0
  obtain ⟨x, c, rfl⟩ : ∃ x c, v = .slice x ts.length c := by
    rcases h1 with ⟨rfl, rfl⟩ | ⟨g, c, rfl, _⟩
    · exact ⟨none, 0, rfl⟩
    · exact ⟨_, _, rfl⟩
  clear h1
  go_enter Tryz.func21, Tryz.ntmps21
  go_wp2
  go_loopw [4, 5, 8] (fun i t p wr => ∃ k : Nat, p = .int .i64 (k : Int) ∧ k ≤ ts.length ∧ Hid (JnSt F w wr k)) (fun _ _ p _ => ts.length - (intOf p).toNat)
  case atStart => exact ⟨0, rfl, by omega, hS0⟩
  case round =>
    clear hS0
    obtain ⟨k, rfl, hk, hT⟩ := hrel
    obtain ⟨wo, rfl⟩ : ∃ wo : World, wo = wr := ⟨_, rfl⟩
    by_cases hlt : k < ts.length
    · rcases HV.out with ⟨e0, _⟩ | ⟨g, c', hgv, hTk⟩
      · rw [e0] at hlt; simp at hlt
      · obtain ⟨rfl, rfl⟩ : x = some ⟨g, 0, none⟩ ∧ c = c' := by injection hgv with q1 q2 q3; exact ⟨q1, q3⟩
        have hTo := hTk.below hT.out.bel hTk.1
        obtain ⟨c0, c1, c2, c3, c4⟩ := hTo.2 k hlt
        have hst := HJ.out k hlt
        have hbd := HB.out (k + 1) (by omega)
        have hbk := HB.out k hk
        have hB := hT.out.bel
        have hwz := hB.size
        have hsz : (str (tat ts k).text).size ≤ 8000 := by
          rw [str_size]
          rw [hst] at hbd
          simp only [List.length_append] at hbd
          omega
        have hsc : Lib.strCells (str (tat ts k).text) = Lib.byteCells (tat ts k).text := rfl
        obtain ⟨tx, htx⟩ : ∃ tx, tx = (tat ts k).text := ⟨_, rfl⟩
        rw [← htx] at hst hsc hsz c1
        clear htx
        generalize (tat ts k).pos = a at *
        generalize (tat ts k).line = nl at *
        generalize (tat ts k).kind = K at *
        generalize (tat ts k).num = N at *
        have hlb : (Lib.byteCells (F k)).length = (F k).length := by simp [Lib.byteCells]
        generalize hTT : str tx = T at *
        obtain ⟨wa, hwa⟩ : ∃ wa, wa = wo.alloc (.cells #[.int .i64 (K : Int), .string T, .int .u64 (N : Int), .int .i64 (a : Int), .int .i64 (nl : Int)] 53) := ⟨_, rfl⟩
        have hblk : Blk wa wo.heap.size 53 [.int .i64 (K : Int), .string T, .int .u64 (N : Int), .int .i64 (a : Int), .int .i64 (nl : Int)] := by rw [hwa]; exact Blk.alloc wo 53 [.int .i64 (K : Int), .string T, .int .u64 (N : Int), .int .i64 (a : Int), .int .i64 (nl : Int)]
        have hba : Below w.heap.size w wa := by rw [hwa]; exact hB.alloc hwz _
        have hIs : Lib.IsBuilder 65 5 w.heap.size w.heap.size (Lib.byteCells (F k)) wa := by rw [hwa]; exact bld_alloc hT.out.bld _
        have hgt : w.heap.size < wo.heap.size := by
          rcases hT.out.bld with h | h
          · exact h.lt
          · exact h.lt
        by_cases hk0 : k = 0
        · have hkz : ¬ (0 : Int) < (k : Int) := by omega
          have e1 := hblk.cell 1
          have HC := Lib.hid (HST.out _ _ _ T wa hIs (by omega) hba.size)
          have HN : Hid (∀ w', Lib.BuilderAt 65 5 w.heap.size w.heap.size (.pointer (some ⟨w.heap.size, 0, none⟩)) (Lib.byteCells (F k) ++ Lib.strCells T) w' → Below w.heap.size wa w' → JnSt F w w' (k + 1)) := fun w' q1 q2 => ⟨.inr (by
            have : Lib.byteCells (F (k + 1)) = Lib.byteCells (F k) ++ Lib.strCells T := by rw [hst, if_pos hk0, List.nil_append, byteCells_app, hsc]
            rw [this]; exact q1), hba.trans q2⟩
          have hwaE := Lib.hid hwa
          rw [hwa] at HC e1
          clear hst hbd hsc hTk hTo hT hgv hIs hblk hba hk0 hTT hwa HBY HST HV HJ HB
          go_wp2_with fail
          refine HC.out.mono ?_
          rintro e w2 ⟨rfl, hat, hb2⟩
          have hN := Lib.hid (HN.out w2 hat (by rw [hwaE.out]; exact hb2))
          clear hat hb2 HN HC hwaE e1 c0 c1 c2 c3 c4
          go_wp2
          go_roundw
          case rel => exact ⟨k + 1, by go_num, by omega, hN⟩
          case measure => simp [intOf]; omega
        · have hkz : (0 : Int) < (k : Int) := by omega
          have HC1 := Lib.hid (HBY.out _ _ _ wa hIs (by omega) hba.size)
          have HC2 := Lib.hid fun w1 (h : Lib.BuilderAt 65 5 w.heap.size w.heap.size (.pointer (some ⟨w.heap.size, 0, none⟩)) (Lib.byteCells (F k) ++ [.int .u8 32]) w1) (hs : w.heap.size ≤ w1.heap.size) => HST.out _ _ _ T w1 (.inr h) (by rw [List.length_append, hlb]; simp; omega) hs
          have HN : Hid (∀ w1 w', Below w.heap.size wa w1 → Lib.BuilderAt 65 5 w.heap.size w.heap.size (.pointer (some ⟨w.heap.size, 0, none⟩)) (Lib.byteCells (F k) ++ [.int .u8 32] ++ Lib.strCells T) w' → Below w.heap.size w1 w' → JnSt F w w' (k + 1)) := fun w1 w' q0 q1 q2 => ⟨.inr (by
            have : Lib.byteCells (F (k + 1)) = Lib.byteCells (F k) ++ [.int .u8 32] ++ Lib.strCells T := by rw [hst, if_neg hk0, byteCells_app, byteCells_app, hsc, List.append_assoc]; rfl
            rw [this]; exact q1), (hba.trans q0).trans q2⟩
          have HK := Lib.hid hblk
          have hwaE := Lib.hid hwa
          have hsa := hba.size
          rw [hwa] at HC1
          clear hst hbd hsc hTk hTo hT hgv hIs hblk hba hk0 hTT hwa HBY HST HV HJ HB
          go_wp2_with fail
          refine HC1.out.mono ?_
          rintro e w1 ⟨rfl, hat1, hb1, hfr1⟩
          rw [← hwaE.out] at hb1 hfr1
          have e1 : w1.cell? ⟨wo.heap.size, 1, none⟩ = some (.string T) := by
            have h3 : w1.heap[wo.heap.size]? = wa.heap[wo.heap.size]? := hfr1 _ _ _ _ (by omega) (by decide) HK.out
            have h4 : Blk w1 wo.heap.size 53 [.int .i64 (K : Int), .string T, .int .u64 (N : Int), .int .i64 (a : Int), .int .i64 (nl : Int)] := h3.trans HK.out
            exact h4.cell 1
          have HC3 := Lib.hid (HC2.out w1 hat1 (Nat.le_trans hsa hb1.size))
          have HB1 := Lib.hid hb1
          clear hat1 hfr1 HC2 HC1 HK hwaE hb1 c0 c1 c2 c3 c4
          go_wp2_with fail
          refine HC3.out.mono ?_
          rintro e w2 ⟨rfl, hat, hb2⟩
          have hN := Lib.hid (HN.out w1 w2 HB1.out hat hb2)
          clear hat hb2 HN HC3 HB1 e1
          go_wp2
          go_roundw
          case rel => exact ⟨k + 1, by go_num, by omega, hN⟩
          case measure => simp [intOf]; omega
    · obtain rfl : k = ts.length := by omega
      have HC := Lib.hid (HEND.out _ _ _ wo hT.out.bld hT.out.bel.size)
      have HBL := Lib.hid hT.out.bel
      clear hT HBY HST HV HJ HB HEND
      go_wp2_with fail
      refine HC.out.mono ?_
      rintro e w2 ⟨rfl, hb2⟩
      have hbb := HBL.out.trans hb2
      clear hb2 HC HBL
      go_wp2
      go_ret
      exact ⟨rfl, hbb⟩
end Go.Proofs.YtfnhogeocbndcaaGreatDoor
