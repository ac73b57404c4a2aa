/- Parse of a source without tokens. -/
import Derived.Test.YtfnhogeocbndcaaGreatDoorMgPsParse
import Derived.BigRegion
namespace Go.Proofs.YtfnhogeocbndcaaGreatDoor
open Go Go.RowKit
set_option linter.unusedVariables false
set_option linter.unusedSimpArgs false

theorem Blk.drewN {w : World} {g : Nat} {t : TypeId} {cs : List Value} (h : Blk w g t cs) (n : Nat) : Blk (w.drewN n) g t cs := h
theorem below_drewN {B : Nat} {w w' : World} (h : Below B w w') (n : Nat) : Below B w (w'.drewN n) := ⟨h.os, h.tape, h.output, h.size, h.block⟩
def tk0 : Tok := ⟨0, [], 0, 0, 0⟩
def rdN (x : Option Addr) (c : Nat) : List Value := [.slice x 0 c, .int .i64 0, .int .i64 0]
set_option maxHeartbeats 1000000 in
set_option maxRecDepth 100000 in
theorem next_nil {R c : Nat} {x : Option Addr} (w : World) (hR : Blk w R 47 (rdN x c)) : Calls Tryz.prog 56 #[.pointer (some ⟨R, 0, none⟩)] w fun e w' => e = .returned (tkv tk0) ∧ Below w.heap.size w w' := by
  have hb := (Below.refl w.heap.size w).alloc (Nat.le_refl _) (.cells tkz.toArray 53)
  have hK := Blk.alloc w 53 tkz
  have HK := Lib.hid fun n => (show Blk ((w.alloc (.cells tkz.toArray 53)).drewN n) w.heap.size 53 tkz from hK)
  have HB := Lib.hid fun n => (⟨hb.os, hb.tape, hb.output, hb.size, hb.block⟩ : Below w.heap.size w ((w.alloc (.cells tkz.toArray 53)).drewN n))
  clear hb hK
  obtain ⟨hc, hf⟩ := hR.all
  unfold rdN at hc
  have hlt := hR.lt
  clear hR
  go_enter Tryz.func56, Tryz.ntmps56
  go_wp2
  go_quiet (fail)
  go_wp2
  refine bodyPost_ret (((HK.out _).stor5 rfl _ _ _ _ _).res1 Tryz.results56 Tryz.underlying53 rfl infoTk _ rfl) rfl ?_
  exact ⟨rfl, below_stor5 (HB.out _) (Nat.le_refl _) _ _ _ _ _⟩
set_option maxHeartbeats 1000000 in
set_option maxRecDepth 100000 in
theorem node_nil {R c : Nat} {x : Option Addr} (k : Int) (w : World) (hR : Blk w R 47 (rdN x c)) :
    Calls Tryz.prog 55 #[.pointer (some ⟨R, 0, none⟩), .int .i64 k] w fun e w' => e = .returned (.agg (nc (labK k 0)).toArray) ∧ Below w.heap.size w w' := by
  have hb0 := (Below.refl w.heap.size w).alloc (Nat.le_refl _) (.cells ncz.toArray 28)
  have hK := Blk.alloc w 28 ncz
  have HN := Lib.hid (next_nil _ (hR.alloc_other (.cells ncz.toArray 28)))
  have HB := Lib.hid hb0
  have HK := Lib.hid hK
  have hF : ∀ W, Sem.run Tryz.prog (Instr.field 53 (tkv tk0) 4) W = Result.ok (.int .i64 0) W := fldL tk0
  generalize tkv tk0 = V1 at *
  clear hK hb0 hR
  go_enter Tryz.func55, Tryz.ntmps55
  go_wp2_with fail
  refine HN.out.mono ?_
  rintro e w1 ⟨rfl, hb1⟩
  have HB1 := Lib.hid (HB.out.trans (hb1.mono (by simp)))
  have HK1 := Lib.hid (HK.out.below hb1 HK.out.lt)
  obtain ⟨hc, hf⟩ := HK1.out.all
  unfold ncz at hc
  clear hb1 HN
  go_wp2
  refine bodyPost_ret ((HK1.out.stor11 rfl _ _ _ _ _ _ _ _ _ _ _).res1 Tryz.results55 Tryz.underlying28 rfl infoNd _ rfl) rfl ?_
  exact ⟨rfl, below_stor11 HB1.out (Nat.le_refl _) _ _ _ _ _ _ _ _ _ _ _⟩
set_option maxHeartbeats 1000000 in
set_option maxRecDepth 100000 in
theorem crowded_nil (x : Option Addr) (c : Nat) (w : World) : Calls Tryz.prog 29 #[.slice x 0 c] w fun e w' => e = .returned (.int .i64 0) ∧ w' = w := by
  go_enter Tryz.func29, Tryz.ntmps29
  go_wp2
  go_loopw [3, 8] (fun o i wr => o = .int .i64 0 ∧ i = .int .i64 0 ∧ wr = w) (fun _ i _ => 0)
  case atStart => exact ⟨rfl, rfl, rfl⟩
  case round =>
    obtain ⟨rfl, rfl, rfl⟩ := hrel
    go_wp2
    go_ret
    exact ⟨rfl, rfl⟩
def nd1 : List Value := [.int .i64 1, .string ⟨#[]⟩, .int .u64 0, .int .i64 0, .bool false, .int .i64 0, .int .i64 0, .int .i64 0, .int .i64 0, .int .i64 1, .slice none 0 0]
set_option maxHeartbeats 1000000 in
set_option maxRecDepth 100000 in
theorem program_nil {R c : Nat} {x : Option Addr} (w : World) (hR : Blk w R 47 (rdN x c)) : Calls Tryz.prog 30 #[.pointer (some ⟨R, 0, none⟩)] w fun e w' => e = .returned (.agg nd1.toArray) ∧ Below w.heap.size w w' := by
  have hb0 := (Below.refl w.heap.size w).alloc (Nat.le_refl _) (.cells ncz.toArray 28)
  have hK := Blk.alloc w 28 ncz
  have hX := hR.alloc_other (.cells ncz.toArray 28)
  have HN := Lib.hid (node_nil 1 _ hX)
  have HB := Lib.hid hb0
  have HK := Lib.hid hK
  have HX := Lib.hid hX
  have HL : Hid (nc (labK 1 0) = [.int .i64 1, .string ⟨#[]⟩, .int .u64 0, .int .i64 0, .bool false, .int .i64 0, .int .i64 0, .int .i64 0, .int .i64 0, .int .i64 0, .slice none 0 0]) := Lib.hid rfl
  rw [HL.out] at HN
  clear hK hb0 hR hX
  go_enter Tryz.func30, Tryz.ntmps30
  go_wp2_with fail
  refine HN.out.mono ?_
  rintro e w1 ⟨rfl, hb1⟩
  have HB1 := Lib.hid ((HB.out.trans (hb1.mono (by simp))).alloc (Below.size (HB.out.trans (hb1.mono (by simp)))) (.cells nd1.toArray 28))
  have HK1 := Lib.hid ((HK.out.below hb1 HK.out.lt).alloc_other (.cells nd1.toArray 28))
  have hX1 := HX.out.below hb1 HX.out.lt
  obtain ⟨hc, hf⟩ := (HK.out.below hb1 HK.out.lt).all
  have hz := (HK.out.below hb1 HK.out.lt).lt
  obtain ⟨hd, he⟩ := hX1.all
  have hzd := hX1.lt
  unfold ncz at hc
  unfold rdN at hd
  clear hb1 HN HB HK HX HL hX1
  go_wp2
  go_loopw [10] (fun _ wr => wr = w1.alloc (.cells #[.int .i64 1, .string ⟨#[]⟩, .int .u64 0, .int .i64 0, .bool false, .int .i64 0, .int .i64 0, .int .i64 0, .int .i64 0, .int .i64 1, .slice none 0 0] 28)) (fun _ wr => 0)
  case atStart => exact rfl
  case round =>
    obtain rfl := hrel
    go_wp2
    go_quiet (fail)
    go_wp2
    refine bodyPost_ret (((HK1.out.drewN nq).stor11 rfl _ _ _ _ _ _ _ _ _ _ _).res1 Tryz.results30 Tryz.underlying28 rfl infoNd _ rfl) rfl ?_
    exact ⟨rfl, below_stor11 (below_drewN HB1.out nq) (Nat.le_refl _) _ _ _ _ _ _ _ _ _ _ _⟩
theorem parseM_nil {l : List UInt8} (he : (lexAll l).2.2 = 0) (hno : (lexAll l).1 = []) : parseM l = (.node (labK 1 1) [], 0, 0) := by
  unfold parseM
  dsimp only
  rw [if_neg (by simp [he]), hno]
  rfl
set_option maxHeartbeats 4000000 in
set_option maxRecDepth 100000 in
theorem parse_nil (l : List UInt8) (w : World) (V : Vs w) (he : (lexAll l).2.2 = 0) (hno : (lexAll l).1 = []) : Calls Tryz.prog 11 #[.string (str l)] w (PP w (parseM l)) := by
  obtain ⟨hlen, htl, hctx⟩ := lexAll_ctx l he
  rw [parseM_nil he hno]
  have hb0 := (Below.refl w.heap.size w).alloc (Nat.le_refl _) (.cells ncz.toArray 28)
  have hw1 : (w.alloc (.cells ncz.toArray 28)).heap.size = w.heap.size + 1 := by simp
  have HK := Lib.hid (Blk.alloc w 28 ncz)
  have HB := Lib.hid hb0
  have HLX := Lib.hid (lex_any l (by omega) _ (V.below (hb0.mono (Nat.le_refl _))))
  generalize (lexAll l).2.1 = A at *
  rw [he, hno] at HLX
  clear hb0 V hw1 he hno hctx hlen htl
  go_enter Tryz.func11, Tryz.ntmps11
  go_wp2_with fail
  refine HLX.out.mono ?_
  rintro e w1 ⟨v, rfl, hown, hb1⟩
  have HK1 := Lib.hid (HK.out.below hb1 HK.out.lt)
  have HB1 := Lib.hid (HB.out.trans (hb1.mono (by simp)))
  obtain ⟨x, c, rfl⟩ : ∃ (x : Option Addr) (c : Nat), v = .slice x 0 c := by
    rcases toks_own hown with ⟨_, h⟩ | ⟨g, c, h, _⟩
    · exact ⟨_, _, h⟩
    · exact ⟨_, _, h⟩
  have HCR := Lib.hid (crowded_nil x c w1)
  have HPG := Lib.hid (program_nil _ (Blk.alloc w1 47 (rdN x c)))
  unfold nd1 at HPG
  have HBR := Lib.hid (HB1.out.alloc HB1.out.size (.cells (rdN x c).toArray 47))
  have HKR := Lib.hid (HK1.out.alloc_other (.cells (rdN x c).toArray 47))
  have HRR := Lib.hid (Blk.alloc w1 47 (rdN x c))
  have hsz : (w1.alloc (.cells (rdN x c).toArray 47)).heap.size = w1.heap.size + 1 := by simp
  have HSZ := Lib.hid hsz
  clear hown hb1 HLX HK HB hsz
  go_wp2_with fail
  refine HCR.out.mono ?_
  rintro e w2 ⟨rfl, rfl⟩
  go_wp2_with fail
  refine HPG.out.mono ?_
  rintro e w3 ⟨rfl, hb3⟩
  have HB3 := Lib.hid (HBR.out.trans (hb3.mono HBR.out.size))
  have HK3 := Lib.hid (HKR.out.below hb3 HKR.out.lt)
  have HR3 := Lib.hid (HRR.out.below hb3 HRR.out.lt)
  have hsz3 := hb3.size
  rw [HSZ.out] at hsz3
  obtain ⟨hc, hf⟩ := HK3.out.all
  unfold ncz at hc
  have hk3 := HK3.out.lt
  obtain ⟨hd, he⟩ := HR3.out.all
  unfold rdN at hd
  have hr3 := HR3.out.lt
  have HBN := Lib.hid (HB3.out.alloc HB3.out.size (.cells nd1.toArray 28))
  have HKN := Lib.hid (HK3.out.alloc_other (.cells nd1.toArray 28))
  have HLN := Lib.hid (Blk.alloc w3 28 nd1)
  have HWI := Lib.hid (within_any (.node (labK 1 1) []) (labK 1 1) none 0 0 (w3.alloc (.cells nd1.toArray 28)) (.nil _ _))
  rw [show decide (count (.node (labK 1 1) []) ≤ 20000 ∧ depth (.node (labK 1 1) []) ≤ 200) = true by rfl] at HWI
  unfold nd1 at HBN HKN HLN HWI
  clear hb3 HPG HBR HKR HRR HCR HSZ HK1 HB1
  go_wp2_with fail
  refine HWI.out.mono ?_
  rintro e w4 ⟨rfl, hb4⟩
  have HK4 := Lib.hid (HKN.out.below hb4 HKN.out.lt)
  have HL4 := Lib.hid (HLN.out.below hb4 HLN.out.lt)
  have HB4 := Lib.hid (HBN.out.trans (hb4.mono HBN.out.size))
  clear hc hf hd he
  obtain ⟨hc, hf⟩ := HK4.out.all
  unfold ncz at hc
  obtain ⟨hd, he⟩ := HL4.out.all
  have hz4 := HK4.out.lt
  clear hb4 HWI HKN HLN HBN HK3 HB3 HR3
  go_wp2
  refine bodyPost_ret ((HK4.out.stor11 rfl _ _ _ _ _ _ _ _ _ _ _).res3 Tryz.results11 Tryz.underlying28 rfl infoNd _ rfl) rfl ?_
  exact ⟨labK 1 1, none, 0, 0, rfl, .nil _ (labK 1 1), below_stor11 HB4.out (Nat.le_refl _) _ _ _ _ _ _ _ _ _ _ _⟩
end Go.Proofs.YtfnhogeocbndcaaGreatDoor
