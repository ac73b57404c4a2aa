/- The reader's next token: contract. -/
import Derived.Test.YthdbaligapdbeaaGreatDoorMgPsPut
import Derived.BigRegion
import Derived.Deep.QuietTactic
import Derived.BigQuiet
import Derived.Deep.RegionHeld3
import Derived.Laws.ResultCell
import Derived.Test.YthdbaligapdbeaaGreatDoorMgTabKit
import Derived.Deep.Slices
import Derived.Deep.RegionWith
namespace Go.Proofs.YthdbaligapdbeaaGreatDoor
open Go Go.RowKit
set_option linter.unusedVariables false

def tkv (t : Tok) : Value := .agg #[.int .i64 (t.kind : Int), .string (str t.text), .int .u64 (t.num : Int), .int .i64 (t.pos : Int), .int .i64 (t.line : Int)]
def tkz : List Value := [.int .i64 0, .string ⟨#[]⟩, .int .u64 0, .int .i64 0, .int .i64 0]
theorem infoTk : (Tryz.prog.info? 89).map (·.size) = some 5 := by kernel_rfl
theorem nxt_end {ts : List Tok} {s : Sg} (h : atOf ts s = ts.length) (hi : s.i ≤ ts.length) : nxt ts s = ⟨0, [], 0, 0, 0⟩ := by
 unfold atOf at h
 unfold nxt
 cases hb : s.bad with
 | true => rfl
 | false =>
  rw [hb] at h
  simp only [Bool.false_eq_true, if_false] at h ⊢
  exact tat_out (by omega)
theorem nxt_in {ts : List Tok} {s : Sg} (h : ¬ atOf ts s = ts.length) : nxt ts s = tat ts (atOf ts s) := by
 unfold atOf at h ⊢
 unfold nxt
 cases hb : s.bad with
 | true => rw [hb] at h; exact absurd rfl h
 | false => rfl
theorem atOf_le {ts : List Tok} {s : Sg} (hi : s.i ≤ ts.length) : atOf ts s ≤ ts.length := by
 unfold atOf
 split <;> omega

set_option maxHeartbeats 1000000 in
set_option maxRecDepth 100000 in
theorem next_any {ts : List Tok} {R g c : Nat} (X : Ctx ts R g c) {s : Sg} (w : World) (hR : Rd w R g c ts s) : Calls Tryz.prog 78 #[.pointer (some ⟨R, 0, none⟩)] w fun e w' => e = .returned (tkv (nxt ts s)) ∧ Below w.heap.size w w' := by
 have hle := atOf_le (ts := ts) hR.hi
 have hlen := X.len
 have hcap := X.cap
 have hb := (Below.refl w.heap.size w).alloc (Nat.le_refl _) (.cells tkz.toArray 89)
 have hK := Blk.alloc w 89 tkz
 have HK := Hd fun n => (show Blk ((w.alloc (.cells tkz.toArray 89)).drewN n) w.heap.size 89 tkz from hK)
 have HB := Hd fun n => (⟨hb.os, hb.tape, hb.output, hb.size, hb.block⟩ : Below w.heap.size w ((w.alloc (.cells tkz.toArray 89)).drewN n))
 clear hb hK
 obtain ⟨c0, c1, c2, f1, f2⟩ := hR.cells
 have hlt := hR.lt
 by_cases h : atOf ts s = ts.length
 ·have hx := nxt_end h hR.hi
  rw [hx]
  have q : ((atOf ts s : Int) == (ts.length : Int)) = true := by simp [h]
  clear hR X h hx
  generalize atOf ts s = A at *
  generalize badOf ts s = Bd at *
  generalize ts.length = N at *
  go_enter Tryz.func78, Tryz.ntmps78
  go_wp2
  go_quiet (fail)
  go_wp2
  refine bodyPost_ret (((HK.out _).stor5 rfl _ _ _ _ _).res1 Tryz.results78 Tryz.underlying89 rfl infoTk _ rfl) rfl ?_
  exact ⟨rfl, below_stor5 (HB.out _) (Nat.le_refl _) _ _ _ _ _⟩
 ·have hx := nxt_in h
  rw [hx]
  have q : ((atOf ts s : Int) == (ts.length : Int)) = false := by simp; omega
  obtain ⟨d0, d1, d2, d3, d4⟩ := hR.tk.2 (atOf ts s) (by omega)
  have hlt2 := hR.tk.1
  have hA : (atOf ts s : Int) < (ts.length : Int) := by omega
  have hgR := X.lt
  clear hR X h hx
  generalize atOf ts s = A at *
  generalize badOf ts s = Bd at *
  generalize ts.length = N at *
  generalize tat ts A = T at *
  go_enter Tryz.func78, Tryz.ntmps78
  go_wp2
  go_quiet (fail)
  go_wp2
  go_region
  go_wp2
  refine bodyPost_ret (((HK.out _).stor5 rfl _ _ _ _ _).res1 Tryz.results78 Tryz.underlying89 rfl infoTk _ rfl) rfl ?_
  exact ⟨rfl, below_stor5 (HB.out _) (Nat.le_refl _) _ _ _ _ _⟩
end Go.Proofs.YthdbaligapdbeaaGreatDoor
/- The reader's fail, skip and expect: contracts. -/
namespace Go.Proofs.YthdbaligapdbeaaGreatDoor
open Go Go.RowKit
set_option linter.unusedVariables false

theorem Rd.drewN {w : World} {R g c : Nat} {ts : List Tok} {s : Sg} (h : Rd w R g c ts s) (n : Nat) : Rd (w.drewN n) R g c ts s := ⟨h.blk, h.tk, h.hi, h.env.of_blocks (fun _ _ => rfl) (Nat.le_refl _)⟩
theorem Rd.setR {w : World} {R g c : Nat} {ts : List Tok} {s : Sg} (h : Rd w R g c ts s) (hg : g < R) (i : Nat) (v : Value) : Blk (w.setCell ⟨R, i, none⟩ v) R 65 ([.slice (some ⟨g, 0, none⟩) ts.length c, .int .i64 (atOf ts s : Int), .int .i64 (badOf ts s : Int)].set i v) ∧ TkIn (w.setCell ⟨R, i, none⟩ v) g ts :=
 ⟨h.blk.set i v, h.tk.of_block (Below.heap_setCell _ _ _ _ (by show g ≠ R; omega))⟩
theorem Env.setR {w : World} {R g : Nat} (h : Env w g) (hg : g < R) (i : Nat) (v : Value) : Env (w.setCell ⟨R, i, none⟩ v) g :=
 h.of_blocks (fun k hk => Below.heap_setCell _ _ _ _ (by show k ≠ R; omega)) (by rw [size_setCell]; exact Nat.le_refl _)
theorem Rd.failed {w : World} {R g c : Nat} {ts : List Tok} {s : Sg} (h : Rd w R g c ts s) (hg : g < R) (h0 : s.bad = false) : Rd ((w.setCell ⟨R, 2, none⟩ (.int .i64 ((tat ts (min s.i (ts.length - 1))).line : Int))).setCell ⟨R, 1, none⟩ (.int .i64 (ts.length : Int))) R g c ts (stop s) := by
 refine ⟨(h.blk.set 2 _).set 1 _, (h.tk.of_block (Below.heap_setCell _ _ _ _ ?_)).of_block (Below.heap_setCell _ _ _ _ ?_), h.hi, (h.env.setR hg _ _).setR hg _ _⟩
 ·show g ≠ R; omega
 ·show g ≠ R; omega
theorem Rd.failed2 {w : World} {R g c : Nat} {ts : List Tok} {s : Sg} (h : Rd w R g c ts s) (hg : g < R) (h0 : s.bad = true) : Rd (w.setCell ⟨R, 1, none⟩ (.int .i64 (ts.length : Int))) R g c ts (stop s) := by
 refine ⟨?_, h.tk.of_block (Below.heap_setCell _ _ _ _ (by show g ≠ R; omega)), h.hi, h.env.setR hg _ _⟩
 have h1 := h.blk.set 1 (.int .i64 (ts.length : Int))
 have e : badOf ts s = badOf ts (stop s) := by unfold badOf stop; rw [h0]
 rw [e] at h1
 exact h1
theorem rd_adv {w : World} {R g c : Nat} {ts : List Tok} {s : Sg} (h : Rd w R g c ts s) (hg : g < R) (h0 : s.bad = false ∧ s.i < ts.length) : Rd (w.setCell ⟨R, 1, none⟩ (.int .i64 ((s.i + 1 : Nat) : Int))) R g c ts (adv s) := by
 refine ⟨?_, h.tk.of_block (Below.heap_setCell _ _ _ _ (by show g ≠ R; omega)), h0.2, h.env.setR hg _ _⟩
 have h1 := h.blk.set 1 (.int .i64 ((s.i + 1 : Nat) : Int))
 have e1 : badOf ts s = badOf ts (Proofs.YthdbaligapdbeaaGreatDoor.adv s) := by unfold badOf Proofs.YthdbaligapdbeaaGreatDoor.adv; rw [h0.1]; rfl
 have e2 : s.i + 1 = atOf ts (Proofs.YthdbaligapdbeaaGreatDoor.adv s) := by unfold atOf Proofs.YthdbaligapdbeaaGreatDoor.adv; rw [h0.1]; rfl
 rw [← e1, ← e2]
 exact h1
theorem rd_adv' {w : World} {R g c : Nat} {ts : List Tok} {s : Sg} (h : Rd w R g c ts s) (hg : g < R) (h0 : s.bad = false ∧ s.i < ts.length) {v : Int} (hv : v = (s.i : Int) + 1) : Rd (w.setCell ⟨R, 1, none⟩ (.int .i64 v)) R g c ts (adv s) := by
 have := rd_adv h hg h0
 rw [show v = ((s.i + 1 : Nat) : Int) by omega]
 exact this
theorem fail_at {ts : List Tok} {R g c : Nat} (X : Ctx ts R g c) {s : Sg} (hi : s.i ≤ ts.length) : min s.i (ts.length - 1) < ts.length := by
 have : 0 < ts.length := List.length_pos_iff.2 X.ne
 omega

set_option maxHeartbeats 1000000 in
set_option maxRecDepth 100000 in
theorem fail_any {ts : List Tok} {R g c : Nat} (X : Ctx ts R g c) {s : Sg} (w : World) (hR : Rd w R g c ts s) : Calls Tryz.prog 156 #[.pointer (some ⟨R, 0, none⟩)] w fun e w' => e = .returned (.tuple #[]) ∧ Rd w' R g c ts (stop s) ∧ St w w' R := by
 have hlen := X.len
 have hlt := hR.lt
 obtain ⟨c0, c1, c2, f1, f2⟩ := hR.cells
 cases hb : s.bad with
 | true =>
  have hbad : 0 < badOf ts s := by
   unfold badOf
   rw [hb, if_pos rfl]
   have h1 := fail_at X hR.hi
   rw [tat_get h1]
   exact (X.line _ (List.getElem_mem h1)).1
  have q : ((badOf ts s : Int) == 0) = false := by simp; omega
  have HF := Hd (Rd.failed2 hR X.lt hb)
  have HS : Hid (St w (w.setCell ⟨R, 1, none⟩ (.int .i64 (ts.length : Int))) R) := St.setR (St.refl _ _) rfl _
  clear X hR hb hbad
  generalize atOf ts s = A at *
  generalize badOf ts s = Bd at *
  generalize ts.length = N at *
  go_enter Tryz.func156, Tryz.ntmps156
  go_wp2
  go_end0
  exact ⟨rfl, HF.out, HS.out⟩
 | false =>
  have hbad : badOf ts s = 0 := by unfold badOf; rw [hb]; rfl
  have hat : atOf ts s = s.i := by unfold atOf; rw [hb]; rfl
  have h1 := fail_at X hR.hi
  obtain ⟨d0, d1, d2, d3, d4⟩ := hR.tk.2 _ h1
  have hlt2 := hR.tk.1
  have HF := Hd fun n => Rd.failed (hR.drewN n) X.lt hb
  have HS : Hid (∀ n, St w (((w.drewN n).setCell ⟨R, 2, none⟩ (.int .i64 ((tat ts (min s.i (ts.length - 1))).line : Int))).setCell ⟨R, 1, none⟩ (.int .i64 (ts.length : Int))) R) := Hd fun n => St.setR (St.setR ((St.refl w R).drewN n) rfl _) rfl _
  have hgR := X.lt
  have hne : 0 < ts.length := List.length_pos_iff.2 X.ne
  have hi := hR.hi
  have hcap := X.cap
  rw [hbad] at c2
  rw [hat] at c1
  clear X hR hb hbad hat
  generalize hT : tat ts (min s.i (ts.length - 1)) = T at *
  clear hT
  generalize ts.length = N at *
  generalize s.i = A at *
  have HF2 := HF
  have hA : A = N ∨ A < N := by omega
  clear d0 d1 d2 d3
  rcases hA with rfl | hA
  ·have e1 : min A (A - 1) = A - 1 := by omega
   rw [e1] at d4
   have q1 : (A : Int) - 1 < (A : Int) := by omega
   have q2 : 0 ≤ (A : Int) - 1 := by omega
   have q3 : min (A : Int) ((A : Int) - 1) = (A : Int) - 1 := by omega
   clear e1 hi h1
   go_enter Tryz.func156, Tryz.ntmps156
   go_wp2
   go_region
   go_wp2
   go_end0
   exact ⟨rfl, HF.out _, HS.out _⟩
  ·have e1 : min A (N - 1) = A := by omega
   rw [e1] at d4
   have q1 : ¬ ((N : Int) - 1 < (A : Int)) := by omega
   have q2 : (A : Int) < (N : Int) := by omega
   have q3 : min (A : Int) ((N : Int) - 1) = (A : Int) := by omega
   clear e1 hi h1
   go_enter Tryz.func156, Tryz.ntmps156
   go_wp2
   go_region
   go_wp2
   go_end0
   exact ⟨rfl, HF.out _, HS.out _⟩

theorem fldT (t : Tok) (W : World) : Sem.run Tryz.prog (Instr.field 89 (tkv t) 1) W = Result.ok (.string (str t.text)) W := by kernel_rfl
theorem fldL (t : Tok) (W : World) : Sem.run Tryz.prog (Instr.field 89 (tkv t) 4) W = Result.ok (.int .i64 (t.line : Int)) W := by kernel_rfl
theorem hasT_bytes (ts : List Tok) (s : Sg) (t : List UInt8) : ((str (nxt ts s).text).toList == (str t).toList) = hasT ts s t := by
 rw [str_eq]
 unfold hasT tx
 rw [decide_eq_decide]
 exact ⟨str_inj, fun h => by rw [h]⟩

set_option maxHeartbeats 1000000 in
set_option maxRecDepth 100000 in
theorem skip_any' {ts : List Tok} {R g c : Nat} (X : Ctx ts R g c) {s : Sg} (t : List UInt8) (ht : t ≠ []) (w : World) (hR : Rd w R g c ts s) :
  Calls Tryz.prog 120 #[.pointer (some ⟨R, 0, none⟩), .string (str t)] w fun e w' => e = .returned (.bool (hasT ts s t)) ∧ Rd w' R g c ts (skp ts s t) ∧ St w w' R := by
 have HN := Hd (next_any X w hR)
 have hq := hasT_bytes ts s t
 have hlen := X.len
 have hltR := hR.lt
 have HR := Hd hR
 have hF := Hd fun W => fldT (nxt ts s) W
 unfold skp
 cases hh : hasT ts s t with
 | true =>
  rw [hh] at hq
  obtain ⟨ch, tr, rfl⟩ : ∃ ch tr, t = ch :: tr := by
   cases t with
   | nil => exact absurd rfl ht
   | cons a b => exact ⟨a, b, rfl⟩
  have hin := hasT_in hh
  have hat : atOf ts s = s.i := by unfold atOf; rw [hin.1]; rfl
  have HA := Hd fun W (h : Rd W R g c ts s) => rd_adv h X.lt hin
  have hw : wrap64 ((s.i : Int) + 1) = ((s.i + 1 : Nat) : Int) := by rw [IntWalk.wrap64_in _ (by omega)]; omega
  have hil : s.i < 65536 := by omega
  have hXl := X.lt
  have HT := Hd hat
  generalize str (ch :: tr) = S1 at *
  generalize tkv (nxt ts s) = V1 at *
  generalize str (nxt ts s).text = S2 at *
  clear hR ht hh hin hat
  go_enter Tryz.func120, Tryz.ntmps120
  go_wp2_with fail
  refine HN.out.mono ?_
  rintro e w1 ⟨rfl, hb⟩
  have hR1 := HR.out.below hXl hb hltR
  have hF1 := hF.out w1
  obtain ⟨c0, c1, c2, f1, f2⟩ := hR1.cells
  rw [HT.out] at c1
  have HS1 : Hid (St w w1 R) := St.of_below hb
  have HR1 := Hd (HA.out _ hR1)
  clear hR1 hb HN HA c0 c2 f2
  generalize s.i = I at *
  go_wp2
  go_ret
  exact ⟨rfl, HR1.out, St.setR HS1.out rfl _⟩
 | false =>
  rw [hh] at hq
  generalize str t = S1 at *
  generalize tkv (nxt ts s) = V1 at *
  generalize str (nxt ts s).text = S2 at *
  have hXl := X.lt
  clear hR ht hh
  go_enter Tryz.func120, Tryz.ntmps120
  go_wp2_with fail
  refine HN.out.mono ?_
  rintro e w1 ⟨rfl, hb⟩
  have HR1 := Hd (HR.out.below hXl hb hltR)
  have hF1 := hF.out w1
  have HS1 : Hid (St w w1 R) := St.of_below hb
  clear hb HN
  go_wp2
  go_ret
  exact ⟨rfl, HR1.out, HS1.out⟩
end Go.Proofs.YthdbaligapdbeaaGreatDoor
/- The reader's expect, name, number, typeName and node: contracts. -/
namespace Go.Proofs.YthdbaligapdbeaaGreatDoor
open Go Go.RowKit
set_option linter.unusedVariables false

set_option maxHeartbeats 1000000 in
set_option maxRecDepth 100000 in
theorem expect_any {ts : List Tok} {R g c : Nat} (X : Ctx ts R g c) {s : Sg} (t : List UInt8) (ht : t ≠ []) (w : World) (hR : Rd w R g c ts s) :
  Calls Tryz.prog 113 #[.pointer (some ⟨R, 0, none⟩), .string (str t)] w fun e w' => e = .returned (.tuple #[]) ∧ Rd w' R g c ts (exc ts s t) ∧ St w w' R := by
 have HK := Hd (skip_any' X t ht w hR)
 have HF := Hd fun W (h : Rd W R g c ts s) => fail_any X W h
 clear hR
 unfold exc
 unfold skp at HK
 generalize str t = S1 at *
 cases hh : hasT ts s t with
 | true =>
  rw [hh] at HK
  clear hh HF
  go_enter Tryz.func113, Tryz.ntmps113
  go_wp2_with fail
  refine HK.out.mono ?_
  rintro e w1 ⟨rfl, hR1, hS1⟩
  have HR1 := Hd (And.intro hR1 hS1)
  clear hR1 hS1 HK
  go_wp2
  go_end0
  exact ⟨rfl, HR1.out.1, HR1.out.2⟩
 | false =>
  rw [hh] at HK
  clear hh
  go_enter Tryz.func113, Tryz.ntmps113
  go_wp2_with fail
  refine HK.out.mono ?_
  rintro e w1 ⟨rfl, hR1, hS1⟩
  have HR1 := Hd (And.intro hR1 hS1)
  clear hR1 hS1 HK
  go_wp2_with fail
  refine (HF.out _ HR1.out.1).mono ?_
  rintro e w2 ⟨rfl, hR2, hS2⟩
  have HR2 := Hd (And.intro hR2 (St.trans HR1.out.2 hS2))
  clear hR2 hS2 HR1
  go_wp2
  go_end0
  exact ⟨rfl, HR2.out.1, HR2.out.2⟩

theorem nxt_num {ts : List Tok} {R g c : Nat} (X : Ctx ts R g c) (s : Sg) : (nxt ts s).num < 18446744073709551616 := by
 unfold nxt
 cases hb : s.bad with
 | true => exact (by decide : (0:Nat) < 18446744073709551616)
 | false =>
  show (tat ts s.i).num < _
  by_cases h : s.i < ts.length
  ·rw [tat_get h]; exact X.num _ (List.getElem_mem h)
  ·rw [tat_out (by omega)]; decide
theorem nxt_text {ts : List Tok} {R g c : Nat} (X : Ctx ts R g c) (s : Sg) : (nxt ts s).text.length ≤ 65536 := by
 unfold nxt
 cases hb : s.bad with
 | true => exact (by decide : (0:Nat) ≤ 65536)
 | false =>
  show (tat ts s.i).text.length ≤ _
  by_cases h : s.i < ts.length
  ·rw [tat_get h]; exact (X.text _ (List.getElem_mem h)).2
  ·rw [tat_out (by omega)]; decide

set_option maxHeartbeats 1000000 in
set_option maxRecDepth 100000 in
theorem name_any {ts : List Tok} {R g c : Nat} (X : Ctx ts R g c) {s : Sg} (w : World) (hR : Rd w R g c ts s) :
  Calls Tryz.prog 114 #[.pointer (some ⟨R, 0, none⟩)] w fun e w' => e = .returned (.string (str (nmV ts s))) ∧ Rd w' R g c ts (nmS ts s) ∧ St w w' R := by
 have HN := Hd (next_any X w hR)
 have HF := Hd fun W (h : Rd W R g c ts s) => fail_any X W h
 have hlen := X.len
 have hltR := hR.lt
 have HR := Hd hR
 have hXl := X.lt
 unfold nmV nmS tx
 by_cases hk : kd ts s = 1
 ·have hin := kd_in hk (by decide)
  rw [if_pos hk, if_pos hk]
  have hat : atOf ts s = s.i := by unfold atOf; rw [hin.1]; rfl
  have HA := Hd fun W (h : Rd W R g c ts s) (v : Int) (hv : v = (s.i : Int) + 1) => rd_adv' h X.lt hin hv
  have hil : s.i < 65536 := by omega
  have HT := Hd hat
  have q : ((nxt ts s).kind : Int) = 1 := by unfold kd at hk; omega
  have HV : Hid (tkv (nxt ts s) = .agg #[.int .i64 1, .string (str (nxt ts s).text), .int .u64 ((nxt ts s).num : Int), .int .i64 ((nxt ts s).pos : Int), .int .i64 ((nxt ts s).line : Int)]) := by
   rw [← q]; exact Hd rfl
  rw [HV.out] at HN
  clear hR hk hin hat HF q HV
  generalize str (nxt ts s).text = S2 at *
  generalize ((nxt ts s).num : Int) = n2 at *
  generalize ((nxt ts s).pos : Int) = n3 at *
  generalize ((nxt ts s).line : Int) = n4 at *
  go_enter Tryz.func114, Tryz.ntmps114
  go_wp2_with fail
  refine HN.out.mono ?_
  rintro e w1 ⟨rfl, hb⟩
  have hR1 := HR.out.below hXl hb hltR
  obtain ⟨c0, c1, c2, f1, f2⟩ := hR1.cells
  rw [HT.out] at c1
  have hlt1 := hR1.lt
  have HS1 : Hid (St w w1 R) := St.of_below hb
  have HR1 := Hd (HA.out _ hR1)
  clear hR1 hb HN HA c0 c2 f2
  generalize s.i = I at *
  go_wp2
  go_ret
  exact ⟨rfl, (HR1.out _ rfl).alloc hXl _, (St.setR HS1.out rfl _).alloc _⟩
 ·rw [if_neg hk, if_neg hk]
  have q : (((nxt ts s).kind : Int) == 1) = false := by unfold kd at hk; simp; omega
  have q' : (((nxt ts s).kind : Int) != 1) = true := by unfold kd at hk; simp; omega
  have HV : Hid (tkv (nxt ts s) = .agg #[.int .i64 ((nxt ts s).kind : Int), .string (str (nxt ts s).text), .int .u64 ((nxt ts s).num : Int), .int .i64 ((nxt ts s).pos : Int), .int .i64 ((nxt ts s).line : Int)]) := Hd rfl
  rw [HV.out] at HN
  clear hR hk HV
  generalize str (nxt ts s).text = S2 at *
  generalize ((nxt ts s).kind : Int) = n1 at *
  generalize ((nxt ts s).num : Int) = n2 at *
  generalize ((nxt ts s).pos : Int) = n3 at *
  generalize ((nxt ts s).line : Int) = n4 at *
  go_enter Tryz.func114, Tryz.ntmps114
  go_wp2_with fail
  refine HN.out.mono ?_
  rintro e w1 ⟨rfl, hb⟩
  have hR1 := HR.out.below hXl hb hltR
  have hRa := Hd (hR1.alloc hXl (.cells #[.int .i64 n1, .string S2, .int .u64 n2, .int .i64 n3, .int .i64 n4] 89))
  have HS1 : Hid (St w (w1.alloc (.cells #[.int .i64 n1, .string S2, .int .u64 n2, .int .i64 n3, .int .i64 n4] 89)) R) := (St.of_below hb).alloc _
  clear hR1 hb HN
  go_wp2_with fail
  refine (HF.out _ hRa.out).mono ?_
  rintro e w2 ⟨rfl, hR2, hS2⟩
  have HR2 := Hd (And.intro hR2 (St.trans HS1.out hS2))
  clear hR2 hS2 hRa HS1
  go_wp2
  go_ret
  exact ⟨rfl, HR2.out.1, HR2.out.2⟩
end Go.Proofs.YthdbaligapdbeaaGreatDoor
/- The reader's node: contract. -/
namespace Go.Proofs.YthdbaligapdbeaaGreatDoor
open Go Go.RowKit
set_option linter.unusedVariables false

theorem infoNd : (Tryz.prog.info? 27).map (·.size) = some 11 := by kernel_rfl
def ncz : List Value := [.int .i64 0, .string ⟨#[]⟩, .int .u64 0, .int .i64 0, .bool false, .int .i64 0, .int .i64 0, .int .i64 0, .int .i64 0, .int .i64 0, .slice none 0 0]
def nc (l : Lab) : List Value := lcells l (.slice none 0 0)
theorem Blk.all {w : World} {g : Nat} {t : TypeId} {cs : List Value} (h : Blk w g t cs) : (∀ i, w.cell? ⟨g, i, none⟩ = cs[i]?) ∧ (∀ i, w.frozen? ⟨g, i, none⟩ = false) := ⟨h.cell, h.frozen⟩

set_option maxHeartbeats 1000000 in
set_option maxRecDepth 100000 in
theorem node_any {ts : List Tok} {R g c : Nat} (X : Ctx ts R g c) {s : Sg} (k : Int) (w : World) (hR : Rd w R g c ts s) :
  Calls Tryz.prog 77 #[.pointer (some ⟨R, 0, none⟩), .int .i64 k] w fun e w' => e = .returned (.agg (nc (labK k (ln ts s))).toArray) ∧ Below w.heap.size w w' := by
 have hb0 := (Below.refl w.heap.size w).alloc (Nat.le_refl _) (.cells ncz.toArray 27)
 have hK := Blk.alloc w 27 ncz
 have HN := Hd (next_any X _ (hR.alloc X.lt (.cells ncz.toArray 27)))
 have hF := fldL (nxt ts s)
 have HB := Hd hb0
 have HK := Hd hK
 have HL : Hid (((nxt ts s).line : Int) = (ln ts s : Nat)) := Hd rfl
 clear hK hb0 hR
 generalize tkv (nxt ts s) = V1 at *
 generalize ((nxt ts s).line : Int) = l1 at *
 have hl := HL.out
 subst hl
 go_enter Tryz.func77, Tryz.ntmps77
 go_wp2_with fail
 refine HN.out.mono ?_
 rintro e w1 ⟨rfl, hb1⟩
 have HB1 := Hd (HB.out.trans (hb1.mono (by simp)))
 have HK1 := Hd (HK.out.below hb1 HK.out.lt)
 obtain ⟨hc, hf⟩ := HK1.out.all
 unfold ncz at hc
 clear hb1 HN
 go_wp2
 refine bodyPost_ret ((HK1.out.stor11 rfl _ _ _ _ _ _ _ _ _ _ _).res1 Tryz.results77 Tryz.underlying27 rfl infoNd _ rfl) rfl ?_
 exact ⟨rfl, below_stor11 HB1.out (Nat.le_refl _) _ _ _ _ _ _ _ _ _ _ _⟩
end Go.Proofs.YthdbaligapdbeaaGreatDoor
/- The reader's number and typeName: contracts. -/
namespace Go.Proofs.YthdbaligapdbeaaGreatDoor
open Go Go.RowKit
set_option linter.unusedVariables false

set_option maxHeartbeats 1000000 in
set_option maxRecDepth 100000 in
theorem numb_any {ts : List Tok} {R g c : Nat} (X : Ctx ts R g c) {s : Sg} (least : Nat) (hleast : least < 1000) (w : World) (hR : Rd w R g c ts s) :
  Calls Tryz.prog 159 #[.pointer (some ⟨R, 0, none⟩), .int .u64 (least : Int)] w fun e w' => e = .returned (.int .u64 (nuV ts s least : Int)) ∧ Rd w' R g c ts (nuS ts s least) ∧ St w w' R := by
 have HN := Hd (next_any X w hR)
 have HF := Hd fun W (h : Rd W R g c ts s) => fail_any X W h
 have hlen := X.len
 have hltR := hR.lt
 have HR := Hd hR
 have hXl := X.lt
 have hnum := nxt_num X s
 unfold nuV nuS
 have HV : Hid (tkv (nxt ts s) = .agg #[.int .i64 (kd ts s : Int), .string (str (nxt ts s).text), .int .u64 ((nxt ts s).num : Int), .int .i64 ((nxt ts s).pos : Int), .int .i64 ((nxt ts s).line : Int)]) := Hd rfl
 rw [HV.out] at HN
 have HOK : Hid (okN ts s least = (decide (kd ts s = 3) && (decide (least ≤ (nxt ts s).num) && decide ((nxt ts s).num ≤ 1048576)))) := Hd rfl
 clear hR HV
 by_cases hk : okN ts s least = true
 ·have hk' := HOK.out
  rw [hk] at hk'
  have hk3 : kd ts s = 3 ∧ least ≤ (nxt ts s).num ∧ (nxt ts s).num ≤ 1048576 := by simpa using hk'.symm
  have hin := kd_in hk3.1 (by decide)
  rw [if_pos hk, if_pos hk]
  rw [hk3.1] at HN
  have hat : atOf ts s = s.i := by unfold atOf; rw [hin.1]; rfl
  have HA := Hd fun W (h : Rd W R g c ts s) (v : Int) (hv : v = (s.i : Int) + 1) => rd_adv' h X.lt hin hv
  have hil : s.i < 65536 := by omega
  have HT := Hd hat
  have q1 : ¬ ((nxt ts s).num : Int) < (least : Int) := by omega
  have q2 : ((nxt ts s).num : Int) ≤ 1048576 := by omega
  have q3 : decide ((nxt ts s).num < least) = false := by simp; omega
  clear hk hk' hk3 hin hat HF HOK
  generalize str (nxt ts s).text = S2 at *
  generalize (nxt ts s).num = n2 at *
  generalize ((nxt ts s).pos : Int) = n3 at *
  generalize ((nxt ts s).line : Int) = n4 at *
  go_enter Tryz.func159, Tryz.ntmps159
  go_wp2_with fail
  refine HN.out.mono ?_
  rintro e w1 ⟨rfl, hb⟩
  have hR1 := HR.out.below hXl hb hltR
  obtain ⟨c0, c1, c2, f1, f2⟩ := hR1.cells
  rw [HT.out] at c1
  have hlt1 := hR1.lt
  have HS1 : Hid (St w w1 R) := St.of_below hb
  have HR1 := Hd (HA.out _ hR1)
  clear hR1 hb HN HA c0 c2 f2
  generalize s.i = I at *
  go_wp2
  go_ret
  exact ⟨rfl, (HR1.out _ rfl).alloc hXl _, (St.setR HS1.out rfl _).alloc _⟩
 ·rw [if_neg hk, if_neg hk]
  have hk' : kd ts s ≠ 3 ∨ (kd ts s = 3 ∧ (nxt ts s).num < least) ∨ (kd ts s = 3 ∧ ¬ (nxt ts s).num < least ∧ 1048576 < (nxt ts s).num) := by
   rw [HOK.out] at hk
   simp at hk
   by_cases h3 : kd ts s = 3
   ·right
    by_cases h4 : (nxt ts s).num < least
    ·exact .inl ⟨h3, h4⟩
    ·exact .inr ⟨h3, h4, hk h3 (by omega)⟩
   ·exact .inl h3
  clear hk HOK
  rcases hk' with q | ⟨q, q1⟩ | ⟨q, q1, q2⟩
  ·have q' : ((kd ts s : Int) != 3) = true := by simp; omega
   clear q
   generalize str (nxt ts s).text = S2 at *
   generalize (kd ts s : Int) = n1 at *
   generalize (nxt ts s).num = n2 at *
   generalize ((nxt ts s).pos : Int) = n3 at *
   generalize ((nxt ts s).line : Int) = n4 at *
   go_enter Tryz.func159, Tryz.ntmps159
   go_wp2_with fail
   refine HN.out.mono ?_
   rintro e w1 ⟨rfl, hb⟩
   have hR1 := HR.out.below hXl hb hltR
   have hRa := Hd (hR1.alloc hXl (.cells #[.int .i64 n1, .string S2, .int .u64 (n2 : Int), .int .i64 n3, .int .i64 n4] 89))
   have HS1 : Hid (St w (w1.alloc (.cells #[.int .i64 n1, .string S2, .int .u64 (n2 : Int), .int .i64 n3, .int .i64 n4] 89)) R) := (St.of_below hb).alloc _
   clear hR1 hb HN
   go_wp2_with fail
   refine (HF.out _ hRa.out).mono ?_
   rintro e w2 ⟨rfl, hR2, hS2⟩
   have HR2 := Hd (And.intro hR2 (St.trans HS1.out hS2))
   clear hR2 hS2 hRa HS1
   go_wp2
   go_ret
   exact ⟨rfl, HR2.out.1, HR2.out.2⟩
  ·have q3 : decide ((nxt ts s).num < least) = true := by simp; omega
   rw [q] at HN
   clear q
   generalize str (nxt ts s).text = S2 at *
   generalize (nxt ts s).num = n2 at *
   generalize ((nxt ts s).pos : Int) = n3 at *
   generalize ((nxt ts s).line : Int) = n4 at *
   go_enter Tryz.func159, Tryz.ntmps159
   go_wp2_with fail
   refine HN.out.mono ?_
   rintro e w1 ⟨rfl, hb⟩
   have hR1 := HR.out.below hXl hb hltR
   have hRa := Hd (hR1.alloc hXl (.cells #[.int .i64 3, .string S2, .int .u64 (n2 : Int), .int .i64 n3, .int .i64 n4] 89))
   have HS1 : Hid (St w (w1.alloc (.cells #[.int .i64 3, .string S2, .int .u64 (n2 : Int), .int .i64 n3, .int .i64 n4] 89)) R) := (St.of_below hb).alloc _
   clear hR1 hb HN
   go_wp2_with fail
   refine (HF.out _ hRa.out).mono ?_
   rintro e w2 ⟨rfl, hR2, hS2⟩
   have HR2 := Hd (And.intro hR2 (St.trans HS1.out hS2))
   clear hR2 hS2 hRa HS1
   go_wp2
   go_ret
   exact ⟨rfl, HR2.out.1, HR2.out.2⟩
  ·have q3 : decide ((nxt ts s).num < least) = false := by simp; omega
   have q4 : (1048576 : Int) < ((nxt ts s).num : Int) := by omega
   rw [q] at HN
   clear q
   generalize str (nxt ts s).text = S2 at *
   generalize (nxt ts s).num = n2 at *
   generalize ((nxt ts s).pos : Int) = n3 at *
   generalize ((nxt ts s).line : Int) = n4 at *
   go_enter Tryz.func159, Tryz.ntmps159
   go_wp2_with fail
   refine HN.out.mono ?_
   rintro e w1 ⟨rfl, hb⟩
   have hR1 := HR.out.below hXl hb hltR
   have hRa := Hd (hR1.alloc hXl (.cells #[.int .i64 3, .string S2, .int .u64 (n2 : Int), .int .i64 n3, .int .i64 n4] 89))
   have HS1 : Hid (St w (w1.alloc (.cells #[.int .i64 3, .string S2, .int .u64 (n2 : Int), .int .i64 n3, .int .i64 n4] 89)) R) := (St.of_below hb).alloc _
   clear hR1 hb HN
   go_wp2_with fail
   refine (HF.out _ hRa.out).mono ?_
   rintro e w2 ⟨rfl, hR2, hS2⟩
   have HR2 := Hd (And.intro hR2 (St.trans HS1.out hS2))
   clear hR2 hS2 hRa HS1
   go_wp2
   go_ret
   exact ⟨rfl, HR2.out.1, HR2.out.2⟩

theorem infoTy : (Tryz.prog.info? 24).map (·.size) = some 2 := by kernel_rfl
theorem typeOf_zero {l : List UInt8} (h : ¬ 0 < (typeOf l).1) : typeOf l = (0, false) := by
 unfold typeOf at h ⊢
 split
 ·rename_i h1; rw [if_pos h1] at h; simp at h
 ·rename_i h1
  rw [if_neg h1] at h
  cases hf : cands.find? (fun c => nameOf c.1 c.2 == l) with
  | none => rfl
  | some c =>
   rw [hf] at h
   have hm := List.mem_of_find?_eq_some hf
   exfalso
   apply h
   have hall : cands.all (fun c => decide (0 < c.1)) = true := by decide +kernel
   have := List.all_eq_true.1 hall c hm
   simpa using this
set_option maxHeartbeats 1000000 in
set_option maxRecDepth 100000 in
theorem typN_any {ts : List Tok} {R g c : Nat} (X : Ctx ts R g c) {s : Sg} (w : World) (hR : Rd w R g c ts s) :
  Calls Tryz.prog 117 #[.pointer (some ⟨R, 0, none⟩)] w fun e w' => e = .returned (.agg #[.int .i64 ((tyV' ts s).1 : Int), .bool (tyV' ts s).2]) ∧ Rd w' R g c ts (tyS ts s) ∧ St w w' R := by
 have hRa := hR.alloc X.lt (.cells #[.int .i64 0, .bool false] 24)
 have HN := Hd (next_any X _ hRa)
 have HF := Hd fun W (h : Rd W R g c ts s) => fail_any X W h
 have hlen := X.len
 have hltR := hR.lt
 have HR := Hd hRa
 have hXl := X.lt
 have hK := Blk.alloc w 24 [.int .i64 0, .bool false]
 have hb0 := (Below.refl w.heap.size w).alloc (Nat.le_refl _) (.cells #[.int .i64 0, .bool false] 24)
 have HK := Hd hK
 have HB := Hd hb0
 have HTY := Hd fun W V => type_any (str (nxt ts s).text) (by rw [str_size]; have := nxt_text X s; omega) W V
 rw [str_data] at HTY
 have hF := Hd fun W => fldT (nxt ts s) W
 have hF0 : ∀ W : World, True := fun _ => trivial
 unfold tyS tyV' tx
 have hle := typeOf_le (nxt ts s).text
 have HI : Hid (0 < (typeOf (nxt ts s).text).1 → s.bad = false ∧ s.i < ts.length) := Hd fun h => tx_in (ts := ts) (fun he => by unfold tx at he; rw [he, typeOf_nil] at h; omega)
 have HZ : Hid (¬ 0 < (typeOf (nxt ts s).text).1 → typeOf (nxt ts s).text = (0, false)) := Hd fun h => typeOf_zero h
 clear hR hRa hK hb0 hF0
 generalize tkv (nxt ts s) = V1 at *
 unfold tyV tyB at HTY
 generalize str (nxt ts s).text = S2 at *
 generalize typeOf (nxt ts s).text = ty at *
 obtain ⟨x, y⟩ := ty
 by_cases hx : 0 < x
 ·have hin := HI.out hx
  rw [if_pos hx]
  have hat : atOf ts s = s.i := by unfold atOf; rw [hin.1]; rfl
  have HA := Hd fun W (h : Rd W R g c ts s) (v : Int) (hv : v = (s.i : Int) + 1) => rd_adv' h X.lt hin hv
  have hil : s.i < 65536 := by omega
  have HT := Hd hat
  have q : decide (0 < x) = true := by simp [hx]
  rw [q] at HTY
  clear hin hat HF HI HZ q
  go_enter Tryz.func117, Tryz.ntmps117
  go_wp2_with fail
  refine HN.out.mono ?_
  rintro e w1 ⟨rfl, hb1⟩
  have hF1 := hF.out w1
  have hR1 := Hd (HR.out.below hXl hb1 (by simp; omega))
  have HK1 := Hd (HK.out.below hb1 HK.out.lt)
  have HB1 := Hd (HB.out.trans (hb1.mono (by simp)))
  clear hb1 HN HB HK
  go_wp2_with fail
  refine (HTY.out _ hR1.out.env.vs).mono ?_
  rintro e w2 ⟨rfl, hb2⟩
  have hR2 := hR1.out.below hXl hb2 hR1.out.lt
  have HK2 := Hd (HK1.out.below hb2 HK1.out.lt)
  have HB2 := Hd (HB1.out.trans (hb2.mono HB1.out.size))
  obtain ⟨c0, c1, c2, f1, f2⟩ := hR2.cells
  rw [HT.out] at c1
  obtain ⟨hc, hf⟩ := HK2.out.all
  have hlt2 := hR2.lt
  have hsz := HB2.out.size
  have hK2lt := HK2.out.lt
  have HR2 := Hd hR2
  clear hb2 hR2 hF hF1 c0 c2 f2 HTY HB1 HK1 hR1
  generalize s.i = I at *
  go_wp2
  refine bodyPost_ret ((((HK2.out.set_other (by show w.heap.size ≠ R; omega) _).stor2 rfl _ _).alloc_other _).res1 Tryz.results117 Tryz.underlying24 rfl infoTy _ rfl) rfl ?_
  exact ⟨rfl, ((HA.out _ HR2.out _ rfl).stor2 hXl hltR _ _).alloc hXl _, ((St.setR (St.of_below HB2.out) rfl _).stor2 (Nat.le_refl _) _ _).alloc _⟩
 ·have hz := HZ.out hx
  injection hz with h1 h2
  subst h1 h2
  rw [if_neg (by omega)]
  have q : decide (0 < 0) = false := by simp
  rw [q] at HTY
  clear HI HZ q
  go_enter Tryz.func117, Tryz.ntmps117
  go_wp2_with fail
  refine HN.out.mono ?_
  rintro e w1 ⟨rfl, hb1⟩
  have hF1 := hF.out w1
  have hR1 := Hd (HR.out.below hXl hb1 (by simp; omega))
  have HK1 := Hd (HK.out.below hb1 HK.out.lt)
  have HB1 := Hd (HB.out.trans (hb1.mono (by simp)))
  clear hb1 HN HB HK
  go_wp2_with fail
  refine (HTY.out _ hR1.out.env.vs).mono ?_
  rintro e w2 ⟨rfl, hb2⟩
  have HR2 := Hd ((hR1.out.below hXl hb2 hR1.out.lt).alloc hXl (.cells #[.int .i64 0, .bool false] 24))
  have HK2 := Hd ((HK1.out.below hb2 HK1.out.lt).alloc_other (.cells #[.int .i64 0, .bool false] 24))
  have HB2 := Hd (((HB1.out.trans (hb2.mono HB1.out.size))).alloc (Nat.le_trans HB1.out.size hb2.size) (.cells #[.int .i64 0, .bool false] 24))
  clear hb2 hF hF1 HTY HB1 HK1 hR1
  go_wp2_with fail
  refine (HF.out _ HR2.out).mono ?_
  rintro e w3 ⟨rfl, hR3, hS3⟩
  have HK3 := Hd (St.blk hS3 HK2.out (by omega))
  obtain ⟨hc, hf⟩ := HK3.out.all
  have HS3 := Hd (St.trans (St.of_below HB2.out) hS3)
  have HR3 := Hd hR3
  have hsz := HS3.out.size
  clear hR3 hS3 HK2 HR2 HB2
  go_wp2
  refine bodyPost_ret ((HK3.out.stor2 rfl _ _).res1 Tryz.results117 Tryz.underlying24 rfl infoTy _ rfl) rfl ?_
  exact ⟨rfl, HR3.out.stor2 hXl hltR _ _, HS3.out.stor2 (Nat.le_refl _) _ _⟩
end Go.Proofs.YthdbaligapdbeaaGreatDoor
/- The reader's operator: contract. -/
namespace Go.Proofs.YthdbaligapdbeaaGreatDoor
open Go Go.RowKit
set_option linter.unusedVariables false

def opT (l k : Nat) : List UInt8 := ((levelOps l).getD k ([], 0)).1
def opN (l k : Nat) : Nat := ((levelOps l).getD k ([], 0)).2
theorem opT_get {l k : Nat} (h : k < (levelOps l).length) : (levelOps l)[k].1 = opT l k := by simp [opT, List.getD, h]
theorem opN_get {l k : Nat} (h : k < (levelOps l).length) : (levelOps l)[k].2 = opN l k := by simp [opN, List.getD, h]
theorem opV_hit {ts : List Tok} {s : Sg} {l k : Nat} (h : k < (levelOps l).length) (hno : ∀ j, j < k → hasT ts s (opT l j) = false) (hy : hasT ts s (opT l k) = true) : opV ts s l = opN l k := by
 unfold opV
 have : (levelOps l).find? (fun p => decide (tx ts s = p.1)) = some (levelOps l)[k] := by
  rw [List.find?_eq_some_iff_getElem]
  rw [← opT_get h] at hy
  refine ⟨hy, k, h, rfl, fun j hj => ?_⟩
  have := hno j (by omega)
  rw [← opT_get (by omega)] at this
  unfold hasT at this
  rw [this]
  rfl
 rw [this]
 exact opN_get h
theorem opV_miss {ts : List Tok} {s : Sg} {l : Nat} (hno : ∀ j, j < (levelOps l).length → hasT ts s (opT l j) = false) : opV ts s l = 0 := by
 unfold opV
 have : (levelOps l).find? (fun p => decide (tx ts s = p.1)) = none := by
  rw [List.find?_eq_none]
  intro p hp
  obtain ⟨j, hj, rfl⟩ := List.getElem_of_mem hp
  have := hno j hj
  rw [← opT_get hj] at this
  unfold hasT at this
  rw [this]
  simp
 rw [this]
 rfl
theorem levelOps_len (l : Nat) : (levelOps l).length ≤ 6 := by
 unfold levelOps
 split <;> decide
theorem opT_ne {l k : Nat} (h : k < (levelOps l).length) : opT l k ≠ [] ∧ opN l k ≠ 0 := by
 rw [← opT_get h, ← opN_get h]
 exact levelOps_ne l _ (List.getElem_mem h)
theorem opN_le {l k : Nat} (h : k < (levelOps l).length) : opN l k ≤ 21 := by
 rw [← opN_get h]
 have : ∀ p ∈ levelOps l, p.2 ≤ 21 := by
  unfold levelOps
  split <;> decide
 exact this _ (List.getElem_mem h)
theorem lv_row {w : World} {a : Addr} {l : Nat} (h : ∀ j (h : j < (levelOps l).length), w.cell? (a.add (j * 2)) = some (.string (str (levelOps l)[j].1)) ∧ w.cell? (a.add (j * 2 + 1)) = some (.int .i64 ((levelOps l)[j].2 : Int))) :
  ∀ j, j < (levelOps l).length → w.cell? (a.add (j * 2)) = some (.string (str (opT l j))) ∧ w.cell? (a.add (j * 2 + 1)) = some (.int .i64 (opN l j : Int)) := by
 intro j hj
 have := h j hj
 rw [opT_get hj, opN_get hj] at this
 exact this

structure OpSt (ts : List Tok) (R g c : Nat) (s : Sg) (l : Nat) (w wr : World) (k : Nat) : Prop where
 rd : Rd wr R g c ts s
 st : St w wr R
 no : ∀ j, j < k → hasT ts s (opT l j) = false

set_option maxHeartbeats 1000000 in
set_option maxRecDepth 100000 in
theorem oper_any {ts : List Tok} {R g c : Nat} (X : Ctx ts R g c) {s : Sg} (l : Nat) (hl : l < 11) (w : World) (hR : Rd w R g c ts s) :
  Calls Tryz.prog 232 #[.pointer (some ⟨R, 0, none⟩), .int .i64 (l : Int)] w fun e w' => e = .returned (.int .i64 (opV ts s l : Int)) ∧ Rd w' R g c ts (opS ts s l) ∧ St w w' R := by
 obtain ⟨v, hv, a, cc, rfl, hrow0⟩ := hR.env.lv l hl
 have hrow := lv_row hrow0
 have HSK := Hd fun (t : List UInt8) (ht : t ≠ []) W (h : Rd W R g c ts s) => skip_any' X t ht W h
 have HNE := Hd fun k (h : k < (levelOps l).length) => opT_ne h
 have HLE := Hd fun k (h : k < (levelOps l).length) => opN_le h
 have hlen6 := levelOps_len l
 have h0 : Hid (OpSt ts R g c s l w w 0) := ⟨hR, St.refl _ _, fun j h => by omega⟩
 have HROW := Hd hrow
 have HAL : Hid (∀ j, j < (levelOps l).length → a.block < w.heap.size ∧ a.block ≠ R) := Hd fun j hj => by
  have h1 := cell_block_lt (hrow j hj).1
  rw [add_block] at h1
  refine ⟨h1, fun e => ?_⟩
  have h2 := (hrow j hj).1
  have h3 := hR.env
  obtain ⟨w0, _, k2, k3, k4, k5⟩ := h3
  obtain ⟨v', hv', a', c', e1, hc'⟩ := k2 l hl
  have e2 : w.cell? ⟨9, l, none⟩ = some v' := by rw [cell_same (k5 _ (cell_block_lt hv'))]; exact hv'
  rw [hv] at e2
  injection e2 with e2
  rw [e1] at e2
  injection e2 with e2
  injection e2 with e2
  have h4 := cell_block_lt (hc' j hj).1
  rw [add_block, ← e2, e] at h4
  have := X.lt
  omega
 have HH := Hd fun k (h : k < (levelOps l).length) hno hy => opV_hit (ts := ts) (s := s) (l := l) (k := k) h hno hy
 have HM := Hd fun hno => opV_miss (ts := ts) (s := s) (l := l) hno
 have hXl := X.lt
 have hl' : (l : Int) < 11 := by omega
 have HO0 : Hid (opV ts s l = 0 → opS ts s l = s) := Hd fun h => by unfold opS; rw [if_pos h]
 have HO1 : Hid (opV ts s l ≠ 0 → opS ts s l = adv s) := Hd fun h => by unfold opS; rw [if_neg h]
 clear hrow hrow0
 generalize (levelOps l).length = N at *
 clear hR X
 go_enter Tryz.func232, Tryz.ntmps232
 go_wp2
 clear hv
 go_loopw [11] (fun i wr => ∃ k : Nat, k ≤ N ∧ i = .int .i64 (k : Int) ∧ Hid (OpSt ts R g c s l w wr k)) (fun i _ => N - (intOf i).toNat)
 case atStart => exact ⟨0, by omega, rfl, h0⟩
 case round =>
  clear h0
  obtain ⟨k, hk, rfl, hT⟩ := hrel
  by_cases hkN : k < N
  ·obtain ⟨hal1, hal2⟩ := HAL.out k hkN
   obtain ⟨d1, d2⟩ := HROW.out k hkN
   have hblk := World.grownBy.block hT.out.st a.block hal1 (fun e => by injection e with e; exact hal2 e)
   have e1 : wr.cell? (a.add (k * 2)) = some (.string (str (opT l k))) := (cell_same (w := w) (w' := wr) (by rw [add_block]; exact hblk)).trans d1
   have e2 : wr.cell? (a.add (k * 2 + 1)) = some (.int .i64 (opN l k : Int)) := (cell_same (w := w) (w' := wr) (by rw [add_block]; exact hblk)).trans d2
   have e3 : wr.cell? ⟨(a.add (k * 2)).block, (a.add (k * 2)).off + 1, none⟩ = some (.int .i64 (opN l k : Int)) := by rw [← e2, ← Go.Deep.add_add]; rfl
   have HS := Hd (HSK.out (opT l k) (HNE.out k hkN).1 _ (hT.out.rd.alloc hXl (.cells #[.string (str (opT l k)), .int .i64 (opN l k : Int)] 124)))
   have hne := (HNE.out k hkN).2
   have hle := HLE.out k hkN
   have HK := Hd (Blk.alloc wr 124 [.string (str (opT l k)), .int .i64 (opN l k : Int)])
   have hRlt := hT.out.rd.lt
   clear d1 d2 hblk
   unfold skp at HS
   generalize hS1 : str (opT l k) = S1 at *
   generalize hO1 : opN l k = O1 at *
   have HP1 := Hd hO1
   clear hS1 hO1
   cases hh : hasT ts s (opT l k) with
   | true =>
    have hO := Hd ((HH.out k hkN hT.out.no hh).trans HP1.out)
    have hOS := Hd (HO1.out (by rw [hO.out]; exact hne))
    rw [hh] at HS
    clear hh
    go_wp2_with fail
    refine HS.out.mono ?_
    rintro e w2 ⟨rfl, hR2, hS2⟩
    obtain ⟨hc, hf⟩ := (St.blk hS2 HK.out (by omega)).all
    have HR2 := Hd (And.intro hR2 (St.trans (hT.out.st.alloc _) hS2))
    clear hR2 hS2 HK
    go_wp2
    go_ret
    exact ⟨by rw [hO.out]; rfl, by rw [hOS.out]; exact HR2.out.1, HR2.out.2⟩
   | false =>
    rw [hh] at HS
    have HNO : Hid (∀ j, j < k + 1 → hasT ts s (opT l j) = false) := Hd fun j hj => by
     by_cases e : j = k
     ·subst e; exact hh
     ·exact hT.out.no j (by omega)
    clear hh
    go_wp2_with fail
    refine HS.out.mono ?_
    rintro e w2 ⟨rfl, hR2, hS2⟩
    have HR2 : Hid (OpSt ts R g c s l w w2 (k + 1)) := ⟨hR2, St.trans (hT.out.st.alloc _) hS2, HNO.out⟩
    clear hR2 hS2 HK HNO
    go_wp2
    go_roundw
    case rel => exact ⟨k + 1, by omega, by go_num, HR2⟩
    case measure => simp [intOf]; omega
  ·obtain rfl : k = N := by omega
   have hO := Hd (HM.out hT.out.no)
   have hOS := Hd (HO0.out hO.out)
   go_wp2
   go_ret
   exact ⟨by rw [hO.out]; rfl, by rw [hOS.out]; exact hT.out.rd, hT.out.st⟩
end Go.Proofs.YthdbaligapdbeaaGreatDoor
/- What a rule of the grammar leaves, and the frame of its walk: local nodes in blocks, trees, the reader. -/
namespace Go.Proofs.YthdbaligapdbeaaGreatDoor
open Go Go.RowKit
set_option linter.unusedVariables false

def TP (w : World) (R g c : Nat) (ts : List Tok) (t : Tree × Sg) (e : Ending) (w' : World) : Prop :=
 ∃ (l : Lab) (x : Option Addr) (n k : Nat), e = .returned (.agg #[.int .i64 l.kind, .string (str l.name), .int .u64 l.num, .int .i64 l.wd, .bool l.sg, .int .i64 l.op, .int .i64 l.fac, .int .i64 l.pip, .int .i64 l.unr, .int .i64 l.line, .slice x n k]) ∧ TreeAt w' (w.heap.size ≤ ·) [.int .i64 l.kind, .string (str l.name), .int .u64 l.num, .int .i64 l.wd, .bool l.sg, .int .i64 l.op, .int .i64 l.fac, .int .i64 l.pip, .int .i64 l.unr, .int .i64 l.line, .slice x n k] t.1 ∧ Rd w' R g c ts t.2 ∧ St w w' R
theorem TreeAt.form {w : World} {P : Nat → Prop} {cs : List Value} {t : Tree} (h : TreeAt w P cs t) : ∃ (l : Lab) (x : Option Addr) (n k : Nat), cs = [.int .i64 l.kind, .string (str l.name), .int .u64 l.num, .int .i64 l.wd, .bool l.sg, .int .i64 l.op, .int .i64 l.fac, .int .i64 l.pip, .int .i64 l.unr, .int .i64 l.line, .slice x n k] := by
 cases h with
 | nil l => exact ⟨l, none, 0, 0, rfl⟩
 | mk l a n cap C ks => exact ⟨l, some a, n, cap, rfl⟩
def rem (ts : List Tok) (s : Sg) : Nat := if s.bad then 0 else ts.length - s.i
theorem rem_on {ts : List Tok} {s t : Sg} (h : On ts s t) : rem ts t ≤ rem ts s := by
 unfold rem
 cases hb : s.bad with
 | true => rw [h.2.2 hb, hb]; exact Nat.le_refl _
 | false =>
  have := h.1
  cases t.bad
  ·simp; omega
  ·simp
theorem rem_adv {ts : List Tok} {s : Sg} (h : s.bad = false ∧ s.i < ts.length) : rem ts (adv s) + 1 = rem ts s := by
 unfold rem adv
 rw [h.1]
 simp
 omega
structure EC (ts : List Tok) (R g c f : Nat) : Prop where
 ex : ∀ s w, Rd w R g c ts s → 32 * rem ts s + 22 ≤ f → Calls Tryz.prog 211 #[.pointer (some ⟨R, 0, none⟩)] w (TP w R g c ts (E ts f .ex s))
 bn : ∀ l s w, l ≤ 9 → Rd w R g c ts s → 32 * rem ts s + (20 - l) ≤ f → Calls Tryz.prog 224 #[.pointer (some ⟨R, 0, none⟩), .int .i64 (l : Int)] w (TP w R g c ts (E ts f (.bn l) s))
 ca : ∀ s w, Rd w R g c ts s → 32 * rem ts s + 10 ≤ f → Calls Tryz.prog 231 #[.pointer (some ⟨R, 0, none⟩)] w (TP w R g c ts (E ts f .ca s))
 un : ∀ s w, Rd w R g c ts s → 32 * rem ts s + 9 ≤ f → Calls Tryz.prog 238 #[.pointer (some ⟨R, 0, none⟩)] w (TP w R g c ts (E ts f .un s))
 pr : ∀ s w, Rd w R g c ts s → 32 * rem ts s + 8 ≤ f → Calls Tryz.prog 241 #[.pointer (some ⟨R, 0, none⟩)] w (TP w R g c ts (E ts f .pr s))
 us : ∀ s w, Rd w R g c ts s → 32 * rem ts s + 7 ≤ f → Calls Tryz.prog 242 #[.pointer (some ⟨R, 0, none⟩)] w (TP w R g c ts (E ts f .us s))

structure Fr (w0 w : World) (R g c : Nat) (ts : List Tok) (s : Sg) (Ls : List (Nat × List Value)) (Ts : List (List Value × Tree)) : Prop where
 rd : Rd w R g c ts s
 st : St w0 w R
 bl : ∀ L cs, (L, cs) ∈ Ls → Blk w L 27 cs ∧ w0.heap.size ≤ L
 tr : ∀ cs t, (cs, t) ∈ Ts → TreeAt w (fun k => w0.heap.size ≤ k ∧ ∀ L xs, (L, xs) ∈ Ls → k ≠ L) cs t
 hR : R < w0.heap.size
 nd : (Ls.map (·.1)).Nodup
theorem Fr.start {w : World} {R g c : Nat} {ts : List Tok} {s : Sg} (h : Rd w R g c ts s) : Fr w w R g c ts s [] [] :=
 ⟨h, St.refl _ _, fun L cs h => by simp at h, fun cs t h => by simp at h, h.lt, by simp⟩
theorem Fr.size {w0 w : World} {R g c : Nat} {ts : List Tok} {s : Sg} {Ls : List (Nat × List Value)} {Ts : List (List Value × Tree)} (F : Fr w0 w R g c ts s Ls Ts) : w0.heap.size ≤ w.heap.size := St.size F.st
theorem Fr.call {w0 w w' : World} {R g c : Nat} {ts : List Tok} {s s' : Sg} {Ls : List (Nat × List Value)} {Ts : List (List Value × Tree)} (F : Fr w0 w R g c ts s Ls Ts) (hr : Rd w' R g c ts s') (hs : St w w' R) : Fr w0 w' R g c ts s' Ls Ts :=
 ⟨hr, St.trans F.st hs, fun L cs h => ⟨St.blk hs (F.bl L cs h).1 (by have := (F.bl L cs h).2; have := F.hR; omega), (F.bl L cs h).2⟩, fun cs t h => (F.tr cs t h).keep (fun k hk hl => World.grownBy.block hs k hl (fun e => by injection e with e; have := F.hR; have := hk.1; omega)) fun k hk _ => hk, F.hR, F.nd⟩
theorem Fr.quiet {w0 w w' : World} {R g c : Nat} {ts : List Tok} {s : Sg} {Ls : List (Nat × List Value)} {Ts : List (List Value × Tree)} (F : Fr w0 w R g c ts s Ls Ts) (hg : g < R) (hb : Below w.heap.size w w') : Fr w0 w' R g c ts s Ls Ts :=
 F.call (F.rd.below hg hb F.rd.lt) (St.of_below hb)
theorem Fr.alloc {w0 w : World} {R g c : Nat} {ts : List Tok} {s : Sg} {Ls : List (Nat × List Value)} {Ts : List (List Value × Tree)} (F : Fr w0 w R g c ts s Ls Ts) (hg : g < R) (o : Obj) : Fr w0 (w.alloc o) R g c ts s Ls Ts :=
 F.quiet hg ((Below.refl w.heap.size w).alloc (Nat.le_refl _) o)
theorem Fr.node {w0 w : World} {R g c : Nat} {ts : List Tok} {s : Sg} {Ls : List (Nat × List Value)} {Ts : List (List Value × Tree)} (F : Fr w0 w R g c ts s Ls Ts) (hg : g < R) (cs : List Value) : Fr w0 (w.alloc (.cells cs.toArray 27)) R g c ts s ((w.heap.size, cs) :: Ls) Ts := by
 have F1 := F.alloc hg (.cells cs.toArray 27)
 refine ⟨F1.rd, F1.st, fun L xs h => ?_, fun xs t h => (F.tr xs t h).keep (fun k _ hk => Below.heap_alloc w _ k hk) fun k hk hl => ⟨hk.1, fun L ys hL => ?_⟩, F1.hR, ?_⟩
 ·rcases List.mem_cons.1 h with h | h
  ·injection h with h1 h2
   subst h1 h2
   exact ⟨Blk.alloc _ _ _, F.size⟩
  ·exact F1.bl L xs h
 ·rcases List.mem_cons.1 hL with h1 | h1
  ·injection h1 with h2 h3
   omega
  ·exact hk.2 L ys h1
 ·rw [List.map_cons, List.nodup_cons]
  refine ⟨fun h => ?_, F.nd⟩
  obtain ⟨⟨L, xs⟩, h1, h2⟩ := List.mem_map.1 h
  have := (F.bl L xs h1).1.lt
  simp only at h2
  omega
theorem Fr.lt {w0 w : World} {R g c : Nat} {ts : List Tok} {s : Sg} {Ls : List (Nat × List Value)} {Ts : List (List Value × Tree)} (F : Fr w0 w R g c ts s Ls Ts) {L : Nat} {cs : List Value} (h : (L, cs) ∈ Ls) : L < w.heap.size := (F.bl L cs h).1.lt
theorem Fr.tree {w0 w w' : World} {R g c : Nat} {ts : List Tok} {s s' : Sg} {Ls : List (Nat × List Value)} {Ts : List (List Value × Tree)} (F : Fr w0 w R g c ts s Ls Ts) {cs : List Value} {t : Tree} (ht : TreeAt w' (w.heap.size ≤ ·) cs t) (hr : Rd w' R g c ts s') (hs : St w w' R) : Fr w0 w' R g c ts s' Ls ((cs, t) :: Ts) := by
 have F1 := F.call hr hs
 refine ⟨F1.rd, F1.st, F1.bl, fun xs u h => ?_, F1.hR, F1.nd⟩
 rcases List.mem_cons.1 h with h | h
 ·injection h with h1 h2
  subst h1 h2
  exact ht.mono fun q hq _ => ⟨Nat.le_trans F.size hq, fun L ys hL => by have := F.lt hL; omega⟩
 ·exact F1.tr xs u h
theorem Fr.set {w0 w : World} {R g c : Nat} {ts : List Tok} {s : Sg} {Ls Ls' : List (Nat × List Value)} {Ts : List (List Value × Tree)} (F : Fr w0 w R g c ts s Ls Ts) (hg : g < R) (L i : Nat) (cs : List Value) (hL : (L, cs) ∈ Ls) (v : Value)
  (hnd : (Ls'.map (·.1)).Nodup) (hLs : ∀ M xs, (M, xs) ∈ Ls' → (M = L ∧ xs = cs.set i v) ∨ (M ≠ L ∧ (M, xs) ∈ Ls)) : Fr w0 (w.setCell ⟨L, i, none⟩ v) R g c ts s Ls' Ts := by
 have hb := F.bl L cs hL
 have hR := F.hR
 refine ⟨F.rd.set_other hg (by show R < L; omega) v, St.setCell F.st hb.2 v, fun M xs h => ?_, fun xs t h => (F.tr xs t h).keep (fun k hk _ => Below.heap_setCell _ _ _ _ (hk.2 L cs hL)) fun k hk _ => ⟨hk.1, fun M ys hM => ?_⟩, F.hR, hnd⟩
 ·rcases hLs M xs h with ⟨rfl, rfl⟩ | ⟨h1, h2⟩
  ·exact ⟨hb.1.set i v, hb.2⟩
  ·exact ⟨(F.bl M xs h2).1.set_other h1 v, (F.bl M xs h2).2⟩
 ·rcases hLs M ys hM with ⟨rfl, rfl⟩ | ⟨h1, h2⟩
  ·exact hk.2 _ cs hL
  ·exact hk.2 M ys h2
theorem Fr.stor {w0 w : World} {R g c : Nat} {ts : List Tok} {s : Sg} {Ls Ls' : List (Nat × List Value)} {Ts : List (List Value × Tree)} (F : Fr w0 w R g c ts s Ls Ts) (hg : g < R) (L : Nat) (cs : List Value) (hL : (L, cs) ∈ Ls) (hl : cs.length = 11) (x0 x1 x2 x3 x4 x5 x6 x7 x8 x9 x10 : Value)
  (hnd : (Ls'.map (·.1)).Nodup) (hLs : ∀ M xs, (M, xs) ∈ Ls' → (M = L ∧ xs = [x0, x1, x2, x3, x4, x5, x6, x7, x8, x9, x10]) ∨ (M ≠ L ∧ (M, xs) ∈ Ls)) : Fr w0 (stor11 w L x0 x1 x2 x3 x4 x5 x6 x7 x8 x9 x10) R g c ts s Ls' Ts := by
 have hb := F.bl L cs hL
 have hR := F.hR
 refine ⟨F.rd.stor11 hg (by omega) _ _ _ _ _ _ _ _ _ _ _, F.st.stor11 hb.2 _ _ _ _ _ _ _ _ _ _ _, fun M xs h => ?_, fun xs t h => (F.tr xs t h).keep (fun k hk _ => stor11_other _ (hk.2 L cs hL) _ _ _ _ _ _ _ _ _ _ _) fun k hk _ => ⟨hk.1, fun M ys hM => ?_⟩, F.hR, hnd⟩
 ·rcases hLs M xs h with ⟨rfl, rfl⟩ | ⟨h1, h2⟩
  ·exact ⟨hb.1.stor11 hl _ _ _ _ _ _ _ _ _ _ _, hb.2⟩
  ·exact ⟨(stor11_other _ h1 _ _ _ _ _ _ _ _ _ _ _).trans (F.bl M xs h2).1, (F.bl M xs h2).2⟩
 ·rcases hLs M ys hM with ⟨rfl, rfl⟩ | ⟨h1, h2⟩
  ·exact hk.2 _ cs hL
  ·exact hk.2 M ys h2
theorem Fr.kids {w0 w : World} {R g c : Nat} {ts : List Tok} {s : Sg} {Ls : List (Nat × List Value)} {Ts : List (List Value × Tree)} (F : Fr w0 w R g c ts s Ls Ts) (hg : g < R) (C : Nat → List Value) (ks : List Tree) (hC : ∀ i (h : i < ks.length), (C i, ks[i]) ∈ Ts) (hn : ks.length ≤ 1000) (cs : List Value) (hcs : cs = flat C ks.length) (l : Lab) :
  Fr w0 (w.alloc (.cells cs.toArray 27)) R g c ts s Ls ((lcells l (.slice (some ⟨w.heap.size, 0, none⟩) ks.length ks.length), .node l ks) :: Ts) := by
 have F1 := F.alloc hg (.cells cs.toArray 27)
 refine ⟨F1.rd, F1.st, F1.bl, fun xs t h => ?_, F1.hR, F1.nd⟩
 rcases List.mem_cons.1 h with h | h
 ·injection h with h1 h2
  subst h1 h2
  subst hcs
  refine .mk _ l ⟨w.heap.size, 0, none⟩ _ _ C ks rfl (Nat.le_refl _) (by unfold maxLen; omega) (fun _ => ⟨F.size, fun L ys hL => by have := F.lt hL; show w.heap.size ≠ L; omega⟩) (fun i hi j hj => ?_) fun i hi => ?_
  ·have hB := Blk.alloc w 27 (flat C ks.length)
   have ha : (⟨w.heap.size, 0, none⟩ : Addr).add (i * 11 + j) = ⟨w.heap.size, i * 11 + j, none⟩ := by unfold Addr.add; split <;> simp_all
   rw [ha, hB.cell, flat_get _ (fun i hi => (F.tr _ _ (hC i hi)).length) i j hi hj]
  ·exact (F.tr _ _ (hC i hi)).keep (fun k _ hk => Below.heap_alloc w _ k hk) fun _ h _ => h
 ·exact F1.tr xs t h
theorem Fr.leaf {w0 w : World} {R g c : Nat} {ts : List Tok} {s : Sg} {Ls : List (Nat × List Value)} {Ts : List (List Value × Tree)} (F : Fr w0 w R g c ts s Ls Ts) (l : Lab) : Fr w0 w R g c ts s Ls ((lcells l (.slice none 0 0), .node l []) :: Ts) := by
 refine ⟨F.rd, F.st, F.bl, fun xs t h => ?_, F.hR, F.nd⟩
 rcases List.mem_cons.1 h with h | h
 ·injection h with h1 h2
  subst h1 h2
  exact .nil _ l
 ·exact F.tr xs t h
theorem Fr.done {w0 w : World} {R g c : Nat} {ts : List Tok} {s : Sg} {Ls : List (Nat × List Value)} {Ts : List (List Value × Tree)} (F : Fr w0 w R g c ts s Ls Ts) (hg : g < R) {L : Nat} {cs : List Value} (hL : (L, cs) ∈ Ls) {x0 x1 x2 x3 x4 x5 x6 x7 x8 x9 x10 : Value} {t : Tree} (ht : ([x0, x1, x2, x3, x4, x5, x6, x7, x8, x9, x10], t) ∈ Ts) :
  TP w0 R g c ts (t, s) (.returned (.agg #[x0, x1, x2, x3, x4, x5, x6, x7, x8, x9, x10])) (stor11 w L x0 x1 x2 x3 x4 x5 x6 x7 x8 x9 x10) := by
 have hb := F.bl L cs hL
 have hR := F.hR
 have hT := (F.tr _ _ ht).keep (Q := (w0.heap.size ≤ ·)) (fun k hk _ => stor11_other w (hk.2 L cs hL) x0 x1 x2 x3 x4 x5 x6 x7 x8 x9 x10) fun k hk _ => hk.1
 obtain ⟨l, x, n, k, hf⟩ := hT.form
 rw [hf] at hT
 refine ⟨l, x, n, k, ?_, hT, F.rd.stor11 hg (by omega) _ _ _ _ _ _ _ _ _ _ _, F.st.stor11 hb.2 _ _ _ _ _ _ _ _ _ _ _⟩
 have := congrArg (fun q : List Value => Ending.returned (.agg q.toArray)) hf
 exact this
section
variable {w0 w : World} {R g c : Nat} {ts : List Tok} {s : Sg} {Ts : List (List Value × Tree)}
theorem Fr.b0 {L : Nat} {cs : List Value} {Ls : List (Nat × List Value)} (F : Fr w0 w R g c ts s ((L, cs) :: Ls) Ts) : Blk w L 27 cs := (F.bl L cs (by simp)).1
theorem Fr.b1 {p : Nat × List Value} {L : Nat} {cs : List Value} {Ls : List (Nat × List Value)} (F : Fr w0 w R g c ts s (p :: (L, cs) :: Ls) Ts) : Blk w L 27 cs := (F.bl L cs (by simp)).1
theorem Fr.b2 {p q : Nat × List Value} {L : Nat} {cs : List Value} {Ls : List (Nat × List Value)} (F : Fr w0 w R g c ts s (p :: q :: (L, cs) :: Ls) Ts) : Blk w L 27 cs := (F.bl L cs (by simp)).1
theorem Fr.b3 {p q r : Nat × List Value} {L : Nat} {cs : List Value} {Ls : List (Nat × List Value)} (F : Fr w0 w R g c ts s (p :: q :: r :: (L, cs) :: Ls) Ts) : Blk w L 27 cs := (F.bl L cs (by simp)).1
theorem nd_ne {M L : Nat} {xs cs : List Value} {Ls : List (Nat × List Value)} (h : (((L, cs) :: Ls).map (·.1)).Nodup) (hm : (M, xs) ∈ Ls) : M ≠ L := by
 rw [List.map_cons, List.nodup_cons] at h
 intro e
 exact h.1 (List.mem_map.2 ⟨(M, xs), hm, e⟩)
theorem Fr.set0 {L : Nat} {cs : List Value} {Ls : List (Nat × List Value)} (F : Fr w0 w R g c ts s ((L, cs) :: Ls) Ts) (hg : g < R) (i : Nat) (v : Value) (cs' : List Value) (h : cs' = cs.set i v) : Fr w0 (w.setCell ⟨L, i, none⟩ v) R g c ts s ((L, cs') :: Ls) Ts := by
 refine F.set hg L i cs (by simp) v F.nd fun M xs hm => ?_
 rcases List.mem_cons.1 hm with hm | hm
 ·injection hm with h1 h2
  exact .inl ⟨h1, h2.trans h⟩
 ·exact .inr ⟨nd_ne F.nd hm, by simp [hm]⟩
theorem Fr.set2 {p q : Nat × List Value} {L : Nat} {cs : List Value} {Ls : List (Nat × List Value)} (F : Fr w0 w R g c ts s (p :: q :: (L, cs) :: Ls) Ts) (hg : g < R) (i : Nat) (v : Value) (cs' : List Value) (h : cs' = cs.set i v) : Fr w0 (w.setCell ⟨L, i, none⟩ v) R g c ts s (p :: q :: (L, cs') :: Ls) Ts := by
 have hnd := F.nd
 rw [List.map_cons, List.nodup_cons, List.map_cons, List.nodup_cons] at hnd
 refine F.set hg L i cs (by simp) v F.nd fun M xs hm => ?_
 rcases List.mem_cons.1 hm with hm | hm
 ·refine .inr ⟨fun e => hnd.1 ?_, by simp [hm]⟩
  rw [← hm, e]
  simp
 ·rcases List.mem_cons.1 hm with hm | hm
  ·refine .inr ⟨fun e => hnd.2.1 ?_, by simp [hm]⟩
   rw [← hm, e]
   simp
  ·rcases List.mem_cons.1 hm with hm | hm
   ·injection hm with h1 h2
    exact .inl ⟨h1, h2.trans h⟩
   ·exact .inr ⟨nd_ne hnd.2.2 hm, by simp [hm]⟩
theorem Fr.stor0 {L : Nat} {cs : List Value} {Ls : List (Nat × List Value)} (F : Fr w0 w R g c ts s ((L, cs) :: Ls) Ts) (hg : g < R) (hl : cs.length = 11) (x0 x1 x2 x3 x4 x5 x6 x7 x8 x9 x10 : Value) : Fr w0 (stor11 w L x0 x1 x2 x3 x4 x5 x6 x7 x8 x9 x10) R g c ts s ((L, [x0, x1, x2, x3, x4, x5, x6, x7, x8, x9, x10]) :: Ls) Ts := by
 refine F.stor hg L cs (by simp) hl x0 x1 x2 x3 x4 x5 x6 x7 x8 x9 x10 F.nd fun M xs hm => ?_
 rcases List.mem_cons.1 hm with hm | hm
 ·injection hm with h1 h2
  exact .inl ⟨h1, h2⟩
 ·exact .inr ⟨nd_ne F.nd hm, by simp [hm]⟩
theorem Fr.kids1 {Ls : List (Nat × List Value)} (F : Fr w0 w R g c ts s Ls Ts) (hg : g < R) {c1 : List Value} {t1 : Tree} (h1 : (c1, t1) ∈ Ts) (l : Lab) : Fr w0 (w.alloc (.cells c1.toArray 27)) R g c ts s Ls ((lcells l (.slice (some ⟨w.heap.size, 0, none⟩) 1 1), .node l [t1]) :: Ts) :=
 F.kids hg (fun _ => c1) [t1] (fun i hi => by simp at hi; subst hi; exact h1) (by simp) c1 (by simp [flat]) l
theorem Fr.kids2 {Ls : List (Nat × List Value)} (F : Fr w0 w R g c ts s Ls Ts) (hg : g < R) {c1 c2 : List Value} {t1 t2 : Tree} (h1 : (c1, t1) ∈ Ts) (h2 : (c2, t2) ∈ Ts) (l : Lab) (cs : List Value) (hcs : cs = c1 ++ c2) : Fr w0 (w.alloc (.cells cs.toArray 27)) R g c ts s Ls ((lcells l (.slice (some ⟨w.heap.size, 0, none⟩) 2 2), .node l [t1, t2]) :: Ts) :=
 F.kids hg (fun i => if i = 0 then c1 else c2) [t1, t2] (fun i hi => by
  simp at hi
  match i, hi with
  | 0, _ => exact h1
  | 1, _ => exact h2) (by simp) cs (by rw [hcs]; simp [flat, List.range_succ]) l
theorem Fr.kids3 {Ls : List (Nat × List Value)} (F : Fr w0 w R g c ts s Ls Ts) (hg : g < R) {c1 c2 c3 : List Value} {t1 t2 t3 : Tree} (h1 : (c1, t1) ∈ Ts) (h2 : (c2, t2) ∈ Ts) (h3 : (c3, t3) ∈ Ts) (l : Lab) (cs : List Value) (hcs : cs = c1 ++ (c2 ++ c3)) : Fr w0 (w.alloc (.cells cs.toArray 27)) R g c ts s Ls ((lcells l (.slice (some ⟨w.heap.size, 0, none⟩) 3 3), .node l [t1, t2, t3]) :: Ts) :=
 F.kids hg (fun i => if i = 0 then c1 else if i = 1 then c2 else c3) [t1, t2, t3] (fun i hi => by
  simp at hi
  match i, hi with
  | 0, _ => exact h1
  | 1, _ => exact h2
  | 2, _ => exact h3) (by simp) cs (by rw [hcs]; simp [flat, List.range_succ]) l
theorem Fr.kidz1 {Ls : List (Nat × List Value)} (F : Fr w0 w R g c ts s Ls Ts) (hg : g < R) (H : Nat) (hH : w.heap.size = H) {c1 : List Value} {t1 : Tree} (h1 : (c1, t1) ∈ Ts) (l : Lab) : Fr w0 (w.alloc (.cells c1.toArray 27)) R g c ts s Ls ((lcells l (.slice (some ⟨H, 0, none⟩) 1 1), .node l [t1]) :: Ts) := by
 subst hH; exact F.kids1 hg h1 l
theorem Fr.kidz2 {Ls : List (Nat × List Value)} (F : Fr w0 w R g c ts s Ls Ts) (hg : g < R) (H : Nat) (hH : w.heap.size = H) {c1 c2 : List Value} {t1 t2 : Tree} (h1 : (c1, t1) ∈ Ts) (h2 : (c2, t2) ∈ Ts) (l : Lab) (cs : List Value) (hcs : cs = c1 ++ c2) : Fr w0 (w.alloc (.cells cs.toArray 27)) R g c ts s Ls ((lcells l (.slice (some ⟨H, 0, none⟩) 2 2), .node l [t1, t2]) :: Ts) := by
 subst hH; exact F.kids2 hg h1 h2 l cs hcs
theorem Fr.kidz3 {Ls : List (Nat × List Value)} (F : Fr w0 w R g c ts s Ls Ts) (hg : g < R) (H : Nat) (hH : w.heap.size = H) {c1 c2 c3 : List Value} {t1 t2 t3 : Tree} (h1 : (c1, t1) ∈ Ts) (h2 : (c2, t2) ∈ Ts) (h3 : (c3, t3) ∈ Ts) (l : Lab) (cs : List Value) (hcs : cs = c1 ++ (c2 ++ c3)) : Fr w0 (w.alloc (.cells cs.toArray 27)) R g c ts s Ls ((lcells l (.slice (some ⟨H, 0, none⟩) 3 3), .node l [t1, t2, t3]) :: Ts) := by
 subst hH; exact F.kids3 hg h1 h2 h3 l cs hcs
theorem Fr.drewN {Ls : List (Nat × List Value)} (F : Fr w0 w R g c ts s Ls Ts) (n : Nat) : Fr w0 (w.drewN n) R g c ts s Ls Ts :=
 ⟨F.rd.drewN n, St.drewN F.st n, F.bl, fun cs t h => (F.tr cs t h).keep (fun _ _ _ => rfl) fun _ hk _ => hk, F.hR, F.nd⟩
theorem Fr.drew {Ls : List (Nat × List Value)} (F : Fr w0 w R g c ts s Ls Ts) : Fr w0 w.drew R g c ts s Ls Ts := F.drewN 1
theorem Fr.keepT {Ls : List (Nat × List Value)} {Ts' : List (List Value × Tree)} (F : Fr w0 w R g c ts s Ls Ts) (h : ∀ p, p ∈ Ts' → p ∈ Ts) : Fr w0 w R g c ts s Ls Ts' := ⟨F.rd, F.st, F.bl, fun cs t ht => F.tr cs t (h _ ht), F.hR, F.nd⟩
theorem Fr.advR {Ls : List (Nat × List Value)} (F : Fr w0 w R g c ts s Ls Ts) (hg : g < R) (h0 : s.bad = false ∧ s.i < ts.length) {v : Int} (hv : v = (s.i : Int) + 1) : Fr w0 (w.setCell ⟨R, 1, none⟩ (.int .i64 v)) R g c ts (adv s) Ls Ts := by
 have hR := F.hR
 refine ⟨rd_adv' F.rd hg h0 hv, St.setR F.st rfl _, fun L cs h => ?_, fun xs t h => (F.tr xs t h).keep (fun k hk _ => Below.heap_setCell _ _ _ _ (by have := hk.1; show k ≠ R; omega)) fun k hk _ => hk, F.hR, F.nd⟩
 have := F.bl L cs h
 exact ⟨this.1.set_other (by show L ≠ R; omega) _, this.2⟩
theorem Fr.stoR {Ls : List (Nat × List Value)} (F : Fr w0 w R g c ts s Ls Ts) (hg : g < R) {L : Nat} {cs : List Value} (hL : (L, cs) ∈ Ls) (hl : cs.length = 11) (x0 x1 x2 x3 x4 x5 x6 x7 x8 x9 x10 : Value) : Fr w0 (stor11 w L x0 x1 x2 x3 x4 x5 x6 x7 x8 x9 x10) R g c ts s [(L, [x0, x1, x2, x3, x4, x5, x6, x7, x8, x9, x10])] Ts :=
 F.stor hg L cs hL hl x0 x1 x2 x3 x4 x5 x6 x7 x8 x9 x10 (by simp) fun M xs hm => by
  simp at hm
  exact .inl hm
theorem Fr.outT {Ls : List (Nat × List Value)} {cs : List Value} {t : Tree} (F : Fr w0 w R g c ts s Ls ((cs, t) :: Ts)) {T : Tree × Sg} (hT : T = (t, s)) : TP w0 R g c ts T (.returned (.agg cs.toArray)) w := by
 subst hT
 have ht := (F.tr cs t (by simp)).mono (Q := (w0.heap.size ≤ ·)) fun k hk _ => hk.1
 obtain ⟨l, x, n, k, rfl⟩ := ht.form
 exact ⟨l, x, n, k, rfl, ht, F.rd, F.st⟩
end
def atW (w : World) (R : Nat) : Nat := match w.cell? ⟨R, 1, none⟩ with
 | some (.int _ i) => i.toNat
 | _ => 0
theorem atW_rd {w : World} {R g c : Nat} {ts : List Tok} {s : Sg} (h : Rd w R g c ts s) : atW w R = atOf ts s := by
 unfold atW
 rw [h.cells.2.1]
 simp
theorem atOf_adv {ts : List Tok} {s t : Sg} (h : s.bad = false ∧ s.i < ts.length) (ht : On ts (adv s) t) (hi : t.i ≤ ts.length) : atOf ts s < atOf ts t ∧ atOf ts t ≤ ts.length := by
 have h1 := ht.1
 unfold adv at h1
 unfold atOf
 rw [h.1]
 cases t.bad
 ·simp; simp at h1; omega
 ·simp; omega
theorem Fr.l2 {w0 w : World} {R g c : Nat} {ts : List Tok} {s : Sg} {L M : Nat} {cs : List Value} {Ls : List (Nat × List Value)} {Ts : List (List Value × Tree)} (F : Fr w0 w R g c ts s ((L, cs) :: (M, ncz) :: Ls) Ts) : (∀ i, w.cell? ⟨L, i, none⟩ = cs[i]?) ∧ (∀ i, w.frozen? ⟨L, i, none⟩ = false) ∧ L < w.heap.size ∧ (∀ i, w.cell? ⟨M, i, none⟩ = [.int .i64 0, .string ⟨#[]⟩, .int .u64 0, .int .i64 0, .bool false, .int .i64 0, .int .i64 0, .int .i64 0, .int .i64 0, .int .i64 0, .slice none 0 0][i]?) ∧ (∀ i, w.frozen? ⟨M, i, none⟩ = false) ∧ M < w.heap.size := ⟨F.b0.all.1, F.b0.all.2, F.b0.lt, F.b1.all.1, F.b1.all.2, F.b1.lt⟩
theorem Fr.s0 {w0 w : World} {R g c : Nat} {ts : List Tok} {s : Sg} {Ls : List (Nat × List Value)} {Ts : List (List Value × Tree)} {L : Nat} {x0 x1 x2 x3 x4 x5 x6 x7 x8 x9 x10 : Value} (F : Fr w0 w R g c ts s ((L, [x0, x1, x2, x3, x4, x5, x6, x7, x8, x9, x10]) :: Ls) Ts) (hg : g < R) (v : Value) : Fr w0 (w.setCell ⟨L, 0, none⟩ v) R g c ts s ((L, [v, x1, x2, x3, x4, x5, x6, x7, x8, x9, x10]) :: Ls) Ts := F.set0 hg 0 v _ rfl
theorem Fr.s1 {w0 w : World} {R g c : Nat} {ts : List Tok} {s : Sg} {Ls : List (Nat × List Value)} {Ts : List (List Value × Tree)} {L : Nat} {x0 x1 x2 x3 x4 x5 x6 x7 x8 x9 x10 : Value} (F : Fr w0 w R g c ts s ((L, [x0, x1, x2, x3, x4, x5, x6, x7, x8, x9, x10]) :: Ls) Ts) (hg : g < R) (v : Value) : Fr w0 (w.setCell ⟨L, 1, none⟩ v) R g c ts s ((L, [x0, v, x2, x3, x4, x5, x6, x7, x8, x9, x10]) :: Ls) Ts := F.set0 hg 1 v _ rfl
theorem Fr.s2 {w0 w : World} {R g c : Nat} {ts : List Tok} {s : Sg} {Ls : List (Nat × List Value)} {Ts : List (List Value × Tree)} {L : Nat} {x0 x1 x2 x3 x4 x5 x6 x7 x8 x9 x10 : Value} (F : Fr w0 w R g c ts s ((L, [x0, x1, x2, x3, x4, x5, x6, x7, x8, x9, x10]) :: Ls) Ts) (hg : g < R) (v : Value) : Fr w0 (w.setCell ⟨L, 2, none⟩ v) R g c ts s ((L, [x0, x1, v, x3, x4, x5, x6, x7, x8, x9, x10]) :: Ls) Ts := F.set0 hg 2 v _ rfl
theorem Fr.s3 {w0 w : World} {R g c : Nat} {ts : List Tok} {s : Sg} {Ls : List (Nat × List Value)} {Ts : List (List Value × Tree)} {L : Nat} {x0 x1 x2 x3 x4 x5 x6 x7 x8 x9 x10 : Value} (F : Fr w0 w R g c ts s ((L, [x0, x1, x2, x3, x4, x5, x6, x7, x8, x9, x10]) :: Ls) Ts) (hg : g < R) (v : Value) : Fr w0 (w.setCell ⟨L, 3, none⟩ v) R g c ts s ((L, [x0, x1, x2, v, x4, x5, x6, x7, x8, x9, x10]) :: Ls) Ts := F.set0 hg 3 v _ rfl
theorem Fr.s4 {w0 w : World} {R g c : Nat} {ts : List Tok} {s : Sg} {Ls : List (Nat × List Value)} {Ts : List (List Value × Tree)} {L : Nat} {x0 x1 x2 x3 x4 x5 x6 x7 x8 x9 x10 : Value} (F : Fr w0 w R g c ts s ((L, [x0, x1, x2, x3, x4, x5, x6, x7, x8, x9, x10]) :: Ls) Ts) (hg : g < R) (v : Value) : Fr w0 (w.setCell ⟨L, 4, none⟩ v) R g c ts s ((L, [x0, x1, x2, x3, v, x5, x6, x7, x8, x9, x10]) :: Ls) Ts := F.set0 hg 4 v _ rfl
theorem Fr.s5 {w0 w : World} {R g c : Nat} {ts : List Tok} {s : Sg} {Ls : List (Nat × List Value)} {Ts : List (List Value × Tree)} {L : Nat} {x0 x1 x2 x3 x4 x5 x6 x7 x8 x9 x10 : Value} (F : Fr w0 w R g c ts s ((L, [x0, x1, x2, x3, x4, x5, x6, x7, x8, x9, x10]) :: Ls) Ts) (hg : g < R) (v : Value) : Fr w0 (w.setCell ⟨L, 5, none⟩ v) R g c ts s ((L, [x0, x1, x2, x3, x4, v, x6, x7, x8, x9, x10]) :: Ls) Ts := F.set0 hg 5 v _ rfl
theorem Fr.s6 {w0 w : World} {R g c : Nat} {ts : List Tok} {s : Sg} {Ls : List (Nat × List Value)} {Ts : List (List Value × Tree)} {L : Nat} {x0 x1 x2 x3 x4 x5 x6 x7 x8 x9 x10 : Value} (F : Fr w0 w R g c ts s ((L, [x0, x1, x2, x3, x4, x5, x6, x7, x8, x9, x10]) :: Ls) Ts) (hg : g < R) (v : Value) : Fr w0 (w.setCell ⟨L, 6, none⟩ v) R g c ts s ((L, [x0, x1, x2, x3, x4, x5, v, x7, x8, x9, x10]) :: Ls) Ts := F.set0 hg 6 v _ rfl
theorem Fr.s10 {w0 w : World} {R g c : Nat} {ts : List Tok} {s : Sg} {Ls : List (Nat × List Value)} {Ts : List (List Value × Tree)} {L : Nat} {x0 x1 x2 x3 x4 x5 x6 x7 x8 x9 x10 : Value} (F : Fr w0 w R g c ts s ((L, [x0, x1, x2, x3, x4, x5, x6, x7, x8, x9, x10]) :: Ls) Ts) (hg : g < R) (v : Value) : Fr w0 (w.setCell ⟨L, 10, none⟩ v) R g c ts s ((L, [x0, x1, x2, x3, x4, x5, x6, x7, x8, x9, v]) :: Ls) Ts := F.set0 hg 10 v _ rfl
end Go.Proofs.YthdbaligapdbeaaGreatDoor
/- The kids of a tree in memory, for reading. -/
namespace Go.Proofs.YthdbaligapdbeaaGreatDoor
open Go Go.RowKit
set_option linter.unusedVariables false

def KidAt (w : World) (P : Nat → Prop) (a : Addr) (i : Nat) (t : Tree) : Prop := ∃ (l : Lab) (x : Option Addr) (n k : Nat),
 (w.cell? (a.add (i * 11)) = some (.int .i64 l.kind) ∧ w.cell? ⟨(a.add (i * 11)).block, (a.add (i * 11)).off + 1, none⟩ = some (.string (str l.name)) ∧ w.cell? ⟨(a.add (i * 11)).block, (a.add (i * 11)).off + 2, none⟩ = some (.int .u64 l.num) ∧
  w.cell? ⟨(a.add (i * 11)).block, (a.add (i * 11)).off + 3, none⟩ = some (.int .i64 l.wd) ∧ w.cell? ⟨(a.add (i * 11)).block, (a.add (i * 11)).off + 4, none⟩ = some (.bool l.sg) ∧ w.cell? ⟨(a.add (i * 11)).block, (a.add (i * 11)).off + 5, none⟩ = some (.int .i64 l.op) ∧
  w.cell? ⟨(a.add (i * 11)).block, (a.add (i * 11)).off + 6, none⟩ = some (.int .i64 l.fac) ∧ w.cell? ⟨(a.add (i * 11)).block, (a.add (i * 11)).off + 7, none⟩ = some (.int .i64 l.pip) ∧ w.cell? ⟨(a.add (i * 11)).block, (a.add (i * 11)).off + 8, none⟩ = some (.int .i64 l.unr) ∧
  w.cell? ⟨(a.add (i * 11)).block, (a.add (i * 11)).off + 9, none⟩ = some (.int .i64 l.line) ∧ w.cell? ⟨(a.add (i * 11)).block, (a.add (i * 11)).off + 10, none⟩ = some (.slice x n k)) ∧
 TreeAt w P [.int .i64 l.kind, .string (str l.name), .int .u64 l.num, .int .i64 l.wd, .bool l.sg, .int .i64 l.op, .int .i64 l.fac, .int .i64 l.pip, .int .i64 l.unr, .int .i64 l.line, .slice x n k] t
theorem KidAt.keep {w w' : World} {P Q : Nat → Prop} {a : Addr} {i : Nat} {t : Tree} (h : KidAt w P a i t) (ha : P a.block) (hs : ∀ g, P g → g < w.heap.size → w'.heap[g]? = w.heap[g]?) (hq : ∀ g, P g → g < w.heap.size → Q g) : KidAt w' Q a i t := by
 obtain ⟨l, x, n, k, ⟨e0, e1, e2, e3, e4, e5, e6, e7, e8, e9, e10⟩, hT⟩ := h
 have hbb : (a.add (i * 11)).block = a.block := add_block _ _
 have hlt : a.block < w.heap.size := by have := cell_block_lt e0; rw [hbb] at this; exact this
 have hblk := hs a.block ha hlt
 have same : ∀ (q : Addr) (v : Value), q.block = a.block → w.cell? q = some v → w'.cell? q = some v := fun q v hq hv => (cell_same (w := w) (w' := w') (by rw [hq]; exact hblk)).trans hv
 exact ⟨l, x, n, k, ⟨same _ _ hbb e0, same _ _ hbb e1, same _ _ hbb e2, same _ _ hbb e3, same _ _ hbb e4, same _ _ hbb e5, same _ _ hbb e6, same _ _ hbb e7, same _ _ hbb e8, same _ _ hbb e9, same _ _ hbb e10⟩, hT.keep hs hq⟩
theorem add_off (a : Addr) (i j : Nat) : a.add (i + (j + 1)) = ⟨(a.add i).block, (a.add i).off + (j + 1), none⟩ := by
 rw [← Go.Deep.add_add]
 unfold Addr.add
 rw [if_neg (by omega)]
def kat (ks : List Tree) (i : Nat) : Tree := ks.getD i tree0
theorem kat_get {ks : List Tree} {i : Nat} (h : i < ks.length) : kat ks i = ks[i] := by simp [kat, List.getD, h]
theorem drop_kat {ks : List Tree} {i : Nat} (h : i < ks.length) : ks.drop i = kat ks i :: ks.drop (i + 1) := by rw [kat_get h]; exact List.drop_eq_getElem_cons h
theorem TreeAt.kids {w : World} {P : Nat → Prop} {cs : List Value} {l : Lab} {ks : List Tree} (h : TreeAt w P cs (.node l ks)) :
  ∃ (x : Option Addr) (k : Nat), cs = lcells l (.slice x ks.length k) ∧ ks.length ≤ k ∧ k ≤ maxLen ∧ ∀ i (hi : i < ks.length), ∃ a, x = some a ∧ P a.block ∧ KidAt w P a i (kat ks i) := by
 cases h with
 | nil => exact ⟨none, 0, rfl, by simp, by unfold maxLen; omega, fun i hi => by simp at hi⟩
 | mk _ a n cap C _ hn hc hm hP hcell hk =>
  subst hn
  refine ⟨some a, cap, rfl, hc, hm, fun i hi => ⟨a, rfl, hP (by omega), ?_⟩⟩
  have hT := hk i hi
  rw [← kat_get hi] at hT
  obtain ⟨l2, x2, n2, k2, hf⟩ := hT.form
  rw [hf] at hT
  have hcs := hcell i hi
  rw [hf] at hcs
  refine ⟨l2, x2, n2, k2, ⟨hcs 0 (by omega), ?_, ?_, ?_, ?_, ?_, ?_, ?_, ?_, ?_, ?_⟩, hT⟩
  ·exact add_off a (i * 11) 0 ▸ hcs 1 (by omega)
  ·exact add_off a (i * 11) 1 ▸ hcs 2 (by omega)
  ·exact add_off a (i * 11) 2 ▸ hcs 3 (by omega)
  ·exact add_off a (i * 11) 3 ▸ hcs 4 (by omega)
  ·exact add_off a (i * 11) 4 ▸ hcs 5 (by omega)
  ·exact add_off a (i * 11) 5 ▸ hcs 6 (by omega)
  ·exact add_off a (i * 11) 6 ▸ hcs 7 (by omega)
  ·exact add_off a (i * 11) 7 ▸ hcs 8 (by omega)
  ·exact add_off a (i * 11) 8 ▸ hcs 9 (by omega)
  ·exact add_off a (i * 11) 9 ▸ hcs 10 (by omega)



mutual
def wIn (left lv : Nat) : Tree → Bool × Nat
 | .node _ ks => if left = 0 ∨ lv = 0 then (false, left) else wIns (left - 1) (lv - 1) ks
def wIns (left lv : Nat) : List Tree → Bool × Nat
 | [] => (true, left)
 | t :: r => if (wIn left lv t).1 then wIns (wIn left lv t).2 lv r else (false, (wIn left lv t).2)
end
end Go.Proofs.YthdbaligapdbeaaGreatDoor
