/- The reader's next token: contract. -/
import Derived.Test.YtkliclihpobmiaaGreatDoorMgPsPut
import Derived.BigRegion
import Derived.Deep.QuietTactic
import Derived.BigQuiet
import Derived.Deep.RegionHeld3
import Derived.Laws.ResultCell
import Derived.Test.YtkliclihpobmiaaGreatDoorMgLxType
import Derived.Deep.Slices
import Derived.Deep.RegionWith
import Derived.Test.YtkliclihpobmiaaGreatDoorMgLxTk0
namespace Go.Proofs.YtkliclihpobmiaaGreatDoor
open Go Go.RowKit
set_option linter.unusedVariables false

def tkv (t : Tok) : Value := .agg #[.int .i64 (t.kind : Int), .string (str t.text), .int .u64 (t.num : Int), .int .i64 (t.pos : Int), .int .i64 (t.line : Int)]
def tkz : List Value := [.int .i64 0, .string ⟨#[]⟩, .int .u64 0, .int .i64 0, .int .i64 0]
theorem infoTk : (Tryz.prog.info? 53).map (·.size) = some 5 := by kernel_rfl
theorem nxt_end {ts : List Tok} {s : Sg} (h : atOf ts s = ts.length) (hi : s.i ≤ ts.length) : nxt ts s = ⟨0, [], 0, 0, 0⟩ := by
 unfold atOf at h
 unfold nxt
 cases hb : s.bad with
 | true => rfl
 | false =>
  rw [hb] at h
  simp only [Bool.false_eq_true, if_false] at h ⊢
  exact tat_out (by omega)
theorem nxt_in {ts : List Tok} {s : Sg} (h : ¬ atOf ts s = ts.length) : nxt ts s = tat ts (atOf ts s) := by
 unfold atOf at h ⊢
 unfold nxt
 cases hb : s.bad with
 | true => rw [hb] at h; exact absurd rfl h
 | false => rfl
theorem atOf_le {ts : List Tok} {s : Sg} (hi : s.i ≤ ts.length) : atOf ts s ≤ ts.length := by
 unfold atOf
 split <;> omega

set_option maxHeartbeats 1000000 in
set_option maxRecDepth 100000 in
theorem next_any {ts : List Tok} {R g c : Nat} (X : Ctx ts R g c) {s : Sg} (w : World) (hR : Rd w R g c ts s) : Calls Tryz.prog 56 #[.pointer (some ⟨R, 0, none⟩)] w fun e w' => e = .returned (tkv (nxt ts s)) ∧ Below w.heap.size w w' := by
 have hle := atOf_le (ts := ts) hR.hi
 have hlen := X.len
 have hcap := X.cap
 have hb := (Below.refl w.heap.size w).alloc (Nat.le_refl _) (.cells tkz.toArray 53)
 have hK := Blk.alloc w 53 tkz
 have HK := Hd fun n => (show Blk ((w.alloc (.cells tkz.toArray 53)).drewN n) w.heap.size 53 tkz from hK)
 have HB := Hd fun n => (⟨hb.os, hb.tape, hb.output, hb.size, hb.block⟩ : Below w.heap.size w ((w.alloc (.cells tkz.toArray 53)).drewN n))
 clear hb hK
 obtain ⟨c0, c1, c2, f1, f2⟩ := hR.cells
 have hlt := hR.lt
 by_cases h : atOf ts s = ts.length
 ·have hx := nxt_end h hR.hi
  rw [hx]
  have q : ((atOf ts s : Int) == (ts.length : Int)) = true := by simp [h]
  clear hR X h hx
  generalize atOf ts s = A at *
  generalize badOf ts s = Bd at *
  generalize ts.length = N at *
  go_enter Tryz.func56, Tryz.ntmps56
  go_wp2
  go_quiet (fail)
  go_wp2
  refine bodyPost_ret (((HK.out _).stor5 rfl _ _ _ _ _).res1 Tryz.results56 Tryz.underlying53 rfl infoTk _ rfl) rfl ?_
  exact ⟨rfl, below_stor5 (HB.out _) (Nat.le_refl _) _ _ _ _ _⟩
 ·have hx := nxt_in h
  rw [hx]
  have q : ((atOf ts s : Int) == (ts.length : Int)) = false := by simp; omega
  obtain ⟨d0, d1, d2, d3, d4⟩ := hR.tk.2 (atOf ts s) (by omega)
  have hlt2 := hR.tk.1
  have hA : (atOf ts s : Int) < (ts.length : Int) := by omega
  have hgR := X.lt
  clear hR X h hx
  generalize atOf ts s = A at *
  generalize badOf ts s = Bd at *
  generalize ts.length = N at *
  generalize tat ts A = T at *
  go_enter Tryz.func56, Tryz.ntmps56
  go_wp2
  go_quiet (fail)
  go_wp2
  go_region
  go_wp2
  refine bodyPost_ret (((HK.out _).stor5 rfl _ _ _ _ _).res1 Tryz.results56 Tryz.underlying53 rfl infoTk _ rfl) rfl ?_
  exact ⟨rfl, below_stor5 (HB.out _) (Nat.le_refl _) _ _ _ _ _⟩
end Go.Proofs.YtkliclihpobmiaaGreatDoor
/- The reader's fail, skip and expect: contracts. -/
namespace Go.Proofs.YtkliclihpobmiaaGreatDoor
open Go Go.RowKit
set_option linter.unusedVariables false

theorem Rd.drewN {w : World} {R g c : Nat} {ts : List Tok} {s : Sg} (h : Rd w R g c ts s) (n : Nat) : Rd (w.drewN n) R g c ts s := ⟨h.blk, h.tk, h.hi, h.env.of_blocks (fun _ _ => rfl) (Nat.le_refl _)⟩
theorem Rd.setR {w : World} {R g c : Nat} {ts : List Tok} {s : Sg} (h : Rd w R g c ts s) (hg : g < R) (i : Nat) (v : Value) : Blk (w.setCell ⟨R, i, none⟩ v) R 47 ([.slice (some ⟨g, 0, none⟩) ts.length c, .int .i64 (atOf ts s : Int), .int .i64 (badOf ts s : Int)].set i v) ∧ TkIn (w.setCell ⟨R, i, none⟩ v) g ts :=
 ⟨h.blk.set i v, h.tk.of_block (Below.heap_setCell _ _ _ _ (by show g ≠ R; omega))⟩
theorem Env.setR {w : World} {R g : Nat} (h : Env w g) (hg : g < R) (i : Nat) (v : Value) : Env (w.setCell ⟨R, i, none⟩ v) g :=
 h.of_blocks (fun k hk => Below.heap_setCell _ _ _ _ (by show k ≠ R; omega)) (by rw [size_setCell]; exact Nat.le_refl _)
theorem Rd.failed {w : World} {R g c : Nat} {ts : List Tok} {s : Sg} (h : Rd w R g c ts s) (hg : g < R) (h0 : s.bad = false) : Rd ((w.setCell ⟨R, 2, none⟩ (.int .i64 ((tat ts (min s.i (ts.length - 1))).line : Int))).setCell ⟨R, 1, none⟩ (.int .i64 (ts.length : Int))) R g c ts (stop s) := by
 refine ⟨(h.blk.set 2 _).set 1 _, (h.tk.of_block (Below.heap_setCell _ _ _ _ ?_)).of_block (Below.heap_setCell _ _ _ _ ?_), h.hi, (h.env.setR hg _ _).setR hg _ _⟩
 ·show g ≠ R; omega
 ·show g ≠ R; omega
theorem Rd.failed2 {w : World} {R g c : Nat} {ts : List Tok} {s : Sg} (h : Rd w R g c ts s) (hg : g < R) (h0 : s.bad = true) : Rd (w.setCell ⟨R, 1, none⟩ (.int .i64 (ts.length : Int))) R g c ts (stop s) := by
 refine ⟨?_, h.tk.of_block (Below.heap_setCell _ _ _ _ (by show g ≠ R; omega)), h.hi, h.env.setR hg _ _⟩
 have h1 := h.blk.set 1 (.int .i64 (ts.length : Int))
 have e : badOf ts s = badOf ts (stop s) := by unfold badOf stop; rw [h0]
 rw [e] at h1
 exact h1
theorem rd_adv {w : World} {R g c : Nat} {ts : List Tok} {s : Sg} (h : Rd w R g c ts s) (hg : g < R) (h0 : s.bad = false ∧ s.i < ts.length) : Rd (w.setCell ⟨R, 1, none⟩ (.int .i64 ((s.i + 1 : Nat) : Int))) R g c ts (adv s) := by
 refine ⟨?_, h.tk.of_block (Below.heap_setCell _ _ _ _ (by show g ≠ R; omega)), h0.2, h.env.setR hg _ _⟩
 have h1 := h.blk.set 1 (.int .i64 ((s.i + 1 : Nat) : Int))
 have e1 : badOf ts s = badOf ts (Proofs.YtkliclihpobmiaaGreatDoor.adv s) := by unfold badOf Proofs.YtkliclihpobmiaaGreatDoor.adv; rw [h0.1]; rfl
 have e2 : s.i + 1 = atOf ts (Proofs.YtkliclihpobmiaaGreatDoor.adv s) := by unfold atOf Proofs.YtkliclihpobmiaaGreatDoor.adv; rw [h0.1]; rfl
 rw [← e1, ← e2]
 exact h1
theorem rd_adv' {w : World} {R g c : Nat} {ts : List Tok} {s : Sg} (h : Rd w R g c ts s) (hg : g < R) (h0 : s.bad = false ∧ s.i < ts.length) {v : Int} (hv : v = (s.i : Int) + 1) : Rd (w.setCell ⟨R, 1, none⟩ (.int .i64 v)) R g c ts (adv s) := by
 have := rd_adv h hg h0
 rw [show v = ((s.i + 1 : Nat) : Int) by omega]
 exact this
theorem fail_at {ts : List Tok} {R g c : Nat} (X : Ctx ts R g c) {s : Sg} (hi : s.i ≤ ts.length) : min s.i (ts.length - 1) < ts.length := by
 have : 0 < ts.length := List.length_pos_iff.2 X.ne
 omega

set_option maxHeartbeats 1000000 in
set_option maxRecDepth 100000 in
theorem fail_any {ts : List Tok} {R g c : Nat} (X : Ctx ts R g c) {s : Sg} (w : World) (hR : Rd w R g c ts s) : Calls Tryz.prog 131 #[.pointer (some ⟨R, 0, none⟩)] w fun e w' => e = .returned (.tuple #[]) ∧ Rd w' R g c ts (stop s) ∧ St w w' R := by
 have hlen := X.len
 have hlt := hR.lt
 obtain ⟨c0, c1, c2, f1, f2⟩ := hR.cells
 cases hb : s.bad with
 | true =>
  have hbad : 0 < badOf ts s := by
   unfold badOf
   rw [hb, if_pos rfl]
   have h1 := fail_at X hR.hi
   rw [tat_get h1]
   exact (X.line _ (List.getElem_mem h1)).1
  have q : ((badOf ts s : Int) == 0) = false := by simp; omega
  have HF := Hd (Rd.failed2 hR X.lt hb)
  have HS : Hid (St w (w.setCell ⟨R, 1, none⟩ (.int .i64 (ts.length : Int))) R) := St.setR (St.refl _ _) rfl _
  clear X hR hb hbad
  generalize atOf ts s = A at *
  generalize badOf ts s = Bd at *
  generalize ts.length = N at *
  go_enter Tryz.func131, Tryz.ntmps131
  go_wp2
  go_end0
  exact ⟨rfl, HF.out, HS.out⟩
 | false =>
  have hbad : badOf ts s = 0 := by unfold badOf; rw [hb]; rfl
  have hat : atOf ts s = s.i := by unfold atOf; rw [hb]; rfl
  have h1 := fail_at X hR.hi
  obtain ⟨d0, d1, d2, d3, d4⟩ := hR.tk.2 _ h1
  have hlt2 := hR.tk.1
  have HF := Hd fun n => Rd.failed (hR.drewN n) X.lt hb
  have HS : Hid (∀ n, St w (((w.drewN n).setCell ⟨R, 2, none⟩ (.int .i64 ((tat ts (min s.i (ts.length - 1))).line : Int))).setCell ⟨R, 1, none⟩ (.int .i64 (ts.length : Int))) R) := Hd fun n => St.setR (St.setR ((St.refl w R).drewN n) rfl _) rfl _
  have hgR := X.lt
  have hne : 0 < ts.length := List.length_pos_iff.2 X.ne
  have hi := hR.hi
  have hcap := X.cap
  rw [hbad] at c2
  rw [hat] at c1
  clear X hR hb hbad hat
  generalize hT : tat ts (min s.i (ts.length - 1)) = T at *
  clear hT
  generalize ts.length = N at *
  generalize s.i = A at *
  have HF2 := HF
  have hA : A = N ∨ A < N := by omega
  clear d0 d1 d2 d3
  rcases hA with rfl | hA
  ·have e1 : min A (A - 1) = A - 1 := by omega
   rw [e1] at d4
   have q1 : (A : Int) - 1 < (A : Int) := by omega
   have q2 : 0 ≤ (A : Int) - 1 := by omega
   have q3 : min (A : Int) ((A : Int) - 1) = (A : Int) - 1 := by omega
   clear e1 hi h1
   go_enter Tryz.func131, Tryz.ntmps131
   go_wp2
   go_region
   go_wp2
   go_end0
   exact ⟨rfl, HF.out _, HS.out _⟩
  ·have e1 : min A (N - 1) = A := by omega
   rw [e1] at d4
   have q1 : ¬ ((N : Int) - 1 < (A : Int)) := by omega
   have q2 : (A : Int) < (N : Int) := by omega
   have q3 : min (A : Int) ((N : Int) - 1) = (A : Int) := by omega
   clear e1 hi h1
   go_enter Tryz.func131, Tryz.ntmps131
   go_wp2
   go_region
   go_wp2
   go_end0
   exact ⟨rfl, HF.out _, HS.out _⟩

theorem fldT (t : Tok) (W : World) : Sem.run Tryz.prog (Instr.field 53 (tkv t) 1) W = Result.ok (.string (str t.text)) W := by kernel_rfl
theorem fldL (t : Tok) (W : World) : Sem.run Tryz.prog (Instr.field 53 (tkv t) 4) W = Result.ok (.int .i64 (t.line : Int)) W := by kernel_rfl
theorem fldK (t : Tok) (W : World) : Sem.run Tryz.prog (Instr.field 53 (tkv t) 0) W = Result.ok (.int .i64 (t.kind : Int)) W := by kernel_rfl
theorem hasT_bytes (ts : List Tok) (s : Sg) (t : List UInt8) : ((str (nxt ts s).text).toList == (str t).toList) = hasT ts s t := by
 rw [str_eq]
 unfold hasT tx
 rw [decide_eq_decide]
 exact ⟨str_inj, fun h => by rw [h]⟩

set_option maxHeartbeats 1000000 in
set_option maxRecDepth 100000 in
theorem skip_any' {ts : List Tok} {R g c : Nat} (X : Ctx ts R g c) {s : Sg} (t : List UInt8) (ht : t ≠ []) (w : World) (hR : Rd w R g c ts s) :
  Calls Tryz.prog 100 #[.pointer (some ⟨R, 0, none⟩), .string (str t)] w fun e w' => e = .returned (.bool (hasT ts s t)) ∧ Rd w' R g c ts (skp ts s t) ∧ St w w' R := by
 have HN := Hd (next_any X w hR)
 have hq := hasT_bytes ts s t
 have hlen := X.len
 have hltR := hR.lt
 have HR := Hd hR
 have hF := Hd fun W => fldT (nxt ts s) W
 unfold skp
 cases hh : hasT ts s t with
 | true =>
  rw [hh] at hq
  obtain ⟨ch, tr, rfl⟩ : ∃ ch tr, t = ch :: tr := by
   cases t with
   | nil => exact absurd rfl ht
   | cons a b => exact ⟨a, b, rfl⟩
  have hin := hasT_in hh
  have hat : atOf ts s = s.i := by unfold atOf; rw [hin.1]; rfl
  have HA := Hd fun W (h : Rd W R g c ts s) => rd_adv h X.lt hin
  have hw : wrap64 ((s.i : Int) + 1) = ((s.i + 1 : Nat) : Int) := by rw [IntWalk.wrap64_in _ (by omega)]; omega
  have hil : s.i < 65536 := by omega
  have hXl := X.lt
  have HT := Hd hat
  generalize str (ch :: tr) = S1 at *
  generalize tkv (nxt ts s) = V1 at *
  generalize str (nxt ts s).text = S2 at *
  clear hR ht hh hin hat
  go_enter Tryz.func100, Tryz.ntmps100
  go_wp2_with fail
  refine HN.out.mono ?_
  rintro e w1 ⟨rfl, hb⟩
  have hR1 := HR.out.below hXl hb hltR
  have hF1 := hF.out w1
  obtain ⟨c0, c1, c2, f1, f2⟩ := hR1.cells
  rw [HT.out] at c1
  have HS1 : Hid (St w w1 R) := St.of_below hb
  have HR1 := Hd (HA.out _ hR1)
  clear hR1 hb HN HA c0 c2 f2
  generalize s.i = I at *
  go_wp2
  go_ret
  exact ⟨rfl, HR1.out, St.setR HS1.out rfl _⟩
 | false =>
  rw [hh] at hq
  generalize str t = S1 at *
  generalize tkv (nxt ts s) = V1 at *
  generalize str (nxt ts s).text = S2 at *
  have hXl := X.lt
  clear hR ht hh
  go_enter Tryz.func100, Tryz.ntmps100
  go_wp2_with fail
  refine HN.out.mono ?_
  rintro e w1 ⟨rfl, hb⟩
  have HR1 := Hd (HR.out.below hXl hb hltR)
  have hF1 := hF.out w1
  have HS1 : Hid (St w w1 R) := St.of_below hb
  clear hb HN
  go_wp2
  go_ret
  exact ⟨rfl, HR1.out, HS1.out⟩
end Go.Proofs.YtkliclihpobmiaaGreatDoor
/- The reader's expect, name, number, typeName and node: contracts. -/
namespace Go.Proofs.YtkliclihpobmiaaGreatDoor
open Go Go.RowKit
set_option linter.unusedVariables false

set_option maxHeartbeats 1000000 in
set_option maxRecDepth 100000 in
theorem expect_any {ts : List Tok} {R g c : Nat} (X : Ctx ts R g c) {s : Sg} (t : List UInt8) (ht : t ≠ []) (w : World) (hR : Rd w R g c ts s) :
  Calls Tryz.prog 93 #[.pointer (some ⟨R, 0, none⟩), .string (str t)] w fun e w' => e = .returned (.tuple #[]) ∧ Rd w' R g c ts (exc ts s t) ∧ St w w' R := by
 have HK := Hd (skip_any' X t ht w hR)
 have HF := Hd fun W (h : Rd W R g c ts s) => fail_any X W h
 clear hR
 unfold exc
 unfold skp at HK
 generalize str t = S1 at *
 cases hh : hasT ts s t with
 | true =>
  rw [hh] at HK
  clear hh HF
  go_enter Tryz.func93, Tryz.ntmps93
  go_wp2_with fail
  refine HK.out.mono ?_
  rintro e w1 ⟨rfl, hR1, hS1⟩
  have HR1 := Hd (And.intro hR1 hS1)
  clear hR1 hS1 HK
  go_wp2
  go_end0
  exact ⟨rfl, HR1.out.1, HR1.out.2⟩
 | false =>
  rw [hh] at HK
  clear hh
  go_enter Tryz.func93, Tryz.ntmps93
  go_wp2_with fail
  refine HK.out.mono ?_
  rintro e w1 ⟨rfl, hR1, hS1⟩
  have HR1 := Hd (And.intro hR1 hS1)
  clear hR1 hS1 HK
  go_wp2_with fail
  refine (HF.out _ HR1.out.1).mono ?_
  rintro e w2 ⟨rfl, hR2, hS2⟩
  have HR2 := Hd (And.intro hR2 (St.trans HR1.out.2 hS2))
  clear hR2 hS2 HR1
  go_wp2
  go_end0
  exact ⟨rfl, HR2.out.1, HR2.out.2⟩

theorem nxt_num {ts : List Tok} {R g c : Nat} (X : Ctx ts R g c) (s : Sg) : (nxt ts s).num < 18446744073709551616 := by
 unfold nxt
 cases hb : s.bad with
 | true => exact (by decide : (0:Nat) < 18446744073709551616)
 | false =>
  show (tat ts s.i).num < _
  by_cases h : s.i < ts.length
  ·rw [tat_get h]; exact X.num _ (List.getElem_mem h)
  ·rw [tat_out (by omega)]; decide
theorem nxt_text {ts : List Tok} {R g c : Nat} (X : Ctx ts R g c) (s : Sg) : (nxt ts s).text.length ≤ 65536 := by
 unfold nxt
 cases hb : s.bad with
 | true => exact (by decide : (0:Nat) ≤ 65536)
 | false =>
  show (tat ts s.i).text.length ≤ _
  by_cases h : s.i < ts.length
  ·rw [tat_get h]; exact (X.text _ (List.getElem_mem h)).2
  ·rw [tat_out (by omega)]; decide

set_option maxHeartbeats 1000000 in
set_option maxRecDepth 100000 in
theorem name_any {ts : List Tok} {R g c : Nat} (X : Ctx ts R g c) {s : Sg} (w : World) (hR : Rd w R g c ts s) :
  Calls Tryz.prog 94 #[.pointer (some ⟨R, 0, none⟩)] w fun e w' => e = .returned (.string (str (nmV ts s))) ∧ Rd w' R g c ts (nmS ts s) ∧ St w w' R := by
 have HN := Hd (next_any X w hR)
 have HF := Hd fun W (h : Rd W R g c ts s) => fail_any X W h
 have hlen := X.len
 have hltR := hR.lt
 have HR := Hd hR
 have hXl := X.lt
 unfold nmV nmS tx
 by_cases hk : kd ts s = 1
 ·have hin := kd_in hk (by decide)
  rw [if_pos hk, if_pos hk]
  have hat : atOf ts s = s.i := by unfold atOf; rw [hin.1]; rfl
  have HA := Hd fun W (h : Rd W R g c ts s) (v : Int) (hv : v = (s.i : Int) + 1) => rd_adv' h X.lt hin hv
  have hil : s.i < 65536 := by omega
  have HT := Hd hat
  have q : ((nxt ts s).kind : Int) = 1 := by unfold kd at hk; omega
  have HV : Hid (tkv (nxt ts s) = .agg #[.int .i64 1, .string (str (nxt ts s).text), .int .u64 ((nxt ts s).num : Int), .int .i64 ((nxt ts s).pos : Int), .int .i64 ((nxt ts s).line : Int)]) := by
   rw [← q]; exact Hd rfl
  rw [HV.out] at HN
  clear hR hk hin hat HF q HV
  generalize str (nxt ts s).text = S2 at *
  generalize ((nxt ts s).num : Int) = n2 at *
  generalize ((nxt ts s).pos : Int) = n3 at *
  generalize ((nxt ts s).line : Int) = n4 at *
  go_enter Tryz.func94, Tryz.ntmps94
  go_wp2_with fail
  refine HN.out.mono ?_
  rintro e w1 ⟨rfl, hb⟩
  have hR1 := HR.out.below hXl hb hltR
  obtain ⟨c0, c1, c2, f1, f2⟩ := hR1.cells
  rw [HT.out] at c1
  have hlt1 := hR1.lt
  have HS1 : Hid (St w w1 R) := St.of_below hb
  have HR1 := Hd (HA.out _ hR1)
  clear hR1 hb HN HA c0 c2 f2
  generalize s.i = I at *
  go_wp2
  go_ret
  exact ⟨rfl, (HR1.out _ rfl).alloc hXl _, (St.setR HS1.out rfl _).alloc _⟩
 ·rw [if_neg hk, if_neg hk]
  have q : (((nxt ts s).kind : Int) == 1) = false := by unfold kd at hk; simp; omega
  have q' : (((nxt ts s).kind : Int) != 1) = true := by unfold kd at hk; simp; omega
  have HV : Hid (tkv (nxt ts s) = .agg #[.int .i64 ((nxt ts s).kind : Int), .string (str (nxt ts s).text), .int .u64 ((nxt ts s).num : Int), .int .i64 ((nxt ts s).pos : Int), .int .i64 ((nxt ts s).line : Int)]) := Hd rfl
  rw [HV.out] at HN
  clear hR hk HV
  generalize str (nxt ts s).text = S2 at *
  generalize ((nxt ts s).kind : Int) = n1 at *
  generalize ((nxt ts s).num : Int) = n2 at *
  generalize ((nxt ts s).pos : Int) = n3 at *
  generalize ((nxt ts s).line : Int) = n4 at *
  go_enter Tryz.func94, Tryz.ntmps94
  go_wp2_with fail
  refine HN.out.mono ?_
  rintro e w1 ⟨rfl, hb⟩
  have hR1 := HR.out.below hXl hb hltR
  have hRa := Hd (hR1.alloc hXl (.cells #[.int .i64 n1, .string S2, .int .u64 n2, .int .i64 n3, .int .i64 n4] 53))
  have HS1 : Hid (St w (w1.alloc (.cells #[.int .i64 n1, .string S2, .int .u64 n2, .int .i64 n3, .int .i64 n4] 53)) R) := (St.of_below hb).alloc _
  clear hR1 hb HN
  go_wp2_with fail
  refine (HF.out _ hRa.out).mono ?_
  rintro e w2 ⟨rfl, hR2, hS2⟩
  have HR2 := Hd (And.intro hR2 (St.trans HS1.out hS2))
  clear hR2 hS2 hRa HS1
  go_wp2
  go_ret
  exact ⟨rfl, HR2.out.1, HR2.out.2⟩
end Go.Proofs.YtkliclihpobmiaaGreatDoor
/- The reader's node: contract. -/
namespace Go.Proofs.YtkliclihpobmiaaGreatDoor
open Go Go.RowKit
set_option linter.unusedVariables false

theorem infoNd : (Tryz.prog.info? 28).map (·.size) = some 11 := by kernel_rfl
def ncz : List Value := [.int .i64 0, .string ⟨#[]⟩, .int .u64 0, .int .i64 0, .bool false, .int .i64 0, .int .i64 0, .int .i64 0, .int .i64 0, .int .i64 0, .slice none 0 0]
def nc (l : Lab) : List Value := lcells l (.slice none 0 0)
theorem Blk.all {w : World} {g : Nat} {t : TypeId} {cs : List Value} (h : Blk w g t cs) : (∀ i, w.cell? ⟨g, i, none⟩ = cs[i]?) ∧ (∀ i, w.frozen? ⟨g, i, none⟩ = false) := ⟨h.cell, h.frozen⟩

set_option maxHeartbeats 1000000 in
set_option maxRecDepth 100000 in
theorem node_any {ts : List Tok} {R g c : Nat} (X : Ctx ts R g c) {s : Sg} (k : Int) (w : World) (hR : Rd w R g c ts s) :
  Calls Tryz.prog 55 #[.pointer (some ⟨R, 0, none⟩), .int .i64 k] w fun e w' => e = .returned (.agg (nc (labK k (ln ts s))).toArray) ∧ Below w.heap.size w w' := by
 have hb0 := (Below.refl w.heap.size w).alloc (Nat.le_refl _) (.cells ncz.toArray 28)
 have hK := Blk.alloc w 28 ncz
 have HN := Hd (next_any X _ (hR.alloc X.lt (.cells ncz.toArray 28)))
 have hF := fldL (nxt ts s)
 have HB := Hd hb0
 have HK := Hd hK
 have HL : Hid (((nxt ts s).line : Int) = (ln ts s : Nat)) := Hd rfl
 clear hK hb0 hR
 generalize tkv (nxt ts s) = V1 at *
 generalize ((nxt ts s).line : Int) = l1 at *
 have hl := HL.out
 subst hl
 go_enter Tryz.func55, Tryz.ntmps55
 go_wp2_with fail
 refine HN.out.mono ?_
 rintro e w1 ⟨rfl, hb1⟩
 have HB1 := Hd (HB.out.trans (hb1.mono (by simp)))
 have HK1 := Hd (HK.out.below hb1 HK.out.lt)
 obtain ⟨hc, hf⟩ := HK1.out.all
 unfold ncz at hc
 clear hb1 HN
 go_wp2
 refine bodyPost_ret ((HK1.out.stor11 rfl _ _ _ _ _ _ _ _ _ _ _).res1 Tryz.results55 Tryz.underlying28 rfl infoNd _ rfl) rfl ?_
 exact ⟨rfl, below_stor11 HB1.out (Nat.le_refl _) _ _ _ _ _ _ _ _ _ _ _⟩
end Go.Proofs.YtkliclihpobmiaaGreatDoor
/- The reader's number and typeName: contracts. -/
namespace Go.Proofs.YtkliclihpobmiaaGreatDoor
open Go Go.RowKit
set_option linter.unusedVariables false

set_option maxHeartbeats 1000000 in
set_option maxRecDepth 100000 in
theorem numb_any {ts : List Tok} {R g c : Nat} (X : Ctx ts R g c) {s : Sg} (least : Nat) (hleast : least < 1000) (w : World) (hR : Rd w R g c ts s) :
  Calls Tryz.prog 134 #[.pointer (some ⟨R, 0, none⟩), .int .u64 (least : Int)] w fun e w' => e = .returned (.int .u64 (nuV ts s least : Int)) ∧ Rd w' R g c ts (nuS ts s least) ∧ St w w' R := by
 have HN := Hd (next_any X w hR)
 have HF := Hd fun W (h : Rd W R g c ts s) => fail_any X W h
 have hlen := X.len
 have hltR := hR.lt
 have HR := Hd hR
 have hXl := X.lt
 have hnum := nxt_num X s
 unfold nuV nuS
 have HV : Hid (tkv (nxt ts s) = .agg #[.int .i64 (kd ts s : Int), .string (str (nxt ts s).text), .int .u64 ((nxt ts s).num : Int), .int .i64 ((nxt ts s).pos : Int), .int .i64 ((nxt ts s).line : Int)]) := Hd rfl
 rw [HV.out] at HN
 have HOK : Hid (okN ts s least = (decide (kd ts s = 3) && (decide (least ≤ (nxt ts s).num) && decide ((nxt ts s).num ≤ 1048576)))) := Hd rfl
 clear hR HV
 by_cases hk : okN ts s least = true
 ·have hk' := HOK.out
  rw [hk] at hk'
  have hk3 : kd ts s = 3 ∧ least ≤ (nxt ts s).num ∧ (nxt ts s).num ≤ 1048576 := by simpa using hk'.symm
  have hin := kd_in hk3.1 (by decide)
  rw [if_pos hk, if_pos hk]
  rw [hk3.1] at HN
  have hat : atOf ts s = s.i := by unfold atOf; rw [hin.1]; rfl
  have HA := Hd fun W (h : Rd W R g c ts s) (v : Int) (hv : v = (s.i : Int) + 1) => rd_adv' h X.lt hin hv
  have hil : s.i < 65536 := by omega
  have HT := Hd hat
  have q1 : ¬ ((nxt ts s).num : Int) < (least : Int) := by omega
  have q2 : ((nxt ts s).num : Int) ≤ 1048576 := by omega
  have q3 : decide ((nxt ts s).num < least) = false := by simp; omega
  clear hk hk' hk3 hin hat HF HOK
  generalize str (nxt ts s).text = S2 at *
  generalize (nxt ts s).num = n2 at *
  generalize ((nxt ts s).pos : Int) = n3 at *
  generalize ((nxt ts s).line : Int) = n4 at *
  go_enter Tryz.func134, Tryz.ntmps134
  go_wp2_with fail
  refine HN.out.mono ?_
  rintro e w1 ⟨rfl, hb⟩
  have hR1 := HR.out.below hXl hb hltR
  obtain ⟨c0, c1, c2, f1, f2⟩ := hR1.cells
  rw [HT.out] at c1
  have hlt1 := hR1.lt
  have HS1 : Hid (St w w1 R) := St.of_below hb
  have HR1 := Hd (HA.out _ hR1)
  clear hR1 hb HN HA c0 c2 f2
  generalize s.i = I at *
  go_wp2
  go_ret
  exact ⟨rfl, (HR1.out _ rfl).alloc hXl _, (St.setR HS1.out rfl _).alloc _⟩
 ·rw [if_neg hk, if_neg hk]
  have hk' : kd ts s ≠ 3 ∨ (kd ts s = 3 ∧ (nxt ts s).num < least) ∨ (kd ts s = 3 ∧ ¬ (nxt ts s).num < least ∧ 1048576 < (nxt ts s).num) := by
   rw [HOK.out] at hk
   simp at hk
   by_cases h3 : kd ts s = 3
   ·right
    by_cases h4 : (nxt ts s).num < least
    ·exact .inl ⟨h3, h4⟩
    ·exact .inr ⟨h3, h4, hk h3 (by omega)⟩
   ·exact .inl h3
  clear hk HOK
  rcases hk' with q | ⟨q, q1⟩ | ⟨q, q1, q2⟩
  ·have q' : ((kd ts s : Int) != 3) = true := by simp; omega
   clear q
   generalize str (nxt ts s).text = S2 at *
   generalize (kd ts s : Int) = n1 at *
   generalize (nxt ts s).num = n2 at *
   generalize ((nxt ts s).pos : Int) = n3 at *
   generalize ((nxt ts s).line : Int) = n4 at *
   go_enter Tryz.func134, Tryz.ntmps134
   go_wp2_with fail
   refine HN.out.mono ?_
   rintro e w1 ⟨rfl, hb⟩
   have hR1 := HR.out.below hXl hb hltR
   have hRa := Hd (hR1.alloc hXl (.cells #[.int .i64 n1, .string S2, .int .u64 (n2 : Int), .int .i64 n3, .int .i64 n4] 53))
   have HS1 : Hid (St w (w1.alloc (.cells #[.int .i64 n1, .string S2, .int .u64 (n2 : Int), .int .i64 n3, .int .i64 n4] 53)) R) := (St.of_below hb).alloc _
   clear hR1 hb HN
   go_wp2_with fail
   refine (HF.out _ hRa.out).mono ?_
   rintro e w2 ⟨rfl, hR2, hS2⟩
   have HR2 := Hd (And.intro hR2 (St.trans HS1.out hS2))
   clear hR2 hS2 hRa HS1
   go_wp2
   go_ret
   exact ⟨rfl, HR2.out.1, HR2.out.2⟩
  ·have q3 : decide ((nxt ts s).num < least) = true := by simp; omega
   rw [q] at HN
   clear q
   generalize str (nxt ts s).text = S2 at *
   generalize (nxt ts s).num = n2 at *
   generalize ((nxt ts s).pos : Int) = n3 at *
   generalize ((nxt ts s).line : Int) = n4 at *
   go_enter Tryz.func134, Tryz.ntmps134
   go_wp2_with fail
   refine HN.out.mono ?_
   rintro e w1 ⟨rfl, hb⟩
   have hR1 := HR.out.below hXl hb hltR
   have hRa := Hd (hR1.alloc hXl (.cells #[.int .i64 3, .string S2, .int .u64 (n2 : Int), .int .i64 n3, .int .i64 n4] 53))
   have HS1 : Hid (St w (w1.alloc (.cells #[.int .i64 3, .string S2, .int .u64 (n2 : Int), .int .i64 n3, .int .i64 n4] 53)) R) := (St.of_below hb).alloc _
   clear hR1 hb HN
   go_wp2_with fail
   refine (HF.out _ hRa.out).mono ?_
   rintro e w2 ⟨rfl, hR2, hS2⟩
   have HR2 := Hd (And.intro hR2 (St.trans HS1.out hS2))
   clear hR2 hS2 hRa HS1
   go_wp2
   go_ret
   exact ⟨rfl, HR2.out.1, HR2.out.2⟩
  ·have q3 : decide ((nxt ts s).num < least) = false := by simp; omega
   have q4 : (1048576 : Int) < ((nxt ts s).num : Int) := by omega
   rw [q] at HN
   clear q
   generalize str (nxt ts s).text = S2 at *
   generalize (nxt ts s).num = n2 at *
   generalize ((nxt ts s).pos : Int) = n3 at *
   generalize ((nxt ts s).line : Int) = n4 at *
   go_enter Tryz.func134, Tryz.ntmps134
   go_wp2_with fail
   refine HN.out.mono ?_
   rintro e w1 ⟨rfl, hb⟩
   have hR1 := HR.out.below hXl hb hltR
   have hRa := Hd (hR1.alloc hXl (.cells #[.int .i64 3, .string S2, .int .u64 (n2 : Int), .int .i64 n3, .int .i64 n4] 53))
   have HS1 : Hid (St w (w1.alloc (.cells #[.int .i64 3, .string S2, .int .u64 (n2 : Int), .int .i64 n3, .int .i64 n4] 53)) R) := (St.of_below hb).alloc _
   clear hR1 hb HN
   go_wp2_with fail
   refine (HF.out _ hRa.out).mono ?_
   rintro e w2 ⟨rfl, hR2, hS2⟩
   have HR2 := Hd (And.intro hR2 (St.trans HS1.out hS2))
   clear hR2 hS2 hRa HS1
   go_wp2
   go_ret
   exact ⟨rfl, HR2.out.1, HR2.out.2⟩

theorem infoTy : (Tryz.prog.info? 25).map (·.size) = some 2 := by kernel_rfl
theorem typeOf_zero {l : List UInt8} (h : ¬ 0 < (typeOf l).1) : typeOf l = (0, false) := by
 unfold typeOf at h ⊢
 split
 ·rename_i h1; rw [if_pos h1] at h; simp at h
 ·rename_i h1
  rw [if_neg h1] at h
  cases hf : cands.find? (fun c => nameOf c.1 c.2 == l) with
  | none => rfl
  | some c =>
   rw [hf] at h
   have hm := List.mem_of_find?_eq_some hf
   exfalso
   apply h
   have hall : cands.all (fun c => decide (0 < c.1)) = true := by decide +kernel
   have := List.all_eq_true.1 hall c hm
   simpa using this
set_option maxHeartbeats 1000000 in
set_option maxRecDepth 100000 in
theorem typN_any {ts : List Tok} {R g c : Nat} (X : Ctx ts R g c) {s : Sg} (w : World) (hR : Rd w R g c ts s) :
  Calls Tryz.prog 97 #[.pointer (some ⟨R, 0, none⟩)] w fun e w' => e = .returned (.agg #[.int .i64 ((tyV' ts s).1 : Int), .bool (tyV' ts s).2]) ∧ Rd w' R g c ts (tyS ts s) ∧ St w w' R := by
 have hRa := hR.alloc X.lt (.cells #[.int .i64 0, .bool false] 25)
 have HN := Hd (next_any X _ hRa)
 have HF := Hd fun W (h : Rd W R g c ts s) => fail_any X W h
 have hlen := X.len
 have hltR := hR.lt
 have HR := Hd hRa
 have hXl := X.lt
 have hK := Blk.alloc w 25 [.int .i64 0, .bool false]
 have hb0 := (Below.refl w.heap.size w).alloc (Nat.le_refl _) (.cells #[.int .i64 0, .bool false] 25)
 have HK := Hd hK
 have HB := Hd hb0
 have HTY := Hd fun W V => type_any (str (nxt ts s).text) (by rw [str_size]; have := nxt_text X s; omega) W V
 rw [str_data] at HTY
 have hF := Hd fun W => fldT (nxt ts s) W
 have hF0 : ∀ W : World, True := fun _ => trivial
 unfold tyS tyV' tx
 have hle := typeOf_le (nxt ts s).text
 have HI : Hid (0 < (typeOf (nxt ts s).text).1 → s.bad = false ∧ s.i < ts.length) := Hd fun h => tx_in (ts := ts) (fun he => by unfold tx at he; rw [he, typeOf_nil] at h; omega)
 have HZ : Hid (¬ 0 < (typeOf (nxt ts s).text).1 → typeOf (nxt ts s).text = (0, false)) := Hd fun h => typeOf_zero h
 clear hR hRa hK hb0 hF0
 generalize tkv (nxt ts s) = V1 at *
 unfold tyV tyB at HTY
 generalize str (nxt ts s).text = S2 at *
 generalize typeOf (nxt ts s).text = ty at *
 obtain ⟨x, y⟩ := ty
 by_cases hx : 0 < x
 ·have hin := HI.out hx
  rw [if_pos hx]
  have hat : atOf ts s = s.i := by unfold atOf; rw [hin.1]; rfl
  have HA := Hd fun W (h : Rd W R g c ts s) (v : Int) (hv : v = (s.i : Int) + 1) => rd_adv' h X.lt hin hv
  have hil : s.i < 65536 := by omega
  have HT := Hd hat
  have q : decide (0 < x) = true := by simp [hx]
  rw [q] at HTY
  clear hin hat HF HI HZ q
  go_enter Tryz.func97, Tryz.ntmps97
  go_wp2_with fail
  refine HN.out.mono ?_
  rintro e w1 ⟨rfl, hb1⟩
  have hF1 := hF.out w1
  have hR1 := Hd (HR.out.below hXl hb1 (by simp; omega))
  have HK1 := Hd (HK.out.below hb1 HK.out.lt)
  have HB1 := Hd (HB.out.trans (hb1.mono (by simp)))
  clear hb1 HN HB HK
  go_wp2_with fail
  refine (HTY.out _ hR1.out.env.vs).mono ?_
  rintro e w2 ⟨rfl, hb2⟩
  have hR2 := hR1.out.below hXl hb2 hR1.out.lt
  have HK2 := Hd (HK1.out.below hb2 HK1.out.lt)
  have HB2 := Hd (HB1.out.trans (hb2.mono HB1.out.size))
  obtain ⟨c0, c1, c2, f1, f2⟩ := hR2.cells
  rw [HT.out] at c1
  obtain ⟨hc, hf⟩ := HK2.out.all
  have hlt2 := hR2.lt
  have hsz := HB2.out.size
  have hK2lt := HK2.out.lt
  have HR2 := Hd hR2
  clear hb2 hR2 hF hF1 c0 c2 f2 HTY HB1 HK1 hR1
  generalize s.i = I at *
  go_wp2
  refine bodyPost_ret ((((HK2.out.set_other (by show w.heap.size ≠ R; omega) _).stor2 rfl _ _).alloc_other _).res1 Tryz.results97 Tryz.underlying25 rfl infoTy _ rfl) rfl ?_
  exact ⟨rfl, ((HA.out _ HR2.out _ rfl).stor2 hXl hltR _ _).alloc hXl _, ((St.setR (St.of_below HB2.out) rfl _).stor2 (Nat.le_refl _) _ _).alloc _⟩
 ·have hz := HZ.out hx
  injection hz with h1 h2
  subst h1 h2
  rw [if_neg (by omega)]
  have q : decide (0 < 0) = false := by simp
  rw [q] at HTY
  clear HI HZ q
  go_enter Tryz.func97, Tryz.ntmps97
  go_wp2_with fail
  refine HN.out.mono ?_
  rintro e w1 ⟨rfl, hb1⟩
  have hF1 := hF.out w1
  have hR1 := Hd (HR.out.below hXl hb1 (by simp; omega))
  have HK1 := Hd (HK.out.below hb1 HK.out.lt)
  have HB1 := Hd (HB.out.trans (hb1.mono (by simp)))
  clear hb1 HN HB HK
  go_wp2_with fail
  refine (HTY.out _ hR1.out.env.vs).mono ?_
  rintro e w2 ⟨rfl, hb2⟩
  have HR2 := Hd ((hR1.out.below hXl hb2 hR1.out.lt).alloc hXl (.cells #[.int .i64 0, .bool false] 25))
  have HK2 := Hd ((HK1.out.below hb2 HK1.out.lt).alloc_other (.cells #[.int .i64 0, .bool false] 25))
  have HB2 := Hd (((HB1.out.trans (hb2.mono HB1.out.size))).alloc (Nat.le_trans HB1.out.size hb2.size) (.cells #[.int .i64 0, .bool false] 25))
  clear hb2 hF hF1 HTY HB1 HK1 hR1
  go_wp2_with fail
  refine (HF.out _ HR2.out).mono ?_
  rintro e w3 ⟨rfl, hR3, hS3⟩
  have HK3 := Hd (St.blk hS3 HK2.out (by omega))
  obtain ⟨hc, hf⟩ := HK3.out.all
  have HS3 := Hd (St.trans (St.of_below HB2.out) hS3)
  have HR3 := Hd hR3
  have hsz := HS3.out.size
  clear hR3 hS3 HK2 HR2 HB2
  go_wp2
  refine bodyPost_ret ((HK3.out.stor2 rfl _ _).res1 Tryz.results97 Tryz.underlying25 rfl infoTy _ rfl) rfl ?_
  exact ⟨rfl, HR3.out.stor2 hXl hltR _ _, HS3.out.stor2 (Nat.le_refl _) _ _⟩
end Go.Proofs.YtkliclihpobmiaaGreatDoor
/- The reader's operator: contract. -/
namespace Go.Proofs.YtkliclihpobmiaaGreatDoor
open Go Go.RowKit
set_option linter.unusedVariables false

def opT (l k : Nat) : List UInt8 := ((levelOps l).getD k ([], 0)).1
def opN (l k : Nat) : Nat := ((levelOps l).getD k ([], 0)).2
theorem opT_get {l k : Nat} (h : k < (levelOps l).length) : (levelOps l)[k].1 = opT l k := by simp [opT, List.getD, h]
theorem opN_get {l k : Nat} (h : k < (levelOps l).length) : (levelOps l)[k].2 = opN l k := by simp [opN, List.getD, h]
theorem opV_hit {ts : List Tok} {s : Sg} {l k : Nat} (h : k < (levelOps l).length) (hno : ∀ j, j < k → hasT ts s (opT l j) = false) (hy : hasT ts s (opT l k) = true) : opV ts s l = opN l k := by
 unfold opV
 have : (levelOps l).find? (fun p => decide (tx ts s = p.1)) = some (levelOps l)[k] := by
  rw [List.find?_eq_some_iff_getElem]
  rw [← opT_get h] at hy
  refine ⟨hy, k, h, rfl, fun j hj => ?_⟩
  have := hno j (by omega)
  rw [← opT_get (by omega)] at this
  unfold hasT at this
  rw [this]
  rfl
 rw [this]
 exact opN_get h
theorem opV_miss {ts : List Tok} {s : Sg} {l : Nat} (hno : ∀ j, j < (levelOps l).length → hasT ts s (opT l j) = false) : opV ts s l = 0 := by
 unfold opV
 have : (levelOps l).find? (fun p => decide (tx ts s = p.1)) = none := by
  rw [List.find?_eq_none]
  intro p hp
  obtain ⟨j, hj, rfl⟩ := List.getElem_of_mem hp
  have := hno j hj
  rw [← opT_get hj] at this
  unfold hasT at this
  rw [this]
  simp
 rw [this]
 rfl
theorem levelOps_len (l : Nat) : (levelOps l).length ≤ 6 := by
 unfold levelOps
 split <;> decide
theorem opT_ne {l k : Nat} (h : k < (levelOps l).length) : opT l k ≠ [] ∧ opN l k ≠ 0 := by
 rw [← opT_get h, ← opN_get h]
 exact levelOps_ne l _ (List.getElem_mem h)
theorem opN_le {l k : Nat} (h : k < (levelOps l).length) : opN l k ≤ 21 := by
 rw [← opN_get h]
 have : ∀ p ∈ levelOps l, p.2 ≤ 21 := by
  unfold levelOps
  split <;> decide
 exact this _ (List.getElem_mem h)
theorem lv_row {w : World} {a : Addr} {l : Nat} (h : ∀ j (h : j < (levelOps l).length), w.cell? (a.add (j * 2)) = some (.string (str (levelOps l)[j].1)) ∧ w.cell? (a.add (j * 2 + 1)) = some (.int .i64 ((levelOps l)[j].2 : Int))) :
  ∀ j, j < (levelOps l).length → w.cell? (a.add (j * 2)) = some (.string (str (opT l j))) ∧ w.cell? (a.add (j * 2 + 1)) = some (.int .i64 (opN l j : Int)) := by
 intro j hj
 have := h j hj
 rw [opT_get hj, opN_get hj] at this
 exact this

structure OpSt (ts : List Tok) (R g c : Nat) (s : Sg) (l : Nat) (w wr : World) (k : Nat) : Prop where
 rd : Rd wr R g c ts s
 st : St w wr R
 no : ∀ j, j < k → hasT ts s (opT l j) = false

set_option maxHeartbeats 1000000 in
set_option maxRecDepth 100000 in
theorem oper_any {ts : List Tok} {R g c : Nat} (X : Ctx ts R g c) {s : Sg} (l : Nat) (hl : l < 11) (w : World) (hR : Rd w R g c ts s) :
  Calls Tryz.prog 191 #[.pointer (some ⟨R, 0, none⟩), .int .i64 (l : Int)] w fun e w' => e = .returned (.int .i64 (opV ts s l : Int)) ∧ Rd w' R g c ts (opS ts s l) ∧ St w w' R := by
 obtain ⟨v, hv, a, cc, rfl, hrow0⟩ := hR.env.lv l hl
 have hrow := lv_row hrow0
 have HSK := Hd fun (t : List UInt8) (ht : t ≠ []) W (h : Rd W R g c ts s) => skip_any' X t ht W h
 have HNE := Hd fun k (h : k < (levelOps l).length) => opT_ne h
 have HLE := Hd fun k (h : k < (levelOps l).length) => opN_le h
 have hlen6 := levelOps_len l
 have h0 : Hid (OpSt ts R g c s l w w 0) := ⟨hR, St.refl _ _, fun j h => by omega⟩
 have HROW := Hd hrow
 have HAL : Hid (∀ j, j < (levelOps l).length → a.block < w.heap.size ∧ a.block ≠ R) := Hd fun j hj => by
  have h1 := cell_block_lt (hrow j hj).1
  rw [add_block] at h1
  refine ⟨h1, fun e => ?_⟩
  have h2 := (hrow j hj).1
  have h3 := hR.env
  obtain ⟨w0, _, k2, k3, k4, k5⟩ := h3
  obtain ⟨v', hv', a', c', e1, hc'⟩ := k2 l hl
  have e2 : w.cell? ⟨8, l, none⟩ = some v' := by rw [cell_same (k5 _ (cell_block_lt hv'))]; exact hv'
  rw [hv] at e2
  injection e2 with e2
  rw [e1] at e2
  injection e2 with e2
  injection e2 with e2
  have h4 := cell_block_lt (hc' j hj).1
  rw [add_block, ← e2, e] at h4
  have := X.lt
  omega
 have HH := Hd fun k (h : k < (levelOps l).length) hno hy => opV_hit (ts := ts) (s := s) (l := l) (k := k) h hno hy
 have HM := Hd fun hno => opV_miss (ts := ts) (s := s) (l := l) hno
 have hXl := X.lt
 have hl' : (l : Int) < 11 := by omega
 have HO0 : Hid (opV ts s l = 0 → opS ts s l = s) := Hd fun h => by unfold opS; rw [if_pos h]
 have HO1 : Hid (opV ts s l ≠ 0 → opS ts s l = adv s) := Hd fun h => by unfold opS; rw [if_neg h]
 clear hrow hrow0
 generalize (levelOps l).length = N at *
 clear hR X
 go_enter Tryz.func191, Tryz.ntmps191
 go_wp2
 clear hv
 go_loopw [11] (fun i wr => ∃ k : Nat, k ≤ N ∧ i = .int .i64 (k : Int) ∧ Hid (OpSt ts R g c s l w wr k)) (fun i _ => N - (intOf i).toNat)
 case atStart => exact ⟨0, by omega, rfl, h0⟩
 case round =>
  clear h0
  obtain ⟨k, hk, rfl, hT⟩ := hrel
  by_cases hkN : k < N
  ·obtain ⟨hal1, hal2⟩ := HAL.out k hkN
   obtain ⟨d1, d2⟩ := HROW.out k hkN
   have hblk := World.grownBy.block hT.out.st a.block hal1 (fun e => by injection e with e; exact hal2 e)
   have e1 : wr.cell? (a.add (k * 2)) = some (.string (str (opT l k))) := (cell_same (w := w) (w' := wr) (by rw [add_block]; exact hblk)).trans d1
   have e2 : wr.cell? (a.add (k * 2 + 1)) = some (.int .i64 (opN l k : Int)) := (cell_same (w := w) (w' := wr) (by rw [add_block]; exact hblk)).trans d2
   have e3 : wr.cell? ⟨(a.add (k * 2)).block, (a.add (k * 2)).off + 1, none⟩ = some (.int .i64 (opN l k : Int)) := by rw [← e2, ← Go.Deep.add_add]; rfl
   have HS := Hd (HSK.out (opT l k) (HNE.out k hkN).1 _ (hT.out.rd.alloc hXl (.cells #[.string (str (opT l k)), .int .i64 (opN l k : Int)] 129)))
   have hne := (HNE.out k hkN).2
   have hle := HLE.out k hkN
   have HK := Hd (Blk.alloc wr 129 [.string (str (opT l k)), .int .i64 (opN l k : Int)])
   have hRlt := hT.out.rd.lt
   clear d1 d2 hblk
   unfold skp at HS
   generalize hS1 : str (opT l k) = S1 at *
   generalize hO1 : opN l k = O1 at *
   have HP1 := Hd hO1
   clear hS1 hO1
   cases hh : hasT ts s (opT l k) with
   | true =>
    have hO := Hd ((HH.out k hkN hT.out.no hh).trans HP1.out)
    have hOS := Hd (HO1.out (by rw [hO.out]; exact hne))
    rw [hh] at HS
    clear hh
    go_wp2_with fail
    refine HS.out.mono ?_
    rintro e w2 ⟨rfl, hR2, hS2⟩
    obtain ⟨hc, hf⟩ := (St.blk hS2 HK.out (by omega)).all
    have HR2 := Hd (And.intro hR2 (St.trans (hT.out.st.alloc _) hS2))
    clear hR2 hS2 HK
    go_wp2
    go_ret
    exact ⟨by rw [hO.out]; rfl, by rw [hOS.out]; exact HR2.out.1, HR2.out.2⟩
   | false =>
    rw [hh] at HS
    have HNO : Hid (∀ j, j < k + 1 → hasT ts s (opT l j) = false) := Hd fun j hj => by
     by_cases e : j = k
     ·subst e; exact hh
     ·exact hT.out.no j (by omega)
    clear hh
    go_wp2_with fail
    refine HS.out.mono ?_
    rintro e w2 ⟨rfl, hR2, hS2⟩
    have HR2 : Hid (OpSt ts R g c s l w w2 (k + 1)) := ⟨hR2, St.trans (hT.out.st.alloc _) hS2, HNO.out⟩
    clear hR2 hS2 HK HNO
    go_wp2
    go_roundw
    case rel => exact ⟨k + 1, by omega, by go_num, HR2⟩
    case measure => simp [intOf]; omega
  ·obtain rfl : k = N := by omega
   have hO := Hd (HM.out hT.out.no)
   have hOS := Hd (HO0.out hO.out)
   go_wp2
   go_ret
   exact ⟨by rw [hO.out]; rfl, by rw [hOS.out]; exact hT.out.rd, hT.out.st⟩
end Go.Proofs.YtkliclihpobmiaaGreatDoor
/- What a rule of the grammar leaves, and the frame of its walk: local nodes in blocks, trees, the reader. -/
namespace Go.Proofs.YtkliclihpobmiaaGreatDoor
open Go Go.RowKit
set_option linter.unusedVariables false

def TP (w : World) (R g c : Nat) (ts : List Tok) (t : Tree × Sg) (e : Ending) (w' : World) : Prop :=
 ∃ (l : Lab) (x : Option Addr) (n k : Nat), e = .returned (.agg #[.int .i64 l.kind, .string (str l.name), .int .u64 l.num, .int .i64 l.wd, .bool l.sg, .int .i64 l.op, .int .i64 l.fac, .int .i64 l.pip, .int .i64 l.unr, .int .i64 l.line, .slice x n k]) ∧ TreeAt w' (w.heap.size ≤ ·) [.int .i64 l.kind, .string (str l.name), .int .u64 l.num, .int .i64 l.wd, .bool l.sg, .int .i64 l.op, .int .i64 l.fac, .int .i64 l.pip, .int .i64 l.unr, .int .i64 l.line, .slice x n k] t.1 ∧ Rd w' R g c ts t.2 ∧ St w w' R
theorem TreeAt.form {w : World} {P : Nat → Prop} {cs : List Value} {t : Tree} (h : TreeAt w P cs t) : ∃ (l : Lab) (x : Option Addr) (n k : Nat), cs = [.int .i64 l.kind, .string (str l.name), .int .u64 l.num, .int .i64 l.wd, .bool l.sg, .int .i64 l.op, .int .i64 l.fac, .int .i64 l.pip, .int .i64 l.unr, .int .i64 l.line, .slice x n k] := by
 cases h with
 | nil l => exact ⟨l, none, 0, 0, rfl⟩
 | mk l a n cap C ks => exact ⟨l, some a, n, cap, rfl⟩
def rem (ts : List Tok) (s : Sg) : Nat := if s.bad then 0 else ts.length - s.i
theorem rem_on {ts : List Tok} {s t : Sg} (h : On ts s t) : rem ts t ≤ rem ts s := by
 unfold rem
 cases hb : s.bad with
 | true => rw [h.2.2 hb, hb]; exact Nat.le_refl _
 | false =>
  have := h.1
  cases t.bad
  ·simp; omega
  ·simp
theorem rem_adv {ts : List Tok} {s : Sg} (h : s.bad = false ∧ s.i < ts.length) : rem ts (adv s) + 1 = rem ts s := by
 unfold rem adv
 rw [h.1]
 simp
 omega
structure EC (ts : List Tok) (R g c f : Nat) : Prop where
 ex : ∀ s w, Rd w R g c ts s → 32 * rem ts s + 22 ≤ f → Calls Tryz.prog 176 #[.pointer (some ⟨R, 0, none⟩)] w (TP w R g c ts (E ts f .ex s))
 bn : ∀ l s w, l ≤ 9 → Rd w R g c ts s → 32 * rem ts s + (20 - l) ≤ f → Calls Tryz.prog 184 #[.pointer (some ⟨R, 0, none⟩), .int .i64 (l : Int)] w (TP w R g c ts (E ts f (.bn l) s))
 ca : ∀ s w, Rd w R g c ts s → 32 * rem ts s + 10 ≤ f → Calls Tryz.prog 190 #[.pointer (some ⟨R, 0, none⟩)] w (TP w R g c ts (E ts f .ca s))
 un : ∀ s w, Rd w R g c ts s → 32 * rem ts s + 9 ≤ f → Calls Tryz.prog 197 #[.pointer (some ⟨R, 0, none⟩)] w (TP w R g c ts (E ts f .un s))
 pr : ∀ s w, Rd w R g c ts s → 32 * rem ts s + 8 ≤ f → Calls Tryz.prog 204 #[.pointer (some ⟨R, 0, none⟩)] w (TP w R g c ts (E ts f .pr s))
 us : ∀ s w, Rd w R g c ts s → 32 * rem ts s + 7 ≤ f → Calls Tryz.prog 207 #[.pointer (some ⟨R, 0, none⟩)] w (TP w R g c ts (E ts f .us s))

structure Fr (w0 w : World) (R g c : Nat) (ts : List Tok) (s : Sg) (Ls : List (Nat × List Value)) (Ts : List (List Value × Tree)) : Prop where
 rd : Rd w R g c ts s
 st : St w0 w R
 bl : ∀ L cs, (L, cs) ∈ Ls → Blk w L 28 cs ∧ w0.heap.size ≤ L
 tr : ∀ cs t, (cs, t) ∈ Ts → TreeAt w (fun k => w0.heap.size ≤ k ∧ ∀ L xs, (L, xs) ∈ Ls → k ≠ L) cs t
 hR : R < w0.heap.size
 nd : (Ls.map (·.1)).Nodup
theorem Fr.start {w : World} {R g c : Nat} {ts : List Tok} {s : Sg} (h : Rd w R g c ts s) : Fr w w R g c ts s [] [] :=
 ⟨h, St.refl _ _, fun L cs h => by simp at h, fun cs t h => by simp at h, h.lt, by simp⟩
theorem Fr.size {w0 w : World} {R g c : Nat} {ts : List Tok} {s : Sg} {Ls : List (Nat × List Value)} {Ts : List (List Value × Tree)} (F : Fr w0 w R g c ts s Ls Ts) : w0.heap.size ≤ w.heap.size := St.size F.st
theorem Fr.call {w0 w w' : World} {R g c : Nat} {ts : List Tok} {s s' : Sg} {Ls : List (Nat × List Value)} {Ts : List (List Value × Tree)} (F : Fr w0 w R g c ts s Ls Ts) (hr : Rd w' R g c ts s') (hs : St w w' R) : Fr w0 w' R g c ts s' Ls Ts :=
 ⟨hr, St.trans F.st hs, fun L cs h => ⟨St.blk hs (F.bl L cs h).1 (by have := (F.bl L cs h).2; have := F.hR; omega), (F.bl L cs h).2⟩, fun cs t h => (F.tr cs t h).keep (fun k hk hl => World.grownBy.block hs k hl (fun e => by injection e with e; have := F.hR; have := hk.1; omega)) fun k hk _ => hk, F.hR, F.nd⟩
theorem Fr.quiet {w0 w w' : World} {R g c : Nat} {ts : List Tok} {s : Sg} {Ls : List (Nat × List Value)} {Ts : List (List Value × Tree)} (F : Fr w0 w R g c ts s Ls Ts) (hg : g < R) (hb : Below w.heap.size w w') : Fr w0 w' R g c ts s Ls Ts :=
 F.call (F.rd.below hg hb F.rd.lt) (St.of_below hb)
theorem Fr.alloc {w0 w : World} {R g c : Nat} {ts : List Tok} {s : Sg} {Ls : List (Nat × List Value)} {Ts : List (List Value × Tree)} (F : Fr w0 w R g c ts s Ls Ts) (hg : g < R) (o : Obj) : Fr w0 (w.alloc o) R g c ts s Ls Ts :=
 F.quiet hg ((Below.refl w.heap.size w).alloc (Nat.le_refl _) o)
theorem Fr.node {w0 w : World} {R g c : Nat} {ts : List Tok} {s : Sg} {Ls : List (Nat × List Value)} {Ts : List (List Value × Tree)} (F : Fr w0 w R g c ts s Ls Ts) (hg : g < R) (cs : List Value) : Fr w0 (w.alloc (.cells cs.toArray 28)) R g c ts s ((w.heap.size, cs) :: Ls) Ts := by
 have F1 := F.alloc hg (.cells cs.toArray 28)
 refine ⟨F1.rd, F1.st, fun L xs h => ?_, fun xs t h => (F.tr xs t h).keep (fun k _ hk => Below.heap_alloc w _ k hk) fun k hk hl => ⟨hk.1, fun L ys hL => ?_⟩, F1.hR, ?_⟩
 ·rcases List.mem_cons.1 h with h | h
  ·injection h with h1 h2
   subst h1 h2
   exact ⟨Blk.alloc _ _ _, F.size⟩
  ·exact F1.bl L xs h
 ·rcases List.mem_cons.1 hL with h1 | h1
  ·injection h1 with h2 h3
   omega
  ·exact hk.2 L ys h1
 ·rw [List.map_cons, List.nodup_cons]
  refine ⟨fun h => ?_, F.nd⟩
  obtain ⟨⟨L, xs⟩, h1, h2⟩ := List.mem_map.1 h
  have := (F.bl L xs h1).1.lt
  simp only at h2
  omega
theorem Fr.lt {w0 w : World} {R g c : Nat} {ts : List Tok} {s : Sg} {Ls : List (Nat × List Value)} {Ts : List (List Value × Tree)} (F : Fr w0 w R g c ts s Ls Ts) {L : Nat} {cs : List Value} (h : (L, cs) ∈ Ls) : L < w.heap.size := (F.bl L cs h).1.lt
theorem Fr.tree {w0 w w' : World} {R g c : Nat} {ts : List Tok} {s s' : Sg} {Ls : List (Nat × List Value)} {Ts : List (List Value × Tree)} (F : Fr w0 w R g c ts s Ls Ts) {cs : List Value} {t : Tree} (ht : TreeAt w' (w.heap.size ≤ ·) cs t) (hr : Rd w' R g c ts s') (hs : St w w' R) : Fr w0 w' R g c ts s' Ls ((cs, t) :: Ts) := by
 have F1 := F.call hr hs
 refine ⟨F1.rd, F1.st, F1.bl, fun xs u h => ?_, F1.hR, F1.nd⟩
 rcases List.mem_cons.1 h with h | h
 ·injection h with h1 h2
  subst h1 h2
  exact ht.mono fun q hq _ => ⟨Nat.le_trans F.size hq, fun L ys hL => by have := F.lt hL; omega⟩
 ·exact F1.tr xs u h
theorem Fr.set {w0 w : World} {R g c : Nat} {ts : List Tok} {s : Sg} {Ls Ls' : List (Nat × List Value)} {Ts : List (List Value × Tree)} (F : Fr w0 w R g c ts s Ls Ts) (hg : g < R) (L i : Nat) (cs : List Value) (hL : (L, cs) ∈ Ls) (v : Value)
  (hnd : (Ls'.map (·.1)).Nodup) (hLs : ∀ M xs, (M, xs) ∈ Ls' → (M = L ∧ xs = cs.set i v) ∨ (M ≠ L ∧ (M, xs) ∈ Ls)) : Fr w0 (w.setCell ⟨L, i, none⟩ v) R g c ts s Ls' Ts := by
 have hb := F.bl L cs hL
 have hR := F.hR
 refine ⟨F.rd.set_other hg (by show R < L; omega) v, St.setCell F.st hb.2 v, fun M xs h => ?_, fun xs t h => (F.tr xs t h).keep (fun k hk _ => Below.heap_setCell _ _ _ _ (hk.2 L cs hL)) fun k hk _ => ⟨hk.1, fun M ys hM => ?_⟩, F.hR, hnd⟩
 ·rcases hLs M xs h with ⟨rfl, rfl⟩ | ⟨h1, h2⟩
  ·exact ⟨hb.1.set i v, hb.2⟩
  ·exact ⟨(F.bl M xs h2).1.set_other h1 v, (F.bl M xs h2).2⟩
 ·rcases hLs M ys hM with ⟨rfl, rfl⟩ | ⟨h1, h2⟩
  ·exact hk.2 _ cs hL
  ·exact hk.2 M ys h2
theorem Fr.stor {w0 w : World} {R g c : Nat} {ts : List Tok} {s : Sg} {Ls Ls' : List (Nat × List Value)} {Ts : List (List Value × Tree)} (F : Fr w0 w R g c ts s Ls Ts) (hg : g < R) (L : Nat) (cs : List Value) (hL : (L, cs) ∈ Ls) (hl : cs.length = 11) (x0 x1 x2 x3 x4 x5 x6 x7 x8 x9 x10 : Value)
  (hnd : (Ls'.map (·.1)).Nodup) (hLs : ∀ M xs, (M, xs) ∈ Ls' → (M = L ∧ xs = [x0, x1, x2, x3, x4, x5, x6, x7, x8, x9, x10]) ∨ (M ≠ L ∧ (M, xs) ∈ Ls)) : Fr w0 (stor11 w L x0 x1 x2 x3 x4 x5 x6 x7 x8 x9 x10) R g c ts s Ls' Ts := by
 have hb := F.bl L cs hL
 have hR := F.hR
 refine ⟨F.rd.stor11 hg (by omega) _ _ _ _ _ _ _ _ _ _ _, F.st.stor11 hb.2 _ _ _ _ _ _ _ _ _ _ _, fun M xs h => ?_, fun xs t h => (F.tr xs t h).keep (fun k hk _ => stor11_other _ (hk.2 L cs hL) _ _ _ _ _ _ _ _ _ _ _) fun k hk _ => ⟨hk.1, fun M ys hM => ?_⟩, F.hR, hnd⟩
 ·rcases hLs M xs h with ⟨rfl, rfl⟩ | ⟨h1, h2⟩
  ·exact ⟨hb.1.stor11 hl _ _ _ _ _ _ _ _ _ _ _, hb.2⟩
  ·exact ⟨(stor11_other _ h1 _ _ _ _ _ _ _ _ _ _ _).trans (F.bl M xs h2).1, (F.bl M xs h2).2⟩
 ·rcases hLs M ys hM with ⟨rfl, rfl⟩ | ⟨h1, h2⟩
  ·exact hk.2 _ cs hL
  ·exact hk.2 M ys h2
theorem Fr.kids {w0 w : World} {R g c : Nat} {ts : List Tok} {s : Sg} {Ls : List (Nat × List Value)} {Ts : List (List Value × Tree)} (F : Fr w0 w R g c ts s Ls Ts) (hg : g < R) (C : Nat → List Value) (ks : List Tree) (hC : ∀ i (h : i < ks.length), (C i, ks[i]) ∈ Ts) (hn : ks.length ≤ 1000) (cs : List Value) (hcs : cs = flat C ks.length) (l : Lab) :
  Fr w0 (w.alloc (.cells cs.toArray 28)) R g c ts s Ls ((lcells l (.slice (some ⟨w.heap.size, 0, none⟩) ks.length ks.length), .node l ks) :: Ts) := by
 have F1 := F.alloc hg (.cells cs.toArray 28)
 refine ⟨F1.rd, F1.st, F1.bl, fun xs t h => ?_, F1.hR, F1.nd⟩
 rcases List.mem_cons.1 h with h | h
 ·injection h with h1 h2
  subst h1 h2
  subst hcs
  refine .mk _ l ⟨w.heap.size, 0, none⟩ _ _ C ks rfl (Nat.le_refl _) (by unfold maxLen; omega) (fun _ => ⟨F.size, fun L ys hL => by have := F.lt hL; show w.heap.size ≠ L; omega⟩) (fun i hi j hj => ?_) fun i hi => ?_
  ·have hB := Blk.alloc w 28 (flat C ks.length)
   have ha : (⟨w.heap.size, 0, none⟩ : Addr).add (i * 11 + j) = ⟨w.heap.size, i * 11 + j, none⟩ := by unfold Addr.add; split <;> simp_all
   rw [ha, hB.cell, flat_get _ (fun i hi => (F.tr _ _ (hC i hi)).length) i j hi hj]
  ·exact (F.tr _ _ (hC i hi)).keep (fun k _ hk => Below.heap_alloc w _ k hk) fun _ h _ => h
 ·exact F1.tr xs t h
theorem Fr.leaf {w0 w : World} {R g c : Nat} {ts : List Tok} {s : Sg} {Ls : List (Nat × List Value)} {Ts : List (List Value × Tree)} (F : Fr w0 w R g c ts s Ls Ts) (l : Lab) : Fr w0 w R g c ts s Ls ((lcells l (.slice none 0 0), .node l []) :: Ts) := by
 refine ⟨F.rd, F.st, F.bl, fun xs t h => ?_, F.hR, F.nd⟩
 rcases List.mem_cons.1 h with h | h
 ·injection h with h1 h2
  subst h1 h2
  exact .nil _ l
 ·exact F.tr xs t h
theorem Fr.done {w0 w : World} {R g c : Nat} {ts : List Tok} {s : Sg} {Ls : List (Nat × List Value)} {Ts : List (List Value × Tree)} (F : Fr w0 w R g c ts s Ls Ts) (hg : g < R) {L : Nat} {cs : List Value} (hL : (L, cs) ∈ Ls) {x0 x1 x2 x3 x4 x5 x6 x7 x8 x9 x10 : Value} {t : Tree} (ht : ([x0, x1, x2, x3, x4, x5, x6, x7, x8, x9, x10], t) ∈ Ts) :
  TP w0 R g c ts (t, s) (.returned (.agg #[x0, x1, x2, x3, x4, x5, x6, x7, x8, x9, x10])) (stor11 w L x0 x1 x2 x3 x4 x5 x6 x7 x8 x9 x10) := by
 have hb := F.bl L cs hL
 have hR := F.hR
 have hT := (F.tr _ _ ht).keep (Q := (w0.heap.size ≤ ·)) (fun k hk _ => stor11_other w (hk.2 L cs hL) x0 x1 x2 x3 x4 x5 x6 x7 x8 x9 x10) fun k hk _ => hk.1
 obtain ⟨l, x, n, k, hf⟩ := hT.form
 rw [hf] at hT
 refine ⟨l, x, n, k, ?_, hT, F.rd.stor11 hg (by omega) _ _ _ _ _ _ _ _ _ _ _, F.st.stor11 hb.2 _ _ _ _ _ _ _ _ _ _ _⟩
 have := congrArg (fun q : List Value => Ending.returned (.agg q.toArray)) hf
 exact this
section
variable {w0 w : World} {R g c : Nat} {ts : List Tok} {s : Sg} {Ts : List (List Value × Tree)}
theorem Fr.b0 {L : Nat} {cs : List Value} {Ls : List (Nat × List Value)} (F : Fr w0 w R g c ts s ((L, cs) :: Ls) Ts) : Blk w L 28 cs := (F.bl L cs (by simp)).1
theorem Fr.b1 {p : Nat × List Value} {L : Nat} {cs : List Value} {Ls : List (Nat × List Value)} (F : Fr w0 w R g c ts s (p :: (L, cs) :: Ls) Ts) : Blk w L 28 cs := (F.bl L cs (by simp)).1
theorem Fr.b2 {p q : Nat × List Value} {L : Nat} {cs : List Value} {Ls : List (Nat × List Value)} (F : Fr w0 w R g c ts s (p :: q :: (L, cs) :: Ls) Ts) : Blk w L 28 cs := (F.bl L cs (by simp)).1
theorem Fr.b3 {p q r : Nat × List Value} {L : Nat} {cs : List Value} {Ls : List (Nat × List Value)} (F : Fr w0 w R g c ts s (p :: q :: r :: (L, cs) :: Ls) Ts) : Blk w L 28 cs := (F.bl L cs (by simp)).1
theorem nd_ne {M L : Nat} {xs cs : List Value} {Ls : List (Nat × List Value)} (h : (((L, cs) :: Ls).map (·.1)).Nodup) (hm : (M, xs) ∈ Ls) : M ≠ L := by
 rw [List.map_cons, List.nodup_cons] at h
 intro e
 exact h.1 (List.mem_map.2 ⟨(M, xs), hm, e⟩)
theorem Fr.set0 {L : Nat} {cs : List Value} {Ls : List (Nat × List Value)} (F : Fr w0 w R g c ts s ((L, cs) :: Ls) Ts) (hg : g < R) (i : Nat) (v : Value) (cs' : List Value) (h : cs' = cs.set i v) : Fr w0 (w.setCell ⟨L, i, none⟩ v) R g c ts s ((L, cs') :: Ls) Ts := by
 refine F.set hg L i cs (by simp) v F.nd fun M xs hm => ?_
 rcases List.mem_cons.1 hm with hm | hm
 ·injection hm with h1 h2
  exact .inl ⟨h1, h2.trans h⟩
 ·exact .inr ⟨nd_ne F.nd hm, by simp [hm]⟩
theorem Fr.set2 {p q : Nat × List Value} {L : Nat} {cs : List Value} {Ls : List (Nat × List Value)} (F : Fr w0 w R g c ts s (p :: q :: (L, cs) :: Ls) Ts) (hg : g < R) (i : Nat) (v : Value) (cs' : List Value) (h : cs' = cs.set i v) : Fr w0 (w.setCell ⟨L, i, none⟩ v) R g c ts s (p :: q :: (L, cs') :: Ls) Ts := by
 have hnd := F.nd
 rw [List.map_cons, List.nodup_cons, List.map_cons, List.nodup_cons] at hnd
 refine F.set hg L i cs (by simp) v F.nd fun M xs hm => ?_
 rcases List.mem_cons.1 hm with hm | hm
 ·refine .inr ⟨fun e => hnd.1 ?_, by simp [hm]⟩
  rw [← hm, e]
  simp
 ·rcases List.mem_cons.1 hm with hm | hm
  ·refine .inr ⟨fun e => hnd.2.1 ?_, by simp [hm]⟩
   rw [← hm, e]
   simp
  ·rcases List.mem_cons.1 hm with hm | hm
   ·injection hm with h1 h2
    exact .inl ⟨h1, h2.trans h⟩
   ·exact .inr ⟨nd_ne hnd.2.2 hm, by simp [hm]⟩
theorem Fr.stor0 {L : Nat} {cs : List Value} {Ls : List (Nat × List Value)} (F : Fr w0 w R g c ts s ((L, cs) :: Ls) Ts) (hg : g < R) (hl : cs.length = 11) (x0 x1 x2 x3 x4 x5 x6 x7 x8 x9 x10 : Value) : Fr w0 (stor11 w L x0 x1 x2 x3 x4 x5 x6 x7 x8 x9 x10) R g c ts s ((L, [x0, x1, x2, x3, x4, x5, x6, x7, x8, x9, x10]) :: Ls) Ts := by
 refine F.stor hg L cs (by simp) hl x0 x1 x2 x3 x4 x5 x6 x7 x8 x9 x10 F.nd fun M xs hm => ?_
 rcases List.mem_cons.1 hm with hm | hm
 ·injection hm with h1 h2
  exact .inl ⟨h1, h2⟩
 ·exact .inr ⟨nd_ne F.nd hm, by simp [hm]⟩
theorem Fr.kids1 {Ls : List (Nat × List Value)} (F : Fr w0 w R g c ts s Ls Ts) (hg : g < R) {c1 : List Value} {t1 : Tree} (h1 : (c1, t1) ∈ Ts) (l : Lab) : Fr w0 (w.alloc (.cells c1.toArray 28)) R g c ts s Ls ((lcells l (.slice (some ⟨w.heap.size, 0, none⟩) 1 1), .node l [t1]) :: Ts) :=
 F.kids hg (fun _ => c1) [t1] (fun i hi => by simp at hi; subst hi; exact h1) (by simp) c1 (by simp [flat]) l
theorem Fr.kids2 {Ls : List (Nat × List Value)} (F : Fr w0 w R g c ts s Ls Ts) (hg : g < R) {c1 c2 : List Value} {t1 t2 : Tree} (h1 : (c1, t1) ∈ Ts) (h2 : (c2, t2) ∈ Ts) (l : Lab) (cs : List Value) (hcs : cs = c1 ++ c2) : Fr w0 (w.alloc (.cells cs.toArray 28)) R g c ts s Ls ((lcells l (.slice (some ⟨w.heap.size, 0, none⟩) 2 2), .node l [t1, t2]) :: Ts) :=
 F.kids hg (fun i => if i = 0 then c1 else c2) [t1, t2] (fun i hi => by
  simp at hi
  match i, hi with
  | 0, _ => exact h1
  | 1, _ => exact h2) (by simp) cs (by rw [hcs]; simp [flat, List.range_succ]) l
theorem Fr.kids3 {Ls : List (Nat × List Value)} (F : Fr w0 w R g c ts s Ls Ts) (hg : g < R) {c1 c2 c3 : List Value} {t1 t2 t3 : Tree} (h1 : (c1, t1) ∈ Ts) (h2 : (c2, t2) ∈ Ts) (h3 : (c3, t3) ∈ Ts) (l : Lab) (cs : List Value) (hcs : cs = c1 ++ (c2 ++ c3)) : Fr w0 (w.alloc (.cells cs.toArray 28)) R g c ts s Ls ((lcells l (.slice (some ⟨w.heap.size, 0, none⟩) 3 3), .node l [t1, t2, t3]) :: Ts) :=
 F.kids hg (fun i => if i = 0 then c1 else if i = 1 then c2 else c3) [t1, t2, t3] (fun i hi => by
  simp at hi
  match i, hi with
  | 0, _ => exact h1
  | 1, _ => exact h2
  | 2, _ => exact h3) (by simp) cs (by rw [hcs]; simp [flat, List.range_succ]) l
theorem Fr.kidz1 {Ls : List (Nat × List Value)} (F : Fr w0 w R g c ts s Ls Ts) (hg : g < R) (H : Nat) (hH : w.heap.size = H) {c1 : List Value} {t1 : Tree} (h1 : (c1, t1) ∈ Ts) (l : Lab) : Fr w0 (w.alloc (.cells c1.toArray 28)) R g c ts s Ls ((lcells l (.slice (some ⟨H, 0, none⟩) 1 1), .node l [t1]) :: Ts) := by
 subst hH; exact F.kids1 hg h1 l
theorem Fr.kidz2 {Ls : List (Nat × List Value)} (F : Fr w0 w R g c ts s Ls Ts) (hg : g < R) (H : Nat) (hH : w.heap.size = H) {c1 c2 : List Value} {t1 t2 : Tree} (h1 : (c1, t1) ∈ Ts) (h2 : (c2, t2) ∈ Ts) (l : Lab) (cs : List Value) (hcs : cs = c1 ++ c2) : Fr w0 (w.alloc (.cells cs.toArray 28)) R g c ts s Ls ((lcells l (.slice (some ⟨H, 0, none⟩) 2 2), .node l [t1, t2]) :: Ts) := by
 subst hH; exact F.kids2 hg h1 h2 l cs hcs
theorem Fr.kidz3 {Ls : List (Nat × List Value)} (F : Fr w0 w R g c ts s Ls Ts) (hg : g < R) (H : Nat) (hH : w.heap.size = H) {c1 c2 c3 : List Value} {t1 t2 t3 : Tree} (h1 : (c1, t1) ∈ Ts) (h2 : (c2, t2) ∈ Ts) (h3 : (c3, t3) ∈ Ts) (l : Lab) (cs : List Value) (hcs : cs = c1 ++ (c2 ++ c3)) : Fr w0 (w.alloc (.cells cs.toArray 28)) R g c ts s Ls ((lcells l (.slice (some ⟨H, 0, none⟩) 3 3), .node l [t1, t2, t3]) :: Ts) := by
 subst hH; exact F.kids3 hg h1 h2 h3 l cs hcs
theorem Fr.drewN {Ls : List (Nat × List Value)} (F : Fr w0 w R g c ts s Ls Ts) (n : Nat) : Fr w0 (w.drewN n) R g c ts s Ls Ts :=
 ⟨F.rd.drewN n, St.drewN F.st n, F.bl, fun cs t h => (F.tr cs t h).keep (fun _ _ _ => rfl) fun _ hk _ => hk, F.hR, F.nd⟩
theorem Fr.drew {Ls : List (Nat × List Value)} (F : Fr w0 w R g c ts s Ls Ts) : Fr w0 w.drew R g c ts s Ls Ts := F.drewN 1
theorem Fr.keepT {Ls : List (Nat × List Value)} {Ts' : List (List Value × Tree)} (F : Fr w0 w R g c ts s Ls Ts) (h : ∀ p, p ∈ Ts' → p ∈ Ts) : Fr w0 w R g c ts s Ls Ts' := ⟨F.rd, F.st, F.bl, fun cs t ht => F.tr cs t (h _ ht), F.hR, F.nd⟩
theorem Fr.advR {Ls : List (Nat × List Value)} (F : Fr w0 w R g c ts s Ls Ts) (hg : g < R) (h0 : s.bad = false ∧ s.i < ts.length) {v : Int} (hv : v = (s.i : Int) + 1) : Fr w0 (w.setCell ⟨R, 1, none⟩ (.int .i64 v)) R g c ts (adv s) Ls Ts := by
 have hR := F.hR
 refine ⟨rd_adv' F.rd hg h0 hv, St.setR F.st rfl _, fun L cs h => ?_, fun xs t h => (F.tr xs t h).keep (fun k hk _ => Below.heap_setCell _ _ _ _ (by have := hk.1; show k ≠ R; omega)) fun k hk _ => hk, F.hR, F.nd⟩
 have := F.bl L cs h
 exact ⟨this.1.set_other (by show L ≠ R; omega) _, this.2⟩
theorem Fr.stoR {Ls : List (Nat × List Value)} (F : Fr w0 w R g c ts s Ls Ts) (hg : g < R) {L : Nat} {cs : List Value} (hL : (L, cs) ∈ Ls) (hl : cs.length = 11) (x0 x1 x2 x3 x4 x5 x6 x7 x8 x9 x10 : Value) : Fr w0 (stor11 w L x0 x1 x2 x3 x4 x5 x6 x7 x8 x9 x10) R g c ts s [(L, [x0, x1, x2, x3, x4, x5, x6, x7, x8, x9, x10])] Ts :=
 F.stor hg L cs hL hl x0 x1 x2 x3 x4 x5 x6 x7 x8 x9 x10 (by simp) fun M xs hm => by
  simp at hm
  exact .inl hm
theorem Fr.outT {Ls : List (Nat × List Value)} {cs : List Value} {t : Tree} (F : Fr w0 w R g c ts s Ls ((cs, t) :: Ts)) {T : Tree × Sg} (hT : T = (t, s)) : TP w0 R g c ts T (.returned (.agg cs.toArray)) w := by
 subst hT
 have ht := (F.tr cs t (by simp)).mono (Q := (w0.heap.size ≤ ·)) fun k hk _ => hk.1
 obtain ⟨l, x, n, k, rfl⟩ := ht.form
 exact ⟨l, x, n, k, rfl, ht, F.rd, F.st⟩
end
def atW (w : World) (R : Nat) : Nat := match w.cell? ⟨R, 1, none⟩ with
 | some (.int _ i) => i.toNat
 | _ => 0
theorem atW_rd {w : World} {R g c : Nat} {ts : List Tok} {s : Sg} (h : Rd w R g c ts s) : atW w R = atOf ts s := by
 unfold atW
 rw [h.cells.2.1]
 simp
theorem atOf_adv {ts : List Tok} {s t : Sg} (h : s.bad = false ∧ s.i < ts.length) (ht : On ts (adv s) t) (hi : t.i ≤ ts.length) : atOf ts s < atOf ts t ∧ atOf ts t ≤ ts.length := by
 have h1 := ht.1
 unfold adv at h1
 unfold atOf
 rw [h.1]
 cases t.bad
 ·simp; simp at h1; omega
 ·simp; omega
theorem Fr.l2 {w0 w : World} {R g c : Nat} {ts : List Tok} {s : Sg} {L M : Nat} {cs : List Value} {Ls : List (Nat × List Value)} {Ts : List (List Value × Tree)} (F : Fr w0 w R g c ts s ((L, cs) :: (M, ncz) :: Ls) Ts) : (∀ i, w.cell? ⟨L, i, none⟩ = cs[i]?) ∧ (∀ i, w.frozen? ⟨L, i, none⟩ = false) ∧ L < w.heap.size ∧ (∀ i, w.cell? ⟨M, i, none⟩ = [.int .i64 0, .string ⟨#[]⟩, .int .u64 0, .int .i64 0, .bool false, .int .i64 0, .int .i64 0, .int .i64 0, .int .i64 0, .int .i64 0, .slice none 0 0][i]?) ∧ (∀ i, w.frozen? ⟨M, i, none⟩ = false) ∧ M < w.heap.size := ⟨F.b0.all.1, F.b0.all.2, F.b0.lt, F.b1.all.1, F.b1.all.2, F.b1.lt⟩
theorem Fr.s0 {w0 w : World} {R g c : Nat} {ts : List Tok} {s : Sg} {Ls : List (Nat × List Value)} {Ts : List (List Value × Tree)} {L : Nat} {x0 x1 x2 x3 x4 x5 x6 x7 x8 x9 x10 : Value} (F : Fr w0 w R g c ts s ((L, [x0, x1, x2, x3, x4, x5, x6, x7, x8, x9, x10]) :: Ls) Ts) (hg : g < R) (v : Value) : Fr w0 (w.setCell ⟨L, 0, none⟩ v) R g c ts s ((L, [v, x1, x2, x3, x4, x5, x6, x7, x8, x9, x10]) :: Ls) Ts := F.set0 hg 0 v _ rfl
theorem Fr.s1 {w0 w : World} {R g c : Nat} {ts : List Tok} {s : Sg} {Ls : List (Nat × List Value)} {Ts : List (List Value × Tree)} {L : Nat} {x0 x1 x2 x3 x4 x5 x6 x7 x8 x9 x10 : Value} (F : Fr w0 w R g c ts s ((L, [x0, x1, x2, x3, x4, x5, x6, x7, x8, x9, x10]) :: Ls) Ts) (hg : g < R) (v : Value) : Fr w0 (w.setCell ⟨L, 1, none⟩ v) R g c ts s ((L, [x0, v, x2, x3, x4, x5, x6, x7, x8, x9, x10]) :: Ls) Ts := F.set0 hg 1 v _ rfl
theorem Fr.s2 {w0 w : World} {R g c : Nat} {ts : List Tok} {s : Sg} {Ls : List (Nat × List Value)} {Ts : List (List Value × Tree)} {L : Nat} {x0 x1 x2 x3 x4 x5 x6 x7 x8 x9 x10 : Value} (F : Fr w0 w R g c ts s ((L, [x0, x1, x2, x3, x4, x5, x6, x7, x8, x9, x10]) :: Ls) Ts) (hg : g < R) (v : Value) : Fr w0 (w.setCell ⟨L, 2, none⟩ v) R g c ts s ((L, [x0, x1, v, x3, x4, x5, x6, x7, x8, x9, x10]) :: Ls) Ts := F.set0 hg 2 v _ rfl
theorem Fr.s3 {w0 w : World} {R g c : Nat} {ts : List Tok} {s : Sg} {Ls : List (Nat × List Value)} {Ts : List (List Value × Tree)} {L : Nat} {x0 x1 x2 x3 x4 x5 x6 x7 x8 x9 x10 : Value} (F : Fr w0 w R g c ts s ((L, [x0, x1, x2, x3, x4, x5, x6, x7, x8, x9, x10]) :: Ls) Ts) (hg : g < R) (v : Value) : Fr w0 (w.setCell ⟨L, 3, none⟩ v) R g c ts s ((L, [x0, x1, x2, v, x4, x5, x6, x7, x8, x9, x10]) :: Ls) Ts := F.set0 hg 3 v _ rfl
theorem Fr.s4 {w0 w : World} {R g c : Nat} {ts : List Tok} {s : Sg} {Ls : List (Nat × List Value)} {Ts : List (List Value × Tree)} {L : Nat} {x0 x1 x2 x3 x4 x5 x6 x7 x8 x9 x10 : Value} (F : Fr w0 w R g c ts s ((L, [x0, x1, x2, x3, x4, x5, x6, x7, x8, x9, x10]) :: Ls) Ts) (hg : g < R) (v : Value) : Fr w0 (w.setCell ⟨L, 4, none⟩ v) R g c ts s ((L, [x0, x1, x2, x3, v, x5, x6, x7, x8, x9, x10]) :: Ls) Ts := F.set0 hg 4 v _ rfl
theorem Fr.s5 {w0 w : World} {R g c : Nat} {ts : List Tok} {s : Sg} {Ls : List (Nat × List Value)} {Ts : List (List Value × Tree)} {L : Nat} {x0 x1 x2 x3 x4 x5 x6 x7 x8 x9 x10 : Value} (F : Fr w0 w R g c ts s ((L, [x0, x1, x2, x3, x4, x5, x6, x7, x8, x9, x10]) :: Ls) Ts) (hg : g < R) (v : Value) : Fr w0 (w.setCell ⟨L, 5, none⟩ v) R g c ts s ((L, [x0, x1, x2, x3, x4, v, x6, x7, x8, x9, x10]) :: Ls) Ts := F.set0 hg 5 v _ rfl
theorem Fr.s6 {w0 w : World} {R g c : Nat} {ts : List Tok} {s : Sg} {Ls : List (Nat × List Value)} {Ts : List (List Value × Tree)} {L : Nat} {x0 x1 x2 x3 x4 x5 x6 x7 x8 x9 x10 : Value} (F : Fr w0 w R g c ts s ((L, [x0, x1, x2, x3, x4, x5, x6, x7, x8, x9, x10]) :: Ls) Ts) (hg : g < R) (v : Value) : Fr w0 (w.setCell ⟨L, 6, none⟩ v) R g c ts s ((L, [x0, x1, x2, x3, x4, x5, v, x7, x8, x9, x10]) :: Ls) Ts := F.set0 hg 6 v _ rfl
theorem Fr.s7 {w0 w : World} {R g c : Nat} {ts : List Tok} {s : Sg} {Ls : List (Nat × List Value)} {Ts : List (List Value × Tree)} {L : Nat} {x0 x1 x2 x3 x4 x5 x6 x7 x8 x9 x10 : Value} (F : Fr w0 w R g c ts s ((L, [x0, x1, x2, x3, x4, x5, x6, x7, x8, x9, x10]) :: Ls) Ts) (hg : g < R) (v : Value) : Fr w0 (w.setCell ⟨L, 7, none⟩ v) R g c ts s ((L, [x0, x1, x2, x3, x4, x5, x6, v, x8, x9, x10]) :: Ls) Ts := F.set0 hg 7 v _ rfl
theorem Fr.s8 {w0 w : World} {R g c : Nat} {ts : List Tok} {s : Sg} {Ls : List (Nat × List Value)} {Ts : List (List Value × Tree)} {L : Nat} {x0 x1 x2 x3 x4 x5 x6 x7 x8 x9 x10 : Value} (F : Fr w0 w R g c ts s ((L, [x0, x1, x2, x3, x4, x5, x6, x7, x8, x9, x10]) :: Ls) Ts) (hg : g < R) (v : Value) : Fr w0 (w.setCell ⟨L, 8, none⟩ v) R g c ts s ((L, [x0, x1, x2, x3, x4, x5, x6, x7, v, x9, x10]) :: Ls) Ts := F.set0 hg 8 v _ rfl
theorem Fr.s10 {w0 w : World} {R g c : Nat} {ts : List Tok} {s : Sg} {Ls : List (Nat × List Value)} {Ts : List (List Value × Tree)} {L : Nat} {x0 x1 x2 x3 x4 x5 x6 x7 x8 x9 x10 : Value} (F : Fr w0 w R g c ts s ((L, [x0, x1, x2, x3, x4, x5, x6, x7, x8, x9, x10]) :: Ls) Ts) (hg : g < R) (v : Value) : Fr w0 (w.setCell ⟨L, 10, none⟩ v) R g c ts s ((L, [x0, x1, x2, x3, x4, x5, x6, x7, x8, x9, v]) :: Ls) Ts := F.set0 hg 10 v _ rfl
end Go.Proofs.YtkliclihpobmiaaGreatDoor
/- Plain mathematics of the reference's parser: its rules as functions, exactly. Nothing of the program stands here. -/
namespace Go.Proofs.YtkliclihpobmiaaGreatDoor
open Go
set_option linter.unusedVariables false
set_option linter.unusedSimpArgs false

def lnR (ts : List Tok) (s : Sg) : Nat := if s.i < ts.length then (tat ts s.i).line else 1
def EQ (ts : List Tok) : Nat → NT → Sg → Tree × Sg
 | 0, _, s => (tree0, s)
 | f + 1, .ex, s => if hasT ts (EQ ts f (.bn 0) s).2 [63] then
   (.node (labK 23 (lnR ts s)) [(EQ ts f (.bn 0) s).1, (EQ ts f .ex (adv (EQ ts f (.bn 0) s).2)).1, (EQ ts f .ex (exc ts (EQ ts f .ex (adv (EQ ts f (.bn 0) s).2)).2 [58])).1], (EQ ts f .ex (exc ts (EQ ts f .ex (adv (EQ ts f (.bn 0) s).2)).2 [58])).2)
  else EQ ts f (.bn 0) s
 | f + 1, .bn l, s => if l = 9 then EQ ts f .ca s else EQ ts f (.bl l (lnR ts s) (EQ ts f (.bn (l + 1)) s).1) (EQ ts f (.bn (l + 1)) s).2
 | f + 1, .bl l line left, s => if opV ts s l = 0 then (left, s)
  else if l = 2 then (.node { labK 22 line with op := opV ts s l } [left, (EQ ts f (.bn (l + 1)) (adv s)).1], (EQ ts f (.bn (l + 1)) (adv s)).2)
  else EQ ts f (.bl l line (.node { labK 22 line with op := opV ts s l } [left, (EQ ts f (.bn (l + 1)) (adv s)).1])) (EQ ts f (.bn (l + 1)) (adv s)).2
 | f + 1, .ca, s => EQ ts f (.cl (lnR ts s) (EQ ts f .un s).1) (EQ ts f .un s).2
 | f + 1, .cl line t, s => if hasT ts s [97, 115] then EQ ts f (.cl line (.node { labK 24 line with wd := (tyV' ts (adv s)).1, sg := (tyV' ts (adv s)).2 } [t])) (tyS ts (adv s)) else (t, s)
 | f + 1, .un, s => if opV ts s 10 = 0 then EQ ts f .pr s else (.node { labK 21 (lnR ts s) with op := opV ts s 10 } [(EQ ts f .un (adv s)).1], (EQ ts f .un (adv s)).2)
 | f + 1, .pr, s => if kd ts s = 3 then (.node { labK 18 (lnR ts s) with num := (nxt ts s).num } [], adv s)
  else if hasT ts s [116, 114, 117, 101] then (.node { labK 18 (lnR ts s) with num := 1, wd := 1 } [], adv s)
  else if hasT ts s [102, 97, 108, 115, 101] then (.node { labK 18 (lnR ts s) with wd := 1 } [], adv s)
  else if hasT ts s [114, 101, 99, 118] then (.node { labK 26 (lnR ts s) with name := nmV ts (exc ts (adv s) [40]) } [], exc ts (nmS ts (exc ts (adv s) [40])) [41])
  else if hasT ts s [40] then ((EQ ts f .ex (adv s)).1, exc ts (EQ ts f .ex (adv s)).2 [41])
  else if kd ts s = 1 then EQ ts f .us s
  else if f = 0 then (tree0, s) else (.node (labK 0 (lnR ts s)) [], stop s)
 | f + 1, .us, s => if hasT ts (nmS ts s) [91] then (.node { labK 20 (lnR ts s) with name := nmV ts s } [(EQ ts f .ex (adv (nmS ts s))).1], exc ts (EQ ts f .ex (adv (nmS ts s))).2 [93])
  else if hasT ts (nmS ts s) [40] then (.node { labK 25 (lnR ts s) with name := nmV ts s } (listM ts (fun q => EQ ts f .ex q) f (nmS ts s)).1, (listM ts (fun q => EQ ts f .ex q) f (nmS ts s)).2)
  else (.node { labK 19 (lnR ts s) with name := nmV ts s } [], nmS ts s)
@[irreducible] def xprQ (ts : List Tok) (s : Sg) : Tree × Sg := EQ ts (big ts) .ex s

def dirsQ (ts : List Tok) : Nat → Nat → Nat → Sg → Nat × Nat × Sg × Bool
 | 0, p, u, s => (p, u, s, false)
 | f + 1, p, u, s => if hasT ts s [35] = true then (if 0 < p ∧ 0 < u then (p, u, stop s, true) else dirsQ ts f (dir ts p u (adv s)).1 (dir ts p u (adv s)).2.1 (dir ts p u (adv s)).2.2) else (p, u, s, false)
def declLQ (ts : List Tok) (s : Sg) : Tree × Sg :=
 let s1 := adv s
 let s2 := nmS ts s1
 let s3 := if hasT ts s2 [58] then tyS ts (adv s2) else s2
 let s4 := exc ts s3 [61]
 (.node { labK 10 (lnR ts s) with name := nmV ts s1, wd := if hasT ts s2 [58] then ((tyV' ts (adv s2)).1 : Int) else 0, sg := if hasT ts s2 [58] then (tyV' ts (adv s2)).2 else false } [(xprQ ts s4).1], exc ts (xprQ ts s4).2 [59])
def declVQ (ts : List Tok) (s : Sg) : Tree × Sg :=
 let s1 := adv s
 let s2 := exc ts (nmS ts s1) [58]
 let s3 := tyS ts s2
 if hasT ts s3 [61] then (.node { labK 9 (lnR ts s) with name := nmV ts s1, wd := (tyV' ts s2).1, sg := (tyV' ts s2).2 } [(xprQ ts (adv s3)).1], exc ts (xprQ ts (adv s3)).2 [59])
 else (.node { labK 9 (lnR ts s) with name := nmV ts s1, wd := (tyV' ts s2).1, sg := (tyV' ts s2).2 } [], exc ts s3 [59])
def changeQ (ts : List Tok) (s : Sg) : Tree × Sg :=
 let s1 := nmS ts s
 if hasT ts s1 [91] then
  let s2 := exc ts (exc ts (xprQ ts (adv s1)).2 [93]) [61]
  (.node { labK 12 (lnR ts s) with name := nmV ts s } [(xprQ ts (adv s1)).1, (xprQ ts s2).1], exc ts (xprQ ts s2).2 [59])
 else
  let s2 := exc ts s1 [61]
  (.node { labK 11 (lnR ts s) with name := nmV ts s } [(xprQ ts s2).1], exc ts (xprQ ts s2).2 [59])
def sendQ (ts : List Tok) (s : Sg) : Tree × Sg :=
 let s1 := adv s
 let s2 := exc ts (nmS ts s1) [40]
 (.node { labK 16 (lnR ts s) with name := nmV ts s1 } [(xprQ ts s2).1], exc ts (exc ts (xprQ ts s2).2 [41]) [59])
def resQ (ts : List Tok) (s : Sg) : Tree × Sg := (.node (labK 17 (lnR ts s)) [(xprQ ts (adv s)).1], exc ts (xprQ ts (adv s)).2 [59])
def SQ (ts : List Tok) : Nat → NS → Sg → List Tree × Sg
 | 0, .bs _, s => ([tree0], exc ts s [125])
 | 0, .bk, s => ([tree0], s)
 | 0, .st, s => ([tree0], s)
 | 0, .br, s => ([tree0], s)
 | 0, .lp, s => ([tree0], s)
 | f + 1, .bk, s => ([.node (labK 8 (lnR ts s)) (SQ ts f (.bs []) (exc ts s [123])).1], (SQ ts f (.bs []) (exc ts s [123])).2)
 | f + 1, .bs acc, s => if s.bad = true then (acc, s) else if hasT ts s [125] = true then (acc, adv s) else SQ ts f (.bs (acc ++ (SQ ts f .st s).1)) (SQ ts f .st s).2
 | f + 1, .st, s => if kd ts s = 1 then ([(changeQ ts s).1], (changeQ ts s).2)
  else if hasT ts s [118, 97, 114] then ([(declVQ ts s).1], (declVQ ts s).2) else if hasT ts s [108, 101, 116] then ([(declLQ ts s).1], (declLQ ts s).2)
  else if hasT ts s [105, 102] then SQ ts f .br s
  else if hasT ts s [35] || hasT ts s [102, 111, 114] || hasT ts s [119, 104, 105, 108, 101] then SQ ts f .lp s
  else if hasT ts s [115, 101, 110, 100] then ([(sendQ ts s).1], (sendQ ts s).2) else if hasT ts s [114, 101, 116, 117, 114, 110] then ([(resQ ts s).1], (resQ ts s).2)
  else ([.node (labK 0 (lnR ts s)) []], stop s)
 | f + 1, .br, s =>
  if hasT ts (SQ ts f .bk (xprQ ts (adv s)).2).2 [101, 108, 115, 101] then
   if hasT ts (adv (SQ ts f .bk (xprQ ts (adv s)).2).2) [105, 102] then ([.node (labK 13 (lnR ts s)) ([(xprQ ts (adv s)).1] ++ (SQ ts f .bk (xprQ ts (adv s)).2).1 ++ (SQ ts f .br (adv (SQ ts f .bk (xprQ ts (adv s)).2).2)).1)], (SQ ts f .br (adv (SQ ts f .bk (xprQ ts (adv s)).2).2)).2)
   else ([.node (labK 13 (lnR ts s)) ([(xprQ ts (adv s)).1] ++ (SQ ts f .bk (xprQ ts (adv s)).2).1 ++ (SQ ts f .bk (adv (SQ ts f .bk (xprQ ts (adv s)).2).2)).1)], (SQ ts f .bk (adv (SQ ts f .bk (xprQ ts (adv s)).2).2)).2)
  else ([.node (labK 13 (lnR ts s)) ([(xprQ ts (adv s)).1] ++ (SQ ts f .bk (xprQ ts (adv s)).2).1)], (SQ ts f .bk (xprQ ts (adv s)).2).2)
 | f + 1, .lp, s =>
  let d := dirsQ ts 3 0 0 s
  let s1 := d.2.2.1
  if d.2.2.2 then ([.node { labK 0 (lnR ts s) with pip := d.1, unr := d.2.1 } []], s1)
  else if hasT ts s1 [119, 104, 105, 108, 101] then
   ([.node { labK 15 (lnR ts s) with pip := d.1, unr := d.2.1 } ([(xprQ ts (adv s1)).1] ++ (SQ ts f .bk (xprQ ts (adv s1)).2).1)], (SQ ts f .bk (xprQ ts (adv s1)).2).2)
  else
   let s0 := nmS ts (exc ts s1 [102, 111, 114])
   let s2 := exc ts s0 [58]
   let s3 := exc ts (tyS ts s2) [105, 110]
   let s4 := exc ts (xprQ ts s3).2 [46, 46]
   ([.node { labK 14 (lnR ts s) with name := nmV ts (exc ts s1 [102, 111, 114]), wd := (tyV' ts s2).1, sg := (tyV' ts s2).2, pip := d.1, unr := d.2.1 } ([(xprQ ts s3).1, (xprQ ts s4).1] ++ (SQ ts f .bk (xprQ ts s4).2).1)], (SQ ts f .bk (xprQ ts s4).2).2)
@[irreducible] def blkQ (ts : List Tok) (s : Sg) : Tree × Sg := ((SQ ts (big ts) .bk s).1.headD tree0, (SQ ts (big ts) .bk s).2)

def scalQ (ts : List Tok) (s : Sg) : Tree × Sg :=
 let s2 := exc ts (nmS ts s) [58]
 (.node { labK 4 (lnR ts s) with name := nmV ts s, wd := (tyV' ts s2).1, sg := (tyV' ts s2).2 } [], tyS ts s2)
def prmQ (ts : List Tok) (s : Sg) : Tree × Sg :=
 let s2 := exc ts (nmS ts s) [58]
 let s3 := tyS ts (prmS ts s2)
 if prmK ts s2 = 4 ∧ hasT ts s3 [91] = true then
  let s4 := nuS ts (adv s3) 0
  let s5 := exc ts s4 [93]
  (.node { labK 5 (lnR ts s) with name := nmV ts s, wd := (tyV' ts (prmS ts s2)).1, sg := (tyV' ts (prmS ts s2)).2, num := nuV ts (adv s3) 0, op := divO ts s5, fac := divF ts s5 } [], divS ts s5)
 else (.node { labK (prmK ts s2) (lnR ts s) with name := nmV ts s, wd := (tyV' ts (prmS ts s2)).1, sg := (tyV' ts (prmS ts s2)).2 } [], s3)
def funcQ (ts : List Tok) (s : Sg) : Tree × Sg :=
 let s1 := adv s
 let p := listM ts (scalQ ts) (big ts) (nmS ts s1)
 let s3 := exc ts p.2 [45, 62]
 let b := blkQ ts (tyS ts s3)
 (.node { labK 2 (lnR ts s) with name := nmV ts s1, wd := (tyV' ts s3).1, sg := (tyV' ts s3).2 } (p.1 ++ [b.1]), b.2)
def kernQ (ts : List Tok) (s : Sg) : Tree × Sg :=
 let s1 := adv s
 let p := listM ts (prmQ ts) (big ts) (nmS ts s1)
 if hasT ts p.2 [45, 62] then
  let s3 := adv p.2
  let b := blkQ ts (tyS ts s3)
  (.node { labK 3 (lnR ts s) with name := nmV ts s1, wd := (tyV' ts s3).1, sg := (tyV' ts s3).2 } (p.1 ++ [b.1]), b.2)
 else
  let b := blkQ ts p.2
  (.node { labK 3 (lnR ts s) with name := nmV ts s1 } (p.1 ++ [b.1]), b.2)
def unitsQ (ts : List Tok) : Nat → List Tree → Sg → List Tree × Sg
 | 0, acc, s => (acc, s)
 | f + 1, acc, s => if s.bad = false ∧ s.i < ts.length then (if hasT ts s [102, 110] then unitsQ ts f (acc ++ [(funcQ ts s).1]) (funcQ ts s).2 else if hasT ts s [107, 101, 114, 110, 101, 108] then unitsQ ts f (acc ++ [(kernQ ts s).1]) (kernQ ts s).2 else unitsQ ts f acc (stop s)) else (acc, s)
def progQ (ts : List Tok) : Tree × Sg :=
 let u := unitsQ ts (ts.length + 1) [] ⟨0, false⟩
 (.node (labK 1 (lnR ts ⟨0, false⟩)) u.1, u.2)
end Go.Proofs.YtkliclihpobmiaaGreatDoor
/- The reference's reader in memory, and its text, kind, line, take, need, name: contracts. -/
namespace Go.Proofs.YtkliclihpobmiaaGreatDoor
namespace Q
open Go Go.RowKit
set_option linter.unusedVariables false
set_option linter.unusedSimpArgs false

structure Rd (w : World) (R g c : Nat) (ts : List Tok) (s : Sg) : Prop where
 blk : Blk w R 51 [.slice (some ⟨g, 0, none⟩) ts.length c, .int .i64 (s.i : Int), .bool s.bad]
 tk : TkIn w g ts
 hi : s.i ≤ ts.length
theorem Rd.lt {w : World} {R g c : Nat} {ts : List Tok} {s : Sg} (h : Rd w R g c ts s) : R < w.heap.size := h.blk.lt
theorem Rd.cells {w : World} {R g c : Nat} {ts : List Tok} {s : Sg} (h : Rd w R g c ts s) : w.cell? ⟨R, 0, none⟩ = some (.slice (some ⟨g, 0, none⟩) ts.length c) ∧ w.cell? ⟨R, 1, none⟩ = some (.int .i64 (s.i : Int)) ∧ w.cell? ⟨R, 2, none⟩ = some (.bool s.bad) ∧
  w.frozen? ⟨R, 1, none⟩ = false ∧ w.frozen? ⟨R, 2, none⟩ = false := ⟨h.blk.cell 0, h.blk.cell 1, h.blk.cell 2, h.blk.frozen 1, h.blk.frozen 2⟩
theorem Rd.of_blocks {w w' : World} {R g c : Nat} {ts : List Tok} {s : Sg} (h : Rd w R g c ts s) (h1 : w'.heap[R]? = w.heap[R]?) (h2 : ∀ k, k ≤ g → w'.heap[k]? = w.heap[k]?) (hs : w.heap.size ≤ w'.heap.size) : Rd w' R g c ts s :=
 ⟨h1.trans h.blk, h.tk.of_block (h2 g (Nat.le_refl _)), h.hi⟩
theorem Rd.below {w w' : World} {R g c B : Nat} {ts : List Tok} {s : Sg} (h : Rd w R g c ts s) (hg : g < R) (hb : Below B w w') (hR : R < B) : Rd w' R g c ts s :=
 h.of_blocks (hb.block R hR) (fun k hk => hb.block k (by omega)) hb.size
theorem Rd.alloc {w : World} {R g c : Nat} {ts : List Tok} {s : Sg} (h : Rd w R g c ts s) (hg : g < R) (o : Obj) : Rd (w.alloc o) R g c ts s :=
 h.below hg ((Below.refl w.heap.size w).alloc (Nat.le_refl _) o) h.lt
theorem Rd.set_other {w : World} {R g c : Nat} {ts : List Tok} {s : Sg} (h : Rd w R g c ts s) (hg : g < R) {a : Addr} (ha : R < a.block) (v : Value) : Rd (w.setCell a v) R g c ts s :=
 h.of_blocks (Below.heap_setCell _ _ _ _ (by omega)) (fun k hk => Below.heap_setCell _ _ _ _ (by omega)) (by rw [size_setCell]; exact Nat.le_refl _)
theorem Rd.drewN {w : World} {R g c : Nat} {ts : List Tok} {s : Sg} (h : Rd w R g c ts s) (n : Nat) : Rd (w.drewN n) R g c ts s := ⟨h.blk, h.tk, h.hi⟩
theorem Rd.stor2 {w : World} {R g c : Nat} {ts : List Tok} {s : Sg} (h : Rd w R g c ts s) (hg : g < R) {L : Nat} (hL : R < L) (x0 x1 : Value) : Rd (stor2 w L x0 x1) R g c ts s :=
 (h.set_other hg hL _).set_other hg hL _
theorem Rd.stor11 {w : World} {R g c : Nat} {ts : List Tok} {s : Sg} (h : Rd w R g c ts s) (hg : g < R) {L : Nat} (hL : R < L) (x0 x1 x2 x3 x4 x5 x6 x7 x8 x9 x10 : Value) : Rd (stor11 w L x0 x1 x2 x3 x4 x5 x6 x7 x8 x9 x10) R g c ts s :=
 h.of_blocks (stor11_other _ (by omega) x0 x1 x2 x3 x4 x5 x6 x7 x8 x9 x10) (fun k hk => stor11_other _ (by omega) x0 x1 x2 x3 x4 x5 x6 x7 x8 x9 x10) (by rw [stor11_size]; exact Nat.le_refl _)
theorem Rd.own {w w' : World} {R g c : Nat} {ts : List Tok} {s : Sg} {row : Option Nat} (h : Rd w R g c ts s) (hg : g < R) (hw : w.grownBy w' row) (hr : ∀ k, row = some k → R < k) : Rd w' R g c ts s :=
 h.of_blocks (hw.block R h.lt (fun e => by have := hr R e.symm; omega)) (fun k hk => hw.block k (by have := h.lt; omega) (fun e => by have := hr k e.symm; omega)) hw.size
theorem Rd.failed {w : World} {R g c : Nat} {ts : List Tok} {s : Sg} (h : Rd w R g c ts s) (hg : g < R) : Rd (w.setCell ⟨R, 2, none⟩ (.bool true)) R g c ts (stop s) :=
 ⟨h.blk.set 2 _, h.tk.of_block (Below.heap_setCell _ _ _ _ (by show g ≠ R; omega)), h.hi⟩
theorem rd_adv' {w : World} {R g c : Nat} {ts : List Tok} {s : Sg} (h : Rd w R g c ts s) (hg : g < R) (h0 : s.bad = false ∧ s.i < ts.length) {v : Int} (hv : v = (s.i : Int) + 1) : Rd (w.setCell ⟨R, 1, none⟩ (.int .i64 v)) R g c ts (adv s) := by
 subst hv
 exact ⟨h.blk.set 1 _, h.tk.of_block (Below.heap_setCell _ _ _ _ (by show g ≠ R; omega)), h0.2⟩
structure QC (ts : List Tok) (R g c : Nat) : Prop where
 x : Ctx ts R g c
 k2 : ∀ s, 0 < (typeOf (tx ts s)).1 → kd ts s = 2
 k4 : ∀ s l, l < 9 → opV ts s l ≠ 0 → kd ts s = 4

theorem tx_out {ts : List Tok} {s : Sg} (h : s.bad = true ∨ ts.length ≤ s.i) : nxt ts s = ⟨0, [], 0, 0, 0⟩ := by
 unfold nxt
 rcases h with h | h
 ·rw [h]; rfl
 ·cases s.bad
  ·exact tat_out h
  ·rfl
theorem tx_at {ts : List Tok} {s : Sg} (h : s.bad = false) : nxt ts s = tat ts s.i := by
 unfold nxt; rw [h]; rfl

set_option maxHeartbeats 1000000 in
set_option maxRecDepth 100000 in
theorem text_quiet {ts : List Tok} {R g c : Nat} (X : Ctx ts R g c) {s : Sg} (w : World) (hR : Rd w R g c ts s) : Calls Tryz.prog 70 #[.pointer (some ⟨R, 0, none⟩)] w fun e w' => e = .returned (.string (str (tx ts s))) ∧ ∃ m, w' = w.drewN m := by
 have hlen := X.len
 have hcap := X.cap
 obtain ⟨c0, c1, c2, f1, f2⟩ := hR.cells
 have hlt := hR.lt
 have HB := Hd fun n => (⟨rfl, rfl, rfl, Nat.le_refl _, fun _ _ => rfl⟩ : Below w.heap.size w (w.drewN n))
 have HB2 := Hd fun n m => (⟨rfl, rfl, rfl, Nat.le_refl _, fun _ _ => rfl⟩ : Below w.heap.size w ((w.drewN n).drewN m))
 have hlt2 := hR.tk.1
 cases hb : s.bad with
 | true =>
  have HE : Hid (tx ts s = []) := Hd (by unfold tx; rw [tx_out (.inl hb)])
  rw [HE.out, show str [] = ⟨#[]⟩ from rfl]
  rw [hb] at c2
  clear hR X hb HE
  generalize s.i = A at *
  generalize ts.length = N at *
  go_enter Tryz.func70, Tryz.ntmps70
  go_wp2
  go_quiet (fail)
  go_wp2
  go_ret
  exact ⟨rfl, _, rfl⟩
 | false =>
  rw [hb] at c2
  by_cases hi : ts.length ≤ s.i
  ·have HE : Hid (tx ts s = []) := Hd (by unfold tx; rw [tx_out (.inr hi)])
   rw [HE.out, show str [] = ⟨#[]⟩ from rfl]
   clear hR X hb HE
   generalize s.i = A at *
   generalize ts.length = N at *
   go_enter Tryz.func70, Tryz.ntmps70
   go_wp2
   go_quiet (fail)
   go_wp2
   go_ret
   exact ⟨rfl, _, rfl⟩
  ·obtain ⟨d0, d1, d2, d3, d4⟩ := hR.tk.2 s.i (by omega)
   have HE : Hid (tx ts s = (tat ts s.i).text) := Hd (by unfold tx; rw [tx_at hb])
   rw [HE.out]
   have hA : (s.i : Int) < (ts.length : Int) := by omega
   clear hR X hb HE
   generalize s.i = A at *
   generalize ts.length = N at *
   generalize tat ts A = T at *
   go_enter Tryz.func70, Tryz.ntmps70
   go_wp2
   go_quiet (fail)
   go_wp2
   go_quiet (fail)
   go_wp2
   go_ret
   exact ⟨rfl, _, World.drewN_drewN _ _ _⟩
set_option maxHeartbeats 1000000 in
set_option maxRecDepth 100000 in
theorem kind_quiet {ts : List Tok} {R g c : Nat} (X : Ctx ts R g c) {s : Sg} (w : World) (hR : Rd w R g c ts s) : Calls Tryz.prog 136 #[.pointer (some ⟨R, 0, none⟩)] w fun e w' => e = .returned (.int .i64 (kd ts s : Int)) ∧ ∃ m, w' = w.drewN m := by
 have hlen := X.len
 have hcap := X.cap
 obtain ⟨c0, c1, c2, f1, f2⟩ := hR.cells
 have hlt := hR.lt
 have HB := Hd fun n => (⟨rfl, rfl, rfl, Nat.le_refl _, fun _ _ => rfl⟩ : Below w.heap.size w (w.drewN n))
 have HB2 := Hd fun n m => (⟨rfl, rfl, rfl, Nat.le_refl _, fun _ _ => rfl⟩ : Below w.heap.size w ((w.drewN n).drewN m))
 have hlt2 := hR.tk.1
 cases hb : s.bad with
 | true =>
  have HE : Hid ((kd ts s : Int) = 0) := Hd (by unfold kd; rw [tx_out (.inl hb)]; rfl)
  rw [HE.out]
  rw [hb] at c2
  clear hR X hb HE
  generalize s.i = A at *
  generalize ts.length = N at *
  go_enter Tryz.func136, Tryz.ntmps136
  go_wp2
  go_quiet (fail)
  go_wp2
  go_ret
  exact ⟨rfl, _, rfl⟩
 | false =>
  rw [hb] at c2
  by_cases hi : ts.length ≤ s.i
  ·have HE : Hid ((kd ts s : Int) = 0) := Hd (by unfold kd; rw [tx_out (.inr hi)]; rfl)
   rw [HE.out]
   clear hR X hb HE
   generalize s.i = A at *
   generalize ts.length = N at *
   go_enter Tryz.func136, Tryz.ntmps136
   go_wp2
   go_quiet (fail)
   go_wp2
   go_ret
   exact ⟨rfl, _, rfl⟩
  ·obtain ⟨d0, d1, d2, d3, d4⟩ := hR.tk.2 s.i (by omega)
   have HE : Hid (kd ts s = (tat ts s.i).kind) := Hd (by unfold kd; rw [tx_at hb])
   rw [HE.out]
   have hA : (s.i : Int) < (ts.length : Int) := by omega
   clear hR X hb HE
   generalize s.i = A at *
   generalize ts.length = N at *
   generalize tat ts A = T at *
   go_enter Tryz.func136, Tryz.ntmps136
   go_wp2
   go_quiet (fail)
   go_wp2
   go_quiet (fail)
   go_wp2
   go_ret
   exact ⟨rfl, _, World.drewN_drewN _ _ _⟩
set_option maxHeartbeats 1000000 in
set_option maxRecDepth 100000 in
theorem line_quiet {ts : List Tok} {R g c : Nat} (X : Ctx ts R g c) {s : Sg} (w : World) (hR : Rd w R g c ts s) : Calls Tryz.prog 69 #[.pointer (some ⟨R, 0, none⟩)] w fun e w' => e = .returned (.int .i64 (lnR ts s : Int)) ∧ ∃ m, w' = w.drewN m := by
 have hlen := X.len
 have hcap := X.cap
 obtain ⟨c0, c1, c2, f1, f2⟩ := hR.cells
 have hlt := hR.lt
 have HB := Hd fun n => (⟨rfl, rfl, rfl, Nat.le_refl _, fun _ _ => rfl⟩ : Below w.heap.size w (w.drewN n))
 have HB2 := Hd fun n m => (⟨rfl, rfl, rfl, Nat.le_refl _, fun _ _ => rfl⟩ : Below w.heap.size w ((w.drewN n).drewN m))
 have hlt2 := hR.tk.1
 by_cases hi : s.i < ts.length
 ·obtain ⟨d0, d1, d2, d3, d4⟩ := hR.tk.2 s.i hi
  have HE : Hid (lnR ts s = (tat ts s.i).line) := Hd (by unfold lnR; rw [if_pos hi])
  rw [HE.out]
  have hA : (s.i : Int) < (ts.length : Int) := by omega
  clear hR X HE c2 f1 f2
  generalize s.i = A at *
  generalize ts.length = N at *
  generalize tat ts A = T at *
  go_enter Tryz.func69, Tryz.ntmps69
  go_wp2
  go_quiet (fail)
  go_wp2
  go_quiet (fail)
  go_wp2
  go_ret
  exact ⟨rfl, _, World.drewN_drewN _ _ _⟩
 ·have HE : Hid ((lnR ts s : Int) = 1) := Hd (by unfold lnR; rw [if_neg hi]; rfl)
  rw [HE.out]
  clear hR X HE c2 f1 f2
  generalize s.i = A at *
  generalize ts.length = N at *
  go_enter Tryz.func69, Tryz.ntmps69
  go_wp2
  go_quiet (fail)
  go_wp2
  go_ret
  exact ⟨rfl, _, rfl⟩
theorem drewN_below (w : World) (n : Nat) : Below w.heap.size w (w.drewN n) := ⟨rfl, rfl, rfl, Nat.le_refl _, fun _ _ => rfl⟩
theorem text_any {ts : List Tok} {R g c : Nat} (X : Ctx ts R g c) {s : Sg} (w : World) (hR : Rd w R g c ts s) : Calls Tryz.prog 70 #[.pointer (some ⟨R, 0, none⟩)] w fun e w' => e = .returned (.string (str (tx ts s))) ∧ Below w.heap.size w w' :=
 (text_quiet X w hR).mono fun e w' ⟨h, m, hw⟩ => ⟨h, hw ▸ drewN_below w m⟩
theorem kind_any {ts : List Tok} {R g c : Nat} (X : Ctx ts R g c) {s : Sg} (w : World) (hR : Rd w R g c ts s) : Calls Tryz.prog 136 #[.pointer (some ⟨R, 0, none⟩)] w fun e w' => e = .returned (.int .i64 (kd ts s : Int)) ∧ Below w.heap.size w w' :=
 (kind_quiet X w hR).mono fun e w' ⟨h, m, hw⟩ => ⟨h, hw ▸ drewN_below w m⟩
theorem line_any {ts : List Tok} {R g c : Nat} (X : Ctx ts R g c) {s : Sg} (w : World) (hR : Rd w R g c ts s) : Calls Tryz.prog 69 #[.pointer (some ⟨R, 0, none⟩)] w fun e w' => e = .returned (.int .i64 (lnR ts s : Int)) ∧ Below w.heap.size w w' :=
 (line_quiet X w hR).mono fun e w' ⟨h, m, hw⟩ => ⟨h, hw ▸ drewN_below w m⟩
end Q
end Go.Proofs.YtkliclihpobmiaaGreatDoor
