/- The reader's next token: contract. -/
import Derived.Test.YtfnhogeocbndcaaGreatDoorMgPsPut
import Derived.BigRegion
import Derived.Deep.QuietTactic
import Derived.BigQuiet
import Derived.Deep.RegionHeld3
import Derived.Laws.ResultCell
import Derived.Test.YtfnhogeocbndcaaGreatDoorMgLxType
import Derived.Deep.Slices
namespace Go.Proofs.YtfnhogeocbndcaaGreatDoor
open Go Go.RowKit
set_option linter.unusedVariables false

def tkv (t : Tok) : Value := .agg #[.int .i64 (t.kind : Int), .string (str t.text), .int .u64 (t.num : Int), .int .i64 (t.pos : Int), .int .i64 (t.line : Int)]
def tkz : List Value := [.int .i64 0, .string ⟨#[]⟩, .int .u64 0, .int .i64 0, .int .i64 0]
theorem infoTk : (Tryz.prog.info? 53).map (·.size) = some 5 := by kernel_rfl
theorem nxt_end {ts : List Tok} {s : Sg} (h : atOf ts s = ts.length) (hi : s.i ≤ ts.length) : nxt ts s = ⟨0, [], 0, 0, 0⟩ := by
  unfold atOf at h
  unfold nxt
  cases hb : s.bad with
  | true => rfl
  | false =>
    rw [hb] at h
    simp only [Bool.false_eq_true, if_false] at h ⊢
    exact tat_out (by omega)
theorem nxt_in {ts : List Tok} {s : Sg} (h : ¬ atOf ts s = ts.length) : nxt ts s = tat ts (atOf ts s) := by
  unfold atOf at h ⊢
  unfold nxt
  cases hb : s.bad with
  | true => rw [hb] at h; exact absurd rfl h
  | false => rfl
theorem atOf_le {ts : List Tok} {s : Sg} (hi : s.i ≤ ts.length) : atOf ts s ≤ ts.length := by
  unfold atOf
  split <;> omega

set_option maxHeartbeats 1000000 in
set_option maxRecDepth 100000 in
theorem next_any {ts : List Tok} {R g c : Nat} (X : Ctx ts R g c) {s : Sg} (w : World) (hR : Rd w R g c ts s) : Calls Tryz.prog 56 #[.pointer (some ⟨R, 0, none⟩)] w fun e w' => e = .returned (tkv (nxt ts s)) ∧ Below w.heap.size w w' := by
  have hle := atOf_le (ts := ts) hR.hi
  have hlen := X.len
  have hcap := X.cap
  have hb := (Below.refl w.heap.size w).alloc (Nat.le_refl _) (.cells tkz.toArray 53)
  have hK := Blk.alloc w 53 tkz
  have HK := Lib.hid fun n => (show Blk ((w.alloc (.cells tkz.toArray 53)).drewN n) w.heap.size 53 tkz from hK)
  have HB := Lib.hid fun n => (⟨hb.os, hb.tape, hb.output, hb.size, hb.block⟩ : Below w.heap.size w ((w.alloc (.cells tkz.toArray 53)).drewN n))
  clear hb hK
  obtain ⟨c0, c1, c2, f1, f2⟩ := hR.cells
  have hlt := hR.lt
  by_cases h : atOf ts s = ts.length
  · have hx := nxt_end h hR.hi
    rw [hx]
    have q : ((atOf ts s : Int) == (ts.length : Int)) = true := by simp [h]
    clear hR X h hx
    generalize atOf ts s = A at *
    generalize badOf ts s = Bd at *
    generalize ts.length = N at *
    go_enter Tryz.func56, Tryz.ntmps56
    go_wp2
    go_quiet (fail)
    go_wp2
    refine bodyPost_ret (((HK.out _).stor5 rfl _ _ _ _ _).res1 Tryz.results56 Tryz.underlying53 rfl infoTk _ rfl) rfl ?_
    exact ⟨rfl, below_stor5 (HB.out _) (Nat.le_refl _) _ _ _ _ _⟩
  · have hx := nxt_in h
    rw [hx]
    have q : ((atOf ts s : Int) == (ts.length : Int)) = false := by simp; omega
    obtain ⟨d0, d1, d2, d3, d4⟩ := hR.tk.2 (atOf ts s) (by omega)
    have hlt2 := hR.tk.1
    have hA : (atOf ts s : Int) < (ts.length : Int) := by omega
    have hgR := X.lt
    clear hR X h hx
    generalize atOf ts s = A at *
    generalize badOf ts s = Bd at *
    generalize ts.length = N at *
    generalize tat ts A = T at *
    go_enter Tryz.func56, Tryz.ntmps56
    go_wp2
    go_quiet (fail)
    go_wp2
    go_region
    go_wp2
    refine bodyPost_ret (((HK.out _).stor5 rfl _ _ _ _ _).res1 Tryz.results56 Tryz.underlying53 rfl infoTk _ rfl) rfl ?_
    exact ⟨rfl, below_stor5 (HB.out _) (Nat.le_refl _) _ _ _ _ _⟩
end Go.Proofs.YtfnhogeocbndcaaGreatDoor
/- The reader's fail, skip and expect: contracts. -/
namespace Go.Proofs.YtfnhogeocbndcaaGreatDoor
open Go Go.RowKit
set_option linter.unusedVariables false

theorem Rd.drewN {w : World} {R g c : Nat} {ts : List Tok} {s : Sg} (h : Rd w R g c ts s) (n : Nat) : Rd (w.drewN n) R g c ts s := ⟨h.blk, h.tk, h.hi, h.env.of_blocks (fun _ _ => rfl) (Nat.le_refl _)⟩
theorem Rd.setR {w : World} {R g c : Nat} {ts : List Tok} {s : Sg} (h : Rd w R g c ts s) (hg : g < R) (i : Nat) (v : Value) : Blk (w.setCell ⟨R, i, none⟩ v) R 47 ([.slice (some ⟨g, 0, none⟩) ts.length c, .int .i64 (atOf ts s : Int), .int .i64 (badOf ts s : Int)].set i v) ∧ TkIn (w.setCell ⟨R, i, none⟩ v) g ts :=
  ⟨h.blk.set i v, h.tk.of_block (Below.heap_setCell _ _ _ _ (by show g ≠ R; omega))⟩
theorem Env.setR {w : World} {R g : Nat} (h : Env w g) (hg : g < R) (i : Nat) (v : Value) : Env (w.setCell ⟨R, i, none⟩ v) g :=
  h.of_blocks (fun k hk => Below.heap_setCell _ _ _ _ (by show k ≠ R; omega)) (by rw [size_setCell]; exact Nat.le_refl _)
/-- The state behind a token that cannot follow, as it is written. -/
theorem Rd.failed {w : World} {R g c : Nat} {ts : List Tok} {s : Sg} (h : Rd w R g c ts s) (hg : g < R) (h0 : s.bad = false) : Rd ((w.setCell ⟨R, 2, none⟩ (.int .i64 ((tat ts (min s.i (ts.length - 1))).line : Int))).setCell ⟨R, 1, none⟩ (.int .i64 (ts.length : Int))) R g c ts (stop s) := by
  refine ⟨(h.blk.set 2 _).set 1 _, (h.tk.of_block (Below.heap_setCell _ _ _ _ ?_)).of_block (Below.heap_setCell _ _ _ _ ?_), h.hi, (h.env.setR hg _ _).setR hg _ _⟩
  · show g ≠ R; omega
  · show g ≠ R; omega
theorem Rd.failed2 {w : World} {R g c : Nat} {ts : List Tok} {s : Sg} (h : Rd w R g c ts s) (hg : g < R) (h0 : s.bad = true) : Rd (w.setCell ⟨R, 1, none⟩ (.int .i64 (ts.length : Int))) R g c ts (stop s) := by
  refine ⟨?_, h.tk.of_block (Below.heap_setCell _ _ _ _ (by show g ≠ R; omega)), h.hi, h.env.setR hg _ _⟩
  have h1 := h.blk.set 1 (.int .i64 (ts.length : Int))
  have e : badOf ts s = badOf ts (stop s) := by unfold badOf stop; rw [h0]
  rw [e] at h1
  exact h1
theorem rd_adv {w : World} {R g c : Nat} {ts : List Tok} {s : Sg} (h : Rd w R g c ts s) (hg : g < R) (h0 : s.bad = false ∧ s.i < ts.length) : Rd (w.setCell ⟨R, 1, none⟩ (.int .i64 ((s.i + 1 : Nat) : Int))) R g c ts (adv s) := by
  refine ⟨?_, h.tk.of_block (Below.heap_setCell _ _ _ _ (by show g ≠ R; omega)), h0.2, h.env.setR hg _ _⟩
  have h1 := h.blk.set 1 (.int .i64 ((s.i + 1 : Nat) : Int))
  have e1 : badOf ts s = badOf ts (Proofs.YtfnhogeocbndcaaGreatDoor.adv s) := by unfold badOf Proofs.YtfnhogeocbndcaaGreatDoor.adv; rw [h0.1]; rfl
  have e2 : s.i + 1 = atOf ts (Proofs.YtfnhogeocbndcaaGreatDoor.adv s) := by unfold atOf Proofs.YtfnhogeocbndcaaGreatDoor.adv; rw [h0.1]; rfl
  rw [← e1, ← e2]
  exact h1
theorem rd_adv' {w : World} {R g c : Nat} {ts : List Tok} {s : Sg} (h : Rd w R g c ts s) (hg : g < R) (h0 : s.bad = false ∧ s.i < ts.length) {v : Int} (hv : v = (s.i : Int) + 1) : Rd (w.setCell ⟨R, 1, none⟩ (.int .i64 v)) R g c ts (adv s) := by
  have := rd_adv h hg h0
  rw [show v = ((s.i + 1 : Nat) : Int) by omega]
  exact this
theorem fail_at {ts : List Tok} {R g c : Nat} (X : Ctx ts R g c) {s : Sg} (hi : s.i ≤ ts.length) : min s.i (ts.length - 1) < ts.length := by
  have : 0 < ts.length := List.length_pos_iff.2 X.ne
  omega

set_option maxHeartbeats 1000000 in
set_option maxRecDepth 100000 in
theorem fail_any {ts : List Tok} {R g c : Nat} (X : Ctx ts R g c) {s : Sg} (w : World) (hR : Rd w R g c ts s) : Calls Tryz.prog 131 #[.pointer (some ⟨R, 0, none⟩)] w fun e w' => e = .returned (.tuple #[]) ∧ Rd w' R g c ts (stop s) ∧ St w w' R := by
  have hlen := X.len
  have hlt := hR.lt
  obtain ⟨c0, c1, c2, f1, f2⟩ := hR.cells
  cases hb : s.bad with
  | true =>
    have hbad : 0 < badOf ts s := by
      unfold badOf
      rw [hb, if_pos rfl]
      have h1 := fail_at X hR.hi
      rw [tat_get h1]
      exact (X.line _ (List.getElem_mem h1)).1
    have q : ((badOf ts s : Int) == 0) = false := by simp; omega
    have HF := Lib.hid (Rd.failed2 hR X.lt hb)
    have HS : Hid (St w (w.setCell ⟨R, 1, none⟩ (.int .i64 (ts.length : Int))) R) := St.setR (St.refl _ _) rfl _
    clear X hR hb hbad
    generalize atOf ts s = A at *
    generalize badOf ts s = Bd at *
    generalize ts.length = N at *
    go_enter Tryz.func131, Tryz.ntmps131
    go_wp2
    go_end0
    exact ⟨rfl, HF.out, HS.out⟩
  | false =>
    have hbad : badOf ts s = 0 := by unfold badOf; rw [hb]; rfl
    have hat : atOf ts s = s.i := by unfold atOf; rw [hb]; rfl
    have h1 := fail_at X hR.hi
    obtain ⟨d0, d1, d2, d3, d4⟩ := hR.tk.2 _ h1
    have hlt2 := hR.tk.1
    have HF := Lib.hid fun n => Rd.failed (hR.drewN n) X.lt hb
    have HS : Hid (∀ n, St w (((w.drewN n).setCell ⟨R, 2, none⟩ (.int .i64 ((tat ts (min s.i (ts.length - 1))).line : Int))).setCell ⟨R, 1, none⟩ (.int .i64 (ts.length : Int))) R) := Lib.hid fun n => St.setR (St.setR ((St.refl w R).drewN n) rfl _) rfl _
    have hgR := X.lt
    have hne : 0 < ts.length := List.length_pos_iff.2 X.ne
    have hi := hR.hi
    have hcap := X.cap
    rw [hbad] at c2
    rw [hat] at c1
    clear X hR hb hbad hat
    generalize hT : tat ts (min s.i (ts.length - 1)) = T at *
    clear hT
    generalize ts.length = N at *
    generalize s.i = A at *
    have HF2 := HF
    have hA : A = N ∨ A < N := by omega
    clear d0 d1 d2 d3
    rcases hA with rfl | hA
    · have e1 : min A (A - 1) = A - 1 := by omega
      rw [e1] at d4
      have q1 : (A : Int) - 1 < (A : Int) := by omega
      have q2 : 0 ≤ (A : Int) - 1 := by omega
      have q3 : min (A : Int) ((A : Int) - 1) = (A : Int) - 1 := by omega
      clear e1 hi h1
      go_enter Tryz.func131, Tryz.ntmps131
      go_wp2
      go_region
      go_wp2
      go_end0
      exact ⟨rfl, HF.out _, HS.out _⟩
    · have e1 : min A (N - 1) = A := by omega
      rw [e1] at d4
      have q1 : ¬ ((N : Int) - 1 < (A : Int)) := by omega
      have q2 : (A : Int) < (N : Int) := by omega
      have q3 : min (A : Int) ((N : Int) - 1) = (A : Int) := by omega
      clear e1 hi h1
      go_enter Tryz.func131, Tryz.ntmps131
      go_wp2
      go_region
      go_wp2
      go_end0
      exact ⟨rfl, HF.out _, HS.out _⟩

theorem fldT (t : Tok) (W : World) : Sem.run Tryz.prog (Instr.field 53 (tkv t) 1) W = Result.ok (.string (str t.text)) W := by kernel_rfl
theorem fldL (t : Tok) (W : World) : Sem.run Tryz.prog (Instr.field 53 (tkv t) 4) W = Result.ok (.int .i64 (t.line : Int)) W := by kernel_rfl
theorem fldK (t : Tok) (W : World) : Sem.run Tryz.prog (Instr.field 53 (tkv t) 0) W = Result.ok (.int .i64 (t.kind : Int)) W := by kernel_rfl
theorem hasT_bytes (ts : List Tok) (s : Sg) (t : List UInt8) : ((str (nxt ts s).text).toList == (str t).toList) = hasT ts s t := by
  rw [str_eq]
  unfold hasT tx
  rw [decide_eq_decide]
  exact ⟨str_inj, fun h => by rw [h]⟩

set_option maxHeartbeats 1000000 in
set_option maxRecDepth 100000 in
theorem skip_any' {ts : List Tok} {R g c : Nat} (X : Ctx ts R g c) {s : Sg} (t : List UInt8) (ht : t ≠ []) (w : World) (hR : Rd w R g c ts s) :
    Calls Tryz.prog 100 #[.pointer (some ⟨R, 0, none⟩), .string (str t)] w fun e w' => e = .returned (.bool (hasT ts s t)) ∧ Rd w' R g c ts (skp ts s t) ∧ St w w' R := by
  have HN := Lib.hid (next_any X w hR)
  have hq := hasT_bytes ts s t
  have hlen := X.len
  have hltR := hR.lt
  have HR := Lib.hid hR
  have hF := Lib.hid fun W => fldT (nxt ts s) W
  unfold skp
  cases hh : hasT ts s t with
  | true =>
    rw [hh] at hq
    obtain ⟨ch, tr, rfl⟩ : ∃ ch tr, t = ch :: tr := by
      cases t with
      | nil => exact absurd rfl ht
      | cons a b => exact ⟨a, b, rfl⟩
    have hin := hasT_in hh
    have hat : atOf ts s = s.i := by unfold atOf; rw [hin.1]; rfl
    have HA := Lib.hid fun W (h : Rd W R g c ts s) => rd_adv h X.lt hin
    have hw : wrap64 ((s.i : Int) + 1) = ((s.i + 1 : Nat) : Int) := by rw [IntWalk.wrap64_in _ (by omega)]; omega
    have hil : s.i < 65536 := by omega
    have hXl := X.lt
    have HT := Lib.hid hat
    generalize str (ch :: tr) = S1 at *
    generalize tkv (nxt ts s) = V1 at *
    generalize str (nxt ts s).text = S2 at *
    clear hR ht hh hin hat
    go_enter Tryz.func100, Tryz.ntmps100
    go_wp2_with fail
    refine HN.out.mono ?_
    rintro e w1 ⟨rfl, hb⟩
    have hR1 := HR.out.below hXl hb hltR
    have hF1 := hF.out w1
    obtain ⟨c0, c1, c2, f1, f2⟩ := hR1.cells
    rw [HT.out] at c1
    have HS1 : Hid (St w w1 R) := St.of_below hb
    have HR1 := Lib.hid (HA.out _ hR1)
    clear hR1 hb HN HA c0 c2 f2
    generalize s.i = I at *
    go_wp2
    go_ret
    exact ⟨rfl, HR1.out, St.setR HS1.out rfl _⟩
  | false =>
    rw [hh] at hq
    generalize str t = S1 at *
    generalize tkv (nxt ts s) = V1 at *
    generalize str (nxt ts s).text = S2 at *
    have hXl := X.lt
    clear hR ht hh
    go_enter Tryz.func100, Tryz.ntmps100
    go_wp2_with fail
    refine HN.out.mono ?_
    rintro e w1 ⟨rfl, hb⟩
    have HR1 := Lib.hid (HR.out.below hXl hb hltR)
    have hF1 := hF.out w1
    have HS1 : Hid (St w w1 R) := St.of_below hb
    clear hb HN
    go_wp2
    go_ret
    exact ⟨rfl, HR1.out, HS1.out⟩
end Go.Proofs.YtfnhogeocbndcaaGreatDoor
/- The reader's expect, name, number, typeName and node: contracts. -/
namespace Go.Proofs.YtfnhogeocbndcaaGreatDoor
open Go Go.RowKit
set_option linter.unusedVariables false

set_option maxHeartbeats 1000000 in
set_option maxRecDepth 100000 in
theorem expect_any {ts : List Tok} {R g c : Nat} (X : Ctx ts R g c) {s : Sg} (t : List UInt8) (ht : t ≠ []) (w : World) (hR : Rd w R g c ts s) :
    Calls Tryz.prog 93 #[.pointer (some ⟨R, 0, none⟩), .string (str t)] w fun e w' => e = .returned (.tuple #[]) ∧ Rd w' R g c ts (exc ts s t) ∧ St w w' R := by
  have HK := Lib.hid (skip_any' X t ht w hR)
  have HF := Lib.hid fun W (h : Rd W R g c ts s) => fail_any X W h
  clear hR
  unfold exc
  unfold skp at HK
  generalize str t = S1 at *
  cases hh : hasT ts s t with
  | true =>
    rw [hh] at HK
    clear hh HF
    go_enter Tryz.func93, Tryz.ntmps93
    go_wp2_with fail
    refine HK.out.mono ?_
    rintro e w1 ⟨rfl, hR1, hS1⟩
    have HR1 := Lib.hid (And.intro hR1 hS1)
    clear hR1 hS1 HK
    go_wp2
    go_end0
    exact ⟨rfl, HR1.out.1, HR1.out.2⟩
  | false =>
    rw [hh] at HK
    clear hh
    go_enter Tryz.func93, Tryz.ntmps93
    go_wp2_with fail
    refine HK.out.mono ?_
    rintro e w1 ⟨rfl, hR1, hS1⟩
    have HR1 := Lib.hid (And.intro hR1 hS1)
    clear hR1 hS1 HK
    go_wp2_with fail
    refine (HF.out _ HR1.out.1).mono ?_
    rintro e w2 ⟨rfl, hR2, hS2⟩
    have HR2 := Lib.hid (And.intro hR2 (St.trans HR1.out.2 hS2))
    clear hR2 hS2 HR1
    go_wp2
    go_end0
    exact ⟨rfl, HR2.out.1, HR2.out.2⟩

theorem tkv_blk (t : Tok) (W : World) : Blk (W.alloc (.cells #[.int .i64 (t.kind : Int), .string (str t.text), .int .u64 (t.num : Int), .int .i64 (t.pos : Int), .int .i64 (t.line : Int)] 53)) W.heap.size 53 [.int .i64 (t.kind : Int), .string (str t.text), .int .u64 (t.num : Int), .int .i64 (t.pos : Int), .int .i64 (t.line : Int)] := heap_alloc_new _ _
theorem nxt_num {ts : List Tok} {R g c : Nat} (X : Ctx ts R g c) (s : Sg) : (nxt ts s).num < 18446744073709551616 := by
  unfold nxt
  cases hb : s.bad with
  | true => exact (by decide : (0:Nat) < 18446744073709551616)
  | false =>
    show (tat ts s.i).num < _
    by_cases h : s.i < ts.length
    · rw [tat_get h]; exact X.num _ (List.getElem_mem h)
    · rw [tat_out (by omega)]; decide
theorem nxt_text {ts : List Tok} {R g c : Nat} (X : Ctx ts R g c) (s : Sg) : (nxt ts s).text.length ≤ 65536 := by
  unfold nxt
  cases hb : s.bad with
  | true => exact (by decide : (0:Nat) ≤ 65536)
  | false =>
    show (tat ts s.i).text.length ≤ _
    by_cases h : s.i < ts.length
    · rw [tat_get h]; exact (X.text _ (List.getElem_mem h)).2
    · rw [tat_out (by omega)]; decide

set_option maxHeartbeats 1000000 in
set_option maxRecDepth 100000 in
theorem name_any {ts : List Tok} {R g c : Nat} (X : Ctx ts R g c) {s : Sg} (w : World) (hR : Rd w R g c ts s) :
    Calls Tryz.prog 94 #[.pointer (some ⟨R, 0, none⟩)] w fun e w' => e = .returned (.string (str (nmV ts s))) ∧ Rd w' R g c ts (nmS ts s) ∧ St w w' R := by
  have HN := Lib.hid (next_any X w hR)
  have HF := Lib.hid fun W (h : Rd W R g c ts s) => fail_any X W h
  have hlen := X.len
  have hltR := hR.lt
  have HR := Lib.hid hR
  have hXl := X.lt
  unfold nmV nmS tx
  by_cases hk : kd ts s = 1
  · have hin := kd_in hk (by decide)
    rw [if_pos hk, if_pos hk]
    have hat : atOf ts s = s.i := by unfold atOf; rw [hin.1]; rfl
    have HA := Lib.hid fun W (h : Rd W R g c ts s) (v : Int) (hv : v = (s.i : Int) + 1) => rd_adv' h X.lt hin hv
    have hil : s.i < 65536 := by omega
    have HT := Lib.hid hat
    have q : ((nxt ts s).kind : Int) = 1 := by unfold kd at hk; omega
    have HV : Hid (tkv (nxt ts s) = .agg #[.int .i64 1, .string (str (nxt ts s).text), .int .u64 ((nxt ts s).num : Int), .int .i64 ((nxt ts s).pos : Int), .int .i64 ((nxt ts s).line : Int)]) := by
      rw [← q]; exact Lib.hid rfl
    rw [HV.out] at HN
    clear hR hk hin hat HF q HV
    generalize str (nxt ts s).text = S2 at *
    generalize ((nxt ts s).num : Int) = n2 at *
    generalize ((nxt ts s).pos : Int) = n3 at *
    generalize ((nxt ts s).line : Int) = n4 at *
    go_enter Tryz.func94, Tryz.ntmps94
    go_wp2_with fail
    refine HN.out.mono ?_
    rintro e w1 ⟨rfl, hb⟩
    have hR1 := HR.out.below hXl hb hltR
    obtain ⟨c0, c1, c2, f1, f2⟩ := hR1.cells
    rw [HT.out] at c1
    have hlt1 := hR1.lt
    have HS1 : Hid (St w w1 R) := St.of_below hb
    have HR1 := Lib.hid (HA.out _ hR1)
    clear hR1 hb HN HA c0 c2 f2
    generalize s.i = I at *
    go_wp2
    go_ret
    exact ⟨rfl, (HR1.out _ rfl).alloc hXl _, (St.setR HS1.out rfl _).alloc _⟩
  · rw [if_neg hk, if_neg hk]
    have q : (((nxt ts s).kind : Int) == 1) = false := by unfold kd at hk; simp; omega
    have q' : (((nxt ts s).kind : Int) != 1) = true := by unfold kd at hk; simp; omega
    have HV : Hid (tkv (nxt ts s) = .agg #[.int .i64 ((nxt ts s).kind : Int), .string (str (nxt ts s).text), .int .u64 ((nxt ts s).num : Int), .int .i64 ((nxt ts s).pos : Int), .int .i64 ((nxt ts s).line : Int)]) := Lib.hid rfl
    rw [HV.out] at HN
    clear hR hk HV
    generalize str (nxt ts s).text = S2 at *
    generalize ((nxt ts s).kind : Int) = n1 at *
    generalize ((nxt ts s).num : Int) = n2 at *
    generalize ((nxt ts s).pos : Int) = n3 at *
    generalize ((nxt ts s).line : Int) = n4 at *
    go_enter Tryz.func94, Tryz.ntmps94
    go_wp2_with fail
    refine HN.out.mono ?_
    rintro e w1 ⟨rfl, hb⟩
    have hR1 := HR.out.below hXl hb hltR
    have hRa := Lib.hid (hR1.alloc hXl (.cells #[.int .i64 n1, .string S2, .int .u64 n2, .int .i64 n3, .int .i64 n4] 53))
    have HS1 : Hid (St w (w1.alloc (.cells #[.int .i64 n1, .string S2, .int .u64 n2, .int .i64 n3, .int .i64 n4] 53)) R) := (St.of_below hb).alloc _
    clear hR1 hb HN
    go_wp2_with fail
    refine (HF.out _ hRa.out).mono ?_
    rintro e w2 ⟨rfl, hR2, hS2⟩
    have HR2 := Lib.hid (And.intro hR2 (St.trans HS1.out hS2))
    clear hR2 hS2 hRa HS1
    go_wp2
    go_ret
    exact ⟨rfl, HR2.out.1, HR2.out.2⟩
end Go.Proofs.YtfnhogeocbndcaaGreatDoor
/- The reader's node: contract. -/
namespace Go.Proofs.YtfnhogeocbndcaaGreatDoor
open Go Go.RowKit
set_option linter.unusedVariables false

theorem infoNd : (Tryz.prog.info? 28).map (·.size) = some 11 := by kernel_rfl
def ncz : List Value := [.int .i64 0, .string ⟨#[]⟩, .int .u64 0, .int .i64 0, .bool false, .int .i64 0, .int .i64 0, .int .i64 0, .int .i64 0, .int .i64 0, .slice none 0 0]
/-- The cells of a node without Kids. -/
def nc (l : Lab) : List Value := lcells l (.slice none 0 0)
theorem Blk.all {w : World} {g : Nat} {t : TypeId} {cs : List Value} (h : Blk w g t cs) : (∀ i, w.cell? ⟨g, i, none⟩ = cs[i]?) ∧ (∀ i, w.frozen? ⟨g, i, none⟩ = false) := ⟨h.cell, h.frozen⟩

set_option maxHeartbeats 1000000 in
set_option maxRecDepth 100000 in
theorem node_any {ts : List Tok} {R g c : Nat} (X : Ctx ts R g c) {s : Sg} (k : Int) (w : World) (hR : Rd w R g c ts s) :
    Calls Tryz.prog 55 #[.pointer (some ⟨R, 0, none⟩), .int .i64 k] w fun e w' => e = .returned (.agg (nc (labK k (ln ts s))).toArray) ∧ Below w.heap.size w w' := by
  have hb0 := (Below.refl w.heap.size w).alloc (Nat.le_refl _) (.cells ncz.toArray 28)
  have hK := Blk.alloc w 28 ncz
  have HN := Lib.hid (next_any X _ (hR.alloc X.lt (.cells ncz.toArray 28)))
  have hF := fldL (nxt ts s)
  have HB := Lib.hid hb0
  have HK := Lib.hid hK
  have HL : Hid (((nxt ts s).line : Int) = (ln ts s : Nat)) := Lib.hid rfl
  clear hK hb0 hR
  generalize tkv (nxt ts s) = V1 at *
  generalize ((nxt ts s).line : Int) = l1 at *
  have hl := HL.out
  subst hl
  go_enter Tryz.func55, Tryz.ntmps55
  go_wp2_with fail
  refine HN.out.mono ?_
  rintro e w1 ⟨rfl, hb1⟩
  have HB1 := Lib.hid (HB.out.trans (hb1.mono (by simp)))
  have HK1 := Lib.hid (HK.out.below hb1 HK.out.lt)
  obtain ⟨hc, hf⟩ := HK1.out.all
  unfold ncz at hc
  clear hb1 HN
  go_wp2
  refine bodyPost_ret ((HK1.out.stor11 rfl _ _ _ _ _ _ _ _ _ _ _).res1 Tryz.results55 Tryz.underlying28 rfl infoNd _ rfl) rfl ?_
  exact ⟨rfl, below_stor11 HB1.out (Nat.le_refl _) _ _ _ _ _ _ _ _ _ _ _⟩
end Go.Proofs.YtfnhogeocbndcaaGreatDoor
/- The reader's number and typeName: contracts. -/
namespace Go.Proofs.YtfnhogeocbndcaaGreatDoor
open Go Go.RowKit
set_option linter.unusedVariables false

set_option maxHeartbeats 1000000 in
set_option maxRecDepth 100000 in
theorem numb_any {ts : List Tok} {R g c : Nat} (X : Ctx ts R g c) {s : Sg} (least : Nat) (hleast : least < 1000) (w : World) (hR : Rd w R g c ts s) :
    Calls Tryz.prog 134 #[.pointer (some ⟨R, 0, none⟩), .int .u64 (least : Int)] w fun e w' => e = .returned (.int .u64 (nuV ts s least : Int)) ∧ Rd w' R g c ts (nuS ts s least) ∧ St w w' R := by
  have HN := Lib.hid (next_any X w hR)
  have HF := Lib.hid fun W (h : Rd W R g c ts s) => fail_any X W h
  have hlen := X.len
  have hltR := hR.lt
  have HR := Lib.hid hR
  have hXl := X.lt
  have hnum := nxt_num X s
  unfold nuV nuS
  have HV : Hid (tkv (nxt ts s) = .agg #[.int .i64 (kd ts s : Int), .string (str (nxt ts s).text), .int .u64 ((nxt ts s).num : Int), .int .i64 ((nxt ts s).pos : Int), .int .i64 ((nxt ts s).line : Int)]) := Lib.hid rfl
  rw [HV.out] at HN
  have HOK : Hid (okN ts s least = (decide (kd ts s = 3) && (decide (least ≤ (nxt ts s).num) && decide ((nxt ts s).num ≤ 1048576)))) := Lib.hid rfl
  clear hR HV
  by_cases hk : okN ts s least = true
  · have hk' := HOK.out
    rw [hk] at hk'
    have hk3 : kd ts s = 3 ∧ least ≤ (nxt ts s).num ∧ (nxt ts s).num ≤ 1048576 := by simpa using hk'.symm
    have hin := kd_in hk3.1 (by decide)
    rw [if_pos hk, if_pos hk]
    rw [hk3.1] at HN
    have hat : atOf ts s = s.i := by unfold atOf; rw [hin.1]; rfl
    have HA := Lib.hid fun W (h : Rd W R g c ts s) (v : Int) (hv : v = (s.i : Int) + 1) => rd_adv' h X.lt hin hv
    have hil : s.i < 65536 := by omega
    have HT := Lib.hid hat
    have q1 : ¬ ((nxt ts s).num : Int) < (least : Int) := by omega
    have q2 : ((nxt ts s).num : Int) ≤ 1048576 := by omega
    have q3 : decide ((nxt ts s).num < least) = false := by simp; omega
    clear hk hk' hk3 hin hat HF HOK
    generalize str (nxt ts s).text = S2 at *
    generalize (nxt ts s).num = n2 at *
    generalize ((nxt ts s).pos : Int) = n3 at *
    generalize ((nxt ts s).line : Int) = n4 at *
    go_enter Tryz.func134, Tryz.ntmps134
    go_wp2_with fail
    refine HN.out.mono ?_
    rintro e w1 ⟨rfl, hb⟩
    have hR1 := HR.out.below hXl hb hltR
    obtain ⟨c0, c1, c2, f1, f2⟩ := hR1.cells
    rw [HT.out] at c1
    have hlt1 := hR1.lt
    have HS1 : Hid (St w w1 R) := St.of_below hb
    have HR1 := Lib.hid (HA.out _ hR1)
    clear hR1 hb HN HA c0 c2 f2
    generalize s.i = I at *
    go_wp2
    go_ret
    exact ⟨rfl, (HR1.out _ rfl).alloc hXl _, (St.setR HS1.out rfl _).alloc _⟩
  · rw [if_neg hk, if_neg hk]
    have hk' : kd ts s ≠ 3 ∨ (kd ts s = 3 ∧ (nxt ts s).num < least) ∨ (kd ts s = 3 ∧ ¬ (nxt ts s).num < least ∧ 1048576 < (nxt ts s).num) := by
      rw [HOK.out] at hk
      simp at hk
      by_cases h3 : kd ts s = 3
      · right
        by_cases h4 : (nxt ts s).num < least
        · exact .inl ⟨h3, h4⟩
        · exact .inr ⟨h3, h4, hk h3 (by omega)⟩
      · exact .inl h3
    clear hk HOK
    rcases hk' with q | ⟨q, q1⟩ | ⟨q, q1, q2⟩
    · have q' : ((kd ts s : Int) != 3) = true := by simp; omega
      clear q
      generalize str (nxt ts s).text = S2 at *
      generalize (kd ts s : Int) = n1 at *
      generalize (nxt ts s).num = n2 at *
      generalize ((nxt ts s).pos : Int) = n3 at *
      generalize ((nxt ts s).line : Int) = n4 at *
      go_enter Tryz.func134, Tryz.ntmps134
      go_wp2_with fail
      refine HN.out.mono ?_
      rintro e w1 ⟨rfl, hb⟩
      have hR1 := HR.out.below hXl hb hltR
      have hRa := Lib.hid (hR1.alloc hXl (.cells #[.int .i64 n1, .string S2, .int .u64 (n2 : Int), .int .i64 n3, .int .i64 n4] 53))
      have HS1 : Hid (St w (w1.alloc (.cells #[.int .i64 n1, .string S2, .int .u64 (n2 : Int), .int .i64 n3, .int .i64 n4] 53)) R) := (St.of_below hb).alloc _
      clear hR1 hb HN
      go_wp2_with fail
      refine (HF.out _ hRa.out).mono ?_
      rintro e w2 ⟨rfl, hR2, hS2⟩
      have HR2 := Lib.hid (And.intro hR2 (St.trans HS1.out hS2))
      clear hR2 hS2 hRa HS1
      go_wp2
      go_ret
      exact ⟨rfl, HR2.out.1, HR2.out.2⟩
    · have q3 : decide ((nxt ts s).num < least) = true := by simp; omega
      rw [q] at HN
      clear q
      generalize str (nxt ts s).text = S2 at *
      generalize (nxt ts s).num = n2 at *
      generalize ((nxt ts s).pos : Int) = n3 at *
      generalize ((nxt ts s).line : Int) = n4 at *
      go_enter Tryz.func134, Tryz.ntmps134
      go_wp2_with fail
      refine HN.out.mono ?_
      rintro e w1 ⟨rfl, hb⟩
      have hR1 := HR.out.below hXl hb hltR
      have hRa := Lib.hid (hR1.alloc hXl (.cells #[.int .i64 3, .string S2, .int .u64 (n2 : Int), .int .i64 n3, .int .i64 n4] 53))
      have HS1 : Hid (St w (w1.alloc (.cells #[.int .i64 3, .string S2, .int .u64 (n2 : Int), .int .i64 n3, .int .i64 n4] 53)) R) := (St.of_below hb).alloc _
      clear hR1 hb HN
      go_wp2_with fail
      refine (HF.out _ hRa.out).mono ?_
      rintro e w2 ⟨rfl, hR2, hS2⟩
      have HR2 := Lib.hid (And.intro hR2 (St.trans HS1.out hS2))
      clear hR2 hS2 hRa HS1
      go_wp2
      go_ret
      exact ⟨rfl, HR2.out.1, HR2.out.2⟩
    · have q3 : decide ((nxt ts s).num < least) = false := by simp; omega
      have q4 : (1048576 : Int) < ((nxt ts s).num : Int) := by omega
      rw [q] at HN
      clear q
      generalize str (nxt ts s).text = S2 at *
      generalize (nxt ts s).num = n2 at *
      generalize ((nxt ts s).pos : Int) = n3 at *
      generalize ((nxt ts s).line : Int) = n4 at *
      go_enter Tryz.func134, Tryz.ntmps134
      go_wp2_with fail
      refine HN.out.mono ?_
      rintro e w1 ⟨rfl, hb⟩
      have hR1 := HR.out.below hXl hb hltR
      have hRa := Lib.hid (hR1.alloc hXl (.cells #[.int .i64 3, .string S2, .int .u64 (n2 : Int), .int .i64 n3, .int .i64 n4] 53))
      have HS1 : Hid (St w (w1.alloc (.cells #[.int .i64 3, .string S2, .int .u64 (n2 : Int), .int .i64 n3, .int .i64 n4] 53)) R) := (St.of_below hb).alloc _
      clear hR1 hb HN
      go_wp2_with fail
      refine (HF.out _ hRa.out).mono ?_
      rintro e w2 ⟨rfl, hR2, hS2⟩
      have HR2 := Lib.hid (And.intro hR2 (St.trans HS1.out hS2))
      clear hR2 hS2 hRa HS1
      go_wp2
      go_ret
      exact ⟨rfl, HR2.out.1, HR2.out.2⟩

theorem infoTy : (Tryz.prog.info? 25).map (·.size) = some 2 := by kernel_rfl
theorem typeOf_zero {l : List UInt8} (h : ¬ 0 < (typeOf l).1) : typeOf l = (0, false) := by
  unfold typeOf at h ⊢
  split
  · rename_i h1; rw [if_pos h1] at h; simp at h
  · rename_i h1
    rw [if_neg h1] at h
    cases hf : cands.find? (fun c => nameOf c.1 c.2 == l) with
    | none => rfl
    | some c =>
      rw [hf] at h
      have hm := List.mem_of_find?_eq_some hf
      exfalso
      apply h
      have hall : cands.all (fun c => decide (0 < c.1)) = true := by decide +kernel
      have := List.all_eq_true.1 hall c hm
      simpa using this
set_option maxHeartbeats 1000000 in
set_option maxRecDepth 100000 in
theorem typN_any {ts : List Tok} {R g c : Nat} (X : Ctx ts R g c) {s : Sg} (w : World) (hR : Rd w R g c ts s) :
    Calls Tryz.prog 97 #[.pointer (some ⟨R, 0, none⟩)] w fun e w' => e = .returned (.agg #[.int .i64 ((tyV' ts s).1 : Int), .bool (tyV' ts s).2]) ∧ Rd w' R g c ts (tyS ts s) ∧ St w w' R := by
  have hRa := hR.alloc X.lt (.cells #[.int .i64 0, .bool false] 25)
  have HN := Lib.hid (next_any X _ hRa)
  have HF := Lib.hid fun W (h : Rd W R g c ts s) => fail_any X W h
  have hlen := X.len
  have hltR := hR.lt
  have HR := Lib.hid hRa
  have hXl := X.lt
  have hK := Blk.alloc w 25 [.int .i64 0, .bool false]
  have hb0 := (Below.refl w.heap.size w).alloc (Nat.le_refl _) (.cells #[.int .i64 0, .bool false] 25)
  have HK := Lib.hid hK
  have HB := Lib.hid hb0
  have HTY := Lib.hid fun W V => type_any (str (nxt ts s).text) (by rw [str_size]; have := nxt_text X s; omega) W V
  rw [str_data] at HTY
  have hF := Lib.hid fun W => fldT (nxt ts s) W
  have hF0 : ∀ W : World, True := fun _ => trivial
  unfold tyS tyV' tx
  have hle := typeOf_le (nxt ts s).text
  have HI : Hid (0 < (typeOf (nxt ts s).text).1 → s.bad = false ∧ s.i < ts.length) := Lib.hid fun h => tx_in (ts := ts) (fun he => by unfold tx at he; rw [he, typeOf_nil] at h; omega)
  have HZ : Hid (¬ 0 < (typeOf (nxt ts s).text).1 → typeOf (nxt ts s).text = (0, false)) := Lib.hid fun h => typeOf_zero h
  clear hR hRa hK hb0 hF0
  generalize tkv (nxt ts s) = V1 at *
  unfold tyV tyB at HTY
  generalize str (nxt ts s).text = S2 at *
  generalize typeOf (nxt ts s).text = ty at *
  obtain ⟨x, y⟩ := ty
  by_cases hx : 0 < x
  · have hin := HI.out hx
    rw [if_pos hx]
    have hat : atOf ts s = s.i := by unfold atOf; rw [hin.1]; rfl
    have HA := Lib.hid fun W (h : Rd W R g c ts s) (v : Int) (hv : v = (s.i : Int) + 1) => rd_adv' h X.lt hin hv
    have hil : s.i < 65536 := by omega
    have HT := Lib.hid hat
    have q : decide (0 < x) = true := by simp [hx]
    rw [q] at HTY
    clear hin hat HF HI HZ q
    go_enter Tryz.func97, Tryz.ntmps97
    go_wp2_with fail
    refine HN.out.mono ?_
    rintro e w1 ⟨rfl, hb1⟩
    have hF1 := hF.out w1
    have hR1 := Lib.hid (HR.out.below hXl hb1 (by simp; omega))
    have HK1 := Lib.hid (HK.out.below hb1 HK.out.lt)
    have HB1 := Lib.hid (HB.out.trans (hb1.mono (by simp)))
    clear hb1 HN HB HK
    go_wp2_with fail
    refine (HTY.out _ hR1.out.env.vs).mono ?_
    rintro e w2 ⟨rfl, hb2⟩
    have hR2 := hR1.out.below hXl hb2 hR1.out.lt
    have HK2 := Lib.hid (HK1.out.below hb2 HK1.out.lt)
    have HB2 := Lib.hid (HB1.out.trans (hb2.mono HB1.out.size))
    obtain ⟨c0, c1, c2, f1, f2⟩ := hR2.cells
    rw [HT.out] at c1
    obtain ⟨hc, hf⟩ := HK2.out.all
    have hlt2 := hR2.lt
    have hsz := HB2.out.size
    have hK2lt := HK2.out.lt
    have HR2 := Lib.hid hR2
    clear hb2 hR2 hF hF1 c0 c2 f2 HTY HB1 HK1 hR1
    generalize s.i = I at *
    go_wp2
    refine bodyPost_ret ((((HK2.out.set_other (by show w.heap.size ≠ R; omega) _).stor2 rfl _ _).alloc_other _).res1 Tryz.results97 Tryz.underlying25 rfl infoTy _ rfl) rfl ?_
    exact ⟨rfl, ((HA.out _ HR2.out _ rfl).stor2 hXl hltR _ _).alloc hXl _, ((St.setR (St.of_below HB2.out) rfl _).stor2 (Nat.le_refl _) _ _).alloc _⟩
  · have hz := HZ.out hx
    injection hz with h1 h2
    subst h1 h2
    rw [if_neg (by omega)]
    have q : decide (0 < 0) = false := by simp
    rw [q] at HTY
    clear HI HZ q
    go_enter Tryz.func97, Tryz.ntmps97
    go_wp2_with fail
    refine HN.out.mono ?_
    rintro e w1 ⟨rfl, hb1⟩
    have hF1 := hF.out w1
    have hR1 := Lib.hid (HR.out.below hXl hb1 (by simp; omega))
    have HK1 := Lib.hid (HK.out.below hb1 HK.out.lt)
    have HB1 := Lib.hid (HB.out.trans (hb1.mono (by simp)))
    clear hb1 HN HB HK
    go_wp2_with fail
    refine (HTY.out _ hR1.out.env.vs).mono ?_
    rintro e w2 ⟨rfl, hb2⟩
    have HR2 := Lib.hid ((hR1.out.below hXl hb2 hR1.out.lt).alloc hXl (.cells #[.int .i64 0, .bool false] 25))
    have HK2 := Lib.hid ((HK1.out.below hb2 HK1.out.lt).alloc_other (.cells #[.int .i64 0, .bool false] 25))
    have HB2 := Lib.hid (((HB1.out.trans (hb2.mono HB1.out.size))).alloc (Nat.le_trans HB1.out.size hb2.size) (.cells #[.int .i64 0, .bool false] 25))
    clear hb2 hF hF1 HTY HB1 HK1 hR1
    go_wp2_with fail
    refine (HF.out _ HR2.out).mono ?_
    rintro e w3 ⟨rfl, hR3, hS3⟩
    have HK3 := Lib.hid (St.blk hS3 HK2.out (by omega))
    obtain ⟨hc, hf⟩ := HK3.out.all
    have HS3 := Lib.hid (St.trans (St.of_below HB2.out) hS3)
    have HR3 := Lib.hid hR3
    have hsz := HS3.out.size
    clear hR3 hS3 HK2 HR2 HB2
    go_wp2
    refine bodyPost_ret ((HK3.out.stor2 rfl _ _).res1 Tryz.results97 Tryz.underlying25 rfl infoTy _ rfl) rfl ?_
    exact ⟨rfl, HR3.out.stor2 hXl hltR _ _, HS3.out.stor2 (Nat.le_refl _) _ _⟩
end Go.Proofs.YtfnhogeocbndcaaGreatDoor
/- The reader's operator: contract. -/
namespace Go.Proofs.YtfnhogeocbndcaaGreatDoor
open Go Go.RowKit
set_option linter.unusedVariables false

def opT (l k : Nat) : List UInt8 := ((levelOps l).getD k ([], 0)).1
def opN (l k : Nat) : Nat := ((levelOps l).getD k ([], 0)).2
theorem opT_get {l k : Nat} (h : k < (levelOps l).length) : (levelOps l)[k].1 = opT l k := by simp [opT, List.getD, h]
theorem opN_get {l k : Nat} (h : k < (levelOps l).length) : (levelOps l)[k].2 = opN l k := by simp [opN, List.getD, h]
theorem opV_hit {ts : List Tok} {s : Sg} {l k : Nat} (h : k < (levelOps l).length) (hno : ∀ j, j < k → hasT ts s (opT l j) = false) (hy : hasT ts s (opT l k) = true) : opV ts s l = opN l k := by
  unfold opV
  have : (levelOps l).find? (fun p => decide (tx ts s = p.1)) = some (levelOps l)[k] := by
    rw [List.find?_eq_some_iff_getElem]
    rw [← opT_get h] at hy
    refine ⟨hy, k, h, rfl, fun j hj => ?_⟩
    have := hno j (by omega)
    rw [← opT_get (by omega)] at this
    unfold hasT at this
    rw [this]
    rfl
  rw [this]
  exact opN_get h
theorem opV_miss {ts : List Tok} {s : Sg} {l : Nat} (hno : ∀ j, j < (levelOps l).length → hasT ts s (opT l j) = false) : opV ts s l = 0 := by
  unfold opV
  have : (levelOps l).find? (fun p => decide (tx ts s = p.1)) = none := by
    rw [List.find?_eq_none]
    intro p hp
    obtain ⟨j, hj, rfl⟩ := List.getElem_of_mem hp
    have := hno j hj
    rw [← opT_get hj] at this
    unfold hasT at this
    rw [this]
    simp
  rw [this]
  rfl
theorem levelOps_len (l : Nat) : (levelOps l).length ≤ 6 := by
  unfold levelOps
  split <;> decide
theorem opT_ne {l k : Nat} (h : k < (levelOps l).length) : opT l k ≠ [] ∧ opN l k ≠ 0 := by
  rw [← opT_get h, ← opN_get h]
  exact levelOps_ne l _ (List.getElem_mem h)
theorem opN_le {l k : Nat} (h : k < (levelOps l).length) : opN l k ≤ 21 := by
  rw [← opN_get h]
  have : ∀ p ∈ levelOps l, p.2 ≤ 21 := by
    unfold levelOps
    split <;> decide
  exact this _ (List.getElem_mem h)
theorem lv_row {w : World} {a : Addr} {l : Nat} (h : ∀ j (h : j < (levelOps l).length), w.cell? (a.add (j * 2)) = some (.string (str (levelOps l)[j].1)) ∧ w.cell? (a.add (j * 2 + 1)) = some (.int .i64 ((levelOps l)[j].2 : Int))) :
    ∀ j, j < (levelOps l).length → w.cell? (a.add (j * 2)) = some (.string (str (opT l j))) ∧ w.cell? (a.add (j * 2 + 1)) = some (.int .i64 (opN l j : Int)) := by
  intro j hj
  have := h j hj
  rw [opT_get hj, opN_get hj] at this
  exact this

/-- The state of the loop over a row of operators. -/
structure OpSt (ts : List Tok) (R g c : Nat) (s : Sg) (l : Nat) (w wr : World) (k : Nat) : Prop where
  rd : Rd wr R g c ts s
  st : St w wr R
  no : ∀ j, j < k → hasT ts s (opT l j) = false

set_option maxHeartbeats 1000000 in
set_option maxRecDepth 100000 in
theorem oper_any {ts : List Tok} {R g c : Nat} (X : Ctx ts R g c) {s : Sg} (l : Nat) (hl : l < 11) (w : World) (hR : Rd w R g c ts s) :
    Calls Tryz.prog 191 #[.pointer (some ⟨R, 0, none⟩), .int .i64 (l : Int)] w fun e w' => e = .returned (.int .i64 (opV ts s l : Int)) ∧ Rd w' R g c ts (opS ts s l) ∧ St w w' R := by
  obtain ⟨v, hv, a, cc, rfl, hrow0⟩ := hR.env.lv l hl
  have hrow := lv_row hrow0
  have HSK := Lib.hid fun (t : List UInt8) (ht : t ≠ []) W (h : Rd W R g c ts s) => skip_any' X t ht W h
  have HNE := Lib.hid fun k (h : k < (levelOps l).length) => opT_ne h
  have HLE := Lib.hid fun k (h : k < (levelOps l).length) => opN_le h
  have hlen6 := levelOps_len l
  have h0 : Hid (OpSt ts R g c s l w w 0) := ⟨hR, St.refl _ _, fun j h => by omega⟩
  have HROW := Lib.hid hrow
  have HAL : Hid (∀ j, j < (levelOps l).length → a.block < w.heap.size ∧ a.block ≠ R) := Lib.hid fun j hj => by
    have h1 := cell_block_lt (hrow j hj).1
    rw [add_block] at h1
    refine ⟨h1, fun e => ?_⟩
    have h2 := (hrow j hj).1
    have h3 := hR.env
    obtain ⟨w0, _, k2, k3, k4, k5⟩ := h3
    obtain ⟨v', hv', a', c', e1, hc'⟩ := k2 l hl
    have e2 : w.cell? ⟨8, l, none⟩ = some v' := by rw [cell_same (k5 _ (cell_block_lt hv'))]; exact hv'
    rw [hv] at e2
    injection e2 with e2
    rw [e1] at e2
    injection e2 with e2
    injection e2 with e2
    have h4 := cell_block_lt (hc' j hj).1
    rw [add_block, ← e2, e] at h4
    have := X.lt
    omega
  have HH := Lib.hid fun k (h : k < (levelOps l).length) hno hy => opV_hit (ts := ts) (s := s) (l := l) (k := k) h hno hy
  have HM := Lib.hid fun hno => opV_miss (ts := ts) (s := s) (l := l) hno
  have hXl := X.lt
  have hl' : (l : Int) < 11 := by omega
  have HO0 : Hid (opV ts s l = 0 → opS ts s l = s) := Lib.hid fun h => by unfold opS; rw [if_pos h]
  have HO1 : Hid (opV ts s l ≠ 0 → opS ts s l = adv s) := Lib.hid fun h => by unfold opS; rw [if_neg h]
  clear hrow hrow0
  generalize (levelOps l).length = N at *
  clear hR X
  go_enter Tryz.func191, Tryz.ntmps191
  go_wp2
  clear hv
  go_loopw [11] (fun i wr => ∃ k : Nat, k ≤ N ∧ i = .int .i64 (k : Int) ∧ Hid (OpSt ts R g c s l w wr k)) (fun i _ => N - (intOf i).toNat)
  case atStart => exact ⟨0, by omega, rfl, h0⟩
  case round =>
    clear h0
    obtain ⟨k, hk, rfl, hT⟩ := hrel
    by_cases hkN : k < N
    · obtain ⟨hal1, hal2⟩ := HAL.out k hkN
      obtain ⟨d1, d2⟩ := HROW.out k hkN
      have hblk := World.grownBy.block hT.out.st a.block hal1 (fun e => by injection e with e; exact hal2 e)
      have e1 : wr.cell? (a.add (k * 2)) = some (.string (str (opT l k))) := (cell_same (w := w) (w' := wr) (by rw [add_block]; exact hblk)).trans d1
      have e2 : wr.cell? (a.add (k * 2 + 1)) = some (.int .i64 (opN l k : Int)) := (cell_same (w := w) (w' := wr) (by rw [add_block]; exact hblk)).trans d2
      have e3 : wr.cell? ⟨(a.add (k * 2)).block, (a.add (k * 2)).off + 1, none⟩ = some (.int .i64 (opN l k : Int)) := by rw [← e2, ← Go.Deep.add_add]; rfl
      have HS := Lib.hid (HSK.out (opT l k) (HNE.out k hkN).1 _ (hT.out.rd.alloc hXl (.cells #[.string (str (opT l k)), .int .i64 (opN l k : Int)] 129)))
      have hne := (HNE.out k hkN).2
      have hle := HLE.out k hkN
      have HK := Lib.hid (Blk.alloc wr 129 [.string (str (opT l k)), .int .i64 (opN l k : Int)])
      have hRlt := hT.out.rd.lt
      clear d1 d2 hblk
      unfold skp at HS
      generalize hS1 : str (opT l k) = S1 at *
      generalize hO1 : opN l k = O1 at *
      have HP1 := Lib.hid hO1
      clear hS1 hO1
      cases hh : hasT ts s (opT l k) with
      | true =>
        have hO := Lib.hid ((HH.out k hkN hT.out.no hh).trans HP1.out)
        have hOS := Lib.hid (HO1.out (by rw [hO.out]; exact hne))
        rw [hh] at HS
        clear hh
        go_wp2_with fail
        refine HS.out.mono ?_
        rintro e w2 ⟨rfl, hR2, hS2⟩
        obtain ⟨hc, hf⟩ := (St.blk hS2 HK.out (by omega)).all
        have HR2 := Lib.hid (And.intro hR2 (St.trans (hT.out.st.alloc _) hS2))
        clear hR2 hS2 HK
        go_wp2
        go_ret
        exact ⟨by rw [hO.out]; rfl, by rw [hOS.out]; exact HR2.out.1, HR2.out.2⟩
      | false =>
        rw [hh] at HS
        have HNO : Hid (∀ j, j < k + 1 → hasT ts s (opT l j) = false) := Lib.hid fun j hj => by
          by_cases e : j = k
          · subst e; exact hh
          · exact hT.out.no j (by omega)
        clear hh
        go_wp2_with fail
        refine HS.out.mono ?_
        rintro e w2 ⟨rfl, hR2, hS2⟩
        have HR2 : Hid (OpSt ts R g c s l w w2 (k + 1)) := ⟨hR2, St.trans (hT.out.st.alloc _) hS2, HNO.out⟩
        clear hR2 hS2 HK HNO
        go_wp2
        go_roundw
        case rel => exact ⟨k + 1, by omega, by go_num, HR2⟩
        case measure => simp [intOf]; omega
    · obtain rfl : k = N := by omega
      have hO := Lib.hid (HM.out hT.out.no)
      have hOS := Lib.hid (HO0.out hO.out)
      go_wp2
      go_ret
      exact ⟨by rw [hO.out]; rfl, by rw [hOS.out]; exact hT.out.rd, hT.out.st⟩
end Go.Proofs.YtfnhogeocbndcaaGreatDoor
