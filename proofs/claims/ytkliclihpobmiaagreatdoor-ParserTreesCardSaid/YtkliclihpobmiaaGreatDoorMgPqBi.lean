/- What the rules of expressions do with fuel; small lemmas. -/
import Derived.Test.YtkliclihpobmiaaGreatDoorMgPqLv
import Derived.Test.YtkliclihpobmiaaGreatDoorMgPqE
import Derived.IntWalk
namespace Go.Proofs.YtkliclihpobmiaaGreatDoor
namespace Q
open Go Go.RowKit
set_option linter.unusedVariables false
set_option linter.unusedSimpArgs false

structure EC (ts : List Tok) (R g c f : Nat) : Prop where
 ex : ∀ s w, Rd w R g c ts s → 32 * rem ts s + 22 ≤ f → Calls Tryz.prog 161 #[.pointer (some ⟨R, 0, none⟩)] w (TP w R g c ts (EQ ts f .ex s))
 bn : ∀ l s w, l ≤ 9 → Rd w R g c ts s → 32 * rem ts s + (20 - l) ≤ f → Calls Tryz.prog 178 #[.pointer (some ⟨R, 0, none⟩), .int .i64 (l : Int)] w (TP w R g c ts (EQ ts f (.bn l) s))
 ca : ∀ s w, Rd w R g c ts s → 32 * rem ts s + 10 ≤ f → Calls Tryz.prog 186 #[.pointer (some ⟨R, 0, none⟩)] w (TP w R g c ts (EQ ts f .ca s))
 un : ∀ s w, Rd w R g c ts s → 32 * rem ts s + 9 ≤ f → Calls Tryz.prog 192 #[.pointer (some ⟨R, 0, none⟩)] w (TP w R g c ts (EQ ts f .un s))
 pr : ∀ s w, Rd w R g c ts s → 32 * rem ts s + 8 ≤ f → Calls Tryz.prog 198 #[.pointer (some ⟨R, 0, none⟩)] w (TP w R g c ts (EQ ts f .pr s))
theorem EQ_on (ts : List Tok) (f : Nat) (nt : NT) (hn : sh nt nt) (s : Sg) : On ts s (EQ ts f nt s).2 := by rw [EQ_st ts f nt nt s hn]; exact E_on ts f nt s
theorem Fr.drop {w0 w : World} {R g c : Nat} {ts : List Tok} {s : Sg} {p : Nat × List Value} {Ls : List (Nat × List Value)} {Ts : List (List Value × Tree)} (F : Fr w0 w R g c ts s (p :: Ls) Ts) : Fr w0 w R g c ts s Ls Ts :=
 ⟨F.rd, F.st, fun L cs h => F.bl L cs (List.Mem.tail _ h), fun cs t h => (F.tr cs t h).mono fun k hk _ => ⟨hk.1, fun L xs hL => hk.2 L xs (List.Mem.tail _ hL)⟩, F.hR, by have := F.nd; rw [List.map_cons, List.nodup_cons] at this; exact this.2⟩
theorem Fr.badR {w0 w : World} {R g c : Nat} {ts : List Tok} {s : Sg} {Ls : List (Nat × List Value)} {Ts : List (List Value × Tree)} (F : Fr w0 w R g c ts s Ls Ts) (hg : g < R) : Fr w0 (w.setCell ⟨R, 2, none⟩ (.bool true)) R g c ts (stop s) Ls Ts := by
 have hR := F.hR
 refine ⟨F.rd.failed hg, St.setR F.st rfl _, fun L cs h => ?_, fun xs t h => (F.tr xs t h).keep (fun k hk _ => Below.heap_setCell _ _ _ _ (by have := hk.1; show k ≠ R; omega)) fun k hk _ => hk, F.hR, F.nd⟩
 have := F.bl L cs h
 exact ⟨this.1.set_other (by show L ≠ R; omega) _, this.2⟩
theorem FK.advR {w0 w : World} {R g c : Nat} {ts : List Tok} {s : Sg} {Ls : List (Nat × List Value)} {base : Nat} {v : Value} {ks : List Tree} (F : FK w0 w R g c ts s Ls base v ks) (hg : g < R) (h0 : s.bad = false ∧ s.i < ts.length) {u : Int} (hv : u = (s.i : Int) + 1) : FK w0 (w.setCell ⟨R, 1, none⟩ (.int .i64 u)) R g c ts (Proofs.YtkliclihpobmiaaGreatDoor.adv s) Ls base v ks :=
 F.call (rd_adv' F.fr.rd hg h0 hv) (St.setR (St.refl w R) rfl _)
theorem opV10 (ts : List Tok) (s : Sg) : opV ts s 10 = if hasT ts s [45] then 19 else if hasT ts s [126] then 20 else if hasT ts s [33] then 21 else 0 := by
 unfold opV hasT
 show (((([([45], 19), ([126], 20), ([33], 21)] : List (List UInt8 × Nat))).find? fun p => decide (tx ts s = p.1)).map (·.2)).getD 0 = _
 simp only [List.find?_cons, List.find?_nil]
 cases decide (tx ts s = [45]) <;> cases decide (tx ts s = [126]) <;> cases decide (tx ts s = [33]) <;> rfl
end Q
end Go.Proofs.YtkliclihpobmiaaGreatDoor
/- The reference's rule unary: contract. -/
namespace Go.Proofs.YtkliclihpobmiaaGreatDoor
namespace Q
open Go Go.RowKit
set_option linter.unusedVariables false
set_option linter.unusedSimpArgs false

set_option maxHeartbeats 2000000 in
set_option maxRecDepth 100000 in
theorem unary_step {ts : List Tok} {R g c : Nat} (X : QC ts R g c) (f : Nat) (H : ∀ f1, f1 ≤ f → EC ts R g c f1) (s : Sg) (w : World) (hR : Rd w R g c ts s) (hf : 32 * rem ts s + 9 ≤ f + 1) : Calls Tryz.prog 192 #[.pointer (some ⟨R, 0, none⟩)] w (TP w R g c ts (EQ ts (f + 1) .un s)) := by
 have hXl := X.x.lt
 have F0 := Hd ((Fr.start hR).node hXl ncz)
 have HLN := Hd fun W (h : Rd W R g c ts s) => line_any X.x W h
 have HTA := Hd fun W (h : Rd W R g c ts s) => take_any X.x [45] (by simp) W h
 have HTB := Hd fun W (h : Rd W R g c ts s) => take_any X.x [126] (by simp) W h
 have HTC := Hd fun W (h : Rd W R g c ts s) => take_any X.x [33] (by simp) W h
 unfold skp at HTA HTB HTC
 have hop := opV10 ts s
 have HUN : Hid (opV ts s 10 ≠ 0 → ∀ W, Rd W R g c ts (adv s) → Calls Tryz.prog 192 #[.pointer (some ⟨R, 0, none⟩)] W (TP W R g c ts (EQ ts f .un (adv s)))) := Hd fun h W hW => (H f (Nat.le_refl _)).un (adv s) W hW (by have := rem_adv (opV_in h); omega)
 have HPR := Hd fun W (h : Rd W R g c ts s) => (H f (Nat.le_refl _)).pr s W h (by omega)
 clear H hf hR
 cases h0 : hasT ts s [45] with
 | true =>
  have ho : opV ts s 10 = 19 := by rw [hop, h0]; simp
  have HE : Hid (EQ ts (f + 1) .un s = (.node { labK 21 (lnR ts s) with op := 19 } [(EQ ts f .un (adv s)).1], (EQ ts f .un (adv s)).2)) := Hd (by rw [EQ, if_neg (by rw [ho]; decide), ho]; rfl)
  rw [HE.out]
  have HU2 := Hd (HUN.out (by rw [ho]; decide))
  rw [h0] at HTA
  clear HUN HPR hop ho HE h0
  go_enter Tryz.func192, Tryz.ntmps192
  go_wp2_with fail
  refine (HLN.out _ F0.out.rd).mono ?_
  rintro e v1 ⟨rfl, hb⟩
  have G1 := Hd (F0.out.quiet hXl hb)
  clear hb
  obtain ⟨hc0, hf0⟩ := G1.out.b0.all
  have hz0 := G1.out.b0.lt
  unfold ncz at hc0
  go_wp2_with fail
  refine (HTA.out _ G1.out.rd).mono ?_
  rintro e v2 ⟨rfl, hr, hs⟩
  clear hc0 hf0 hz0
  have G2 := Hd (G1.out.call hr hs)
  clear hr hs
  obtain ⟨hc0, hf0⟩ := G2.out.b0.all
  have hz0 := G2.out.b0.lt
  unfold ncz at hc0
  go_wp2_with fail
  refine (HU2.out _ G2.out.rd).mono ?_
  rintro e v3 ⟨l1, x1, n1, k1, rfl, hT, hr, hs⟩
  clear hc0 hf0 hz0
  have G3 := Hd (G2.out.tree hT hr hs)
  clear hT hr hs
  obtain ⟨hc0, hf0⟩ := G3.out.b0.all
  have hz0 := G3.out.b0.lt
  unfold ncz at hc0
  go_wp2
  have G4 := Hd (G3.out.stoR hXl (List.Mem.head _) rfl (.int .i64 21) (.string ⟨#[]⟩) (.int .u64 0) (.int .i64 0) (.bool false) (.int .i64 19) (.int .i64 0) (.int .i64 0) (.int .i64 0) (.int .i64 ((lnR ts s : Nat) : Int)) (.slice (some ⟨v3.heap.size + 1, 0, none⟩) 1 1))
  have G5 := Hd (G4.out.node hXl [.int .i64 l1.kind, .string (str l1.name), .int .u64 l1.num, .int .i64 l1.wd, .bool l1.sg, .int .i64 l1.op, .int .i64 l1.fac, .int .i64 l1.pip, .int .i64 l1.unr, .int .i64 l1.line, .slice x1 n1 k1])
  have G6 := Hd (G5.out.kidz1 hXl (v3.heap.size + 1) (by simp only [size_setCell, stor11_size, size_alloc]) (List.Mem.head _) { labK 21 (lnR ts s) with op := 19 })
  refine bodyPost_ret (G6.out.b1.res1 Tryz.results192 Tryz.underlying28 rfl infoNd _ rfl) rfl ?_
  exact G6.out.outT (rfl)
 | false =>
  rw [h0] at HTA
  cases h1 : hasT ts s [126] with
  | true =>
   have ho : opV ts s 10 = 20 := by rw [hop, h0, h1]; simp
   have HE : Hid (EQ ts (f + 1) .un s = (.node { labK 21 (lnR ts s) with op := 20 } [(EQ ts f .un (adv s)).1], (EQ ts f .un (adv s)).2)) := Hd (by rw [EQ, if_neg (by rw [ho]; decide), ho]; rfl)
   rw [HE.out]
   have HU2 := Hd (HUN.out (by rw [ho]; decide))
   rw [h1] at HTB
   clear HUN HPR hop ho HE h0 h1
   go_enter Tryz.func192, Tryz.ntmps192
   go_wp2_with fail
   refine (HLN.out _ F0.out.rd).mono ?_
   rintro e v1 ⟨rfl, hb⟩
   have G1 := Hd (F0.out.quiet hXl hb)
   clear hb
   obtain ⟨hc0, hf0⟩ := G1.out.b0.all
   have hz0 := G1.out.b0.lt
   unfold ncz at hc0
   go_wp2_with fail
   refine (HTA.out _ G1.out.rd).mono ?_
   rintro e v2 ⟨rfl, hr, hs⟩
   clear hc0 hf0 hz0
   have G2 := Hd (G1.out.call hr hs)
   clear hr hs
   obtain ⟨hc0, hf0⟩ := G2.out.b0.all
   have hz0 := G2.out.b0.lt
   unfold ncz at hc0
   go_wp2_with fail
   refine (HTB.out _ G2.out.rd).mono ?_
   rintro e v3 ⟨rfl, hr, hs⟩
   clear hc0 hf0 hz0
   have G3 := Hd (G2.out.call hr hs)
   clear hr hs
   obtain ⟨hc0, hf0⟩ := G3.out.b0.all
   have hz0 := G3.out.b0.lt
   unfold ncz at hc0
   go_wp2_with fail
   refine (HU2.out _ G3.out.rd).mono ?_
   rintro e v4 ⟨l1, x1, n1, k1, rfl, hT, hr, hs⟩
   clear hc0 hf0 hz0
   have G4 := Hd (G3.out.tree hT hr hs)
   clear hT hr hs
   obtain ⟨hc0, hf0⟩ := G4.out.b0.all
   have hz0 := G4.out.b0.lt
   unfold ncz at hc0
   go_wp2
   have G5 := Hd (G4.out.stoR hXl (List.Mem.head _) rfl (.int .i64 21) (.string ⟨#[]⟩) (.int .u64 0) (.int .i64 0) (.bool false) (.int .i64 20) (.int .i64 0) (.int .i64 0) (.int .i64 0) (.int .i64 ((lnR ts s : Nat) : Int)) (.slice (some ⟨v4.heap.size + 1, 0, none⟩) 1 1))
   have G6 := Hd (G5.out.node hXl [.int .i64 l1.kind, .string (str l1.name), .int .u64 l1.num, .int .i64 l1.wd, .bool l1.sg, .int .i64 l1.op, .int .i64 l1.fac, .int .i64 l1.pip, .int .i64 l1.unr, .int .i64 l1.line, .slice x1 n1 k1])
   have G7 := Hd (G6.out.kidz1 hXl (v4.heap.size + 1) (by simp only [size_setCell, stor11_size, size_alloc]) (List.Mem.head _) { labK 21 (lnR ts s) with op := 20 })
   refine bodyPost_ret (G7.out.b1.res1 Tryz.results192 Tryz.underlying28 rfl infoNd _ rfl) rfl ?_
   exact G7.out.outT (rfl)
  | false =>
   rw [h1] at HTB
   cases h2 : hasT ts s [33] with
   | true =>
    have ho : opV ts s 10 = 21 := by rw [hop, h0, h1, h2]; simp
    have HE : Hid (EQ ts (f + 1) .un s = (.node { labK 21 (lnR ts s) with op := 21 } [(EQ ts f .un (adv s)).1], (EQ ts f .un (adv s)).2)) := Hd (by rw [EQ, if_neg (by rw [ho]; decide), ho]; rfl)
    rw [HE.out]
    have HU2 := Hd (HUN.out (by rw [ho]; decide))
    rw [h2] at HTC
    clear HUN HPR hop ho HE h0 h1 h2
    go_enter Tryz.func192, Tryz.ntmps192
    go_wp2_with fail
    refine (HLN.out _ F0.out.rd).mono ?_
    rintro e v1 ⟨rfl, hb⟩
    have G1 := Hd (F0.out.quiet hXl hb)
    clear hb
    obtain ⟨hc0, hf0⟩ := G1.out.b0.all
    have hz0 := G1.out.b0.lt
    unfold ncz at hc0
    go_wp2_with fail
    refine (HTA.out _ G1.out.rd).mono ?_
    rintro e v2 ⟨rfl, hr, hs⟩
    clear hc0 hf0 hz0
    have G2 := Hd (G1.out.call hr hs)
    clear hr hs
    obtain ⟨hc0, hf0⟩ := G2.out.b0.all
    have hz0 := G2.out.b0.lt
    unfold ncz at hc0
    go_wp2_with fail
    refine (HTB.out _ G2.out.rd).mono ?_
    rintro e v3 ⟨rfl, hr, hs⟩
    clear hc0 hf0 hz0
    have G3 := Hd (G2.out.call hr hs)
    clear hr hs
    obtain ⟨hc0, hf0⟩ := G3.out.b0.all
    have hz0 := G3.out.b0.lt
    unfold ncz at hc0
    go_wp2_with fail
    refine (HTC.out _ G3.out.rd).mono ?_
    rintro e v4 ⟨rfl, hr, hs⟩
    clear hc0 hf0 hz0
    have G4 := Hd (G3.out.call hr hs)
    clear hr hs
    obtain ⟨hc0, hf0⟩ := G4.out.b0.all
    have hz0 := G4.out.b0.lt
    unfold ncz at hc0
    go_wp2_with fail
    refine (HU2.out _ G4.out.rd).mono ?_
    rintro e v5 ⟨l1, x1, n1, k1, rfl, hT, hr, hs⟩
    clear hc0 hf0 hz0
    have G5 := Hd (G4.out.tree hT hr hs)
    clear hT hr hs
    obtain ⟨hc0, hf0⟩ := G5.out.b0.all
    have hz0 := G5.out.b0.lt
    unfold ncz at hc0
    go_wp2
    have G6 := Hd (G5.out.stoR hXl (List.Mem.head _) rfl (.int .i64 21) (.string ⟨#[]⟩) (.int .u64 0) (.int .i64 0) (.bool false) (.int .i64 21) (.int .i64 0) (.int .i64 0) (.int .i64 0) (.int .i64 ((lnR ts s : Nat) : Int)) (.slice (some ⟨v5.heap.size + 1, 0, none⟩) 1 1))
    have G7 := Hd (G6.out.node hXl [.int .i64 l1.kind, .string (str l1.name), .int .u64 l1.num, .int .i64 l1.wd, .bool l1.sg, .int .i64 l1.op, .int .i64 l1.fac, .int .i64 l1.pip, .int .i64 l1.unr, .int .i64 l1.line, .slice x1 n1 k1])
    have G8 := Hd (G7.out.kidz1 hXl (v5.heap.size + 1) (by simp only [size_setCell, stor11_size, size_alloc]) (List.Mem.head _) { labK 21 (lnR ts s) with op := 21 })
    refine bodyPost_ret (G8.out.b1.res1 Tryz.results192 Tryz.underlying28 rfl infoNd _ rfl) rfl ?_
    exact G8.out.outT (rfl)
   | false =>
    rw [h2] at HTC
    have ho : opV ts s 10 = 0 := by rw [hop, h0, h1, h2]; simp
    have HE : Hid (EQ ts (f + 1) .un s = EQ ts f .pr s) := Hd (by rw [EQ, if_pos ho])
    rw [HE.out]
    clear HUN hop ho HE h0 h1 h2
    go_enter Tryz.func192, Tryz.ntmps192
    go_wp2_with fail
    refine (HLN.out _ F0.out.rd).mono ?_
    rintro e v1 ⟨rfl, hb⟩
    have G1 := Hd (F0.out.quiet hXl hb)
    clear hb
    obtain ⟨hc0, hf0⟩ := G1.out.b0.all
    have hz0 := G1.out.b0.lt
    unfold ncz at hc0
    go_wp2_with fail
    refine (HTA.out _ G1.out.rd).mono ?_
    rintro e v2 ⟨rfl, hr, hs⟩
    clear hc0 hf0 hz0
    have G2 := Hd (G1.out.call hr hs)
    clear hr hs
    obtain ⟨hc0, hf0⟩ := G2.out.b0.all
    have hz0 := G2.out.b0.lt
    unfold ncz at hc0
    go_wp2_with fail
    refine (HTB.out _ G2.out.rd).mono ?_
    rintro e v3 ⟨rfl, hr, hs⟩
    clear hc0 hf0 hz0
    have G3 := Hd (G2.out.call hr hs)
    clear hr hs
    obtain ⟨hc0, hf0⟩ := G3.out.b0.all
    have hz0 := G3.out.b0.lt
    unfold ncz at hc0
    go_wp2_with fail
    refine (HTC.out _ G3.out.rd).mono ?_
    rintro e v4 ⟨rfl, hr, hs⟩
    clear hc0 hf0 hz0
    have G4 := Hd (G3.out.call hr hs)
    clear hr hs
    obtain ⟨hc0, hf0⟩ := G4.out.b0.all
    have hz0 := G4.out.b0.lt
    unfold ncz at hc0
    go_wp2_with fail
    refine (HPR.out _ G4.out.rd).mono ?_
    rintro e v5 ⟨l1, x1, n1, k1, rfl, hT, hr, hs⟩
    clear hc0 hf0 hz0
    have G5 := Hd (G4.out.tree hT hr hs)
    clear hT hr hs
    obtain ⟨hc0, hf0⟩ := G5.out.b0.all
    have hz0 := G5.out.b0.lt
    unfold ncz at hc0
    go_wp2
    have G6 := Hd (G5.out.stoR hXl (List.Mem.head _) rfl (.int .i64 l1.kind) (.string (str l1.name)) (.int .u64 l1.num) (.int .i64 l1.wd) (.bool l1.sg) (.int .i64 l1.op) (.int .i64 l1.fac) (.int .i64 l1.pip) (.int .i64 l1.unr) (.int .i64 l1.line) (.slice x1 n1 k1))
    refine bodyPost_ret (G6.out.b0.res1 Tryz.results192 Tryz.underlying28 rfl infoNd _ rfl) rfl ?_
    exact G6.out.outT (rfl)
end Q
end Go.Proofs.YtkliclihpobmiaaGreatDoor
/- The reference's rule expr: contract. -/
namespace Go.Proofs.YtkliclihpobmiaaGreatDoor
namespace Q
open Go Go.RowKit
set_option linter.unusedVariables false
set_option linter.unusedSimpArgs false

set_option maxHeartbeats 2000000 in
set_option maxRecDepth 100000 in
theorem expr_step {ts : List Tok} {R g c : Nat} (X : QC ts R g c) (f : Nat) (H : ∀ f1, f1 ≤ f → EC ts R g c f1) (s : Sg) (w : World) (hR : Rd w R g c ts s) (hf : 32 * rem ts s + 22 ≤ f + 1) : Calls Tryz.prog 161 #[.pointer (some ⟨R, 0, none⟩)] w (TP w R g c ts (EQ ts (f + 1) .ex s)) := by
 have hXl := X.x.lt
 have F0 := Hd ((Fr.start hR).node hXl ncz)
 have HLN := Hd fun W (h : Rd W R g c ts s) => line_any X.x W h
 have HBN := Hd fun W (h : Rd W R g c ts s) => (H f (Nat.le_refl _)).bn 0 s W (by omega) h (by omega)
 have HSK := Hd fun q W (h : Rd W R g c ts q) => take_any X.x (s := q) [63] (by simp) W h
 have HCO := Hd fun q W (h : Rd W R g c ts q) => need_any X.x (s := q) [58] (by simp) W h
 have hon := rem_on (EQ_on ts f (.bn 0) rfl s)
 unfold skp at HSK
 cases h1 : hasT ts (EQ ts f (.bn 0) s).2 [63] with
 | true =>
  have hin := hasT_in h1
  have hra := rem_adv hin
  have HE : Hid (EQ ts (f + 1) .ex s = (.node (labK 23 (lnR ts s)) [(EQ ts f (.bn 0) s).1, (EQ ts f .ex (adv (EQ ts f (.bn 0) s).2)).1, (EQ ts f .ex (exc ts (EQ ts f .ex (adv (EQ ts f (.bn 0) s).2)).2 [58])).1], (EQ ts f .ex (exc ts (EQ ts f .ex (adv (EQ ts f (.bn 0) s).2)).2 [58])).2)) := Hd (by rw [EQ, if_pos h1])
  rw [HE.out]
  have HSK2 := Hd (HSK.out (EQ ts f (.bn 0) s).2)
  rw [h1] at HSK2
  have HEX := Hd fun W (h : Rd W R g c ts (adv (EQ ts f (.bn 0) s).2)) => (H f (Nat.le_refl _)).ex _ W h (by omega)
  have hon2 := rem_on (EQ_on ts f .ex trivial (adv (EQ ts f (.bn 0) s).2))
  have hon3 := rem_on (exc_on (ts := ts) (s := (EQ ts f .ex (adv (EQ ts f (.bn 0) s).2)).2) (c := 58) (t := []))
  have HEY := Hd fun W (h : Rd W R g c ts (exc ts (EQ ts f .ex (adv (EQ ts f (.bn 0) s).2)).2 [58])) => (H f (Nat.le_refl _)).ex _ W h (by omega)
  clear HE H hR h1 hin hra hon hon2 hon3 hf HSK
  generalize EQ ts f (.bn 0) s = P1 at *
  generalize EQ ts f .ex (adv P1.2) = P2 at *
  generalize EQ ts f .ex (exc ts P2.2 [58]) = P3 at *
  go_enter Tryz.func161, Tryz.ntmps161
  go_wp2_with fail
  refine (HLN.out _ F0.out.rd).mono ?_
  rintro e v1 ⟨rfl, hb⟩
  have G1 := Hd (F0.out.quiet hXl hb)
  clear hb
  obtain ⟨hc0, hf0⟩ := G1.out.b0.all
  have hz0 := G1.out.b0.lt
  unfold ncz at hc0
  go_wp2_with fail
  refine (HBN.out _ G1.out.rd).mono ?_
  rintro e v2 ⟨l1, x1, n1, k1, rfl, hT, hr, hs⟩
  clear hc0 hf0 hz0
  have G2 := Hd (G1.out.tree hT hr hs)
  clear hT hr hs
  obtain ⟨hc0, hf0⟩ := G2.out.b0.all
  have hz0 := G2.out.b0.lt
  unfold ncz at hc0
  have hq20 := G2.out.b0.lt
  have G3 := Hd (G2.out.node hXl [.int .i64 l1.kind, .string (str l1.name), .int .u64 l1.num, .int .i64 l1.wd, .bool l1.sg, .int .i64 l1.op, .int .i64 l1.fac, .int .i64 l1.pip, .int .i64 l1.unr, .int .i64 l1.line, .slice x1 n1 k1])
  go_wp2_with fail
  refine (HSK2.out _ G3.out.rd).mono ?_
  rintro e v3 ⟨rfl, hr, hs⟩
  clear hc0 hf0 hz0
  have G4 := Hd (G3.out.call hr hs)
  clear hr hs
  obtain ⟨hc0, hf0, hz0, hc1, hf1, hz1⟩ := G4.out.l2
  go_wp2_with fail
  refine (HEX.out _ G4.out.rd).mono ?_
  rintro e v4 ⟨l2, x2, n2, k2, rfl, hT, hr, hs⟩
  clear hc0 hf0 hz0 hc1 hf1 hz1
  have G5 := Hd (G4.out.tree hT hr hs)
  clear hT hr hs
  obtain ⟨hc0, hf0, hz0, hc1, hf1, hz1⟩ := G5.out.l2
  have hq40 := G5.out.b0.lt
  have hq41 := G5.out.b1.lt
  have G6 := Hd (G5.out.node hXl [.int .i64 l2.kind, .string (str l2.name), .int .u64 l2.num, .int .i64 l2.wd, .bool l2.sg, .int .i64 l2.op, .int .i64 l2.fac, .int .i64 l2.pip, .int .i64 l2.unr, .int .i64 l2.line, .slice x2 n2 k2])
  go_wp2_with fail
  refine (HCO.out _ _ G6.out.rd).mono ?_
  rintro e v5 ⟨rfl, hr, hs⟩
  have G7 := Hd (G6.out.call hr hs)
  clear hr hs hc0 hf0 hz0 hc1 hf1 hz1
  obtain ⟨hc0, hf0⟩ := G7.out.b0.all
  have hz0 := G7.out.b0.lt
  obtain ⟨hc1, hf1⟩ := G7.out.b1.all
  have hz1 := G7.out.b1.lt
  obtain ⟨hc2, hf2⟩ := G7.out.b2.all
  have hz2 := G7.out.b2.lt
  unfold ncz at hc2
  go_wp2_with fail
  refine (HEY.out _ G7.out.rd).mono ?_
  rintro e v6 ⟨l3, x3, n3, k3, rfl, hT, hr, hs⟩
  clear hc0 hf0 hz0 hc1 hf1 hz1 hc2 hf2 hz2
  have G8 := Hd (G7.out.tree hT hr hs)
  clear hT hr hs
  obtain ⟨hc0, hf0⟩ := G8.out.b0.all
  have hz0 := G8.out.b0.lt
  obtain ⟨hc1, hf1⟩ := G8.out.b1.all
  have hz1 := G8.out.b1.lt
  obtain ⟨hc2, hf2⟩ := G8.out.b2.all
  have hz2 := G8.out.b2.lt
  unfold ncz at hc2
  go_wp2
  have G9 := Hd (G8.out.stoR hXl (List.Mem.tail _ (List.Mem.tail _ (List.Mem.head _))) rfl (.int .i64 23) (.string ⟨#[]⟩) (.int .u64 0) (.int .i64 0) (.bool false) (.int .i64 0) (.int .i64 0) (.int .i64 0) (.int .i64 0) (.int .i64 ((lnR ts s : Nat) : Int)) (.slice (some ⟨v6.heap.size + 1, 0, none⟩) 3 3))
  have G10 := Hd (G9.out.node hXl [.int .i64 l3.kind, .string (str l3.name), .int .u64 l3.num, .int .i64 l3.wd, .bool l3.sg, .int .i64 l3.op, .int .i64 l3.fac, .int .i64 l3.pip, .int .i64 l3.unr, .int .i64 l3.line, .slice x3 n3 k3])
  have G11 := Hd (G10.out.kidz3 hXl (v6.heap.size + 1) (by simp only [size_setCell, stor11_size, size_alloc]) (List.Mem.tail _ (List.Mem.tail _ (List.Mem.head _))) (List.Mem.tail _ (List.Mem.head _)) (List.Mem.head _) (labK 23 (lnR ts s)) [.int .i64 l1.kind, .string (str l1.name), .int .u64 l1.num, .int .i64 l1.wd, .bool l1.sg, .int .i64 l1.op, .int .i64 l1.fac, .int .i64 l1.pip, .int .i64 l1.unr, .int .i64 l1.line, .slice x1 n1 k1, .int .i64 l2.kind, .string (str l2.name), .int .u64 l2.num, .int .i64 l2.wd, .bool l2.sg, .int .i64 l2.op, .int .i64 l2.fac, .int .i64 l2.pip, .int .i64 l2.unr, .int .i64 l2.line, .slice x2 n2 k2, .int .i64 l3.kind, .string (str l3.name), .int .u64 l3.num, .int .i64 l3.wd, .bool l3.sg, .int .i64 l3.op, .int .i64 l3.fac, .int .i64 l3.pip, .int .i64 l3.unr, .int .i64 l3.line, .slice x3 n3 k3] rfl)
  refine bodyPost_ret (G11.out.b1.res1 Tryz.results161 Tryz.underlying28 rfl infoNd _ rfl) rfl ?_
  exact G11.out.outT (rfl)
 | false =>
  have HE : Hid (EQ ts (f + 1) .ex s = EQ ts f (.bn 0) s) := Hd (by rw [EQ, if_neg (by simp [h1])])
  rw [HE.out]
  have HSK2 := Hd (HSK.out (EQ ts f (.bn 0) s).2)
  rw [h1] at HSK2
  clear HE H hR h1 hon hf HSK
  generalize EQ ts f (.bn 0) s = P1 at *
  go_enter Tryz.func161, Tryz.ntmps161
  go_wp2_with fail
  refine (HLN.out _ F0.out.rd).mono ?_
  rintro e v1 ⟨rfl, hb⟩
  have G1 := Hd (F0.out.quiet hXl hb)
  clear hb
  obtain ⟨hc0, hf0⟩ := G1.out.b0.all
  have hz0 := G1.out.b0.lt
  unfold ncz at hc0
  go_wp2_with fail
  refine (HBN.out _ G1.out.rd).mono ?_
  rintro e v2 ⟨l1, x1, n1, k1, rfl, hT, hr, hs⟩
  clear hc0 hf0 hz0
  have G2 := Hd (G1.out.tree hT hr hs)
  clear hT hr hs
  obtain ⟨hc0, hf0⟩ := G2.out.b0.all
  have hz0 := G2.out.b0.lt
  unfold ncz at hc0
  have hq20 := G2.out.b0.lt
  have G3 := Hd (G2.out.node hXl [.int .i64 l1.kind, .string (str l1.name), .int .u64 l1.num, .int .i64 l1.wd, .bool l1.sg, .int .i64 l1.op, .int .i64 l1.fac, .int .i64 l1.pip, .int .i64 l1.unr, .int .i64 l1.line, .slice x1 n1 k1])
  go_wp2_with fail
  refine (HSK2.out _ G3.out.rd).mono ?_
  rintro e v3 ⟨rfl, hr, hs⟩
  clear hc0 hf0 hz0
  have G4 := Hd (G3.out.call hr hs)
  clear hr hs
  obtain ⟨hc0, hf0, hz0, hc1, hf1, hz1⟩ := G4.out.l2
  go_wp2
  have G5 := Hd (G4.out.stoR hXl (List.Mem.tail _ (List.Mem.head _)) rfl (.int .i64 l1.kind) (.string (str l1.name)) (.int .u64 l1.num) (.int .i64 l1.wd) (.bool l1.sg) (.int .i64 l1.op) (.int .i64 l1.fac) (.int .i64 l1.pip) (.int .i64 l1.unr) (.int .i64 l1.line) (.slice x1 n1 k1))
  refine bodyPost_ret (G5.out.b0.res1 Tryz.results161 Tryz.underlying28 rfl infoNd _ rfl) rfl ?_
  exact G5.out.outT (rfl)
end Q
end Go.Proofs.YtkliclihpobmiaaGreatDoor
/- The reference's rule cast: contract. -/
namespace Go.Proofs.YtkliclihpobmiaaGreatDoor
namespace Q
open Go Go.RowKit
set_option linter.unusedVariables false
set_option linter.unusedSimpArgs false

def ClSt (ts : List Tok) (R g c : Nat) (w : World) (L0 L1 : Nat) (Z : Tree × Sg) (line : Nat) (wr : World) (st : Sg) : Prop :=
 ∃ (t : Tree) (l : Lab) (x : Option Addr) (n k F : Nat), Fr w wr R g c ts st [(L1, [.int .i64 l.kind, .string (str l.name), .int .u64 l.num, .int .i64 l.wd, .bool l.sg, .int .i64 l.op, .int .i64 l.fac, .int .i64 l.pip, .int .i64 l.unr, .int .i64 l.line, .slice x n k]), (L0, ncz)] [([.int .i64 l.kind, .string (str l.name), .int .u64 l.num, .int .i64 l.wd, .bool l.sg, .int .i64 l.op, .int .i64 l.fac, .int .i64 l.pip, .int .i64 l.unr, .int .i64 l.line, .slice x n k], t)] ∧ Z = EQ ts (F + 1) (.cl line t) st ∧ 32 * rem ts st + 1 ≤ F + 1
theorem atW_rd {w : World} {R g c : Nat} {ts : List Tok} {s : Sg} (h : Rd w R g c ts s) : atW w R = s.i := by
 unfold atW
 rw [h.cells.2.1]
 simp
theorem at_adv {ts : List Tok} {s t : Sg} (h : s.bad = false ∧ s.i < ts.length) (ht : On ts (adv s) t) (hi : t.i ≤ ts.length) : s.i < t.i ∧ t.i ≤ ts.length := by
 have h1 := ht.1
 unfold adv at h1
 simp at h1
 exact ⟨by omega, hi⟩
set_option maxHeartbeats 2000000 in
set_option maxRecDepth 100000 in
theorem cast_step {ts : List Tok} {R g c : Nat} (X : QC ts R g c) (f : Nat) (H : ∀ f1, f1 ≤ f → EC ts R g c f1) (s : Sg) (w : World) (hR : Rd w R g c ts s) (hf : 32 * rem ts s + 10 ≤ f + 1) : Calls Tryz.prog 186 #[.pointer (some ⟨R, 0, none⟩)] w (TP w R g c ts (EQ ts (f + 1) .ca s)) := by
 have hXl := X.x.lt
 have F0 := Hd ((Fr.start hR).node hXl ncz)
 have HLN := Hd fun W (h : Rd W R g c ts s) => line_any X.x W h
 have HUN := Hd fun W (h : Rd W R g c ts s) => (H f (Nat.le_refl _)).un s W h (by omega)
 have HSK := Hd fun q W (h : Rd W R g c ts q) => take_any X.x (s := q) [97, 115] (by simp) W h
 have HTY := Hd fun q W (h : Rd W R g c ts q) => typ_any X (s := q) W h
 have hon := rem_on (EQ_on ts f .un trivial s)
 have hlen := X.x.len
 unfold skp at HSK
 obtain ⟨f1, rfl⟩ : ∃ f1, f = f1 + 1 := ⟨f - 1, by omega⟩
 rw [EQ]
 have hfu : 32 * rem ts (EQ ts (f1 + 1) .un s).2 + 1 ≤ f1 + 1 := by omega
 clear H hR hon hf
 generalize EQ ts (f1 + 1) .un s = P1 at *
 generalize lnR ts s = L9 at *
 obtain ⟨Z, hZ⟩ : ∃ Z, Z = EQ ts (f1 + 1) (.cl L9 P1.1) P1.2 := ⟨_, rfl⟩
 rw [← hZ]
 have HZ := Hd hZ
 clear hZ
 go_enter Tryz.func186, Tryz.ntmps186
 go_wp2_with fail
 refine (HLN.out _ F0.out.rd).mono ?_
 rintro e v1 ⟨rfl, hb⟩
 have G1 := Hd (F0.out.quiet hXl hb)
 clear hb
 obtain ⟨hc0, hf0⟩ := G1.out.b0.all
 have hz0 := G1.out.b0.lt
 unfold ncz at hc0
 go_wp2_with fail
 refine (HUN.out _ G1.out.rd).mono ?_
 rintro e v2 ⟨l1, x1, n1, k1, rfl, hT, hr, hs⟩
 clear hc0 hf0 hz0
 have G2 := Hd (G1.out.tree hT hr hs)
 clear hT hr hs
 obtain ⟨hc0, hf0⟩ := G2.out.b0.all
 have hz0 := G2.out.b0.lt
 unfold ncz at hc0
 have hq20 := G2.out.b0.lt
 have G3 := Hd (G2.out.node hXl [.int .i64 l1.kind, .string (str l1.name), .int .u64 l1.num, .int .i64 l1.wd, .bool l1.sg, .int .i64 l1.op, .int .i64 l1.fac, .int .i64 l1.pip, .int .i64 l1.unr, .int .i64 l1.line, .slice x1 n1 k1])
 have h0 : Hid (ClSt ts R g c w w.heap.size v2.heap.size Z L9 _ P1.2) := Hd ⟨P1.1, l1, x1, n1, k1, f1, G3.out, HZ.out, hfu⟩
 have hL01 : w.heap.size < v2.heap.size := hq20
 clear hfu HZ HUN
 go_wp2
 go_loopw [10] (fun _ wr => ∃ st, Hid (ClSt ts R g c w w.heap.size v2.heap.size Z L9 wr st)) (fun _ wr => ts.length - atW wr R)
 case atStart => exact ⟨_, h0⟩
 case round =>
  obtain ⟨st, hT⟩ := hrel
  obtain ⟨t, l2, x2, n2, k2, F, hFr, hZ, hfu2⟩ := hT.out
  have J0 := Hd hFr
  have HZ2 := Hd hZ
  have HS2 := Hd (HSK.out st)
  clear hFr hZ hT h0
  cases hh : hasT ts st [97, 115] with
  | true =>
   have hin := hasT_in hh
   have hra := rem_adv hin
   have hrt := rem_on (tyS_on ts (adv st))
   rw [hh] at HS2
   obtain ⟨F2, rfl⟩ : ∃ F2, F = F2 + 1 := ⟨F - 1, by omega⟩
   have HZ3 : Hid (Z = EQ ts (F2 + 1) (.cl L9 (.node { labK 24 L9 with wd := (tyV' ts (adv st)).1, sg := (tyV' ts (adv st)).2 } [t])) (tyS ts (adv st))) := Hd (by rw [HZ2.out, EQ, if_pos hh])
   have hm0 := atW_rd J0.out.rd
   have HHIN := Hd hin
   have hatl := J0.out.rd.hi
   clear hh hin HZ2
   go_wp2_with fail
   refine (HS2.out _ J0.out.rd).mono ?_
   rintro e v5 ⟨rfl, hr, hs⟩
   have G21 := Hd (J0.out.call hr hs)
   clear hr hs
   obtain ⟨hc0, hf0, hz0, hc1, hf1, hz1⟩ := G21.out.l2
   go_wp2_with fail
   refine (HTY.out _ _ G21.out.rd).mono ?_
   rintro e v6 ⟨rfl, hr, hs⟩
   have G22 := Hd (G21.out.call hr hs)
   clear hr hs hc0 hf0 hz0 hc1 hf1 hz1
   obtain ⟨hc0, hf0, hz0, hc1, hf1, hz1⟩ := G22.out.l2
   have G23 := Hd (G22.out.stor0 hXl rfl (.int .i64 24) (.string ⟨#[]⟩) (.int .u64 0) (.int .i64 ((tyV' ts (adv st)).1 : Int)) (.bool (tyV' ts (adv st)).2) (.int .i64 0) (.int .i64 0) (.int .i64 0) (.int .i64 0) (.int .i64 (L9 : Int)) (.slice (some ⟨v6.heap.size + 1, 0, none⟩) 1 1))
   have G24 := Hd (G23.out.alloc hXl (.cells #[.int .i64 ((tyV' ts (adv st)).1 : Int), .bool (tyV' ts (adv st)).2] 25))
   have G25 := Hd (G24.out.kidz1 hXl (v6.heap.size + 1) (by simp only [size_setCell, stor11_size, size_alloc]) (List.Mem.head _) { labK 24 L9 with wd := (tyV' ts (adv st)).1, sg := (tyV' ts (adv st)).2 })
   have JE := Hd (G25.out.keepT (Ts' := [([.int .i64 24, .string ⟨#[]⟩, .int .u64 0, .int .i64 ((tyV' ts (adv st)).1 : Int), .bool (tyV' ts (adv st)).2, .int .i64 0, .int .i64 0, .int .i64 0, .int .i64 0, .int .i64 (L9 : Int), .slice (some ⟨v6.heap.size + 1, 0, none⟩) 1 1], .node { labK 24 L9 with wd := (tyV' ts (adv st)).1, sg := (tyV' ts (adv st)).2 } [t])]) (fun p hp => by simp at hp; subst hp; exact List.Mem.head _))
   have hm1 := atW_rd JE.out.rd
   have hma := at_adv HHIN.out (tyS_on ts (adv st)) JE.out.rd.hi
   have HN2 : Hid (ClSt ts R g c w w.heap.size v2.heap.size Z L9 _ (tyS ts (adv st))) := Hd ⟨_, { labK 24 L9 with wd := (tyV' ts (adv st)).1, sg := (tyV' ts (adv st)).2 }, some ⟨v6.heap.size + 1, 0, none⟩, 1, 1, F2, JE.out, HZ3.out, by omega⟩
   have hmm : Hid (atW wr R = st.i) := Hd hm0
   have HM1 := Hd hm1
   have HM : Hid (ts.length - (tyS ts (adv st)).i < ts.length - st.i) := Hd (by omega)
   clear hm0 hm1
   go_wp2
   go_roundw
   case rel => exact ⟨_, HN2⟩
   case measure => (rw [hmm.out]; refine Nat.lt_of_le_of_lt (Nat.le_of_eq ?_) HM.out; exact congrArg (ts.length - ·) HM1.out)
  | false =>
   rw [hh] at HS2
   have HZ3 : Hid (Z = (t, st)) := Hd (by rw [HZ2.out, EQ, if_neg (by simp [hh])])
   clear hh HZ2
   go_wp2_with fail
   refine (HS2.out _ J0.out.rd).mono ?_
   rintro e v5 ⟨rfl, hr, hs⟩
   have G41 := Hd (J0.out.call hr hs)
   clear hr hs
   obtain ⟨hc0, hf0, hz0, hc1, hf1, hz1⟩ := G41.out.l2
   go_wp2
   have G42 := Hd (G41.out.stoR hXl (List.Mem.tail _ (List.Mem.head _)) rfl (.int .i64 l2.kind) (.string (str l2.name)) (.int .u64 l2.num) (.int .i64 l2.wd) (.bool l2.sg) (.int .i64 l2.op) (.int .i64 l2.fac) (.int .i64 l2.pip) (.int .i64 l2.unr) (.int .i64 l2.line) (.slice x2 n2 k2))
   refine bodyPost_ret (G42.out.b0.res1 Tryz.results186 Tryz.underlying28 rfl infoNd _ rfl) rfl ?_
   exact G42.out.outT (HZ3.out)
end Q
end Go.Proofs.YtkliclihpobmiaaGreatDoor
/- The reference's rule binary: contract. -/
namespace Go.Proofs.YtkliclihpobmiaaGreatDoor
namespace Q
open Go Go.RowKit
set_option linter.unusedVariables false
set_option linter.unusedSimpArgs false

def BlSt (ts : List Tok) (R g c : Nat) (w : World) (L0 L1 f : Nat) (Z : Tree × Sg) (lv line : Nat) (wr : World) (st : Sg) : Prop :=
 ∃ (t : Tree) (l : Lab) (x : Option Addr) (n k F : Nat), Fr w wr R g c ts st [(L1, [.int .i64 l.kind, .string (str l.name), .int .u64 l.num, .int .i64 l.wd, .bool l.sg, .int .i64 l.op, .int .i64 l.fac, .int .i64 l.pip, .int .i64 l.unr, .int .i64 l.line, .slice x n k]), (L0, ncz)] [([.int .i64 l.kind, .string (str l.name), .int .u64 l.num, .int .i64 l.wd, .bool l.sg, .int .i64 l.op, .int .i64 l.fac, .int .i64 l.pip, .int .i64 l.unr, .int .i64 l.line, .slice x n k], t)] ∧ Z = EQ ts (F + 1) (.bl lv line t) st ∧ 32 * rem ts st + 1 ≤ F + 1 ∧ F ≤ f
theorem EQ_bl_more {ts : List Tok} {F lv line : Nat} {t : Tree} {st : Sg} (ho : ¬ opV ts st lv = 0) (h2 : ¬ lv = 2) : EQ ts (F + 1) (.bl lv line t) st = EQ ts F (.bl lv line (.node { labK 22 line with op := opV ts st lv } [t, (EQ ts F (.bn (lv + 1)) (adv st)).1])) (EQ ts F (.bn (lv + 1)) (adv st)).2 := by
 rw [EQ, if_neg ho, if_neg h2]

set_option maxHeartbeats 2000000 in
set_option maxRecDepth 100000 in
theorem binary_step {ts : List Tok} {R g c : Nat} (X : QC ts R g c) (f : Nat) (H : ∀ f1, f1 ≤ f → EC ts R g c f1) (lv : Nat) (hlv : lv ≤ 9) (s : Sg) (w : World) (hR : Rd w R g c ts s) (hf : 32 * rem ts s + (20 - lv) ≤ f + 1) : Calls Tryz.prog 178 #[.pointer (some ⟨R, 0, none⟩), .int .i64 (lv : Int)] w (TP w R g c ts (EQ ts (f + 1) (.bn lv) s)) := by
 have hXl := X.x.lt
 have F0 := Hd ((Fr.start hR).node hXl ncz)
 have HLV := Hd fun W => Levels_any W
 by_cases h9 : lv = 9
 ·subst h9
  have HE : Hid (EQ ts (f + 1) (.bn 9) s = EQ ts f .ca s) := Hd (by rw [EQ, if_pos rfl])
  rw [HE.out]
  have HCA := Hd fun W (h : Rd W R g c ts s) => (H f (Nat.le_refl _)).ca s W h (by omega)
  clear HE H hR hf
  go_enter Tryz.func178, Tryz.ntmps178
  go_wp2_with fail
  refine (HLV.out _).mono ?_
  rintro e v1 ⟨gv, rfl, hb, -, -⟩
  have G1 := Hd (F0.out.quiet hXl hb)
  clear hb
  obtain ⟨hc0, hf0⟩ := G1.out.b0.all
  have hz0 := G1.out.b0.lt
  unfold ncz at hc0
  go_wp2_with fail
  refine (HCA.out _ G1.out.rd).mono ?_
  rintro e v2 ⟨l1, x1, n1, k1, rfl, hT, hr, hs⟩
  clear hc0 hf0 hz0
  have G2 := Hd (G1.out.tree hT hr hs)
  clear hT hr hs
  obtain ⟨hc0, hf0⟩ := G2.out.b0.all
  have hz0 := G2.out.b0.lt
  unfold ncz at hc0
  go_wp2
  have G3 := Hd (G2.out.stoR hXl (List.Mem.head _) rfl (.int .i64 l1.kind) (.string (str l1.name)) (.int .u64 l1.num) (.int .i64 l1.wd) (.bool l1.sg) (.int .i64 l1.op) (.int .i64 l1.fac) (.int .i64 l1.pip) (.int .i64 l1.unr) (.int .i64 l1.line) (.slice x1 n1 k1))
  refine bodyPost_ret (G3.out.b0.res1 Tryz.results178 Tryz.underlying28 rfl infoNd _ rfl) rfl ?_
  exact G3.out.outT (rfl)
 ·have hl8 : lv < 9 := by omega
  have hcast : ((lv + 1 : Nat) : Int) = (lv : Int) + 1 := by omega
  have HBN : Hid (∀ (q : Sg) (F : Nat) (W : World), F ≤ f → 32 * rem ts q + (20 - (lv + 1)) ≤ F → Rd W R g c ts q → Calls Tryz.prog 178 #[.pointer (some ⟨R, 0, none⟩), .int .i64 ((lv : Int) + 1)] W (TP W R g c ts (EQ ts F (.bn (lv + 1)) q))) := Hd fun q F W h1 h2 h3 => by
   have := (H F h1).bn (lv + 1) q W (by omega) h3 h2
   rw [hcast] at this
   exact this
  have HLN := Hd fun W (h : Rd W R g c ts s) => line_any X.x W h
  have hwr : IntKind.i64.wrap ((lv : Int) + 1) = (lv : Int) + 1 := IntWalk.i64_in _ (by omega)
  have HWR := Hd hwr
  have q9 : ((lv : Int) == 9) = false := by simp; omega
  have HOP := Hd fun q W (h : Rd W R g c ts q) => oper_any X (s := q) lv hl8 W h
  have hon := rem_on (EQ_on ts f (.bn (lv + 1)) rfl s)
  have hlen := X.x.len
  obtain ⟨f1, rfl⟩ : ∃ f1, f = f1 + 1 := ⟨f - 1, by omega⟩
  have HE : Hid (EQ ts (f1 + 1 + 1) (.bn lv) s = EQ ts (f1 + 1) (.bl lv (lnR ts s) (EQ ts (f1 + 1) (.bn (lv + 1)) s).1) (EQ ts (f1 + 1) (.bn (lv + 1)) s).2) := Hd (by rw [EQ, if_neg h9])
  rw [HE.out]
  have HB1 := Hd fun W (h : Rd W R g c ts s) => HBN.out s (f1 + 1) W (Nat.le_refl _) (by omega) h
  have hfu : 32 * rem ts (EQ ts (f1 + 1) (.bn (lv + 1)) s).2 + 1 ≤ f1 + 1 := by omega
  clear HE H hR hon hf hcast h9
  generalize EQ ts (f1 + 1) (.bn (lv + 1)) s = P1 at *
  generalize lnR ts s = L9 at *
  obtain ⟨Z, hZ⟩ : ∃ Z, Z = EQ ts (f1 + 1) (.bl lv L9 P1.1) P1.2 := ⟨_, rfl⟩
  rw [← hZ]
  have HZ := Hd hZ
  clear hZ
  go_enter Tryz.func178, Tryz.ntmps178
  go_wp2_with fail
  refine (HLV.out _).mono ?_
  rintro e v1 ⟨gv, rfl, hb, -, -⟩
  have G1 := Hd (F0.out.quiet hXl hb)
  clear hb
  obtain ⟨hc0, hf0⟩ := G1.out.b0.all
  have hz0 := G1.out.b0.lt
  unfold ncz at hc0
  go_wp2_with fail
  refine (HLN.out _ G1.out.rd).mono ?_
  rintro e v2 ⟨rfl, hb⟩
  clear hc0 hf0 hz0
  have G2 := Hd (G1.out.quiet hXl hb)
  clear hb
  obtain ⟨hc0, hf0⟩ := G2.out.b0.all
  have hz0 := G2.out.b0.lt
  unfold ncz at hc0
  go_wp2_with fail
  refine (HB1.out _ G2.out.rd).mono ?_
  rintro e v3 ⟨l1, x1, n1, k1, rfl, hT, hr, hs⟩
  clear hc0 hf0 hz0
  have G3 := Hd (G2.out.tree hT hr hs)
  clear hT hr hs
  obtain ⟨hc0, hf0⟩ := G3.out.b0.all
  have hz0 := G3.out.b0.lt
  unfold ncz at hc0
  have hq30 := G3.out.b0.lt
  have G4 := Hd (G3.out.node hXl [.int .i64 l1.kind, .string (str l1.name), .int .u64 l1.num, .int .i64 l1.wd, .bool l1.sg, .int .i64 l1.op, .int .i64 l1.fac, .int .i64 l1.pip, .int .i64 l1.unr, .int .i64 l1.line, .slice x1 n1 k1])
  have h0 : Hid (BlSt ts R g c w w.heap.size v3.heap.size (f1 + 1) Z lv L9 _ P1.2) := Hd ⟨P1.1, l1, x1, n1, k1, f1, G4.out, HZ.out, hfu, by omega⟩
  have hL01 : w.heap.size < v3.heap.size := hq30
  clear hfu HZ HB1 hwr
  go_wp2
  go_loopw [21] (fun _ wr => ∃ st, Hid (BlSt ts R g c w w.heap.size v3.heap.size (f1 + 1) Z lv L9 wr st)) (fun _ wr => ts.length - atW wr R)
  case atStart => exact ⟨_, h0⟩
  case round =>
   obtain ⟨st, hT⟩ := hrel
   obtain ⟨t, l2, x2, n2, k2, F, hFr, hZ, hfu2, hFf⟩ := hT.out
   have J0 := Hd hFr
   have HZ2 := Hd hZ
   have HO2 := Hd (HOP.out st)
   clear hFr hZ hT h0
   by_cases ho : opV ts st lv = 0
   ·rw [ho] at HO2
    have HZ3 : Hid (Z = (t, st)) := Hd (by rw [HZ2.out, EQ, if_pos ho])
    clear ho HZ2
    go_wp2_with fail
    refine (HO2.out _ J0.out.rd).mono ?_
    rintro e v5 ⟨rfl, hr, hs⟩
    have G41 := Hd (J0.out.call hr hs)
    clear hr hs
    obtain ⟨hc0, hf0, hz0, hc1, hf1, hz1⟩ := G41.out.l2
    go_wp2
    have G42 := Hd (G41.out.stoR hXl (List.Mem.tail _ (List.Mem.head _)) rfl (.int .i64 l2.kind) (.string (str l2.name)) (.int .u64 l2.num) (.int .i64 l2.wd) (.bool l2.sg) (.int .i64 l2.op) (.int .i64 l2.fac) (.int .i64 l2.pip) (.int .i64 l2.unr) (.int .i64 l2.line) (.slice x2 n2 k2))
    refine bodyPost_ret (G42.out.b0.res1 Tryz.results178 Tryz.underlying28 rfl infoNd _ rfl) rfl ?_
    exact G42.out.outT (HZ3.out)
   ·have hin := opV_in ho
    have hra := rem_adv hin
    have q0 : decide ((0 : Int) < (opV ts st lv : Int)) = true := by simp; omega
    have q0n : 0 < opV ts st lv := by omega
    have HB2 := Hd fun W (h : Rd W R g c ts (adv st)) => HBN.out (adv st) F W hFf (by omega) h
    have hrt := rem_on (EQ_on ts F (.bn (lv + 1)) rfl (adv st))
    have HON := Hd (EQ_on ts F (.bn (lv + 1)) rfl (adv st))
    have hm0 := atW_rd J0.out.rd
    have HHIN := Hd hin
    have hatl := J0.out.rd.hi
    by_cases h2 : lv = 2
    ·have HZ3 : Hid (Z = (.node { labK 22 L9 with op := opV ts st lv } [t, (EQ ts F (.bn (lv + 1)) (adv st)).1], (EQ ts F (.bn (lv + 1)) (adv st)).2)) := Hd (by rw [HZ2.out, EQ, if_neg ho, if_pos h2])
     have q2 : ((lv : Int) == 2) = true := by simp; omega
     clear ho h2 hin HZ2
     generalize EQ ts F (.bn (lv + 1)) (adv st) = P2 at *
     go_wp2_with fail
     refine (HO2.out _ J0.out.rd).mono ?_
     rintro e v5 ⟨rfl, hr, hs⟩
     have G61 := Hd (J0.out.call hr hs)
     clear hr hs
     obtain ⟨hc0, hf0, hz0, hc1, hf1, hz1⟩ := G61.out.l2
     go_wp2_with fail
     refine (HO2.out _ G61.out.rd).mono ?_
     rintro e v6 ⟨rfl, hr, hs⟩
     have G62 := Hd (G61.out.call hr hs)
     clear hr hs hc0 hf0 hz0 hc1 hf1 hz1
     obtain ⟨hc0, hf0, hz0, hc1, hf1, hz1⟩ := G62.out.l2
     obtain ⟨ca0, ca1, ca2, fa1, fa2⟩ := G62.out.rd.cells
     have hzR := G62.out.rd.lt
     clear ca0 ca2 fa2
     have hil2 : st.i < 65536 := by have := HHIN.out.2; omega
     have G63 := Hd (G62.out.advR hXl HHIN.out (v := (st.i : Int) + 1) rfl)
     have hwr := HWR.out
     go_wp2_with fail
     refine (HB2.out _ G63.out.rd).mono ?_
     rintro e v7 ⟨l3, x3, n3, k3, rfl, hT, hr, hs⟩
     clear hc0 hf0 hz0 hc1 hf1 hz1
     have G64 := Hd (G63.out.tree hT hr hs)
     clear hT hr hs
     obtain ⟨hc0, hf0, hz0, hc1, hf1, hz1⟩ := G64.out.l2
     clear hwr ca1 fa1 hzR
     have G65 := Hd (G64.out.stor0 hXl rfl (.int .i64 22) (.string ⟨#[]⟩) (.int .u64 0) (.int .i64 0) (.bool false) (.int .i64 (opV ts st lv : Int)) (.int .i64 0) (.int .i64 0) (.int .i64 0) (.int .i64 (L9 : Int)) (.slice (some ⟨v7.heap.size + 1, 0, none⟩) 2 2))
     go_wp2
     have G66 := Hd (G65.out.stoR hXl (List.Mem.tail _ (List.Mem.head _)) rfl (.int .i64 22) (.string ⟨#[]⟩) (.int .u64 0) (.int .i64 0) (.bool false) (.int .i64 (opV ts st lv : Int)) (.int .i64 0) (.int .i64 0) (.int .i64 0) (.int .i64 (L9 : Int)) (.slice (some ⟨v7.heap.size + 1, 0, none⟩) 2 2))
     have G67 := Hd (G66.out.node hXl [.int .i64 l3.kind, .string (str l3.name), .int .u64 l3.num, .int .i64 l3.wd, .bool l3.sg, .int .i64 l3.op, .int .i64 l3.fac, .int .i64 l3.pip, .int .i64 l3.unr, .int .i64 l3.line, .slice x3 n3 k3])
     have G68 := Hd (G67.out.kidz2 hXl (v7.heap.size + 1) (by simp only [size_setCell, stor11_size, size_alloc]) (List.Mem.tail _ (List.Mem.head _)) (List.Mem.head _) { labK 22 L9 with op := opV ts st lv } [.int .i64 l2.kind, .string (str l2.name), .int .u64 l2.num, .int .i64 l2.wd, .bool l2.sg, .int .i64 l2.op, .int .i64 l2.fac, .int .i64 l2.pip, .int .i64 l2.unr, .int .i64 l2.line, .slice x2 n2 k2, .int .i64 l3.kind, .string (str l3.name), .int .u64 l3.num, .int .i64 l3.wd, .bool l3.sg, .int .i64 l3.op, .int .i64 l3.fac, .int .i64 l3.pip, .int .i64 l3.unr, .int .i64 l3.line, .slice x3 n3 k3] rfl)
     refine bodyPost_ret (G68.out.b1.res1 Tryz.results178 Tryz.underlying28 rfl infoNd _ rfl) rfl ?_
     exact G68.out.outT (HZ3.out)
    ·obtain ⟨F2, rfl⟩ : ∃ F2, F = F2 + 1 := ⟨F - 1, by omega⟩
     have HZ3 : Hid (Z = EQ ts (F2 + 1) (.bl lv L9 (.node { labK 22 L9 with op := opV ts st lv } [t, (EQ ts (F2 + 1) (.bn (lv + 1)) (adv st)).1])) (EQ ts (F2 + 1) (.bn (lv + 1)) (adv st)).2) := Hd (HZ2.out.trans (EQ_bl_more ho h2))
     have q2 : ((lv : Int) == 2) = false := by simp; omega
     clear ho h2 hin HZ2
     generalize EQ ts (F2 + 1) (.bn (lv + 1)) (adv st) = P2 at *
     go_wp2_with fail
     refine (HO2.out _ J0.out.rd).mono ?_
     rintro e v5 ⟨rfl, hr, hs⟩
     have G61 := Hd (J0.out.call hr hs)
     clear hr hs
     obtain ⟨hc0, hf0, hz0, hc1, hf1, hz1⟩ := G61.out.l2
     go_wp2_with fail
     refine (HO2.out _ G61.out.rd).mono ?_
     rintro e v6 ⟨rfl, hr, hs⟩
     have G62 := Hd (G61.out.call hr hs)
     clear hr hs hc0 hf0 hz0 hc1 hf1 hz1
     obtain ⟨hc0, hf0, hz0, hc1, hf1, hz1⟩ := G62.out.l2
     obtain ⟨ca0, ca1, ca2, fa1, fa2⟩ := G62.out.rd.cells
     have hzR := G62.out.rd.lt
     clear ca0 ca2 fa2
     have hil2 : st.i < 65536 := by have := HHIN.out.2; omega
     have G63 := Hd (G62.out.advR hXl HHIN.out (v := (st.i : Int) + 1) rfl)
     have hwr := HWR.out
     go_wp2_with fail
     refine (HB2.out _ G63.out.rd).mono ?_
     rintro e v7 ⟨l3, x3, n3, k3, rfl, hT, hr, hs⟩
     clear hc0 hf0 hz0 hc1 hf1 hz1
     have G64 := Hd (G63.out.tree hT hr hs)
     clear hT hr hs
     obtain ⟨hc0, hf0, hz0, hc1, hf1, hz1⟩ := G64.out.l2
     clear hwr ca1 fa1 hzR
     have G65 := Hd (G64.out.stor0 hXl rfl (.int .i64 22) (.string ⟨#[]⟩) (.int .u64 0) (.int .i64 0) (.bool false) (.int .i64 (opV ts st lv : Int)) (.int .i64 0) (.int .i64 0) (.int .i64 0) (.int .i64 (L9 : Int)) (.slice (some ⟨v7.heap.size + 1, 0, none⟩) 2 2))
     have hq70 := G65.out.b0.lt
     have hq71 := G65.out.b1.lt
     have G66 := Hd (G65.out.node hXl [.int .i64 l3.kind, .string (str l3.name), .int .u64 l3.num, .int .i64 l3.wd, .bool l3.sg, .int .i64 l3.op, .int .i64 l3.fac, .int .i64 l3.pip, .int .i64 l3.unr, .int .i64 l3.line, .slice x3 n3 k3])
     have G67 := Hd (G66.out.kidz2 hXl (v7.heap.size + 1) (by simp only [size_setCell, stor11_size, size_alloc]) (List.Mem.tail _ (List.Mem.head _)) (List.Mem.head _) { labK 22 L9 with op := opV ts st lv } [.int .i64 l2.kind, .string (str l2.name), .int .u64 l2.num, .int .i64 l2.wd, .bool l2.sg, .int .i64 l2.op, .int .i64 l2.fac, .int .i64 l2.pip, .int .i64 l2.unr, .int .i64 l2.line, .slice x2 n2 k2, .int .i64 l3.kind, .string (str l3.name), .int .u64 l3.num, .int .i64 l3.wd, .bool l3.sg, .int .i64 l3.op, .int .i64 l3.fac, .int .i64 l3.pip, .int .i64 l3.unr, .int .i64 l3.line, .slice x3 n3 k3] rfl)
     have JE := Hd ((G67.out.keepT (Ts' := [([.int .i64 22, .string ⟨#[]⟩, .int .u64 0, .int .i64 0, .bool false, .int .i64 (opV ts st lv : Int), .int .i64 0, .int .i64 0, .int .i64 0, .int .i64 (L9 : Int), .slice (some ⟨v7.heap.size + 1, 0, none⟩) 2 2], .node { labK 22 L9 with op := opV ts st lv } [t, P2.1])]) (fun p hp => by simp at hp; subst hp; exact List.Mem.head _)).drop)
     have hm1 := atW_rd JE.out.rd
     have hma := at_adv HHIN.out HON.out JE.out.rd.hi
     have HN2 : Hid (BlSt ts R g c w w.heap.size v3.heap.size (f1 + 1) Z lv L9 _ P2.2) := Hd ⟨_, { labK 22 L9 with op := opV ts st lv }, some ⟨v7.heap.size + 1, 0, none⟩, 2, 2, F2, JE.out, HZ3.out, by omega, by omega⟩
     have hmm : Hid (atW wr R = st.i) := Hd hm0
     have HM1 := Hd hm1
     have HM : Hid (ts.length - (P2.2).i < ts.length - st.i) := Hd (by omega)
     clear hm0 hm1
     go_wp2
     go_roundw
     case rel => exact ⟨_, HN2⟩
     case measure => (rw [hmm.out]; refine Nat.lt_of_le_of_lt (Nat.le_of_eq ?_) HM.out; exact congrArg (ts.length - ·) HM1.out)
end Q
end Go.Proofs.YtkliclihpobmiaaGreatDoor
