/- The code's Same: contract. -/
import Derived.Test.YthdbaligapdbeaaGreatDoorMgPsEqf
import Derived.Test.YthdbaligapdbeaaGreatDoorMgPsKid
namespace Go.Proofs.YthdbaligapdbeaaGreatDoor
open Go Go.RowKit
set_option linter.unusedVariables false

end Go.Proofs.YthdbaligapdbeaaGreatDoor
/- The rule unary: contract. -/
namespace Go.Proofs.YthdbaligapdbeaaGreatDoor
open Go Go.RowKit
set_option linter.unusedVariables false
set_option linter.unusedSimpArgs false

set_option maxHeartbeats 2000000 in
set_option maxRecDepth 100000 in
theorem unary_step {ts : List Tok} {R g c : Nat} (X : Ctx ts R g c) (f : Nat) (H : EC ts R g c f) (s : Sg) (w : World) (hR : Rd w R g c ts s) (hf : 32 * rem ts s + 9 ≤ f + 1) : Calls Tryz.prog 238 #[.pointer (some ⟨R, 0, none⟩)] w (TP w R g c ts (E ts (f + 1) .un s)) := by
 have hXl := X.lt
 have F0 := Hd ((Fr.start hR).node hXl ncz)
 have HN := Hd fun W (h : Rd W R g c ts s) => node_any X 21 W h
 have HO := Hd fun W (h : Rd W R g c ts s) => oper_any X 10 (by omega) W h
 have HPR := Hd fun W (h : Rd W R g c ts s) => H.pr s W h (by omega)
 have HUN : Hid (opV ts s 10 ≠ 0 → ∀ W, Rd W R g c ts (adv s) → Calls Tryz.prog 238 #[.pointer (some ⟨R, 0, none⟩)] W (TP W R g c ts (E ts f .un (adv s)))) := Hd fun h W hW => H.un (adv s) W hW (by have := rem_adv (opV_in h); omega)
 have HL : Hid (nc (labK 21 (ln ts s)) = [.int .i64 21, .string ⟨#[]⟩, .int .u64 0, .int .i64 0, .bool false, .int .i64 0, .int .i64 0, .int .i64 0, .int .i64 0, .int .i64 ((ln ts s : Nat) : Int), .slice none 0 0]) := Hd rfl
 rw [HL.out] at HN
 unfold opS at HO
 by_cases ho : opV ts s 10 = 0
 ·have HE : Hid (E ts (f + 1) .un s = E ts f .pr s) := Hd (by rw [E, if_pos ho])
  rw [HE.out]
  rw [if_pos ho, ho] at HO
  clear HUN ho hf HE H hR HL
  go_enter Tryz.func238, Tryz.ntmps238
  go_wp2_with fail
  refine (HN.out _ F0.out.rd).mono ?_
  rintro e v1 ⟨rfl, hb⟩
  have G1 := Hd (F0.out.quiet hXl hb)
  clear hb
  obtain ⟨hc0, hf0⟩ := G1.out.b0.all
  have hz0 := G1.out.b0.lt
  unfold ncz at hc0
  have hq10 := G1.out.b0.lt
  have G2 := Hd (G1.out.node hXl [.int .i64 21, .string ⟨#[]⟩, .int .u64 0, .int .i64 0, .bool false, .int .i64 0, .int .i64 0, .int .i64 0, .int .i64 0, .int .i64 ((ln ts s : Nat) : Int), .slice none 0 0])
  go_wp2_with fail
  refine (HO.out _ G2.out.rd).mono ?_
  rintro e v2 ⟨rfl, hr, hs⟩
  clear hc0 hf0 hz0
  have G3 := Hd (G2.out.call hr hs)
  clear hr hs
  obtain ⟨hc0, hf0, hz0, hc1, hf1, hz1⟩ := G3.out.l2
  have G4 := Hd (G3.out.s5 hXl (.int .i64 0))
  go_wp2_with fail
  refine (HPR.out _ G4.out.rd).mono ?_
  rintro e v3 ⟨l1, x1, n1, k1, rfl, hT, hr, hs⟩
  clear hc0 hf0 hz0 hc1 hf1 hz1
  have G5 := Hd (G4.out.tree hT hr hs)
  clear hT hr hs
  obtain ⟨hc0, hf0, hz0, hc1, hf1, hz1⟩ := G5.out.l2
  go_wp2
  have G6 := Hd (G5.out.stoR hXl (List.Mem.tail _ (List.Mem.head _)) rfl (.int .i64 l1.kind) (.string (str l1.name)) (.int .u64 l1.num) (.int .i64 l1.wd) (.bool l1.sg) (.int .i64 l1.op) (.int .i64 l1.fac) (.int .i64 l1.pip) (.int .i64 l1.unr) (.int .i64 l1.line) (.slice x1 n1 k1))
  refine bodyPost_ret (G6.out.b0.res1 Tryz.results238 Tryz.underlying27 rfl infoNd _ rfl) rfl ?_
  exact G6.out.outT (rfl)
 ·have HE : Hid (E ts (f + 1) .un s = (.node { labK 21 (ln ts s) with op := opV ts s 10 } [(E ts f .un (adv s)).1], (E ts f .un (adv s)).2)) := Hd (by rw [E, if_neg ho])
  rw [HE.out]
  rw [if_neg ho] at HO
  have HU2 := Hd (HUN.out ho)
  have q : ((opV ts s 10 : Int) == 0) = false := by simp; omega
  clear HUN ho hf HE H hR HL HPR
  go_enter Tryz.func238, Tryz.ntmps238
  go_wp2_with fail
  refine (HN.out _ F0.out.rd).mono ?_
  rintro e v1 ⟨rfl, hb⟩
  have G1 := Hd (F0.out.quiet hXl hb)
  clear hb
  obtain ⟨hc0, hf0⟩ := G1.out.b0.all
  have hz0 := G1.out.b0.lt
  unfold ncz at hc0
  have hq10 := G1.out.b0.lt
  have G2 := Hd (G1.out.node hXl [.int .i64 21, .string ⟨#[]⟩, .int .u64 0, .int .i64 0, .bool false, .int .i64 0, .int .i64 0, .int .i64 0, .int .i64 0, .int .i64 ((ln ts s : Nat) : Int), .slice none 0 0])
  go_wp2_with fail
  refine (HO.out _ G2.out.rd).mono ?_
  rintro e v2 ⟨rfl, hr, hs⟩
  clear hc0 hf0 hz0
  have G3 := Hd (G2.out.call hr hs)
  clear hr hs
  obtain ⟨hc0, hf0, hz0, hc1, hf1, hz1⟩ := G3.out.l2
  have G4 := Hd (G3.out.s5 hXl (.int .i64 (opV ts s 10 : Int)))
  go_wp2_with fail
  refine (HU2.out _ G4.out.rd).mono ?_
  rintro e v3 ⟨l1, x1, n1, k1, rfl, hT, hr, hs⟩
  clear hc0 hf0 hz0 hc1 hf1 hz1
  have G5 := Hd (G4.out.tree hT hr hs)
  clear hT hr hs
  obtain ⟨hc0, hf0, hz0, hc1, hf1, hz1⟩ := G5.out.l2
  have G6 := Hd (G5.out.s10 hXl (.slice (some ⟨v3.heap.size, 0, none⟩) 1 1))
  go_wp2
  have G7 := Hd (G6.out.stoR hXl (List.Mem.tail _ (List.Mem.head _)) rfl (.int .i64 21) (.string ⟨#[]⟩) (.int .u64 0) (.int .i64 0) (.bool false) (.int .i64 (opV ts s 10 : Int)) (.int .i64 0) (.int .i64 0) (.int .i64 0) (.int .i64 ((ln ts s : Nat) : Int)) (.slice (some ⟨v3.heap.size, 0, none⟩) 1 1))
  have G8 := Hd (G7.out.kidz1 hXl v3.heap.size (by simp only [size_setCell, stor11_size]) (List.Mem.head _) { labK 21 (ln ts s) with op := opV ts s 10 })
  refine bodyPost_ret (G8.out.b0.res1 Tryz.results238 Tryz.underlying27 rfl infoNd _ rfl) rfl ?_
  exact G8.out.outT (rfl)
end Go.Proofs.YthdbaligapdbeaaGreatDoor
