/- The rule for lists in round brackets: contract, over the rule expr. -/
import Derived.Test.YthdbaligapdbeaaGreatDoorMgPsWi
import Derived.Test.YthdbaligapdbeaaGreatDoorMgPsKid
import Derived.Deep.RegionWith
import Derived.IntWalk
namespace Go.Proofs.YthdbaligapdbeaaGreatDoor
open Go Go.RowKit
set_option linter.unusedVariables false

set_option maxHeartbeats 2000000 in
set_option maxRecDepth 100000 in
theorem list_expr {ts : List Tok} {R g c : Nat} (X : Ctx ts R g c) (item : Sg → Tree × Sg) (hOn : ∀ s, On ts s (item s).2) (s : Sg) (F : Nat) (hF : rem ts (exc ts s [40]) + 1 ≤ F)
  (HI : ∀ q w, On ts (exc ts s [40]) q → Rd w R g c ts q → Calls Tryz.prog 211 #[.pointer (some ⟨R, 0, none⟩)] w (TP w R g c ts (item q))) (w : World) (hR : Rd w R g c ts s) :
  Calls Tryz.prog 115 #[.pointer (some ⟨R, 0, none⟩), .func (Fn.func 211) #[.pointer (some ⟨R, 0, none⟩)] #[]] w (LP w R g c ts (listM ts item F s)) := by
 have hXl := X.lt
 have hRl := hR.lt
 have HEX := Hd fun q W (h : Rd W R g c ts q) => expect_any X (s := q) [40] (by simp) W h
 have HEY := Hd fun q W (h : Rd W R g c ts q) => expect_any X (s := q) [41] (by simp) W h
 have HSK := Hd fun q W (h : Rd W R g c ts q) => skip_any' X (s := q) [41] (by simp) W h
 have HSC := Hd fun q W (h : Rd W R g c ts q) => skip_any' X (s := q) [44] (by simp) W h
 have HIT := Hd HI
 have HR := Hd hR
 unfold skp at HSK HSC
 clear hR HI
 cases hh : hasT ts (exc ts s [40]) [41] with
 | true =>
  rw [listM_shut hh]
  have HSK2 := Hd (HSK.out (exc ts s [40]))
  rw [hh] at HSK2
  clear hh HSK HSC HEY HIT
  go_enter Tryz.func115, Tryz.ntmps115
  go_wp2_with fail
  refine (HEX.out s _ HR.out).mono ?_
  rintro e w1 ⟨rfl, hr, hs⟩
  have H1 := Hd (And.intro hr hs)
  clear hr hs
  go_wp2_with fail
  refine (HSK2.out _ H1.out.1).mono ?_
  rintro e w2 ⟨rfl, hr, hs⟩
  have H2 := Hd (And.intro hr (St.trans H1.out.2 hs))
  clear hr hs H1 HSK2
  go_wp2
  go_ret
  exact ⟨_, rfl, kids_nil _ _, H2.out.1, H2.out.2⟩
 | false =>
  rw [listM_open hh]
  have HSK2 := Hd (HSK.out (exc ts s [40]))
  rw [hh] at HSK2
  have hon1 : On ts s (exc ts s [40]) := exc_on
  obtain ⟨X0, hX0⟩ : ∃ X0, X0 = more ts item F [(item (exc ts s [40])).1] (item (exc ts s [40])).2 := ⟨_, rfl⟩
  rw [← hX0]
  have HX0 := Hd hX0
  have HF := Hd hF
  have hlen := X.len
  clear hh HSK hX0 hF
  go_enter Tryz.func115, Tryz.ntmps115
  go_wp2_with fail
  refine (HEX.out s _ HR.out).mono ?_
  rintro e w1 ⟨rfl, hr, hs⟩
  have H1 := Hd (And.intro hr hs)
  clear hr hs
  go_wp2_with fail
  refine (HSK2.out _ H1.out.1).mono ?_
  rintro e w2 ⟨rfl, hr, hs⟩
  have H2 := Hd (And.intro hr (St.trans H1.out.2 hs))
  clear hr hs H1 HSK2
  go_wp2_with fail
  refine (HIT.out (exc ts s [40]) _ (On.refl _ _) H2.out.1).mono ?_
  rintro e w3 ⟨l1, x1, n1, k1, rfl, hT, hr, hs⟩
  have hw3 : w.heap.size ≤ w3.heap.size := Nat.le_trans (St.size H2.out.2) (St.size hs)
  have hrem : rem ts (item (exc ts s [40])).2 ≤ ts.length := by unfold rem; split <;> omega
  have hrem2 := rem_on (hOn (exc ts s [40]))
  have h0 : Hid (LsSt ts R g c item (ts.length + 1) X0 w (w3.alloc (.cells #[.int .i64 l1.kind, .string (str l1.name), .int .u64 l1.num, .int .i64 l1.wd, .bool l1.sg, .int .i64 l1.op, .int .i64 l1.fac, .int .i64 l1.pip, .int .i64 l1.unr, .int .i64 l1.line, .slice x1 n1 k1] 27)) (.slice (some ⟨w3.heap.size, 0, none⟩) 1 1) [(item (exc ts s [40])).1] (item (exc ts s [40])).2) := by
   refine ⟨kids_one (hT.mono fun k hk _ => Nat.le_trans (St.size H2.out.2) hk) hw3, hr.alloc hXl _, (St.trans H2.out.2 hs).alloc _, ⟨F - 1, by have := HF.out; omega, ?_⟩, by simp; omega⟩
   rw [HX0.out]
   congr 1
   have := HF.out
   omega
  have HONI : Hid (On ts (exc ts s [40]) (item (exc ts s [40])).2) := Hd (hOn _)
  clear hr hs hT H2 HX0 HEX hrem2
  go_wp2
  go_loopw [5] (fun v wr => ∃ acc q, slen v = acc.length ∧ Hid (LsSt ts R g c item (ts.length + 1) X0 w wr v acc q ∧ On ts (exc ts s [40]) q)) (fun v _ => ts.length + 1 - slen v)
  case atStart => exact ⟨_, _, rfl, ⟨h0.out, HONI.out⟩⟩
  case round =>
   clear h0 HONI
   obtain ⟨acc, q, hlen5, hL⟩ := hrel
   obtain ⟨m, hm, hX⟩ := hL.out.1.eq
   have hfew := hL.out.1.few
   obtain ⟨xa, ca, hsh⟩ := hL.out.1.kd.shape
   subst hsh
   cases hh : hasT ts q [44] with
   | true =>
    have hin := hasT_in hh
    have hra := rem_adv hin
    have hri := rem_on (hOn (adv q))
    have HX : Hid (X0 = more ts item m (acc ++ [(item (adv q)).1]) (item (adv q)).2) := Hd (by rw [hX, more, if_pos hh])
    have HONQ : Hid (On ts (exc ts s [40]) (adv q)) := Hd (hL.out.2.trans (adv_on hin))
    have HSK3 := Hd (HSC.out q)
    rw [hh] at HSK3
    clear hX hh hin
    go_wp2_with fail
    refine (HSK3.out _ hL.out.1.rd).mono ?_
    rintro e w4 ⟨rfl, hr, hs⟩
    have H4 := Hd (And.intro hr hs)
    clear hr hs HSK3
    go_wp2_with fail
    refine (HIT.out (adv q) _ HONQ.out H4.out.1).mono ?_
    rintro e w5 ⟨l2, x2, n2, k2, rfl, hT, hr, hs⟩
    have HT5 := Hd hT
    have hs45 : St wr w5 R := St.trans H4.out.2 hs
    obtain ⟨C, o1, o2⟩ := St.kids H4.out.2 hL.out.1.kd hRl
    have o5 : w5.ownsRow w.heap.size 27 11 (.slice xa acc.length ca) acc.length (flat C acc.length) := o1.kept hs (by
     right
     intro e
     have := (o1.lt R e).1
     omega)
    have hown := o5.alloc (.cells #[.int .i64 l2.kind, .string (str l2.name), .int .u64 l2.num, .int .i64 l2.wd, .bool l2.sg, .int .i64 l2.op, .int .i64 l2.fac, .int .i64 l2.pip, .int .i64 l2.unr, .int .i64 l2.line, .slice x2 n2 k2] 27)
    have hszw := St.size hL.out.1.st
    have hsz4 := St.size H4.out.2
    have hsz5 := St.size hs
    obtain ⟨i0, hi0, hz0, hz1, hz2⟩ := info_parts infoNd2
    have hnew : Hid (∀ (w6 : World) (g3 c3 : Nat), w6.ownsRow w.heap.size 27 11 (.slice (some ⟨g3, 0, none⟩) (acc.length + 1) c3) (acc.length + 1) (flat C acc.length ++ [.int .i64 l2.kind, .string (str l2.name), .int .u64 l2.num, .int .i64 l2.wd, .bool l2.sg, .int .i64 l2.op, .int .i64 l2.fac, .int .i64 l2.pip, .int .i64 l2.unr, .int .i64 l2.line, .slice x2 n2 k2]) →
      (w5.alloc (.cells #[.int .i64 l2.kind, .string (str l2.name), .int .u64 l2.num, .int .i64 l2.wd, .bool l2.sg, .int .i64 l2.op, .int .i64 l2.fac, .int .i64 l2.pip, .int .i64 l2.unr, .int .i64 l2.line, .slice x2 n2 k2] 27)).grownBy w6 (Value.slice xa acc.length ca).ownBlock → ((Value.slice xa acc.length ca).ownBlock = some g3 ∨ g3 = w5.heap.size + 1) →
      LsSt ts R g c item (ts.length + 1) X0 w w6 (.slice (some ⟨g3, 0, none⟩) (acc.length + 1) c3) (acc ++ [(item (adv q)).1]) (item (adv q)).2) := Hd fun w6 g3 c3 ho hg hl => by
     have hgo : ∀ k, (Value.slice xa acc.length ca).ownBlock = some k → w.heap.size ≤ k ∧ k < w4.heap.size := fun k hk => o1.lt k hk
     have hza : (w5.alloc (.cells #[.int .i64 l2.kind, .string (str l2.name), .int .u64 l2.num, .int .i64 l2.wd, .bool l2.sg, .int .i64 l2.op, .int .i64 l2.fac, .int .i64 l2.pip, .int .i64 l2.unr, .int .i64 l2.line, .slice x2 n2 k2] 27)).heap.size = w5.heap.size + 1 := by simp
     refine ⟨?_, ?_, ?_, ?_, ?_⟩
     ·refine kids_push (w0 := w4) (C := C) (w := w5.alloc (.cells #[.int .i64 l2.kind, .string (str l2.name), .int .u64 l2.num, .int .i64 l2.wd, .bool l2.sg, .int .i64 l2.op, .int .i64 l2.fac, .int .i64 l2.pip, .int .i64 l2.unr, .int .i64 l2.line, .slice x2 n2 k2] 27)) o1 o2 (fun k hk hlt => ?_) (by omega) (by omega) (HT5.out.keep (fun k _ hk => Below.heap_alloc w5 _ k hk) fun k hk _ => hk) hg ?_ ho
      ·exact (Below.heap_alloc w5 _ k (by omega)).trans (World.grownBy.block hs k hlt (fun e => by injection e with e; omega))
      ·rcases hl with hl | hl
       ·exact .inl hl
       ·exact .inr (by omega)
     ·exact (hr.alloc hXl _).own hXl hg fun k hk => by have := (hgo k hk).1; omega
     ·exact St.own ((St.trans hL.out.1.st hs45).alloc _) hg fun k hk => (hgo k hk).1
     ·refine ⟨m - 1, by omega, ?_⟩
      rw [HX.out]
      congr 1
      omega
     ·rw [List.length_append]; simp; omega
    have hal : acc.length ≤ 65537 := by omega
    have HONN : Hid (On ts (exc ts s [40]) (item (adv q)).2) := Hd (HONQ.out.trans (hOn _))
    have hmeas : acc.length < ts.length + 1 := by omega
    clear hr hs hT o1 o2 o5 HIT hs45 H4 HX hm hri hra HSC
    go_wp2_with (at_builtin; refine wpList_append_lies (w := w5.alloc (.cells #[.int .i64 l2.kind, .string (str l2.name), .int .u64 l2.num, .int .i64 l2.wd, .bool l2.sg, .int .i64 l2.op, .int .i64 l2.fac, .int .i64 l2.pip, .int .i64 l2.unr, .int .i64 l2.line, .slice x2 n2 k2] 27)) (by rfl) _ _ _ (by rfl) w.heap.size 27 i0 (.agg #[.int .i64 0, .string ⟨#[]⟩, .int .u64 0, .int .i64 0, .bool false, .int .i64 0, .int .i64 0, .int .i64 0, .int .i64 0, .int .i64 0, .slice none 0 0]) 11 112 Tryz.underlying25 hi0 hz0 hz1 hz2 (by rfl) (by decide) (.slice xa acc.length ca) acc.length (flat C acc.length) (by rfl) hown ⟨w5.heap.size, 0, none⟩ 1 1 [.int .i64 l2.kind, .string (str l2.name), .int .u64 l2.num, .int .i64 l2.wd, .bool l2.sg, .int .i64 l2.op, .int .i64 l2.fac, .int .i64 l2.pip, .int .i64 l2.unr, .int .i64 l2.line, .slice x2 n2 k2] (by simp [Act.eval]) (by rfl) (World.news_of_block (cs := #[.int .i64 l2.kind, .string (str l2.name), .int .u64 l2.num, .int .i64 l2.wd, .bool l2.sg, .int .i64 l2.op, .int .i64 l2.fac, .int .i64 l2.pip, .int .i64 l2.unr, .int .i64 l2.line, .slice x2 n2 k2]) (t := 27) (fr := (0, 0)) (heap_alloc_new w5 _)) (by intro z hz; simp at hz; rcases hz with rfl | rfl | rfl | rfl | rfl | rfl | rfl | rfl | rfl | rfl | rfl <;> rfl) (by decide) (by unfold maxLen; omega) (by omega) (by simp; omega) (w5.heap.size + 1) (by simp) ?_; intro g3 c3 w6 ho3 hg3 hat3 hlt3)
    have HX6 := Hd (hnew.out w6 g3 c3 ho3 hg3 hat3)
    clear ho3 hg3 hat3 hlt3 hnew hown
    go_wp2
    go_roundw
    case rel => exact ⟨_, _, by simp [slen], ⟨HX6.out, HONN.out⟩⟩
    case measure => simp [slen]; omega
   | false =>
    have HX : Hid (X0 = (acc, q)) := Hd (by rw [hX, more, if_neg (by simp [hh])])
    have HSK3 := Hd (HSC.out q)
    rw [hh] at HSK3
    clear hX hh
    go_wp2_with fail
    refine (HSK3.out _ hL.out.1.rd).mono ?_
    rintro e w4 ⟨rfl, hr, hs⟩
    have hkd := St.kids hs hL.out.1.kd hRl
    have H4 := Hd (And.intro hkd (And.intro hr (St.trans hL.out.1.st hs)))
    clear hr hs HSK3 hkd
    go_wp2_with fail
    refine (HEY.out q _ H4.out.2.1).mono ?_
    rintro e w5 ⟨rfl, hr, hs⟩
    have hkd := St.kids hs H4.out.1 hRl
    have H5 := Hd (And.intro hkd (And.intro hr (St.trans H4.out.2.2 hs)))
    clear hr hs hkd
    go_wp2
    go_ret
    rw [HX.out]
    exact ⟨_, rfl, H5.out.1, H5.out.2.1, H5.out.2.2⟩
end Go.Proofs.YthdbaligapdbeaaGreatDoor
/- The rule use: contract. -/
namespace Go.Proofs.YthdbaligapdbeaaGreatDoor
open Go Go.RowKit
set_option linter.unusedVariables false
set_option linter.unusedSimpArgs false

set_option maxHeartbeats 2000000 in
set_option maxRecDepth 100000 in
theorem use_step {ts : List Tok} {R g c : Nat} (X : Ctx ts R g c) (f : Nat) (H : EC ts R g c f) (s : Sg) (w : World) (hR : Rd w R g c ts s) (hf : 32 * rem ts s + 7 ≤ f + 1) : Calls Tryz.prog 242 #[.pointer (some ⟨R, 0, none⟩)] w (TP w R g c ts (E ts (f + 1) .us s)) := by
 have hXl := X.lt
 have F0 := Hd ((Fr.start hR).node hXl ncz)
 have HN := Hd fun W (h : Rd W R g c ts s) => node_any X 19 W h
 have HNM := Hd fun W (h : Rd W R g c ts s) => name_any X W h
 have HNX := Hd fun W (h : Rd W R g c ts (nmS ts s)) => next_any X W h
 have hF := fldT (nxt ts (nmS ts s))
 have hq1 : ((str (nxt ts (nmS ts s)).text).toList == [40]) = hasT ts (nmS ts s) [40] := by have := hasT_bytes ts (nmS ts s) [40]; rw [str_toList [40]] at this; exact this
 have HSK := Hd fun W (h : Rd W R g c ts (nmS ts s)) => skip_any' X [91] (by simp) W h
 have HBR := Hd fun q W (h : Rd W R g c ts q) => expect_any X (s := q) [93] (by simp) W h
 have hrn := rem_on (nmS_on ts s)
 unfold skp at HSK
 have HL : Hid (nc (labK 19 (ln ts s)) = [.int .i64 19, .string ⟨#[]⟩, .int .u64 0, .int .i64 0, .bool false, .int .i64 0, .int .i64 0, .int .i64 0, .int .i64 0, .int .i64 ((ln ts s : Nat) : Int), .slice none 0 0]) := Hd rfl
 rw [HL.out] at HN
 cases h1 : hasT ts (nmS ts s) [40] with
 | true =>
  have hin := hasT_in h1
  have hra := rem_adv hin
  have HE : Hid (E ts (f + 1) .us s = (.node { labK 25 (ln ts s) with name := nmV ts s } (listM ts (fun q => E ts f .ex q) f (nmS ts s)).1, (listM ts (fun q => E ts f .ex q) f (nmS ts s)).2)) := Hd (by rw [E, if_pos h1])
  rw [HE.out]
  rw [h1] at hq1
  have hexc : exc ts (nmS ts s) [40] = adv (nmS ts s) := by unfold exc; rw [if_pos h1]
  have HLS := Hd fun W (h : Rd W R g c ts (nmS ts s)) => list_expr X (fun q => E ts f .ex q) (fun q => E_on ts f .ex q) (nmS ts s) f (by rw [hexc]; omega) (fun q W' hq hW' => H.ex q W' hW' (by rw [hexc] at hq; have := rem_on hq; omega)) W h
  clear HE H hR HL h1 hin hra hrn hexc HSK HBR
  go_enter Tryz.func242, Tryz.ntmps242
  go_wp2_with fail
  refine (HN.out _ F0.out.rd).mono ?_
  rintro e v1 ⟨rfl, hb⟩
  have G1 := Hd (F0.out.quiet hXl hb)
  clear hb
  obtain ⟨hc0, hf0⟩ := G1.out.b0.all
  have hz0 := G1.out.b0.lt
  unfold ncz at hc0
  have hq10 := G1.out.b0.lt
  have G2 := Hd (G1.out.node hXl [.int .i64 19, .string ⟨#[]⟩, .int .u64 0, .int .i64 0, .bool false, .int .i64 0, .int .i64 0, .int .i64 0, .int .i64 0, .int .i64 ((ln ts s : Nat) : Int), .slice none 0 0])
  go_wp2_with fail
  refine (HNM.out _ G2.out.rd).mono ?_
  rintro e v2 ⟨rfl, hr, hs⟩
  clear hc0 hf0 hz0
  have G3 := Hd (G2.out.call hr hs)
  clear hr hs
  obtain ⟨hc0, hf0, hz0, hc1, hf1, hz1⟩ := G3.out.l2
  have G4 := Hd (G3.out.s1 hXl (.string (str (nmV ts s))))
  go_wp2_with fail
  refine (HNX.out _ G4.out.rd).mono ?_
  rintro e v3 ⟨rfl, hb⟩
  have G5 := Hd (G4.out.quiet hXl hb)
  clear hb hc0 hf0 hz0 hc1 hf1 hz1
  obtain ⟨hc0, hf0, hz0, hc1, hf1, hz1⟩ := G5.out.l2
  have G6 := Hd (G5.out.s0 hXl (.int .i64 25))
  go_wp2_with fail
  refine (HLS.out _ G6.out.rd).mono ?_
  rintro e v4 ⟨vv, rfl, hk, hr, hs⟩
  obtain ⟨x1, k1, rfl⟩ := hk.shape
  have G7 := Hd (G6.out.tree (hk.tree { labK 25 (ln ts s) with name := nmV ts s }) hr hs)
  clear hk hr hs hc0 hf0 hz0 hc1 hf1 hz1
  obtain ⟨hc0, hf0, hz0, hc1, hf1, hz1⟩ := G7.out.l2
  have G8 := Hd (G7.out.s10 hXl (.slice x1 (listM ts (fun q => E ts f .ex q) f (nmS ts s)).1.length k1))
  go_wp2
  have G9 := Hd (G8.out.stoR hXl (List.Mem.tail _ (List.Mem.head _)) rfl (.int .i64 25) (.string (str (nmV ts s))) (.int .u64 0) (.int .i64 0) (.bool false) (.int .i64 0) (.int .i64 0) (.int .i64 0) (.int .i64 0) (.int .i64 ((ln ts s : Nat) : Int)) (.slice x1 (listM ts (fun q => E ts f .ex q) f (nmS ts s)).1.length k1))
  refine bodyPost_ret (G9.out.b0.res1 Tryz.results242 Tryz.underlying27 rfl infoNd _ rfl) rfl ?_
  exact G9.out.outT (rfl)
 | false =>
  rw [h1] at hq1
  cases h2 : hasT ts (nmS ts s) [91] with
  | true =>
   have hin := hasT_in h2
   have hra := rem_adv hin
   have HE : Hid (E ts (f + 1) .us s = (.node { labK 20 (ln ts s) with name := nmV ts s } [(E ts f .ex (adv (nmS ts s))).1], exc ts (E ts f .ex (adv (nmS ts s))).2 [93])) := Hd (by rw [E, if_neg (by simp [h1]), if_pos h2])
   rw [HE.out]
   rw [h2] at HSK
   have HEX := Hd fun W (h : Rd W R g c ts (adv (nmS ts s))) => H.ex _ W h (by omega)
   clear HE H hR HL h1 h2 hin hra hrn
   go_enter Tryz.func242, Tryz.ntmps242
   go_wp2_with fail
   refine (HN.out _ F0.out.rd).mono ?_
   rintro e v1 ⟨rfl, hb⟩
   have G1 := Hd (F0.out.quiet hXl hb)
   clear hb
   obtain ⟨hc0, hf0⟩ := G1.out.b0.all
   have hz0 := G1.out.b0.lt
   unfold ncz at hc0
   have hq10 := G1.out.b0.lt
   have G2 := Hd (G1.out.node hXl [.int .i64 19, .string ⟨#[]⟩, .int .u64 0, .int .i64 0, .bool false, .int .i64 0, .int .i64 0, .int .i64 0, .int .i64 0, .int .i64 ((ln ts s : Nat) : Int), .slice none 0 0])
   go_wp2_with fail
   refine (HNM.out _ G2.out.rd).mono ?_
   rintro e v2 ⟨rfl, hr, hs⟩
   clear hc0 hf0 hz0
   have G3 := Hd (G2.out.call hr hs)
   clear hr hs
   obtain ⟨hc0, hf0, hz0, hc1, hf1, hz1⟩ := G3.out.l2
   have G4 := Hd (G3.out.s1 hXl (.string (str (nmV ts s))))
   go_wp2_with fail
   refine (HNX.out _ G4.out.rd).mono ?_
   rintro e v3 ⟨rfl, hb⟩
   have G5 := Hd (G4.out.quiet hXl hb)
   clear hb hc0 hf0 hz0 hc1 hf1 hz1
   obtain ⟨hc0, hf0, hz0, hc1, hf1, hz1⟩ := G5.out.l2
   go_wp2_with fail
   refine (HSK.out _ G5.out.rd).mono ?_
   rintro e v4 ⟨rfl, hr, hs⟩
   have G6 := Hd (G5.out.call hr hs)
   clear hr hs hc0 hf0 hz0 hc1 hf1 hz1
   obtain ⟨hc0, hf0, hz0, hc1, hf1, hz1⟩ := G6.out.l2
   have G7 := Hd (G6.out.s0 hXl (.int .i64 20))
   go_wp2_with fail
   refine (HEX.out _ G7.out.rd).mono ?_
   rintro e v5 ⟨l1, x1, n1, k1, rfl, hT, hr, hs⟩
   clear hc0 hf0 hz0 hc1 hf1 hz1
   have G8 := Hd (G7.out.tree hT hr hs)
   clear hT hr hs
   obtain ⟨hc0, hf0, hz0, hc1, hf1, hz1⟩ := G8.out.l2
   have G9 := Hd (G8.out.s10 hXl (.slice (some ⟨v5.heap.size, 0, none⟩) 1 1))
   have G10 := Hd (G9.out.kidz1 hXl v5.heap.size (by simp only [size_setCell, stor11_size]) (List.Mem.head _) { labK 20 (ln ts s) with name := nmV ts s })
   go_wp2_with fail
   refine (HBR.out _ _ G10.out.rd).mono ?_
   rintro e v6 ⟨rfl, hr, hs⟩
   have G11 := Hd (G10.out.call hr hs)
   clear hr hs hc0 hf0 hz0 hc1 hf1 hz1
   obtain ⟨hc0, hf0, hz0, hc1, hf1, hz1⟩ := G11.out.l2
   go_wp2
   have G12 := Hd (G11.out.stoR hXl (List.Mem.tail _ (List.Mem.head _)) rfl (.int .i64 20) (.string (str (nmV ts s))) (.int .u64 0) (.int .i64 0) (.bool false) (.int .i64 0) (.int .i64 0) (.int .i64 0) (.int .i64 0) (.int .i64 ((ln ts s : Nat) : Int)) (.slice (some ⟨v5.heap.size, 0, none⟩) 1 1))
   refine bodyPost_ret (G12.out.b0.res1 Tryz.results242 Tryz.underlying27 rfl infoNd _ rfl) rfl ?_
   exact G12.out.outT (rfl)
  | false =>
   have HE : Hid (E ts (f + 1) .us s = (.node { labK 19 (ln ts s) with name := nmV ts s } [], nmS ts s)) := Hd (by rw [E, if_neg (by simp [h1]), if_neg (by simp [h2])])
   rw [HE.out]
   rw [h2] at HSK
   clear HE H hR HL h1 h2 hrn
   go_enter Tryz.func242, Tryz.ntmps242
   go_wp2_with fail
   refine (HN.out _ F0.out.rd).mono ?_
   rintro e v1 ⟨rfl, hb⟩
   have G1 := Hd (F0.out.quiet hXl hb)
   clear hb
   obtain ⟨hc0, hf0⟩ := G1.out.b0.all
   have hz0 := G1.out.b0.lt
   unfold ncz at hc0
   have hq10 := G1.out.b0.lt
   have G2 := Hd (G1.out.node hXl [.int .i64 19, .string ⟨#[]⟩, .int .u64 0, .int .i64 0, .bool false, .int .i64 0, .int .i64 0, .int .i64 0, .int .i64 0, .int .i64 ((ln ts s : Nat) : Int), .slice none 0 0])
   go_wp2_with fail
   refine (HNM.out _ G2.out.rd).mono ?_
   rintro e v2 ⟨rfl, hr, hs⟩
   clear hc0 hf0 hz0
   have G3 := Hd (G2.out.call hr hs)
   clear hr hs
   obtain ⟨hc0, hf0, hz0, hc1, hf1, hz1⟩ := G3.out.l2
   have G4 := Hd (G3.out.s1 hXl (.string (str (nmV ts s))))
   go_wp2_with fail
   refine (HNX.out _ G4.out.rd).mono ?_
   rintro e v3 ⟨rfl, hb⟩
   have G5 := Hd (G4.out.quiet hXl hb)
   clear hb hc0 hf0 hz0 hc1 hf1 hz1
   obtain ⟨hc0, hf0, hz0, hc1, hf1, hz1⟩ := G5.out.l2
   go_wp2_with fail
   refine (HSK.out _ G5.out.rd).mono ?_
   rintro e v4 ⟨rfl, hr, hs⟩
   have G6 := Hd (G5.out.call hr hs)
   clear hr hs hc0 hf0 hz0 hc1 hf1 hz1
   obtain ⟨hc0, hf0, hz0, hc1, hf1, hz1⟩ := G6.out.l2
   have G7 := Hd (G6.out.leaf { labK 19 (ln ts s) with name := nmV ts s })
   go_wp2
   have G8 := Hd (G7.out.stoR hXl (List.Mem.tail _ (List.Mem.head _)) rfl (.int .i64 19) (.string (str (nmV ts s))) (.int .u64 0) (.int .i64 0) (.bool false) (.int .i64 0) (.int .i64 0) (.int .i64 0) (.int .i64 0) (.int .i64 ((ln ts s : Nat) : Int)) (.slice none 0 0))
   refine bodyPost_ret (G8.out.b0.res1 Tryz.results242 Tryz.underlying27 rfl infoNd _ rfl) rfl ?_
   exact G8.out.outT (rfl)
end Go.Proofs.YthdbaligapdbeaaGreatDoor
/- The rule primary: contract. -/
namespace Go.Proofs.YthdbaligapdbeaaGreatDoor
open Go Go.RowKit
set_option linter.unusedVariables false
set_option linter.unusedSimpArgs false

set_option maxHeartbeats 2000000 in
set_option maxRecDepth 100000 in
theorem primary_step {ts : List Tok} {R g c : Nat} (X : Ctx ts R g c) (f : Nat) (H : EC ts R g c f) (s : Sg) (w : World) (hR : Rd w R g c ts s) (hf : 32 * rem ts s + 8 ≤ f + 1) : Calls Tryz.prog 241 #[.pointer (some ⟨R, 0, none⟩)] w (TP w R g c ts (E ts (f + 1) .pr s)) := by
 have hXl := X.lt
 have F0 := Hd ((Fr.start hR).node hXl ncz)
 have HN := Hd fun W (h : Rd W R g c ts s) => node_any X 18 W h
 have HNX := Hd fun W (h : Rd W R g c ts s) => next_any X W h
 have HV : Hid (tkv (nxt ts s) = .agg #[.int .i64 (kd ts s : Int), .string (str (tx ts s)), .int .u64 ((nxt ts s).num : Int), .int .i64 ((nxt ts s).pos : Int), .int .i64 ((nxt ts s).line : Int)]) := Hd rfl
 rw [HV.out] at HNX
 have HSA := Hd fun W (h : Rd W R g c ts s) => skip_any' X [116, 114, 117, 101] (by simp) W h
 have HSB := Hd fun W (h : Rd W R g c ts s) => skip_any' X [102, 97, 108, 115, 101] (by simp) W h
 have HSC := Hd fun W (h : Rd W R g c ts s) => skip_any' X [114, 101, 99, 118] (by simp) W h
 have HSD := Hd fun W (h : Rd W R g c ts s) => skip_any' X [40] (by simp) W h
 have HEO := Hd fun q W (h : Rd W R g c ts q) => expect_any X (s := q) [40] (by simp) W h
 have HES := Hd fun q W (h : Rd W R g c ts q) => expect_any X (s := q) [41] (by simp) W h
 have HNM := Hd fun q W (h : Rd W R g c ts q) => name_any X (s := q) W h
 have HUS := Hd fun W (h : Rd W R g c ts s) => H.us s W h (by omega)
 have hlen := X.len
 unfold skp at HSA HSB HSC HSD
 have HL : Hid (nc (labK 18 (ln ts s)) = [.int .i64 18, .string ⟨#[]⟩, .int .u64 0, .int .i64 0, .bool false, .int .i64 0, .int .i64 0, .int .i64 0, .int .i64 0, .int .i64 ((ln ts s : Nat) : Int), .slice none 0 0]) := Hd rfl
 rw [HL.out] at HN
 clear HV HL
 by_cases h3 : kd ts s = 3
 ·have hin := kd_in h3 (by decide)
  have HE : Hid (E ts (f + 1) .pr s = (.node { labK 18 (ln ts s) with num := (nxt ts s).num } [], adv s)) := Hd (by rw [E, if_pos h3])
  rw [HE.out]
  rw [h3] at HNX
  have hat : atOf ts s = s.i := by unfold atOf; rw [hin.1]; rfl
  have HT := Hd hat
  have HIN := Hd hin
  have hil : s.i < 65536 := by omega
  clear HE H hR h3 hin hat HSA HSB HSC HSD HEO HES HNM HUS hf
  go_enter Tryz.func241, Tryz.ntmps241
  go_wp2_with fail
  refine (HN.out _ F0.out.rd).mono ?_
  rintro e v1 ⟨rfl, hb⟩
  have G1 := Hd (F0.out.quiet hXl hb)
  clear hb
  obtain ⟨hc0, hf0⟩ := G1.out.b0.all
  have hz0 := G1.out.b0.lt
  unfold ncz at hc0
  have hq10 := G1.out.b0.lt
  have G2 := Hd (G1.out.node hXl [.int .i64 18, .string ⟨#[]⟩, .int .u64 0, .int .i64 0, .bool false, .int .i64 0, .int .i64 0, .int .i64 0, .int .i64 0, .int .i64 ((ln ts s : Nat) : Int), .slice none 0 0])
  go_wp2_with fail
  refine (HNX.out _ G2.out.rd).mono ?_
  rintro e v2 ⟨rfl, hb⟩
  clear hc0 hf0 hz0
  have G3 := Hd (G2.out.quiet hXl hb)
  clear hb
  obtain ⟨hc0, hf0, hz0, hc1, hf1, hz1⟩ := G3.out.l2
  obtain ⟨c0, c1, c2, f1, f2⟩ := G3.out.rd.cells
  rw [HT.out] at c1
  have hzR := G3.out.rd.lt
  clear c0 c2 f2
  have hRn0 := (G3.out.bl _ _ (List.Mem.head _)).2
  have hRn1 := (G3.out.bl _ _ (List.Mem.tail _ (List.Mem.head _))).2
  have hRw := G3.out.hR
  have G4 := Hd (G3.out.advR hXl HIN.out (v := (s.i : Int) + 1) rfl)
  have G5 := Hd (G4.out.s2 hXl (.int .u64 ((nxt ts s).num : Int)))
  have G6 := Hd (G5.out.leaf { labK 18 (ln ts s) with num := (nxt ts s).num })
  go_wp2
  have G7 := Hd (G6.out.stoR hXl (List.Mem.tail _ (List.Mem.head _)) rfl (.int .i64 18) (.string ⟨#[]⟩) (.int .u64 ((nxt ts s).num : Int)) (.int .i64 0) (.bool false) (.int .i64 0) (.int .i64 0) (.int .i64 0) (.int .i64 0) (.int .i64 ((ln ts s : Nat) : Int)) (.slice none 0 0))
  have G8 := Hd (G7.out.alloc hXl (.cells #[.int .i64 3, .string (str (tx ts s)), .int .u64 ((nxt ts s).num : Int), .int .i64 ((nxt ts s).pos : Int), .int .i64 ((nxt ts s).line : Int)] 89))
  refine bodyPost_ret (G8.out.b0.res1 Tryz.results241 Tryz.underlying27 rfl infoNd _ rfl) rfl ?_
  exact G8.out.outT (rfl)
 ·have qk : ((kd ts s : Int) == 3) = false := by simp; omega
  cases g0 : hasT ts s [116, 114, 117, 101] with
  | true =>
   have hin := hasT_in g0
   have hra := rem_adv hin
   have HE : Hid (E ts (f + 1) .pr s = (.node { labK 18 (ln ts s) with num := 1, wd := 1 } [], adv s)) := Hd (by rw [E, if_neg h3, if_pos g0])
   rw [HE.out]
   rw [g0] at HSA
   clear HE H hR hin hra h3 hf hlen g0
   go_enter Tryz.func241, Tryz.ntmps241
   go_wp2_with fail
   refine (HN.out _ F0.out.rd).mono ?_
   rintro e v1 ⟨rfl, hb⟩
   have G1 := Hd (F0.out.quiet hXl hb)
   clear hb
   obtain ⟨hc0, hf0⟩ := G1.out.b0.all
   have hz0 := G1.out.b0.lt
   unfold ncz at hc0
   have hq10 := G1.out.b0.lt
   have G2 := Hd (G1.out.node hXl [.int .i64 18, .string ⟨#[]⟩, .int .u64 0, .int .i64 0, .bool false, .int .i64 0, .int .i64 0, .int .i64 0, .int .i64 0, .int .i64 ((ln ts s : Nat) : Int), .slice none 0 0])
   go_wp2_with fail
   refine (HNX.out _ G2.out.rd).mono ?_
   rintro e v2 ⟨rfl, hb⟩
   clear hc0 hf0 hz0
   have G3 := Hd (G2.out.quiet hXl hb)
   clear hb
   obtain ⟨hc0, hf0, hz0, hc1, hf1, hz1⟩ := G3.out.l2
   have G4 := Hd (G3.out.alloc hXl (.cells #[.int .i64 (kd ts s : Int), .string (str (tx ts s)), .int .u64 ((nxt ts s).num : Int), .int .i64 ((nxt ts s).pos : Int), .int .i64 ((nxt ts s).line : Int)] 89))
   go_wp2_with fail
   refine (HSA.out _ G4.out.rd).mono ?_
   rintro e v3 ⟨rfl, hr, hs⟩
   have G5 := Hd (G4.out.call hr hs)
   clear hr hs hc0 hf0 hz0 hc1 hf1 hz1
   obtain ⟨hc0, hf0, hz0, hc1, hf1, hz1⟩ := G5.out.l2
   have G6 := Hd (G5.out.s2 hXl (.int .u64 1))
   have G7 := Hd (G6.out.s3 hXl (.int .i64 1))
   have G8 := Hd (G7.out.s4 hXl (.bool false))
   have G9 := Hd (G8.out.leaf { labK 18 (ln ts s) with num := 1, wd := 1 })
   go_wp2
   have G10 := Hd (G9.out.stoR hXl (List.Mem.tail _ (List.Mem.head _)) rfl (.int .i64 18) (.string ⟨#[]⟩) (.int .u64 1) (.int .i64 1) (.bool false) (.int .i64 0) (.int .i64 0) (.int .i64 0) (.int .i64 0) (.int .i64 ((ln ts s : Nat) : Int)) (.slice none 0 0))
   refine bodyPost_ret (G10.out.b0.res1 Tryz.results241 Tryz.underlying27 rfl infoNd _ rfl) rfl ?_
   exact G10.out.outT (rfl)
  | false =>
   rw [g0] at HSA
   cases g1 : hasT ts s [102, 97, 108, 115, 101] with
   | true =>
    have hin := hasT_in g1
    have hra := rem_adv hin
    have HE : Hid (E ts (f + 1) .pr s = (.node { labK 18 (ln ts s) with wd := 1 } [], adv s)) := Hd (by rw [E, if_neg h3, if_neg (by simp [g0]), if_pos g1])
    rw [HE.out]
    rw [g1] at HSB
    clear HE H hR hin hra h3 hf hlen g0 g1
    go_enter Tryz.func241, Tryz.ntmps241
    go_wp2_with fail
    refine (HN.out _ F0.out.rd).mono ?_
    rintro e v1 ⟨rfl, hb⟩
    have G1 := Hd (F0.out.quiet hXl hb)
    clear hb
    obtain ⟨hc0, hf0⟩ := G1.out.b0.all
    have hz0 := G1.out.b0.lt
    unfold ncz at hc0
    have hq10 := G1.out.b0.lt
    have G2 := Hd (G1.out.node hXl [.int .i64 18, .string ⟨#[]⟩, .int .u64 0, .int .i64 0, .bool false, .int .i64 0, .int .i64 0, .int .i64 0, .int .i64 0, .int .i64 ((ln ts s : Nat) : Int), .slice none 0 0])
    go_wp2_with fail
    refine (HNX.out _ G2.out.rd).mono ?_
    rintro e v2 ⟨rfl, hb⟩
    clear hc0 hf0 hz0
    have G3 := Hd (G2.out.quiet hXl hb)
    clear hb
    obtain ⟨hc0, hf0, hz0, hc1, hf1, hz1⟩ := G3.out.l2
    have G4 := Hd (G3.out.alloc hXl (.cells #[.int .i64 (kd ts s : Int), .string (str (tx ts s)), .int .u64 ((nxt ts s).num : Int), .int .i64 ((nxt ts s).pos : Int), .int .i64 ((nxt ts s).line : Int)] 89))
    go_wp2_with fail
    refine (HSA.out _ G4.out.rd).mono ?_
    rintro e v3 ⟨rfl, hr, hs⟩
    have G5 := Hd (G4.out.call hr hs)
    clear hr hs hc0 hf0 hz0 hc1 hf1 hz1
    obtain ⟨hc0, hf0, hz0, hc1, hf1, hz1⟩ := G5.out.l2
    go_wp2_with fail
    refine (HSB.out _ G5.out.rd).mono ?_
    rintro e v4 ⟨rfl, hr, hs⟩
    have G6 := Hd (G5.out.call hr hs)
    clear hr hs hc0 hf0 hz0 hc1 hf1 hz1
    obtain ⟨hc0, hf0, hz0, hc1, hf1, hz1⟩ := G6.out.l2
    have G7 := Hd (G6.out.s3 hXl (.int .i64 1))
    have G8 := Hd (G7.out.s4 hXl (.bool false))
    have G9 := Hd (G8.out.leaf { labK 18 (ln ts s) with wd := 1 })
    go_wp2
    have G10 := Hd (G9.out.stoR hXl (List.Mem.tail _ (List.Mem.head _)) rfl (.int .i64 18) (.string ⟨#[]⟩) (.int .u64 0) (.int .i64 1) (.bool false) (.int .i64 0) (.int .i64 0) (.int .i64 0) (.int .i64 0) (.int .i64 ((ln ts s : Nat) : Int)) (.slice none 0 0))
    refine bodyPost_ret (G10.out.b0.res1 Tryz.results241 Tryz.underlying27 rfl infoNd _ rfl) rfl ?_
    exact G10.out.outT (rfl)
   | false =>
    rw [g1] at HSB
    cases g2 : hasT ts s [114, 101, 99, 118] with
    | true =>
     have hin := hasT_in g2
     have hra := rem_adv hin
     have HE : Hid (E ts (f + 1) .pr s = (.node { labK 26 (ln ts s) with name := nmV ts (exc ts (adv s) [40]) } [], exc ts (nmS ts (exc ts (adv s) [40])) [41])) := Hd (by rw [E, if_neg h3, if_neg (by simp [g0]), if_neg (by simp [g1]), if_pos g2])
     rw [HE.out]
     rw [g2] at HSC
     clear HE H hR hin hra h3 hf hlen g0 g1 g2
     go_enter Tryz.func241, Tryz.ntmps241
     go_wp2_with fail
     refine (HN.out _ F0.out.rd).mono ?_
     rintro e v1 ⟨rfl, hb⟩
     have G1 := Hd (F0.out.quiet hXl hb)
     clear hb
     obtain ⟨hc0, hf0⟩ := G1.out.b0.all
     have hz0 := G1.out.b0.lt
     unfold ncz at hc0
     have hq10 := G1.out.b0.lt
     have G2 := Hd (G1.out.node hXl [.int .i64 18, .string ⟨#[]⟩, .int .u64 0, .int .i64 0, .bool false, .int .i64 0, .int .i64 0, .int .i64 0, .int .i64 0, .int .i64 ((ln ts s : Nat) : Int), .slice none 0 0])
     go_wp2_with fail
     refine (HNX.out _ G2.out.rd).mono ?_
     rintro e v2 ⟨rfl, hb⟩
     clear hc0 hf0 hz0
     have G3 := Hd (G2.out.quiet hXl hb)
     clear hb
     obtain ⟨hc0, hf0, hz0, hc1, hf1, hz1⟩ := G3.out.l2
     have G4 := Hd (G3.out.alloc hXl (.cells #[.int .i64 (kd ts s : Int), .string (str (tx ts s)), .int .u64 ((nxt ts s).num : Int), .int .i64 ((nxt ts s).pos : Int), .int .i64 ((nxt ts s).line : Int)] 89))
     go_wp2_with fail
     refine (HSA.out _ G4.out.rd).mono ?_
     rintro e v3 ⟨rfl, hr, hs⟩
     have G5 := Hd (G4.out.call hr hs)
     clear hr hs hc0 hf0 hz0 hc1 hf1 hz1
     obtain ⟨hc0, hf0, hz0, hc1, hf1, hz1⟩ := G5.out.l2
     go_wp2_with fail
     refine (HSB.out _ G5.out.rd).mono ?_
     rintro e v4 ⟨rfl, hr, hs⟩
     have G6 := Hd (G5.out.call hr hs)
     clear hr hs hc0 hf0 hz0 hc1 hf1 hz1
     obtain ⟨hc0, hf0, hz0, hc1, hf1, hz1⟩ := G6.out.l2
     go_wp2_with fail
     refine (HSC.out _ G6.out.rd).mono ?_
     rintro e v5 ⟨rfl, hr, hs⟩
     have G7 := Hd (G6.out.call hr hs)
     clear hr hs hc0 hf0 hz0 hc1 hf1 hz1
     obtain ⟨hc0, hf0, hz0, hc1, hf1, hz1⟩ := G7.out.l2
     have G8 := Hd (G7.out.s0 hXl (.int .i64 26))
     go_wp2_with fail
     refine (HEO.out _ _ G8.out.rd).mono ?_
     rintro e v6 ⟨rfl, hr, hs⟩
     have G9 := Hd (G8.out.call hr hs)
     clear hr hs hc0 hf0 hz0 hc1 hf1 hz1
     obtain ⟨hc0, hf0, hz0, hc1, hf1, hz1⟩ := G9.out.l2
     go_wp2_with fail
     refine (HNM.out _ _ G9.out.rd).mono ?_
     rintro e v7 ⟨rfl, hr, hs⟩
     have G10 := Hd (G9.out.call hr hs)
     clear hr hs hc0 hf0 hz0 hc1 hf1 hz1
     obtain ⟨hc0, hf0, hz0, hc1, hf1, hz1⟩ := G10.out.l2
     have G11 := Hd (G10.out.s1 hXl (.string (str (nmV ts (exc ts (adv s) [40])))))
     go_wp2_with fail
     refine (HES.out _ _ G11.out.rd).mono ?_
     rintro e v8 ⟨rfl, hr, hs⟩
     have G12 := Hd (G11.out.call hr hs)
     clear hr hs hc0 hf0 hz0 hc1 hf1 hz1
     obtain ⟨hc0, hf0, hz0, hc1, hf1, hz1⟩ := G12.out.l2
     have G13 := Hd (G12.out.leaf { labK 26 (ln ts s) with name := nmV ts (exc ts (adv s) [40]) })
     go_wp2
     have G14 := Hd (G13.out.stoR hXl (List.Mem.tail _ (List.Mem.head _)) rfl (.int .i64 26) (.string (str (nmV ts (exc ts (adv s) [40])))) (.int .u64 0) (.int .i64 0) (.bool false) (.int .i64 0) (.int .i64 0) (.int .i64 0) (.int .i64 0) (.int .i64 ((ln ts s : Nat) : Int)) (.slice none 0 0))
     refine bodyPost_ret (G14.out.b0.res1 Tryz.results241 Tryz.underlying27 rfl infoNd _ rfl) rfl ?_
     exact G14.out.outT (rfl)
    | false =>
     rw [g2] at HSC
     cases g3 : hasT ts s [40] with
     | true =>
      have hin := hasT_in g3
      have hra := rem_adv hin
      have HE : Hid (E ts (f + 1) .pr s = ((E ts f .ex (adv s)).1, exc ts (E ts f .ex (adv s)).2 [41])) := Hd (by rw [E, if_neg h3, if_neg (by simp [g0]), if_neg (by simp [g1]), if_neg (by simp [g2]), if_pos g3])
      rw [HE.out]
      rw [g3] at HSD
      have HEX := Hd fun W (h : Rd W R g c ts (adv s)) => H.ex _ W h (by omega)
      clear HE H hR hin hra h3 hf hlen g0 g1 g2 g3
      go_enter Tryz.func241, Tryz.ntmps241
      go_wp2_with fail
      refine (HN.out _ F0.out.rd).mono ?_
      rintro e v1 ⟨rfl, hb⟩
      have G1 := Hd (F0.out.quiet hXl hb)
      clear hb
      obtain ⟨hc0, hf0⟩ := G1.out.b0.all
      have hz0 := G1.out.b0.lt
      unfold ncz at hc0
      have hq10 := G1.out.b0.lt
      have G2 := Hd (G1.out.node hXl [.int .i64 18, .string ⟨#[]⟩, .int .u64 0, .int .i64 0, .bool false, .int .i64 0, .int .i64 0, .int .i64 0, .int .i64 0, .int .i64 ((ln ts s : Nat) : Int), .slice none 0 0])
      go_wp2_with fail
      refine (HNX.out _ G2.out.rd).mono ?_
      rintro e v2 ⟨rfl, hb⟩
      clear hc0 hf0 hz0
      have G3 := Hd (G2.out.quiet hXl hb)
      clear hb
      obtain ⟨hc0, hf0, hz0, hc1, hf1, hz1⟩ := G3.out.l2
      have G4 := Hd (G3.out.alloc hXl (.cells #[.int .i64 (kd ts s : Int), .string (str (tx ts s)), .int .u64 ((nxt ts s).num : Int), .int .i64 ((nxt ts s).pos : Int), .int .i64 ((nxt ts s).line : Int)] 89))
      go_wp2_with fail
      refine (HSA.out _ G4.out.rd).mono ?_
      rintro e v3 ⟨rfl, hr, hs⟩
      have G5 := Hd (G4.out.call hr hs)
      clear hr hs hc0 hf0 hz0 hc1 hf1 hz1
      obtain ⟨hc0, hf0, hz0, hc1, hf1, hz1⟩ := G5.out.l2
      go_wp2_with fail
      refine (HSB.out _ G5.out.rd).mono ?_
      rintro e v4 ⟨rfl, hr, hs⟩
      have G6 := Hd (G5.out.call hr hs)
      clear hr hs hc0 hf0 hz0 hc1 hf1 hz1
      obtain ⟨hc0, hf0, hz0, hc1, hf1, hz1⟩ := G6.out.l2
      go_wp2_with fail
      refine (HSC.out _ G6.out.rd).mono ?_
      rintro e v5 ⟨rfl, hr, hs⟩
      have G7 := Hd (G6.out.call hr hs)
      clear hr hs hc0 hf0 hz0 hc1 hf1 hz1
      obtain ⟨hc0, hf0, hz0, hc1, hf1, hz1⟩ := G7.out.l2
      go_wp2_with fail
      refine (HSD.out _ G7.out.rd).mono ?_
      rintro e v6 ⟨rfl, hr, hs⟩
      have G8 := Hd (G7.out.call hr hs)
      clear hr hs hc0 hf0 hz0 hc1 hf1 hz1
      obtain ⟨hc0, hf0, hz0, hc1, hf1, hz1⟩ := G8.out.l2
      go_wp2_with fail
      refine (HEX.out _ G8.out.rd).mono ?_
      rintro e v7 ⟨l1, x1, n1, k1, rfl, hT, hr, hs⟩
      clear hc0 hf0 hz0 hc1 hf1 hz1
      have G9 := Hd (G8.out.tree hT hr hs)
      clear hT hr hs
      obtain ⟨hc0, hf0, hz0, hc1, hf1, hz1⟩ := G9.out.l2
      have hq70 := G9.out.b0.lt
      have hq71 := G9.out.b1.lt
      have G10 := Hd (G9.out.node hXl [.int .i64 l1.kind, .string (str l1.name), .int .u64 l1.num, .int .i64 l1.wd, .bool l1.sg, .int .i64 l1.op, .int .i64 l1.fac, .int .i64 l1.pip, .int .i64 l1.unr, .int .i64 l1.line, .slice x1 n1 k1])
      go_wp2_with fail
      refine (HES.out _ _ G10.out.rd).mono ?_
      rintro e v8 ⟨rfl, hr, hs⟩
      have G11 := Hd (G10.out.call hr hs)
      clear hr hs hc0 hf0 hz0 hc1 hf1 hz1
      obtain ⟨hc0, hf0⟩ := G11.out.b0.all
      have hz0 := G11.out.b0.lt
      obtain ⟨hc1, hf1⟩ := G11.out.b1.all
      have hz1 := G11.out.b1.lt
      obtain ⟨hc2, hf2⟩ := G11.out.b2.all
      have hz2 := G11.out.b2.lt
      unfold ncz at hc2
      go_wp2
      have G12 := Hd (G11.out.stoR hXl (List.Mem.tail _ (List.Mem.tail _ (List.Mem.head _))) rfl (.int .i64 l1.kind) (.string (str l1.name)) (.int .u64 l1.num) (.int .i64 l1.wd) (.bool l1.sg) (.int .i64 l1.op) (.int .i64 l1.fac) (.int .i64 l1.pip) (.int .i64 l1.unr) (.int .i64 l1.line) (.slice x1 n1 k1))
      refine bodyPost_ret (G12.out.b0.res1 Tryz.results241 Tryz.underlying27 rfl infoNd _ rfl) rfl ?_
      exact G12.out.outT (rfl)
     | false =>
      rw [g3] at HSD
      have HE : Hid (E ts (f + 1) .pr s = E ts f .us s) := Hd (by rw [E, if_neg h3, if_neg (by simp [g0]), if_neg (by simp [g1]), if_neg (by simp [g2]), if_neg (by simp [g3])])
      rw [HE.out]
      clear HE H hR h3 hf hlen g0 g1 g2 g3
      go_enter Tryz.func241, Tryz.ntmps241
      go_wp2_with fail
      refine (HN.out _ F0.out.rd).mono ?_
      rintro e v1 ⟨rfl, hb⟩
      have G1 := Hd (F0.out.quiet hXl hb)
      clear hb
      obtain ⟨hc0, hf0⟩ := G1.out.b0.all
      have hz0 := G1.out.b0.lt
      unfold ncz at hc0
      have hq10 := G1.out.b0.lt
      have G2 := Hd (G1.out.node hXl [.int .i64 18, .string ⟨#[]⟩, .int .u64 0, .int .i64 0, .bool false, .int .i64 0, .int .i64 0, .int .i64 0, .int .i64 0, .int .i64 ((ln ts s : Nat) : Int), .slice none 0 0])
      go_wp2_with fail
      refine (HNX.out _ G2.out.rd).mono ?_
      rintro e v2 ⟨rfl, hb⟩
      clear hc0 hf0 hz0
      have G3 := Hd (G2.out.quiet hXl hb)
      clear hb
      obtain ⟨hc0, hf0, hz0, hc1, hf1, hz1⟩ := G3.out.l2
      have G4 := Hd (G3.out.alloc hXl (.cells #[.int .i64 (kd ts s : Int), .string (str (tx ts s)), .int .u64 ((nxt ts s).num : Int), .int .i64 ((nxt ts s).pos : Int), .int .i64 ((nxt ts s).line : Int)] 89))
      go_wp2_with fail
      refine (HSA.out _ G4.out.rd).mono ?_
      rintro e v3 ⟨rfl, hr, hs⟩
      have G5 := Hd (G4.out.call hr hs)
      clear hr hs hc0 hf0 hz0 hc1 hf1 hz1
      obtain ⟨hc0, hf0, hz0, hc1, hf1, hz1⟩ := G5.out.l2
      go_wp2_with fail
      refine (HSB.out _ G5.out.rd).mono ?_
      rintro e v4 ⟨rfl, hr, hs⟩
      have G6 := Hd (G5.out.call hr hs)
      clear hr hs hc0 hf0 hz0 hc1 hf1 hz1
      obtain ⟨hc0, hf0, hz0, hc1, hf1, hz1⟩ := G6.out.l2
      go_wp2_with fail
      refine (HSC.out _ G6.out.rd).mono ?_
      rintro e v5 ⟨rfl, hr, hs⟩
      have G7 := Hd (G6.out.call hr hs)
      clear hr hs hc0 hf0 hz0 hc1 hf1 hz1
      obtain ⟨hc0, hf0, hz0, hc1, hf1, hz1⟩ := G7.out.l2
      go_wp2_with fail
      refine (HSD.out _ G7.out.rd).mono ?_
      rintro e v6 ⟨rfl, hr, hs⟩
      have G8 := Hd (G7.out.call hr hs)
      clear hr hs hc0 hf0 hz0 hc1 hf1 hz1
      obtain ⟨hc0, hf0, hz0, hc1, hf1, hz1⟩ := G8.out.l2
      go_wp2_with fail
      refine (HUS.out _ G8.out.rd).mono ?_
      rintro e v7 ⟨l1, x1, n1, k1, rfl, hT, hr, hs⟩
      clear hc0 hf0 hz0 hc1 hf1 hz1
      have G9 := Hd (G8.out.tree hT hr hs)
      clear hT hr hs
      obtain ⟨hc0, hf0, hz0, hc1, hf1, hz1⟩ := G9.out.l2
      go_wp2
      have G10 := Hd (G9.out.stoR hXl (List.Mem.tail _ (List.Mem.head _)) rfl (.int .i64 l1.kind) (.string (str l1.name)) (.int .u64 l1.num) (.int .i64 l1.wd) (.bool l1.sg) (.int .i64 l1.op) (.int .i64 l1.fac) (.int .i64 l1.pip) (.int .i64 l1.unr) (.int .i64 l1.line) (.slice x1 n1 k1))
      refine bodyPost_ret (G10.out.b0.res1 Tryz.results241 Tryz.underlying27 rfl infoNd _ rfl) rfl ?_
      exact G10.out.outT (rfl)
end Go.Proofs.YthdbaligapdbeaaGreatDoor
/- The rule expr: contract. -/
namespace Go.Proofs.YthdbaligapdbeaaGreatDoor
open Go Go.RowKit
set_option linter.unusedVariables false
set_option linter.unusedSimpArgs false

set_option maxHeartbeats 2000000 in
set_option maxRecDepth 100000 in
theorem expr_step {ts : List Tok} {R g c : Nat} (X : Ctx ts R g c) (f : Nat) (H : EC ts R g c f) (s : Sg) (w : World) (hR : Rd w R g c ts s) (hf : 32 * rem ts s + 22 ≤ f + 1) : Calls Tryz.prog 211 #[.pointer (some ⟨R, 0, none⟩)] w (TP w R g c ts (E ts (f + 1) .ex s)) := by
 have hXl := X.lt
 have F0 := Hd ((Fr.start hR).node hXl ncz)
 have HN := Hd fun W (h : Rd W R g c ts s) => node_any X 23 W h
 have HBN := Hd fun W (h : Rd W R g c ts s) => H.bn 0 s W (by omega) h (by omega)
 have HSK := Hd fun q W (h : Rd W R g c ts q) => skip_any' X (s := q) [63] (by simp) W h
 have HCO := Hd fun q W (h : Rd W R g c ts q) => expect_any X (s := q) [58] (by simp) W h
 have hon := rem_on (E_on ts f (.bn 0) s)
 unfold skp at HSK
 have HL : Hid (nc (labK 23 (ln ts s)) = [.int .i64 23, .string ⟨#[]⟩, .int .u64 0, .int .i64 0, .bool false, .int .i64 0, .int .i64 0, .int .i64 0, .int .i64 0, .int .i64 ((ln ts s : Nat) : Int), .slice none 0 0]) := Hd rfl
 rw [HL.out] at HN
 clear HL
 cases h1 : hasT ts (E ts f (.bn 0) s).2 [63] with
 | true =>
  have hin := hasT_in h1
  have hra := rem_adv hin
  have HE : Hid (E ts (f + 1) .ex s = (.node (labK 23 (ln ts s)) [(E ts f (.bn 0) s).1, (E ts f .ex (adv (E ts f (.bn 0) s).2)).1, (E ts f .ex (exc ts (E ts f .ex (adv (E ts f (.bn 0) s).2)).2 [58])).1], (E ts f .ex (exc ts (E ts f .ex (adv (E ts f (.bn 0) s).2)).2 [58])).2)) := Hd (by rw [E, if_pos h1])
  rw [HE.out]
  have HSK2 := Hd (HSK.out (E ts f (.bn 0) s).2)
  rw [h1] at HSK2
  have HEX := Hd fun W (h : Rd W R g c ts (adv (E ts f (.bn 0) s).2)) => H.ex _ W h (by omega)
  have hon2 := rem_on (E_on ts f .ex (adv (E ts f (.bn 0) s).2))
  have hon3 := rem_on (exc_on (ts := ts) (s := (E ts f .ex (adv (E ts f (.bn 0) s).2)).2) (c := 58) (t := []))
  have HEY := Hd fun W (h : Rd W R g c ts (exc ts (E ts f .ex (adv (E ts f (.bn 0) s).2)).2 [58])) => H.ex _ W h (by omega)
  clear HE H hR h1 hin hra hon hon2 hon3 hf HSK
  generalize E ts f (.bn 0) s = P1 at *
  generalize E ts f .ex (adv P1.2) = P2 at *
  generalize E ts f .ex (exc ts P2.2 [58]) = P3 at *
  go_enter Tryz.func211, Tryz.ntmps211
  go_wp2_with fail
  refine (HN.out _ F0.out.rd).mono ?_
  rintro e v1 ⟨rfl, hb⟩
  have G1 := Hd (F0.out.quiet hXl hb)
  clear hb
  obtain ⟨hc0, hf0⟩ := G1.out.b0.all
  have hz0 := G1.out.b0.lt
  unfold ncz at hc0
  have hq10 := G1.out.b0.lt
  have G2 := Hd (G1.out.node hXl [.int .i64 23, .string ⟨#[]⟩, .int .u64 0, .int .i64 0, .bool false, .int .i64 0, .int .i64 0, .int .i64 0, .int .i64 0, .int .i64 ((ln ts s : Nat) : Int), .slice none 0 0])
  go_wp2_with fail
  refine (HBN.out _ G2.out.rd).mono ?_
  rintro e v2 ⟨l1, x1, n1, k1, rfl, hT, hr, hs⟩
  clear hc0 hf0 hz0
  have G3 := Hd (G2.out.tree hT hr hs)
  clear hT hr hs
  obtain ⟨hc0, hf0, hz0, hc1, hf1, hz1⟩ := G3.out.l2
  have hq20 := G3.out.b0.lt
  have hq21 := G3.out.b1.lt
  have G4 := Hd (G3.out.node hXl [.int .i64 l1.kind, .string (str l1.name), .int .u64 l1.num, .int .i64 l1.wd, .bool l1.sg, .int .i64 l1.op, .int .i64 l1.fac, .int .i64 l1.pip, .int .i64 l1.unr, .int .i64 l1.line, .slice x1 n1 k1])
  go_wp2_with fail
  refine (HSK2.out _ G4.out.rd).mono ?_
  rintro e v3 ⟨rfl, hr, hs⟩
  have G5 := Hd (G4.out.call hr hs)
  clear hr hs hc0 hf0 hz0 hc1 hf1 hz1
  obtain ⟨hc0, hf0⟩ := G5.out.b0.all
  have hz0 := G5.out.b0.lt
  obtain ⟨hc1, hf1⟩ := G5.out.b1.all
  have hz1 := G5.out.b1.lt
  obtain ⟨hc2, hf2⟩ := G5.out.b2.all
  have hz2 := G5.out.b2.lt
  unfold ncz at hc2
  go_wp2_with fail
  refine (HEX.out _ G5.out.rd).mono ?_
  rintro e v4 ⟨l2, x2, n2, k2, rfl, hT, hr, hs⟩
  clear hc0 hf0 hz0 hc1 hf1 hz1 hc2 hf2 hz2
  have G6 := Hd (G5.out.tree hT hr hs)
  clear hT hr hs
  obtain ⟨hc0, hf0⟩ := G6.out.b0.all
  have hz0 := G6.out.b0.lt
  obtain ⟨hc1, hf1⟩ := G6.out.b1.all
  have hz1 := G6.out.b1.lt
  obtain ⟨hc2, hf2⟩ := G6.out.b2.all
  have hz2 := G6.out.b2.lt
  unfold ncz at hc2
  have hq40 := G6.out.b0.lt
  have hq41 := G6.out.b1.lt
  have hq42 := G6.out.b2.lt
  have G7 := Hd (G6.out.node hXl [.int .i64 l2.kind, .string (str l2.name), .int .u64 l2.num, .int .i64 l2.wd, .bool l2.sg, .int .i64 l2.op, .int .i64 l2.fac, .int .i64 l2.pip, .int .i64 l2.unr, .int .i64 l2.line, .slice x2 n2 k2])
  go_wp2_with fail
  refine (HCO.out _ _ G7.out.rd).mono ?_
  rintro e v5 ⟨rfl, hr, hs⟩
  clear hc0 hf0 hz0 hc1 hf1 hz1 hc2 hf2 hz2
  have G8 := Hd (G7.out.call hr hs)
  clear hr hs
  obtain ⟨hc0, hf0⟩ := G8.out.b0.all
  have hz0 := G8.out.b0.lt
  obtain ⟨hc1, hf1⟩ := G8.out.b1.all
  have hz1 := G8.out.b1.lt
  obtain ⟨hc2, hf2⟩ := G8.out.b2.all
  have hz2 := G8.out.b2.lt
  obtain ⟨hc3, hf3⟩ := G8.out.b3.all
  have hz3 := G8.out.b3.lt
  unfold ncz at hc3
  go_wp2
  have G9 := Hd (G8.out.drew)
  go_region_with (go_at_call 211; refine (HEY.out _ G9.out.rd).mono ?_; rintro e v6 ⟨l3, x3, n3, k3, rfl, hT, hr, hs⟩; have G10 := Hd (G9.out.tree hT hr hs); clear hT hr hs; obtain ⟨hd0, he0⟩ := G10.out.b0.all; have hy0 := G10.out.b0.lt; obtain ⟨hd1, he1⟩ := G10.out.b1.all; have hy1 := G10.out.b1.lt; obtain ⟨hd2, he2⟩ := G10.out.b2.all; have hy2 := G10.out.b2.lt; obtain ⟨hd3, he3⟩ := G10.out.b3.all; have hy3 := G10.out.b3.lt; unfold ncz at hd3)
  all_goals
   have G11 := Hd (G10.out.set2 hXl 10 (.slice (some ⟨v6.heap.size, 0, none⟩) 3 3) [.int .i64 23, .string ⟨#[]⟩, .int .u64 0, .int .i64 0, .bool false, .int .i64 0, .int .i64 0, .int .i64 0, .int .i64 0, .int .i64 ((ln ts s : Nat) : Int), .slice (some ⟨v6.heap.size, 0, none⟩) 3 3] rfl)
   go_wp2
   have G12 := Hd (G11.out.stoR hXl (List.Mem.tail _ (List.Mem.tail _ (List.Mem.tail _ (List.Mem.head _)))) rfl (.int .i64 23) (.string ⟨#[]⟩) (.int .u64 0) (.int .i64 0) (.bool false) (.int .i64 0) (.int .i64 0) (.int .i64 0) (.int .i64 0) (.int .i64 ((ln ts s : Nat) : Int)) (.slice (some ⟨v6.heap.size, 0, none⟩) 3 3))
   have G13 := Hd (G12.out.kidz3 hXl v6.heap.size (by simp only [size_setCell, stor11_size]) (List.Mem.tail _ (List.Mem.tail _ (List.Mem.head _))) (List.Mem.tail _ (List.Mem.head _)) (List.Mem.head _) (labK 23 (ln ts s)) [.int .i64 l1.kind, .string (str l1.name), .int .u64 l1.num, .int .i64 l1.wd, .bool l1.sg, .int .i64 l1.op, .int .i64 l1.fac, .int .i64 l1.pip, .int .i64 l1.unr, .int .i64 l1.line, .slice x1 n1 k1, .int .i64 l2.kind, .string (str l2.name), .int .u64 l2.num, .int .i64 l2.wd, .bool l2.sg, .int .i64 l2.op, .int .i64 l2.fac, .int .i64 l2.pip, .int .i64 l2.unr, .int .i64 l2.line, .slice x2 n2 k2, .int .i64 l3.kind, .string (str l3.name), .int .u64 l3.num, .int .i64 l3.wd, .bool l3.sg, .int .i64 l3.op, .int .i64 l3.fac, .int .i64 l3.pip, .int .i64 l3.unr, .int .i64 l3.line, .slice x3 n3 k3] rfl)
   refine bodyPost_ret (G13.out.b0.res1 Tryz.results211 Tryz.underlying27 rfl infoNd _ rfl) rfl ?_
   exact G13.out.outT (rfl)
 | false =>
  have HE : Hid (E ts (f + 1) .ex s = E ts f (.bn 0) s) := Hd (by rw [E, if_neg (by simp [h1])])
  rw [HE.out]
  have HSK2 := Hd (HSK.out (E ts f (.bn 0) s).2)
  rw [h1] at HSK2
  clear HE H hR h1 hon hf HSK
  generalize E ts f (.bn 0) s = P1 at *
  go_enter Tryz.func211, Tryz.ntmps211
  go_wp2_with fail
  refine (HN.out _ F0.out.rd).mono ?_
  rintro e v1 ⟨rfl, hb⟩
  have G1 := Hd (F0.out.quiet hXl hb)
  clear hb
  obtain ⟨hc0, hf0⟩ := G1.out.b0.all
  have hz0 := G1.out.b0.lt
  unfold ncz at hc0
  have hq10 := G1.out.b0.lt
  have G2 := Hd (G1.out.node hXl [.int .i64 23, .string ⟨#[]⟩, .int .u64 0, .int .i64 0, .bool false, .int .i64 0, .int .i64 0, .int .i64 0, .int .i64 0, .int .i64 ((ln ts s : Nat) : Int), .slice none 0 0])
  go_wp2_with fail
  refine (HBN.out _ G2.out.rd).mono ?_
  rintro e v2 ⟨l1, x1, n1, k1, rfl, hT, hr, hs⟩
  clear hc0 hf0 hz0
  have G3 := Hd (G2.out.tree hT hr hs)
  clear hT hr hs
  obtain ⟨hc0, hf0, hz0, hc1, hf1, hz1⟩ := G3.out.l2
  have hq20 := G3.out.b0.lt
  have hq21 := G3.out.b1.lt
  have G4 := Hd (G3.out.node hXl [.int .i64 l1.kind, .string (str l1.name), .int .u64 l1.num, .int .i64 l1.wd, .bool l1.sg, .int .i64 l1.op, .int .i64 l1.fac, .int .i64 l1.pip, .int .i64 l1.unr, .int .i64 l1.line, .slice x1 n1 k1])
  go_wp2_with fail
  refine (HSK2.out _ G4.out.rd).mono ?_
  rintro e v3 ⟨rfl, hr, hs⟩
  have G5 := Hd (G4.out.call hr hs)
  clear hr hs hc0 hf0 hz0 hc1 hf1 hz1
  obtain ⟨hc0, hf0⟩ := G5.out.b0.all
  have hz0 := G5.out.b0.lt
  obtain ⟨hc1, hf1⟩ := G5.out.b1.all
  have hz1 := G5.out.b1.lt
  obtain ⟨hc2, hf2⟩ := G5.out.b2.all
  have hz2 := G5.out.b2.lt
  unfold ncz at hc2
  go_wp2
  have G6 := Hd (G5.out.stoR hXl (List.Mem.tail _ (List.Mem.tail _ (List.Mem.head _))) rfl (.int .i64 l1.kind) (.string (str l1.name)) (.int .u64 l1.num) (.int .i64 l1.wd) (.bool l1.sg) (.int .i64 l1.op) (.int .i64 l1.fac) (.int .i64 l1.pip) (.int .i64 l1.unr) (.int .i64 l1.line) (.slice x1 n1 k1))
  refine bodyPost_ret (G6.out.b0.res1 Tryz.results211 Tryz.underlying27 rfl infoNd _ rfl) rfl ?_
  exact G6.out.outT (rfl)
end Go.Proofs.YthdbaligapdbeaaGreatDoor
/- The rule cast: contract. -/
namespace Go.Proofs.YthdbaligapdbeaaGreatDoor
open Go Go.RowKit
set_option linter.unusedVariables false
set_option linter.unusedSimpArgs false

def ClSt (ts : List Tok) (R g c : Nat) (w : World) (L0 L1 : Nat) (Z : Tree × Sg) (line : Nat) (wr : World) (st : Sg) : Prop :=
  ∃ (t : Tree) (l : Lab) (x : Option Addr) (n k F : Nat), Fr w wr R g c ts st [(L1, [.int .i64 l.kind, .string (str l.name), .int .u64 l.num, .int .i64 l.wd, .bool l.sg, .int .i64 l.op, .int .i64 l.fac, .int .i64 l.pip, .int .i64 l.unr, .int .i64 l.line, .slice x n k]), (L0, ncz)] [([.int .i64 l.kind, .string (str l.name), .int .u64 l.num, .int .i64 l.wd, .bool l.sg, .int .i64 l.op, .int .i64 l.fac, .int .i64 l.pip, .int .i64 l.unr, .int .i64 l.line, .slice x n k], t)] ∧ Z = E ts (F + 1) (.cl line t) st ∧ 32 * rem ts st + 1 ≤ F + 1
set_option maxHeartbeats 2000000 in
set_option maxRecDepth 100000 in
theorem cast_step {ts : List Tok} {R g c : Nat} (X : Ctx ts R g c) (f : Nat) (H : EC ts R g c f) (s : Sg) (w : World) (hR : Rd w R g c ts s) (hf : 32 * rem ts s + 10 ≤ f + 1) : Calls Tryz.prog 231 #[.pointer (some ⟨R, 0, none⟩)] w (TP w R g c ts (E ts (f + 1) .ca s)) := by
  have hXl := X.lt
  have F0 := Hd ((Fr.start hR).node hXl ncz)
  have HNX := Hd fun W (h : Rd W R g c ts s) => next_any X W h
  have hF := fldL (nxt ts s)
  have HUN := Hd fun W (h : Rd W R g c ts s) => H.un s W h (by omega)
  have HSK := Hd fun q W (h : Rd W R g c ts q) => skip_any' X (s := q) [97, 115] (by simp) W h
  have HTY := Hd fun q W (h : Rd W R g c ts q) => typN_any X (s := q) W h
  have hon := rem_on (E_on ts f .un s)
  have HI := Hd fun W q (h : Rd W R g c ts q) => h.hi
  have hlen := X.len
  unfold skp at HSK
  obtain ⟨f1, rfl⟩ : ∃ f1, f = f1 + 1 := ⟨f - 1, by omega⟩
  rw [E]
  have hfu : 32 * rem ts (E ts (f1 + 1) .un s).2 + 1 ≤ f1 + 1 := by omega
  clear H hR hon hf
  generalize E ts (f1 + 1) .un s = P1 at *
  have HL : Hid (((nxt ts s).line : Int) = (ln ts s : Nat)) := Hd rfl
  have hl9 := HL.out
  rw [hl9] at hF
  clear hl9 HL
  generalize ln ts s = L9 at *
  obtain ⟨Z, hZ⟩ : ∃ Z, Z = E ts (f1 + 1) (.cl L9 P1.1) P1.2 := ⟨_, rfl⟩
  rw [← hZ]
  have HZ := Hd hZ
  clear hZ
  go_enter Tryz.func231, Tryz.ntmps231
  go_wp2_with fail
  refine (HNX.out _ F0.out.rd).mono ?_
  rintro e v1 ⟨rfl, hb⟩
  have G1 := Hd (F0.out.quiet hXl hb)
  clear hb
  obtain ⟨hc0, hf0⟩ := G1.out.b0.all
  have hz0 := G1.out.b0.lt
  unfold ncz at hc0
  go_wp2_with fail
  refine (HUN.out _ G1.out.rd).mono ?_
  rintro e v2 ⟨l1, x1, n1, k1, rfl, hT, hr, hs⟩
  clear hc0 hf0 hz0
  have G2 := Hd (G1.out.tree hT hr hs)
  clear hT hr hs
  obtain ⟨hc0, hf0⟩ := G2.out.b0.all
  have hz0 := G2.out.b0.lt
  unfold ncz at hc0
  have hq20 := G2.out.b0.lt
  have G3 := Hd (G2.out.node hXl [.int .i64 l1.kind, .string (str l1.name), .int .u64 l1.num, .int .i64 l1.wd, .bool l1.sg, .int .i64 l1.op, .int .i64 l1.fac, .int .i64 l1.pip, .int .i64 l1.unr, .int .i64 l1.line, .slice x1 n1 k1])
  have h0 : Hid (ClSt ts R g c w w.heap.size v2.heap.size Z L9 _ P1.2) := Hd ⟨P1.1, l1, x1, n1, k1, f1, G3.out, HZ.out, hfu⟩
  have hL01 : w.heap.size < v2.heap.size := hq20
  clear hfu HZ HUN
  go_wp2
  go_loopw [10] (fun _ wr => ∃ st, Hid (ClSt ts R g c w w.heap.size v2.heap.size Z L9 wr st)) (fun _ wr => ts.length - atW wr R)
  case atStart => exact ⟨_, h0⟩
  case round =>
    obtain ⟨st, hT⟩ := hrel
    obtain ⟨t, l2, x2, n2, k2, F, hFr, hZ, hfu2⟩ := hT.out
    have J0 := Hd hFr
    have HZ2 := Hd hZ
    have HS2 := Hd (HSK.out st)
    clear hFr hZ hT h0
    cases hh : hasT ts st [97, 115] with
    | true =>
      have hin := hasT_in hh
      have hra := rem_adv hin
      have hrt := rem_on (tyS_on ts (adv st))
      rw [hh] at HS2
      obtain ⟨F2, rfl⟩ : ∃ F2, F = F2 + 1 := ⟨F - 1, by omega⟩
      have HZ3 : Hid (Z = E ts (F2 + 1) (.cl L9 (.node { labK 24 L9 with wd := (tyV' ts (adv st)).1, sg := (tyV' ts (adv st)).2 } [t])) (tyS ts (adv st))) := Hd (by rw [HZ2.out, E, if_pos hh])
      have hm0 := atW_rd J0.out.rd
      have HHIN := Hd hin
      have hatl := atOf_le (ts := ts) J0.out.rd.hi
      clear hh hin HZ2
      go_wp2_with fail
      refine (HS2.out _ J0.out.rd).mono ?_
      rintro e v5 ⟨rfl, hr, hs⟩
      have G21 := Hd (J0.out.call hr hs)
      clear hr hs
      obtain ⟨hc0, hf0, hz0, hc1, hf1, hz1⟩ := G21.out.l2
      go_wp2
      have GA := Hd G21.out.drew
      have GB := Hd (G21.out.kidz1 hXl v5.heap.size rfl (List.Mem.head _) { labK 24 L9 with wd := (tyV' ts (adv st)).1, sg := (tyV' ts (adv st)).2 }).drew
      go_region_with (go_at_call 117; first | ((with_reducible refine (HTY.out _ _ GA.out.rd).mono ?_); rintro e v6 ⟨rfl, hr, hs⟩; have GA6 := Hd (GA.out.call hr hs); clear hr hs; obtain ⟨hd0, he0, hy0, hd1, he1, hy1⟩ := GA6.out.l2) | ((with_reducible refine (HTY.out _ _ GB.out.rd).mono ?_); rintro e v6 ⟨rfl, hr, hs⟩; have GB6 := Hd (GB.out.call hr hs); clear hr hs; obtain ⟨hd0, he0, hy0, hd1, he1, hy1⟩ := GB6.out.l2))
      all_goals
        first
        | (have G61 := Hd (GA6.out.stor0 hXl rfl (.int .i64 24) (.string ⟨#[]⟩) (.int .u64 0) (.int .i64 ((tyV' ts (adv st)).1 : Int)) (.bool (tyV' ts (adv st)).2) (.int .i64 0) (.int .i64 0) (.int .i64 0) (.int .i64 0) (.int .i64 (L9 : Int)) (.slice (some ⟨v6.heap.size, 0, none⟩) 1 1))
           have G62 := Hd (G61.out.kidz1 hXl v6.heap.size (by simp only [size_setCell, stor11_size]) (List.Mem.head _) { labK 24 L9 with wd := (tyV' ts (adv st)).1, sg := (tyV' ts (adv st)).2 })
           have JE := Hd (G62.out.keepT (Ts' := [([.int .i64 24, .string ⟨#[]⟩, .int .u64 0, .int .i64 ((tyV' ts (adv st)).1 : Int), .bool (tyV' ts (adv st)).2, .int .i64 0, .int .i64 0, .int .i64 0, .int .i64 0, .int .i64 (L9 : Int), .slice (some ⟨v6.heap.size, 0, none⟩) 1 1], .node { labK 24 L9 with wd := (tyV' ts (adv st)).1, sg := (tyV' ts (adv st)).2 } [t])]) (fun p hp => by simp at hp; subst hp; exact List.Mem.head _))
           have hm1 := atW_rd JE.out.rd
           have hma := atOf_adv HHIN.out (tyS_on ts (adv st)) JE.out.rd.hi
           have HN2 : Hid (ClSt ts R g c w w.heap.size v2.heap.size Z L9 _ (tyS ts (adv st))) := Hd ⟨_, { labK 24 L9 with wd := (tyV' ts (adv st)).1, sg := (tyV' ts (adv st)).2 }, some ⟨v6.heap.size, 0, none⟩, 1, 1, F2, JE.out, HZ3.out, by omega⟩
           have hmm : Hid (atW wr R = atOf ts st) := Hd hm0
           have HM1 := Hd hm1
           have HM : Hid (ts.length - atOf ts (tyS ts (adv st)) < ts.length - atOf ts st) := Hd (by omega)
           clear hm0 hm1
           go_wp2
           go_roundw
           case rel => exact ⟨_, HN2⟩
           case measure => (rw [hmm.out]; refine Nat.lt_of_le_of_lt (Nat.le_of_eq ?_) HM.out; exact congrArg (ts.length - ·) HM1.out))
        | (have G61 := Hd (GB6.out.stor0 hXl rfl (.int .i64 24) (.string ⟨#[]⟩) (.int .u64 0) (.int .i64 ((tyV' ts (adv st)).1 : Int)) (.bool (tyV' ts (adv st)).2) (.int .i64 0) (.int .i64 0) (.int .i64 0) (.int .i64 0) (.int .i64 (L9 : Int)) (.slice (some ⟨v5.heap.size, 0, none⟩) 1 1))
           have JE := Hd (G61.out.keepT (Ts' := [([.int .i64 24, .string ⟨#[]⟩, .int .u64 0, .int .i64 ((tyV' ts (adv st)).1 : Int), .bool (tyV' ts (adv st)).2, .int .i64 0, .int .i64 0, .int .i64 0, .int .i64 0, .int .i64 (L9 : Int), .slice (some ⟨v5.heap.size, 0, none⟩) 1 1], .node { labK 24 L9 with wd := (tyV' ts (adv st)).1, sg := (tyV' ts (adv st)).2 } [t])]) (fun p hp => by simp at hp; subst hp; exact List.Mem.head _))
           have hm1 := atW_rd JE.out.rd
           have hma := atOf_adv HHIN.out (tyS_on ts (adv st)) JE.out.rd.hi
           have HN2 : Hid (ClSt ts R g c w w.heap.size v2.heap.size Z L9 _ (tyS ts (adv st))) := Hd ⟨_, { labK 24 L9 with wd := (tyV' ts (adv st)).1, sg := (tyV' ts (adv st)).2 }, some ⟨v5.heap.size, 0, none⟩, 1, 1, F2, JE.out, HZ3.out, by omega⟩
           have hmm : Hid (atW wr R = atOf ts st) := Hd hm0
           have HM1 := Hd hm1
           have HM : Hid (ts.length - atOf ts (tyS ts (adv st)) < ts.length - atOf ts st) := Hd (by omega)
           clear hm0 hm1
           go_wp2
           go_roundw
           case rel => exact ⟨_, HN2⟩
           case measure => (rw [hmm.out]; refine Nat.lt_of_le_of_lt (Nat.le_of_eq ?_) HM.out; exact congrArg (ts.length - ·) HM1.out))
    | false =>
      rw [hh] at HS2
      have HZ3 : Hid (Z = (t, st)) := Hd (by rw [HZ2.out, E, if_neg (by simp [hh])])
      clear hh HZ2
      go_wp2_with fail
      refine (HS2.out _ J0.out.rd).mono ?_
      rintro e v5 ⟨rfl, hr, hs⟩
      have G41 := Hd (J0.out.call hr hs)
      clear hr hs
      obtain ⟨hc0, hf0, hz0, hc1, hf1, hz1⟩ := G41.out.l2
      go_wp2
      have G42 := Hd (G41.out.stoR hXl (List.Mem.tail _ (List.Mem.head _)) rfl (.int .i64 l2.kind) (.string (str l2.name)) (.int .u64 l2.num) (.int .i64 l2.wd) (.bool l2.sg) (.int .i64 l2.op) (.int .i64 l2.fac) (.int .i64 l2.pip) (.int .i64 l2.unr) (.int .i64 l2.line) (.slice x2 n2 k2))
      refine bodyPost_ret (G42.out.b0.res1 Tryz.results231 Tryz.underlying27 rfl infoNd _ rfl) rfl ?_
      exact G42.out.outT (HZ3.out)
end Go.Proofs.YthdbaligapdbeaaGreatDoor
/- The rule binary: contract. -/
namespace Go.Proofs.YthdbaligapdbeaaGreatDoor
open Go Go.RowKit
set_option linter.unusedVariables false
set_option linter.unusedSimpArgs false

def BlSt (ts : List Tok) (R g c : Nat) (w : World) (L0 L1 f : Nat) (Z : Tree × Sg) (lv line : Nat) (wr : World) (st : Sg) : Prop :=
 ∃ (t : Tree) (l : Lab) (x : Option Addr) (n k F : Nat), Fr w wr R g c ts st [(L1, [.int .i64 l.kind, .string (str l.name), .int .u64 l.num, .int .i64 l.wd, .bool l.sg, .int .i64 l.op, .int .i64 l.fac, .int .i64 l.pip, .int .i64 l.unr, .int .i64 l.line, .slice x n k]), (L0, ncz)] [([.int .i64 l.kind, .string (str l.name), .int .u64 l.num, .int .i64 l.wd, .bool l.sg, .int .i64 l.op, .int .i64 l.fac, .int .i64 l.pip, .int .i64 l.unr, .int .i64 l.line, .slice x n k], t)] ∧ Z = E ts (F + 1) (.bl lv line t) st ∧ 32 * rem ts st + 1 ≤ F + 1 ∧ F ≤ f
theorem E_bl_more {ts : List Tok} {F lv line : Nat} {t : Tree} {st : Sg} (ho : ¬ opV ts st lv = 0) (h2 : ¬ lv = 2) : E ts (F + 1) (.bl lv line t) st = E ts F (.bl lv line (.node { labK 22 line with op := opV ts st lv } [t, (E ts F (.bn (lv + 1)) (adv st)).1])) (E ts F (.bn (lv + 1)) (adv st)).2 := by
 rw [E, if_neg ho, if_neg h2]

set_option maxHeartbeats 2000000 in
set_option maxRecDepth 100000 in
theorem binary_step {ts : List Tok} {R g c : Nat} (X : Ctx ts R g c) (f : Nat) (H : ∀ f1, f1 ≤ f → EC ts R g c f1) (lv : Nat) (hlv : lv ≤ 9) (s : Sg) (w : World) (hR : Rd w R g c ts s) (hf : 32 * rem ts s + (20 - lv) ≤ f + 1) : Calls Tryz.prog 224 #[.pointer (some ⟨R, 0, none⟩), .int .i64 (lv : Int)] w (TP w R g c ts (E ts (f + 1) (.bn lv) s)) := by
 have hXl := X.lt
 have F0 := Hd ((Fr.start hR).node hXl ncz)
 by_cases h9 : lv = 9
 ·subst h9
  have HE : Hid (E ts (f + 1) (.bn 9) s = E ts f .ca s) := Hd (by rw [E, if_pos rfl])
  rw [HE.out]
  have HCA := Hd fun W (h : Rd W R g c ts s) => (H f (Nat.le_refl _)).ca s W h (by omega)
  clear HE H hR hf
  go_enter Tryz.func224, Tryz.ntmps224
  go_wp2_with fail
  refine (HCA.out _ F0.out.rd).mono ?_
  rintro e v1 ⟨l1, x1, n1, k1, rfl, hT, hr, hs⟩
  have G1 := Hd (F0.out.tree hT hr hs)
  clear hT hr hs
  obtain ⟨hc0, hf0⟩ := G1.out.b0.all
  have hz0 := G1.out.b0.lt
  unfold ncz at hc0
  go_wp2
  have G2 := Hd (G1.out.stoR hXl (List.Mem.head _) rfl (.int .i64 l1.kind) (.string (str l1.name)) (.int .u64 l1.num) (.int .i64 l1.wd) (.bool l1.sg) (.int .i64 l1.op) (.int .i64 l1.fac) (.int .i64 l1.pip) (.int .i64 l1.unr) (.int .i64 l1.line) (.slice x1 n1 k1))
  refine bodyPost_ret (G2.out.b0.res1 Tryz.results224 Tryz.underlying27 rfl infoNd _ rfl) rfl ?_
  exact G2.out.outT (rfl)
 ·have hl8 : lv ≤ 8 := by omega
  have hcast : ((lv + 1 : Nat) : Int) = (lv : Int) + 1 := by omega
  have HBN : Hid (∀ (q : Sg) (F : Nat) (W : World), F ≤ f → 32 * rem ts q + (20 - (lv + 1)) ≤ F → Rd W R g c ts q → Calls Tryz.prog 224 #[.pointer (some ⟨R, 0, none⟩), .int .i64 ((lv : Int) + 1)] W (TP W R g c ts (E ts F (.bn (lv + 1)) q))) := Hd fun q F W h1 h2 h3 => by
   have := (H F h1).bn (lv + 1) q W (by omega) h3 h2
   rw [hcast] at this
   exact this
  have HNX := Hd fun W (h : Rd W R g c ts s) => next_any X W h
  have hF := fldL (nxt ts s)
  have hwr : IntKind.i64.wrap ((lv : Int) + 1) = (lv : Int) + 1 := IntWalk.i64_in _ (by omega)
  have HWR := Hd hwr
  have q9 : ((lv : Int) == 9) = false := by simp; omega
  have HOP := Hd fun q W (h : Rd W R g c ts q) => oper_any X (s := q) lv (by omega) W h
  have hon := rem_on (E_on ts f (.bn (lv + 1)) s)
  have hlen := X.len
  unfold opS at HOP
  obtain ⟨f1, rfl⟩ : ∃ f1, f = f1 + 1 := ⟨f - 1, by omega⟩
  have HE : Hid (E ts (f1 + 1 + 1) (.bn lv) s = E ts (f1 + 1) (.bl lv (ln ts s) (E ts (f1 + 1) (.bn (lv + 1)) s).1) (E ts (f1 + 1) (.bn (lv + 1)) s).2) := Hd (by rw [E, if_neg h9])
  rw [HE.out]
  have HB1 := Hd fun W (h : Rd W R g c ts s) => HBN.out s (f1 + 1) W (Nat.le_refl _) (by omega) h
  have hfu : 32 * rem ts (E ts (f1 + 1) (.bn (lv + 1)) s).2 + 1 ≤ f1 + 1 := by omega
  clear HE H hR hon hf hcast hwr h9
  generalize E ts (f1 + 1) (.bn (lv + 1)) s = P1 at *
  have HL : Hid (((nxt ts s).line : Int) = (ln ts s : Nat)) := Hd rfl
  have hl9 := HL.out
  rw [hl9] at hF
  clear hl9 HL
  generalize ln ts s = L9 at *
  obtain ⟨Z, hZ⟩ : ∃ Z, Z = E ts (f1 + 1) (.bl lv L9 P1.1) P1.2 := ⟨_, rfl⟩
  rw [← hZ]
  have HZ := Hd hZ
  clear hZ
  go_enter Tryz.func224, Tryz.ntmps224
  go_wp2_with fail
  refine (HNX.out _ F0.out.rd).mono ?_
  rintro e v1 ⟨rfl, hb⟩
  have G1 := Hd (F0.out.quiet hXl hb)
  clear hb
  obtain ⟨hc0, hf0⟩ := G1.out.b0.all
  have hz0 := G1.out.b0.lt
  unfold ncz at hc0
  go_wp2_with fail
  refine (HB1.out _ G1.out.rd).mono ?_
  rintro e v2 ⟨l1, x1, n1, k1, rfl, hT, hr, hs⟩
  clear hc0 hf0 hz0
  have G2 := Hd (G1.out.tree hT hr hs)
  clear hT hr hs
  obtain ⟨hc0, hf0⟩ := G2.out.b0.all
  have hz0 := G2.out.b0.lt
  unfold ncz at hc0
  have hq20 := G2.out.b0.lt
  have G3 := Hd (G2.out.node hXl [.int .i64 l1.kind, .string (str l1.name), .int .u64 l1.num, .int .i64 l1.wd, .bool l1.sg, .int .i64 l1.op, .int .i64 l1.fac, .int .i64 l1.pip, .int .i64 l1.unr, .int .i64 l1.line, .slice x1 n1 k1])
  have h0 : Hid (BlSt ts R g c w w.heap.size v2.heap.size (f1 + 1) Z lv L9 _ P1.2) := Hd ⟨P1.1, l1, x1, n1, k1, f1, G3.out, HZ.out, hfu, by omega⟩
  have hL01 : w.heap.size < v2.heap.size := hq20
  clear hfu HZ HB1
  go_wp2
  go_loopw [19] (fun _ wr => ∃ st, Hid (BlSt ts R g c w w.heap.size v2.heap.size (f1 + 1) Z lv L9 wr st)) (fun _ wr => ts.length - atW wr R)
  case atStart => exact ⟨_, h0⟩
  case round =>
   obtain ⟨st, hT⟩ := hrel
   obtain ⟨t, l2, x2, n2, k2, F, hFr, hZ, hfu2, hFf⟩ := hT.out
   have J0 := Hd hFr
   have HZ2 := Hd hZ
   have HO2 := Hd (HOP.out st)
   clear hFr hZ hT h0
   by_cases ho : opV ts st lv = 0
   ·rw [if_pos ho, ho] at HO2
    have HZ3 : Hid (Z = (t, st)) := Hd (by rw [HZ2.out, E, if_pos ho])
    clear ho HZ2
    go_wp2_with fail
    refine (HO2.out _ J0.out.rd).mono ?_
    rintro e v5 ⟨rfl, hr, hs⟩
    have G41 := Hd (J0.out.call hr hs)
    clear hr hs
    obtain ⟨hc0, hf0, hz0, hc1, hf1, hz1⟩ := G41.out.l2
    go_wp2
    have G42 := Hd (G41.out.stoR hXl (List.Mem.tail _ (List.Mem.head _)) rfl (.int .i64 l2.kind) (.string (str l2.name)) (.int .u64 l2.num) (.int .i64 l2.wd) (.bool l2.sg) (.int .i64 l2.op) (.int .i64 l2.fac) (.int .i64 l2.pip) (.int .i64 l2.unr) (.int .i64 l2.line) (.slice x2 n2 k2))
    refine bodyPost_ret (G42.out.b0.res1 Tryz.results224 Tryz.underlying27 rfl infoNd _ rfl) rfl ?_
    exact G42.out.outT (HZ3.out)
   ·have hin := opV_in ho
    have hra := rem_adv hin
    rw [if_neg ho] at HO2
    have q0 : ((opV ts st lv : Int) == 0) = false := by simp; omega
    have HB2 := Hd fun W (h : Rd W R g c ts (adv st)) => HBN.out (adv st) F W hFf (by omega) h
    have hrt := rem_on (E_on ts F (.bn (lv + 1)) (adv st))
    have HON := Hd (E_on ts F (.bn (lv + 1)) (adv st))
    have hm0 := atW_rd J0.out.rd
    have HHIN := Hd hin
    have hatl := atOf_le (ts := ts) J0.out.rd.hi
    by_cases h2 : lv = 2
    ·have HZ3 : Hid (Z = (.node { labK 22 L9 with op := opV ts st lv } [t, (E ts F (.bn (lv + 1)) (adv st)).1], (E ts F (.bn (lv + 1)) (adv st)).2)) := Hd (by rw [HZ2.out, E, if_neg ho, if_pos h2])
     have q2 : ((lv : Int) == 2) = true := by simp; omega
     clear ho h2 hin HZ2
     generalize E ts F (.bn (lv + 1)) (adv st) = P2 at *
     go_wp2_with fail
     refine (HO2.out _ J0.out.rd).mono ?_
     rintro e v5 ⟨rfl, hr, hs⟩
     have G61 := Hd (J0.out.call hr hs)
     clear hr hs
     obtain ⟨hc0, hf0, hz0, hc1, hf1, hz1⟩ := G61.out.l2
     have hwr := HWR.out
     go_wp2
     have G62 := Hd (G61.out.drew)
     go_region_with (go_at_call 224; refine (HB2.out _ G62.out.rd).mono ?_; rintro e v6 ⟨l3, x3, n3, k3, rfl, hT, hr, hs⟩; have G63 := Hd (G62.out.tree hT hr hs); clear hT hr hs; obtain ⟨hd0, he0, hy0, hd1, he1, hy1⟩ := G63.out.l2)
     all_goals
      clear hwr
      have G64 := Hd (G63.out.stor0 hXl rfl (.int .i64 22) (.string ⟨#[]⟩) (.int .u64 0) (.int .i64 0) (.bool false) (.int .i64 (opV ts st lv : Int)) (.int .i64 0) (.int .i64 0) (.int .i64 0) (.int .i64 (L9 : Int)) (.slice (some ⟨v6.heap.size, 0, none⟩) 2 2))
      go_wp2
      have G65 := Hd (G64.out.stoR hXl (List.Mem.tail _ (List.Mem.head _)) rfl (.int .i64 22) (.string ⟨#[]⟩) (.int .u64 0) (.int .i64 0) (.bool false) (.int .i64 (opV ts st lv : Int)) (.int .i64 0) (.int .i64 0) (.int .i64 0) (.int .i64 (L9 : Int)) (.slice (some ⟨v6.heap.size, 0, none⟩) 2 2))
      have G66 := Hd (G65.out.kidz2 hXl v6.heap.size (by simp only [size_setCell, stor11_size]) (List.Mem.tail _ (List.Mem.head _)) (List.Mem.head _) { labK 22 L9 with op := opV ts st lv } [.int .i64 l2.kind, .string (str l2.name), .int .u64 l2.num, .int .i64 l2.wd, .bool l2.sg, .int .i64 l2.op, .int .i64 l2.fac, .int .i64 l2.pip, .int .i64 l2.unr, .int .i64 l2.line, .slice x2 n2 k2, .int .i64 l3.kind, .string (str l3.name), .int .u64 l3.num, .int .i64 l3.wd, .bool l3.sg, .int .i64 l3.op, .int .i64 l3.fac, .int .i64 l3.pip, .int .i64 l3.unr, .int .i64 l3.line, .slice x3 n3 k3] rfl)
      refine bodyPost_ret (G66.out.b0.res1 Tryz.results224 Tryz.underlying27 rfl infoNd _ rfl) rfl ?_
      exact G66.out.outT (HZ3.out)
    ·obtain ⟨F2, rfl⟩ : ∃ F2, F = F2 + 1 := ⟨F - 1, by omega⟩
     have HZ3 : Hid (Z = E ts (F2 + 1) (.bl lv L9 (.node { labK 22 L9 with op := opV ts st lv } [t, (E ts (F2 + 1) (.bn (lv + 1)) (adv st)).1])) (E ts (F2 + 1) (.bn (lv + 1)) (adv st)).2) := Hd (HZ2.out.trans (E_bl_more ho h2))
     have q2 : ((lv : Int) == 2) = false := by simp; omega
     clear ho h2 hin HZ2
     generalize E ts (F2 + 1) (.bn (lv + 1)) (adv st) = P2 at *
     go_wp2_with fail
     refine (HO2.out _ J0.out.rd).mono ?_
     rintro e v5 ⟨rfl, hr, hs⟩
     have G61 := Hd (J0.out.call hr hs)
     clear hr hs
     obtain ⟨hc0, hf0, hz0, hc1, hf1, hz1⟩ := G61.out.l2
     have hwr := HWR.out
     go_wp2
     have G62 := Hd (G61.out.drew)
     go_region_with (go_at_call 224; refine (HB2.out _ G62.out.rd).mono ?_; rintro e v6 ⟨l3, x3, n3, k3, rfl, hT, hr, hs⟩; have G63 := Hd (G62.out.tree hT hr hs); clear hT hr hs; obtain ⟨hd0, he0, hy0, hd1, he1, hy1⟩ := G63.out.l2)
     all_goals
      clear hwr
      have G64 := Hd (G63.out.stor0 hXl rfl (.int .i64 22) (.string ⟨#[]⟩) (.int .u64 0) (.int .i64 0) (.bool false) (.int .i64 (opV ts st lv : Int)) (.int .i64 0) (.int .i64 0) (.int .i64 0) (.int .i64 (L9 : Int)) (.slice (some ⟨v6.heap.size, 0, none⟩) 2 2))
      have G65 := Hd (G64.out.kidz2 hXl v6.heap.size (by simp only [size_setCell, stor11_size]) (List.Mem.tail _ (List.Mem.head _)) (List.Mem.head _) { labK 22 L9 with op := opV ts st lv } [.int .i64 l2.kind, .string (str l2.name), .int .u64 l2.num, .int .i64 l2.wd, .bool l2.sg, .int .i64 l2.op, .int .i64 l2.fac, .int .i64 l2.pip, .int .i64 l2.unr, .int .i64 l2.line, .slice x2 n2 k2, .int .i64 l3.kind, .string (str l3.name), .int .u64 l3.num, .int .i64 l3.wd, .bool l3.sg, .int .i64 l3.op, .int .i64 l3.fac, .int .i64 l3.pip, .int .i64 l3.unr, .int .i64 l3.line, .slice x3 n3 k3] rfl)
      have JE := Hd (G65.out.keepT (Ts' := [([.int .i64 22, .string ⟨#[]⟩, .int .u64 0, .int .i64 0, .bool false, .int .i64 (opV ts st lv : Int), .int .i64 0, .int .i64 0, .int .i64 0, .int .i64 (L9 : Int), .slice (some ⟨v6.heap.size, 0, none⟩) 2 2], .node { labK 22 L9 with op := opV ts st lv } [t, P2.1])]) (fun p hp => by simp at hp; subst hp; exact List.Mem.head _))
      have hm1 := atW_rd JE.out.rd
      have hma := atOf_adv HHIN.out HON.out JE.out.rd.hi
      have HN2 : Hid (BlSt ts R g c w w.heap.size v2.heap.size (f1 + 1) Z lv L9 _ P2.2) := Hd ⟨_, { labK 22 L9 with op := opV ts st lv }, some ⟨v6.heap.size, 0, none⟩, 2, 2, F2, JE.out, HZ3.out, by omega, by omega⟩
      have hmm : Hid (atW wr R = atOf ts st) := Hd hm0
      have HM1 := Hd hm1
      have HM : Hid (ts.length - atOf ts P2.2 < ts.length - atOf ts st) := Hd (by omega)
      clear hm0 hm1
      go_wp2
      go_roundw
      case rel => exact ⟨_, HN2⟩
      case measure => (rw [hmm.out]; refine Nat.lt_of_le_of_lt (Nat.le_of_eq ?_) HM.out; exact congrArg (ts.length - ·) HM1.out)
end Go.Proofs.YthdbaligapdbeaaGreatDoor
