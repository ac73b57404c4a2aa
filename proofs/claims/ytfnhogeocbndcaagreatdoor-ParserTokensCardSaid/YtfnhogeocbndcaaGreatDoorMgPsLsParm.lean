/- The rule for lists in round brackets: contract, over the rule scalar. -/
import Derived.Test.YtfnhogeocbndcaaGreatDoorMgPsLsExpr
namespace Go.Proofs.YtfnhogeocbndcaaGreatDoor
open Go Go.RowKit
set_option linter.unusedVariables false

set_option maxHeartbeats 2000000 in
set_option maxRecDepth 100000 in
theorem list_scalar {ts : List Tok} {R g c : Nat} (X : Ctx ts R g c) (item : Sg → Tree × Sg) (hOn : ∀ s, On ts s (item s).2) (s : Sg) (F : Nat) (hF : rem ts (exc ts s [40]) + 1 ≤ F)
    (HI : ∀ q w, On ts (exc ts s [40]) q → Rd w R g c ts q → Calls Tryz.prog 96 #[.pointer (some ⟨R, 0, none⟩)] w (TP w R g c ts (item q))) (w : World) (hR : Rd w R g c ts s) :
    Calls Tryz.prog 95 #[.pointer (some ⟨R, 0, none⟩), .func (Fn.func 96) #[.pointer (some ⟨R, 0, none⟩)] #[]] w (LP w R g c ts (listM ts item F s)) := by
  have hXl := X.lt
  have hRl := hR.lt
  have HEX := Lib.hid fun q W (h : Rd W R g c ts q) => expect_any X (s := q) [40] (by simp) W h
  have HEY := Lib.hid fun q W (h : Rd W R g c ts q) => expect_any X (s := q) [41] (by simp) W h
  have HSK := Lib.hid fun q W (h : Rd W R g c ts q) => skip_any' X (s := q) [41] (by simp) W h
  have HSC := Lib.hid fun q W (h : Rd W R g c ts q) => skip_any' X (s := q) [44] (by simp) W h
  have HIT := Lib.hid HI
  have HR := Lib.hid hR
  unfold skp at HSK HSC
  clear hR HI
  cases hh : hasT ts (exc ts s [40]) [41] with
  | true =>
    rw [listM_shut hh]
    have HSK2 := Lib.hid (HSK.out (exc ts s [40]))
    rw [hh] at HSK2
    clear hh HSK HSC HEY HIT
    go_enter Tryz.func95, Tryz.ntmps95
    go_wp2_with fail
    refine (HEX.out s _ HR.out).mono ?_
    rintro e w1 ⟨rfl, hr, hs⟩
    have H1 := Lib.hid (And.intro hr hs)
    clear hr hs
    go_wp2_with fail
    refine (HSK2.out _ H1.out.1).mono ?_
    rintro e w2 ⟨rfl, hr, hs⟩
    have H2 := Lib.hid (And.intro hr (St.trans H1.out.2 hs))
    clear hr hs H1 HSK2
    go_wp2
    go_ret
    exact ⟨_, rfl, kids_nil _ _, H2.out.1, H2.out.2⟩
  | false =>
    rw [listM_open hh]
    have HSK2 := Lib.hid (HSK.out (exc ts s [40]))
    rw [hh] at HSK2
    have hon1 : On ts s (exc ts s [40]) := exc_on
    obtain ⟨X0, hX0⟩ : ∃ X0, X0 = more ts item F [(item (exc ts s [40])).1] (item (exc ts s [40])).2 := ⟨_, rfl⟩
    rw [← hX0]
    have HX0 := Lib.hid hX0
    have HF := Lib.hid hF
    have hlen := X.len
    clear hh HSK hX0 hF
    go_enter Tryz.func95, Tryz.ntmps95
    go_wp2_with fail
    refine (HEX.out s _ HR.out).mono ?_
    rintro e w1 ⟨rfl, hr, hs⟩
    have H1 := Lib.hid (And.intro hr hs)
    clear hr hs
    go_wp2_with fail
    refine (HSK2.out _ H1.out.1).mono ?_
    rintro e w2 ⟨rfl, hr, hs⟩
    have H2 := Lib.hid (And.intro hr (St.trans H1.out.2 hs))
    clear hr hs H1 HSK2
    go_wp2_with fail
    refine (HIT.out (exc ts s [40]) _ (On.refl _ _) H2.out.1).mono ?_
    rintro e w3 ⟨l1, x1, n1, k1, rfl, hT, hr, hs⟩
    have hw3 : w.heap.size ≤ w3.heap.size := Nat.le_trans (St.size H2.out.2) (St.size hs)
    have hrem : rem ts (item (exc ts s [40])).2 ≤ ts.length := by unfold rem; split <;> omega
    have hrem2 := rem_on (hOn (exc ts s [40]))
    have h0 : Hid (LsSt ts R g c item (ts.length + 1) X0 w (w3.alloc (.cells #[.int .i64 l1.kind, .string (str l1.name), .int .u64 l1.num, .int .i64 l1.wd, .bool l1.sg, .int .i64 l1.op, .int .i64 l1.fac, .int .i64 l1.pip, .int .i64 l1.unr, .int .i64 l1.line, .slice x1 n1 k1] 28)) (.slice (some ⟨w3.heap.size, 0, none⟩) 1 1) [(item (exc ts s [40])).1] (item (exc ts s [40])).2) := by
      refine ⟨kids_one (hT.mono fun k hk _ => Nat.le_trans (St.size H2.out.2) hk) hw3, hr.alloc hXl _, (St.trans H2.out.2 hs).alloc _, ⟨F - 1, by have := HF.out; omega, ?_⟩, by simp; omega⟩
      rw [HX0.out]
      congr 1
      have := HF.out
      omega
    have HONI : Hid (On ts (exc ts s [40]) (item (exc ts s [40])).2) := Lib.hid (hOn _)
    clear hr hs hT H2 HX0 HEX hrem2
    go_wp2
    go_loopw [5] (fun v wr => ∃ acc q, slen v = acc.length ∧ Hid (LsSt ts R g c item (ts.length + 1) X0 w wr v acc q ∧ On ts (exc ts s [40]) q)) (fun v _ => ts.length + 1 - slen v)
    case atStart => exact ⟨_, _, rfl, ⟨h0.out, HONI.out⟩⟩
    case round =>
      clear h0 HONI
      obtain ⟨acc, q, hlen5, hL⟩ := hrel
      obtain ⟨m, hm, hX⟩ := hL.out.1.eq
      have hfew := hL.out.1.few
      obtain ⟨xa, ca, hsh⟩ := hL.out.1.kd.shape
      subst hsh
      cases hh : hasT ts q [44] with
      | true =>
        have hin := hasT_in hh
        have hra := rem_adv hin
        have hri := rem_on (hOn (adv q))
        have HX : Hid (X0 = more ts item m (acc ++ [(item (adv q)).1]) (item (adv q)).2) := Lib.hid (by rw [hX, more, if_pos hh])
        have HONQ : Hid (On ts (exc ts s [40]) (adv q)) := Lib.hid (hL.out.2.trans (adv_on hin))
        have HSK3 := Lib.hid (HSC.out q)
        rw [hh] at HSK3
        clear hX hh hin
        go_wp2_with fail
        refine (HSK3.out _ hL.out.1.rd).mono ?_
        rintro e w4 ⟨rfl, hr, hs⟩
        have H4 := Lib.hid (And.intro hr hs)
        clear hr hs HSK3
        go_wp2_with fail
        refine (HIT.out (adv q) _ HONQ.out H4.out.1).mono ?_
        rintro e w5 ⟨l2, x2, n2, k2, rfl, hT, hr, hs⟩
        have HT5 := Lib.hid hT
        have hs45 : St wr w5 R := St.trans H4.out.2 hs
        obtain ⟨C, o1, o2⟩ := St.kids H4.out.2 hL.out.1.kd hRl
        have o5 : w5.ownsRow w.heap.size 28 11 (.slice xa acc.length ca) acc.length (flat C acc.length) := o1.kept hs (by
          right
          intro e
          have := (o1.lt R e).1
          omega)
        have hown := o5.alloc (.cells #[.int .i64 l2.kind, .string (str l2.name), .int .u64 l2.num, .int .i64 l2.wd, .bool l2.sg, .int .i64 l2.op, .int .i64 l2.fac, .int .i64 l2.pip, .int .i64 l2.unr, .int .i64 l2.line, .slice x2 n2 k2] 28)
        have hszw := St.size hL.out.1.st
        have hsz4 := St.size H4.out.2
        have hsz5 := St.size hs
        obtain ⟨i0, hi0, hz0, hz1, hz2⟩ := info_parts infoNd2
        have hnew : Hid (∀ (w6 : World) (g3 c3 : Nat), w6.ownsRow w.heap.size 28 11 (.slice (some ⟨g3, 0, none⟩) (acc.length + 1) c3) (acc.length + 1) (flat C acc.length ++ [.int .i64 l2.kind, .string (str l2.name), .int .u64 l2.num, .int .i64 l2.wd, .bool l2.sg, .int .i64 l2.op, .int .i64 l2.fac, .int .i64 l2.pip, .int .i64 l2.unr, .int .i64 l2.line, .slice x2 n2 k2]) →
            (w5.alloc (.cells #[.int .i64 l2.kind, .string (str l2.name), .int .u64 l2.num, .int .i64 l2.wd, .bool l2.sg, .int .i64 l2.op, .int .i64 l2.fac, .int .i64 l2.pip, .int .i64 l2.unr, .int .i64 l2.line, .slice x2 n2 k2] 28)).grownBy w6 (Value.slice xa acc.length ca).ownBlock → ((Value.slice xa acc.length ca).ownBlock = some g3 ∨ g3 = w5.heap.size + 1) →
            LsSt ts R g c item (ts.length + 1) X0 w w6 (.slice (some ⟨g3, 0, none⟩) (acc.length + 1) c3) (acc ++ [(item (adv q)).1]) (item (adv q)).2) := Lib.hid fun w6 g3 c3 ho hg hl => by
          have hgo : ∀ k, (Value.slice xa acc.length ca).ownBlock = some k → w.heap.size ≤ k ∧ k < w4.heap.size := fun k hk => o1.lt k hk
          have hza : (w5.alloc (.cells #[.int .i64 l2.kind, .string (str l2.name), .int .u64 l2.num, .int .i64 l2.wd, .bool l2.sg, .int .i64 l2.op, .int .i64 l2.fac, .int .i64 l2.pip, .int .i64 l2.unr, .int .i64 l2.line, .slice x2 n2 k2] 28)).heap.size = w5.heap.size + 1 := by simp
          refine ⟨?_, ?_, ?_, ?_, ?_⟩
          · refine kids_push (w0 := w4) (C := C) (w := w5.alloc (.cells #[.int .i64 l2.kind, .string (str l2.name), .int .u64 l2.num, .int .i64 l2.wd, .bool l2.sg, .int .i64 l2.op, .int .i64 l2.fac, .int .i64 l2.pip, .int .i64 l2.unr, .int .i64 l2.line, .slice x2 n2 k2] 28)) o1 o2 (fun k hk hlt => ?_) (by omega) (by omega) (HT5.out.keep (fun k _ hk => Below.heap_alloc w5 _ k hk) fun k hk _ => hk) hg ?_ ho
            · exact (Below.heap_alloc w5 _ k (by omega)).trans (World.grownBy.block hs k hlt (fun e => by injection e with e; omega))
            · rcases hl with hl | hl
              · exact .inl hl
              · exact .inr (by omega)
          · exact (hr.alloc hXl _).own hXl hg fun k hk => by have := (hgo k hk).1; omega
          · exact St.own ((St.trans hL.out.1.st hs45).alloc _) hg fun k hk => (hgo k hk).1
          · refine ⟨m - 1, by omega, ?_⟩
            rw [HX.out]
            congr 1
            omega
          · rw [List.length_append]; simp; omega
        have hal : acc.length ≤ 65537 := by omega
        have HONN : Hid (On ts (exc ts s [40]) (item (adv q)).2) := Lib.hid (HONQ.out.trans (hOn _))
        have hmeas : acc.length < ts.length + 1 := by omega
        clear hr hs hT o1 o2 o5 HIT hs45 H4 HX hm hri hra HSC
        go_wp2_with (at_builtin; refine wpList_append_lies (w := w5.alloc (.cells #[.int .i64 l2.kind, .string (str l2.name), .int .u64 l2.num, .int .i64 l2.wd, .bool l2.sg, .int .i64 l2.op, .int .i64 l2.fac, .int .i64 l2.pip, .int .i64 l2.unr, .int .i64 l2.line, .slice x2 n2 k2] 28)) (by rfl) _ _ _ (by rfl) w.heap.size 28 i0 (.agg #[.int .i64 0, .string ⟨#[]⟩, .int .u64 0, .int .i64 0, .bool false, .int .i64 0, .int .i64 0, .int .i64 0, .int .i64 0, .int .i64 0, .slice none 0 0]) 11 112 Tryz.underlying26 hi0 hz0 hz1 hz2 (by rfl) (by decide) (.slice xa acc.length ca) acc.length (flat C acc.length) (by rfl) hown ⟨w5.heap.size, 0, none⟩ 1 1 [.int .i64 l2.kind, .string (str l2.name), .int .u64 l2.num, .int .i64 l2.wd, .bool l2.sg, .int .i64 l2.op, .int .i64 l2.fac, .int .i64 l2.pip, .int .i64 l2.unr, .int .i64 l2.line, .slice x2 n2 k2] (by simp [Act.eval]) (by rfl) (World.news_of_block (cs := #[.int .i64 l2.kind, .string (str l2.name), .int .u64 l2.num, .int .i64 l2.wd, .bool l2.sg, .int .i64 l2.op, .int .i64 l2.fac, .int .i64 l2.pip, .int .i64 l2.unr, .int .i64 l2.line, .slice x2 n2 k2]) (t := 28) (fr := (0, 0)) (heap_alloc_new w5 _)) (by intro z hz; simp at hz; rcases hz with rfl | rfl | rfl | rfl | rfl | rfl | rfl | rfl | rfl | rfl | rfl <;> rfl) (by decide) (by unfold maxLen; omega) (by omega) (by simp; omega) (w5.heap.size + 1) (by simp) ?_; intro g3 c3 w6 ho3 hg3 hat3 hlt3)
        have HX6 := Lib.hid (hnew.out w6 g3 c3 ho3 hg3 hat3)
        clear ho3 hg3 hat3 hlt3 hnew hown
        go_wp2
        go_roundw
        case rel => exact ⟨_, _, by simp [slen], ⟨HX6.out, HONN.out⟩⟩
        case measure => simp [slen]; omega
      | false =>
        have HX : Hid (X0 = (acc, q)) := Lib.hid (by rw [hX, more, if_neg (by simp [hh])])
        have HSK3 := Lib.hid (HSC.out q)
        rw [hh] at HSK3
        clear hX hh
        go_wp2_with fail
        refine (HSK3.out _ hL.out.1.rd).mono ?_
        rintro e w4 ⟨rfl, hr, hs⟩
        have hkd := St.kids hs hL.out.1.kd hRl
        have H4 := Lib.hid (And.intro hkd (And.intro hr (St.trans hL.out.1.st hs)))
        clear hr hs HSK3 hkd
        go_wp2_with fail
        refine (HEY.out q _ H4.out.2.1).mono ?_
        rintro e w5 ⟨rfl, hr, hs⟩
        have hkd := St.kids hs H4.out.1 hRl
        have H5 := Lib.hid (And.intro hkd (And.intro hr (St.trans H4.out.2.2 hs)))
        clear hr hs hkd
        go_wp2
        go_ret
        rw [HX.out]
        exact ⟨_, rfl, H5.out.1, H5.out.2.1, H5.out.2.2⟩
end Go.Proofs.YtfnhogeocbndcaaGreatDoor
/- The rule for lists in round brackets: contract, over the rule param. -/
namespace Go.Proofs.YtfnhogeocbndcaaGreatDoor
open Go Go.RowKit
set_option linter.unusedVariables false

set_option maxHeartbeats 2000000 in
set_option maxRecDepth 100000 in
theorem list_param {ts : List Tok} {R g c : Nat} (X : Ctx ts R g c) (item : Sg → Tree × Sg) (hOn : ∀ s, On ts s (item s).2) (s : Sg) (F : Nat) (hF : rem ts (exc ts s [40]) + 1 ≤ F)
    (HI : ∀ q w, On ts (exc ts s [40]) q → Rd w R g c ts q → Calls Tryz.prog 99 #[.pointer (some ⟨R, 0, none⟩)] w (TP w R g c ts (item q))) (w : World) (hR : Rd w R g c ts s) :
    Calls Tryz.prog 95 #[.pointer (some ⟨R, 0, none⟩), .func (Fn.func 99) #[.pointer (some ⟨R, 0, none⟩)] #[]] w (LP w R g c ts (listM ts item F s)) := by
  have hXl := X.lt
  have hRl := hR.lt
  have HEX := Lib.hid fun q W (h : Rd W R g c ts q) => expect_any X (s := q) [40] (by simp) W h
  have HEY := Lib.hid fun q W (h : Rd W R g c ts q) => expect_any X (s := q) [41] (by simp) W h
  have HSK := Lib.hid fun q W (h : Rd W R g c ts q) => skip_any' X (s := q) [41] (by simp) W h
  have HSC := Lib.hid fun q W (h : Rd W R g c ts q) => skip_any' X (s := q) [44] (by simp) W h
  have HIT := Lib.hid HI
  have HR := Lib.hid hR
  unfold skp at HSK HSC
  clear hR HI
  cases hh : hasT ts (exc ts s [40]) [41] with
  | true =>
    rw [listM_shut hh]
    have HSK2 := Lib.hid (HSK.out (exc ts s [40]))
    rw [hh] at HSK2
    clear hh HSK HSC HEY HIT
    go_enter Tryz.func95, Tryz.ntmps95
    go_wp2_with fail
    refine (HEX.out s _ HR.out).mono ?_
    rintro e w1 ⟨rfl, hr, hs⟩
    have H1 := Lib.hid (And.intro hr hs)
    clear hr hs
    go_wp2_with fail
    refine (HSK2.out _ H1.out.1).mono ?_
    rintro e w2 ⟨rfl, hr, hs⟩
    have H2 := Lib.hid (And.intro hr (St.trans H1.out.2 hs))
    clear hr hs H1 HSK2
    go_wp2
    go_ret
    exact ⟨_, rfl, kids_nil _ _, H2.out.1, H2.out.2⟩
  | false =>
    rw [listM_open hh]
    have HSK2 := Lib.hid (HSK.out (exc ts s [40]))
    rw [hh] at HSK2
    have hon1 : On ts s (exc ts s [40]) := exc_on
    obtain ⟨X0, hX0⟩ : ∃ X0, X0 = more ts item F [(item (exc ts s [40])).1] (item (exc ts s [40])).2 := ⟨_, rfl⟩
    rw [← hX0]
    have HX0 := Lib.hid hX0
    have HF := Lib.hid hF
    have hlen := X.len
    clear hh HSK hX0 hF
    go_enter Tryz.func95, Tryz.ntmps95
    go_wp2_with fail
    refine (HEX.out s _ HR.out).mono ?_
    rintro e w1 ⟨rfl, hr, hs⟩
    have H1 := Lib.hid (And.intro hr hs)
    clear hr hs
    go_wp2_with fail
    refine (HSK2.out _ H1.out.1).mono ?_
    rintro e w2 ⟨rfl, hr, hs⟩
    have H2 := Lib.hid (And.intro hr (St.trans H1.out.2 hs))
    clear hr hs H1 HSK2
    go_wp2_with fail
    refine (HIT.out (exc ts s [40]) _ (On.refl _ _) H2.out.1).mono ?_
    rintro e w3 ⟨l1, x1, n1, k1, rfl, hT, hr, hs⟩
    have hw3 : w.heap.size ≤ w3.heap.size := Nat.le_trans (St.size H2.out.2) (St.size hs)
    have hrem : rem ts (item (exc ts s [40])).2 ≤ ts.length := by unfold rem; split <;> omega
    have hrem2 := rem_on (hOn (exc ts s [40]))
    have h0 : Hid (LsSt ts R g c item (ts.length + 1) X0 w (w3.alloc (.cells #[.int .i64 l1.kind, .string (str l1.name), .int .u64 l1.num, .int .i64 l1.wd, .bool l1.sg, .int .i64 l1.op, .int .i64 l1.fac, .int .i64 l1.pip, .int .i64 l1.unr, .int .i64 l1.line, .slice x1 n1 k1] 28)) (.slice (some ⟨w3.heap.size, 0, none⟩) 1 1) [(item (exc ts s [40])).1] (item (exc ts s [40])).2) := by
      refine ⟨kids_one (hT.mono fun k hk _ => Nat.le_trans (St.size H2.out.2) hk) hw3, hr.alloc hXl _, (St.trans H2.out.2 hs).alloc _, ⟨F - 1, by have := HF.out; omega, ?_⟩, by simp; omega⟩
      rw [HX0.out]
      congr 1
      have := HF.out
      omega
    have HONI : Hid (On ts (exc ts s [40]) (item (exc ts s [40])).2) := Lib.hid (hOn _)
    clear hr hs hT H2 HX0 HEX hrem2
    go_wp2
    go_loopw [5] (fun v wr => ∃ acc q, slen v = acc.length ∧ Hid (LsSt ts R g c item (ts.length + 1) X0 w wr v acc q ∧ On ts (exc ts s [40]) q)) (fun v _ => ts.length + 1 - slen v)
    case atStart => exact ⟨_, _, rfl, ⟨h0.out, HONI.out⟩⟩
    case round =>
      clear h0 HONI
      obtain ⟨acc, q, hlen5, hL⟩ := hrel
      obtain ⟨m, hm, hX⟩ := hL.out.1.eq
      have hfew := hL.out.1.few
      obtain ⟨xa, ca, hsh⟩ := hL.out.1.kd.shape
      subst hsh
      cases hh : hasT ts q [44] with
      | true =>
        have hin := hasT_in hh
        have hra := rem_adv hin
        have hri := rem_on (hOn (adv q))
        have HX : Hid (X0 = more ts item m (acc ++ [(item (adv q)).1]) (item (adv q)).2) := Lib.hid (by rw [hX, more, if_pos hh])
        have HONQ : Hid (On ts (exc ts s [40]) (adv q)) := Lib.hid (hL.out.2.trans (adv_on hin))
        have HSK3 := Lib.hid (HSC.out q)
        rw [hh] at HSK3
        clear hX hh hin
        go_wp2_with fail
        refine (HSK3.out _ hL.out.1.rd).mono ?_
        rintro e w4 ⟨rfl, hr, hs⟩
        have H4 := Lib.hid (And.intro hr hs)
        clear hr hs HSK3
        go_wp2_with fail
        refine (HIT.out (adv q) _ HONQ.out H4.out.1).mono ?_
        rintro e w5 ⟨l2, x2, n2, k2, rfl, hT, hr, hs⟩
        have HT5 := Lib.hid hT
        have hs45 : St wr w5 R := St.trans H4.out.2 hs
        obtain ⟨C, o1, o2⟩ := St.kids H4.out.2 hL.out.1.kd hRl
        have o5 : w5.ownsRow w.heap.size 28 11 (.slice xa acc.length ca) acc.length (flat C acc.length) := o1.kept hs (by
          right
          intro e
          have := (o1.lt R e).1
          omega)
        have hown := o5.alloc (.cells #[.int .i64 l2.kind, .string (str l2.name), .int .u64 l2.num, .int .i64 l2.wd, .bool l2.sg, .int .i64 l2.op, .int .i64 l2.fac, .int .i64 l2.pip, .int .i64 l2.unr, .int .i64 l2.line, .slice x2 n2 k2] 28)
        have hszw := St.size hL.out.1.st
        have hsz4 := St.size H4.out.2
        have hsz5 := St.size hs
        obtain ⟨i0, hi0, hz0, hz1, hz2⟩ := info_parts infoNd2
        have hnew : Hid (∀ (w6 : World) (g3 c3 : Nat), w6.ownsRow w.heap.size 28 11 (.slice (some ⟨g3, 0, none⟩) (acc.length + 1) c3) (acc.length + 1) (flat C acc.length ++ [.int .i64 l2.kind, .string (str l2.name), .int .u64 l2.num, .int .i64 l2.wd, .bool l2.sg, .int .i64 l2.op, .int .i64 l2.fac, .int .i64 l2.pip, .int .i64 l2.unr, .int .i64 l2.line, .slice x2 n2 k2]) →
            (w5.alloc (.cells #[.int .i64 l2.kind, .string (str l2.name), .int .u64 l2.num, .int .i64 l2.wd, .bool l2.sg, .int .i64 l2.op, .int .i64 l2.fac, .int .i64 l2.pip, .int .i64 l2.unr, .int .i64 l2.line, .slice x2 n2 k2] 28)).grownBy w6 (Value.slice xa acc.length ca).ownBlock → ((Value.slice xa acc.length ca).ownBlock = some g3 ∨ g3 = w5.heap.size + 1) →
            LsSt ts R g c item (ts.length + 1) X0 w w6 (.slice (some ⟨g3, 0, none⟩) (acc.length + 1) c3) (acc ++ [(item (adv q)).1]) (item (adv q)).2) := Lib.hid fun w6 g3 c3 ho hg hl => by
          have hgo : ∀ k, (Value.slice xa acc.length ca).ownBlock = some k → w.heap.size ≤ k ∧ k < w4.heap.size := fun k hk => o1.lt k hk
          have hza : (w5.alloc (.cells #[.int .i64 l2.kind, .string (str l2.name), .int .u64 l2.num, .int .i64 l2.wd, .bool l2.sg, .int .i64 l2.op, .int .i64 l2.fac, .int .i64 l2.pip, .int .i64 l2.unr, .int .i64 l2.line, .slice x2 n2 k2] 28)).heap.size = w5.heap.size + 1 := by simp
          refine ⟨?_, ?_, ?_, ?_, ?_⟩
          · refine kids_push (w0 := w4) (C := C) (w := w5.alloc (.cells #[.int .i64 l2.kind, .string (str l2.name), .int .u64 l2.num, .int .i64 l2.wd, .bool l2.sg, .int .i64 l2.op, .int .i64 l2.fac, .int .i64 l2.pip, .int .i64 l2.unr, .int .i64 l2.line, .slice x2 n2 k2] 28)) o1 o2 (fun k hk hlt => ?_) (by omega) (by omega) (HT5.out.keep (fun k _ hk => Below.heap_alloc w5 _ k hk) fun k hk _ => hk) hg ?_ ho
            · exact (Below.heap_alloc w5 _ k (by omega)).trans (World.grownBy.block hs k hlt (fun e => by injection e with e; omega))
            · rcases hl with hl | hl
              · exact .inl hl
              · exact .inr (by omega)
          · exact (hr.alloc hXl _).own hXl hg fun k hk => by have := (hgo k hk).1; omega
          · exact St.own ((St.trans hL.out.1.st hs45).alloc _) hg fun k hk => (hgo k hk).1
          · refine ⟨m - 1, by omega, ?_⟩
            rw [HX.out]
            congr 1
            omega
          · rw [List.length_append]; simp; omega
        have hal : acc.length ≤ 65537 := by omega
        have HONN : Hid (On ts (exc ts s [40]) (item (adv q)).2) := Lib.hid (HONQ.out.trans (hOn _))
        have hmeas : acc.length < ts.length + 1 := by omega
        clear hr hs hT o1 o2 o5 HIT hs45 H4 HX hm hri hra HSC
        go_wp2_with (at_builtin; refine wpList_append_lies (w := w5.alloc (.cells #[.int .i64 l2.kind, .string (str l2.name), .int .u64 l2.num, .int .i64 l2.wd, .bool l2.sg, .int .i64 l2.op, .int .i64 l2.fac, .int .i64 l2.pip, .int .i64 l2.unr, .int .i64 l2.line, .slice x2 n2 k2] 28)) (by rfl) _ _ _ (by rfl) w.heap.size 28 i0 (.agg #[.int .i64 0, .string ⟨#[]⟩, .int .u64 0, .int .i64 0, .bool false, .int .i64 0, .int .i64 0, .int .i64 0, .int .i64 0, .int .i64 0, .slice none 0 0]) 11 112 Tryz.underlying26 hi0 hz0 hz1 hz2 (by rfl) (by decide) (.slice xa acc.length ca) acc.length (flat C acc.length) (by rfl) hown ⟨w5.heap.size, 0, none⟩ 1 1 [.int .i64 l2.kind, .string (str l2.name), .int .u64 l2.num, .int .i64 l2.wd, .bool l2.sg, .int .i64 l2.op, .int .i64 l2.fac, .int .i64 l2.pip, .int .i64 l2.unr, .int .i64 l2.line, .slice x2 n2 k2] (by simp [Act.eval]) (by rfl) (World.news_of_block (cs := #[.int .i64 l2.kind, .string (str l2.name), .int .u64 l2.num, .int .i64 l2.wd, .bool l2.sg, .int .i64 l2.op, .int .i64 l2.fac, .int .i64 l2.pip, .int .i64 l2.unr, .int .i64 l2.line, .slice x2 n2 k2]) (t := 28) (fr := (0, 0)) (heap_alloc_new w5 _)) (by intro z hz; simp at hz; rcases hz with rfl | rfl | rfl | rfl | rfl | rfl | rfl | rfl | rfl | rfl | rfl <;> rfl) (by decide) (by unfold maxLen; omega) (by omega) (by simp; omega) (w5.heap.size + 1) (by simp) ?_; intro g3 c3 w6 ho3 hg3 hat3 hlt3)
        have HX6 := Lib.hid (hnew.out w6 g3 c3 ho3 hg3 hat3)
        clear ho3 hg3 hat3 hlt3 hnew hown
        go_wp2
        go_roundw
        case rel => exact ⟨_, _, by simp [slen], ⟨HX6.out, HONN.out⟩⟩
        case measure => simp [slen]; omega
      | false =>
        have HX : Hid (X0 = (acc, q)) := Lib.hid (by rw [hX, more, if_neg (by simp [hh])])
        have HSK3 := Lib.hid (HSC.out q)
        rw [hh] at HSK3
        clear hX hh
        go_wp2_with fail
        refine (HSK3.out _ hL.out.1.rd).mono ?_
        rintro e w4 ⟨rfl, hr, hs⟩
        have hkd := St.kids hs hL.out.1.kd hRl
        have H4 := Lib.hid (And.intro hkd (And.intro hr (St.trans hL.out.1.st hs)))
        clear hr hs HSK3 hkd
        go_wp2_with fail
        refine (HEY.out q _ H4.out.2.1).mono ?_
        rintro e w5 ⟨rfl, hr, hs⟩
        have hkd := St.kids hs H4.out.1 hRl
        have H5 := Lib.hid (And.intro hkd (And.intro hr (St.trans H4.out.2.2 hs)))
        clear hr hs hkd
        go_wp2
        go_ret
        rw [HX.out]
        exact ⟨_, rfl, H5.out.1, H5.out.2.1, H5.out.2.2⟩
end Go.Proofs.YtfnhogeocbndcaaGreatDoor
