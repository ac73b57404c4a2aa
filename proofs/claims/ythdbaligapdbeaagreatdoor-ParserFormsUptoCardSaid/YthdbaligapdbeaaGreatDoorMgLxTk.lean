/- The reference's tokens: contract. -/
import Derived.Test.YthdbaligapdbeaaGreatDoorMgLxWd
import Derived.Test.YthdbaligapdbeaaGreatDoorMgPsLaid
import Derived.Test.YthdbaligapdbeaaGreatDoorMgLxTk0
namespace Go.Proofs.YthdbaligapdbeaaGreatDoor
open Go Go.RowKit
set_option linter.unusedVariables false

theorem lf_split {l : List UInt8} {s d a : Nat} (h1 : s ≤ d) (h2 : d ≤ a) : lineFeeds ((l.drop s).take (a - s)) = lineFeeds ((l.drop s).take (d - s)) + lineFeeds ((l.drop d).take (a - d)) := by
 have e : (l.drop s).take (a - s) = (l.drop s).take (d - s) ++ (l.drop d).take (a - d) := by
  have h3 : a - s = (d - s) + (a - d) := by omega
  rw [h3, List.take_add, List.drop_drop]
  congr 3
  omega
 rw [e]
 unfold lineFeeds
 rw [List.count_append]
theorem no_lf_word (b : UInt8) (h : inW b = true) : b ≠ 10 := by
 have := all_u8 (fun b => !inW b || b != 10) (by decide +kernel) b
 rw [h] at this
 simpa using this
theorem no_lf_punct (b : UInt8) (h : isPunct b = true) : b ≠ 10 := by
 have := all_u8 (fun b => !isPunct b || b != 10) (by decide +kernel) b
 rw [h] at this
 simpa using this
theorem no_lf_pair : ∀ p ∈ pairs, (10 : UInt8) ∉ p := by decide +kernel
theorem run_inw : ∀ {L : List UInt8} {x : UInt8}, x ∈ run L → inW x = true := by
 intro L
 induction L with
 | nil => intro x h; simp [run] at h
 | cons c r ih =>
  intro x h
  unfold run at h
  rw [List.takeWhile_cons] at h
  by_cases hc : inW c = true
  ·rw [if_pos hc] at h
   rcases List.mem_cons.1 h with rfl | h
   ·exact hc
   ·exact ih h
  ·rw [if_neg hc] at h; cases h
theorem tok_no_lf {L : List UInt8} (he : tokErr L = 0) : lineFeeds (L.take (tokLen L)) = 0 := by
 unfold lineFeeds
 rw [List.count_eq_zero]
 intro hm
 by_cases hr : run L = []
 ·obtain ⟨e1, _, e3, _⟩ := run_nil_first hr
  rw [e3] at hm
  rw [e1] at he
  by_cases h2 : 1 < L.length ∧ pairs.contains (L.take 2) = true
  ·rw [punct_two h2] at hm
   exact no_lf_pair _ (List.contains_iff_mem.1 h2.2) hm
  ·cases L with
   | nil => simp at hm
   | cons c r =>
    rw [punct_one h2] at hm he
    cases hp : isPunct c with
    | true =>
     rw [hp] at hm
     have : (10 : UInt8) = c := by simpa using hm
     exact no_lf_punct c hp this.symm
    | false => rw [hp] at he; simp at he
 ·have : L.take (tokLen L) = run L := by unfold tokLen; rw [if_neg hr]; exact (run_eq_take L).symm
  rw [this] at hm
  have h2 : inW 10 = true := run_inw hm
  exact no_lf_word 10 h2 rfl
theorem own_set_other {w : World} {base : Nat} {e : TypeId} {size : Nat} {v : Value} {n : Nat} {xs : List Value} (h : w.ownsRow base e size v n xs) {a : Addr} (hne : ∀ g, v.ownBlock = some g → g ≠ a.block) (u : Value) : (w.setCell a u).ownsRow base e size v n xs := by
 refine ⟨h.1, ?_⟩
 rcases h.2 with hn | ⟨g, cap, cur, hv, hg, hh, r⟩
 ·exact .inl hn
 ·exact .inr ⟨g, cap, cur, hv, hg, by rw [heap_setCell_other w a g u (hne g (by rw [hv]; rfl))]; exact hh, r⟩
def sing : List (List UInt8) := punctSet.map fun b => [b]
theorem sing_has (c : UInt8) : sing.contains [c] = isPunct c := by
 have := all_u8 (fun c => sing.contains [c] == isPunct c) (by decide +kernel) c
 simpa using this
structure RLSt (l : List UInt8) (w wr : World) (v : Value) (d line sn a : Nat) (acc : List Tok) : Prop where
 st : LexSt l w wr v d line acc
 dl : d ≤ l.length
 at_ : a = d + skipM false (l.drop d)
 sd : sn ≤ d
 lf : lineFeeds ((l.drop sn).take (d - sn)) = 0

set_option maxHeartbeats 2000000 in
set_option maxRecDepth 100000 in
theorem rLex_any (l : List UInt8) (hs : l.length ≤ 65536) (w : World) : Calls Tryz.prog 93 #[.string (str l)] w fun e w' =>
  ∃ v, e = .returned (.tuple #[v, .int .i64 ((lexAll l).2.1 : Int), .int .i64 ((lexAll l).2.2 : Int)]) ∧ w'.ownsRow w.heap.size 89 5 v (lexAll l).1.length (tcells (lexAll l).1) ∧ Below w.heap.size w w' := by
 have hsz : (str l).size = l.length := str_size l
 have hl : lexAll l = lexR l (l.length + 1) 0 1 [] := by unfold lexAll; rw [if_neg (by omega)]
 rw [hl]
 clear hl
 have HS := Hd fun i (hi : i ≤ l.length) W => rSkip_any l i W (by unfold maxLen; omega) hi
 have HAT : Hid (∀ k (h : k < l.length), (str l)[k]'(by rw [hsz]; exact h) = l[k]) := fun k h => rfl
 obtain ⟨R, hR⟩ : ∃ R, R = lexR l (l.length + 1) 0 1 [] := ⟨_, rfl⟩
 have HR := Hd hR
 rw [← hR]
 clear hR
 obtain ⟨R1, R2, R3⟩ := R
 obtain ⟨a0, ha0⟩ : ∃ a0, a0 = 0 + skipM false (l.drop 0) := ⟨_, rfl⟩
 have HS0 : Hid (∀ W, Calls Tryz.prog 125 #[.string (str l), .int .i64 0] W fun e w' => e = .returned (.int .i64 (a0 : Int)) ∧ W = w') := fun W => by rw [ha0]; exact HS.out 0 (by omega) W
 have h0 : Hid (RLSt l w w (.slice none 0 0) 0 1 0 a0 []) := ⟨⟨⟨l.length + 1, by omega, rfl⟩, World.ownsRow_nil _ _ _ _, Below.refl _ _, by simp, by omega⟩, by omega, ha0, by omega, by simp [lineFeeds]⟩
 clear ha0
 go_enter Tryz.func93, Tryz.ntmps93
 go_wp2_with (go_at_call 125; refine (HS0.out _).mono ?_; rintro e w' ⟨rfl, rfl⟩)
 go_loopw [5, 6, 7, 8] (fun v line sn i wr => ∃ (dd ll ss aa : Nat) (acc : List Tok), line = .int .i64 (ll : Int) ∧ sn = .int .i64 (ss : Int) ∧ i = .int .i64 (aa : Int) ∧ dd ≤ aa ∧ aa ≤ l.length ∧ ss ≤ dd ∧ Hid (RLSt l w wr v dd ll ss aa acc)) (fun _ _ _ i _ => l.length - (intOf i).toNat)
 case atStart =>
  have := h0.out.at_
  have h1 := skipM_le (l.drop 0) false
  rw [List.length_drop] at h1
  exact ⟨0, 1, 0, a0, [], rfl, rfl, rfl, by omega, by omega, by omega, h0⟩
 case round =>
  clear h0 HS0
  obtain ⟨d, line, sn, a, acc, rfl, rfl, rfl, hda, hal, hsd, hT⟩ := hrel
  obtain ⟨wo, rfl⟩ : ∃ wo : World, wo = wr := ⟨_, rfl⟩
  by_cases hlt : a < l.length
  ·have hat_ := hT.out.at_
   have hend : ¬ l.length ≤ d + skipM false (l.drop d) := by omega
   have hkd : skipM false (l.drop d) = a - d := by omega
   have E2 := Hd fun (f : Nat) (hf : 0 < f) => lexR_err (l := l) (d := d) (line := line) (acc := acc) (f := f) hf
   have E3 := Hd fun (f : Nat) => lexR_tok (l := l) (d := d) (line := line) (acc := acc) (f := f)
   rw [← hat_, hkd] at E3
   rw [← hat_] at E2 hend
   clear hat_ hkd
   obtain ⟨nl, hnl⟩ : ∃ nl, nl = line + lineFeeds ((l.drop d).take (a - d)) := ⟨_, rfl⟩
   rw [← hnl] at E3
   have hnlb : nl ≤ a + 1 := by
    have h1 := lineFeeds_le ((l.drop d).take (a - d))
    rw [List.length_take] at h1
    have h2 := hT.out.st.lines
    rw [hnl]
    omega
   have HL0 : Hid (nl = line + lineFeeds ((l.drop sn).take (a - sn))) := by
    show _ = _
    rw [lf_split hsd hda, hT.out.lf, hnl]
    omega
   have hllb := hT.out.st.lines
   clear hnl
   go_wp2
   go_loop [6, 7] (fun q p => ∃ (j ln : Nat), p = .int .i64 (j : Int) ∧ q = .int .i64 (ln : Int) ∧ j ≤ a ∧ ln ≤ a + 1 ∧ Hid (nl = ln + lineFeeds ((l.drop j).take (a - j)))) (fun _ p => a - (intOf p).toNat)
   case atStart => exact ⟨sn, line, rfl, rfl, by omega, by omega, HL0⟩
   case round =>
    clear HL0
    obtain ⟨j, ln, rfl, rfl, hj, hln2, hE⟩ := hrel
    by_cases hja : j < a
    ·obtain ⟨cc, hcc⟩ : ∃ cc, cc = l[j]'(by omega) := ⟨_, rfl⟩
     have hat : ∀ h : j < (str l).size, (str l)[j]'h = cc := fun _ => hcc.symm
     have hst := lf_step (l := l) (j := j) (a := a) (c := cc) (by rw [hcc]; exact List.getElem?_eq_getElem _) hja
     clear hcc
     by_cases hlf : cc.toNat = 10
     ·have hne : ((cc.toNat : Nat) : Int) = 10 := by omega
      have hE2 : Hid (nl = (ln + 1) + lineFeeds ((l.drop (j + 1)).take (a - (j + 1)))) := by
       have := hE.out
       rw [hst, if_pos hlf] at this
       show _ = _
       omega
      have hb : ln + 1 ≤ a + 1 := by have := hE2.out; omega
      clear hst hE hlf
      go_wp2
      go_round
      case rel => exact ⟨j + 1, ln + 1, by go_num, by go_num, by omega, hb, hE2⟩
      case measure => simp [intOf]; omega
     ·have hne : ¬ ((cc.toNat : Nat) : Int) = 10 := by omega
      have hE2 : Hid (nl = ln + lineFeeds ((l.drop (j + 1)).take (a - (j + 1)))) := by
       have := hE.out
       rw [hst, if_neg hlf] at this
       show _ = _
       omega
      clear hst hE hlf
      go_wp2
      go_round
      case rel => exact ⟨j + 1, ln, by go_num, rfl, by omega, by omega, hE2⟩
      case measure => simp [intOf]; omega
    ·obtain rfl : j = a := by omega
     obtain rfl : ln = nl := by
      have := hE.out
      rw [Nat.sub_self] at this
      simpa [lineFeeds] using this.symm
     clear hE hln2
     obtain ⟨c, hcc⟩ : ∃ c, c = l[j] := ⟨_, rfl⟩
     have hat : ∀ h : j < (str l).size, (str l)[j]'h = c := fun _ => hcc.symm
     have hget : l[j]? = some c := by rw [hcc]; exact List.getElem?_eq_getElem hlt
     have HGET := Hd hget
     have HL := Hd fun W => rLetter_any c W
     have HD : Hid (∀ W, Calls Tryz.prog 129 #[.int .u8 (c.toNat : Int), .int .i64 10] W fun e w' => e = .returned (.int .i64 (rd 10 c)) ∧ W = w') := fun W => rDigit_any c 10 (by omega) W
     clear hcc hget
     cases hle : isLetter c with
     | true =>
      rw [hle] at HL
      have HIJ : Hid (inW c = true ∧ isDec c = false) := ⟨(letter_facts c hle).2.2.1, (letter_facts c hle).2.2.2⟩
      go_wp2_with (first | (go_at_call 126; refine (HL.out _).mono ?_; rintro e w' ⟨rfl, rfl⟩) | (go_at_call 129; refine (HD.out _).mono ?_; rintro e w' ⟨rfl, rfl⟩))
      go_loop [10] (fun x => ∃ q : Nat, x = .int .i64 (q : Int) ∧ j + 1 ≤ q ∧ q ≤ l.length ∧ Hid (∀ y (hy : y < l.length), j ≤ y → y < q → inW l[y] = true)) (fun x => l.length - (intOf x).toNat)
      case atStart => exact ⟨j + 1, by go_num, by omega, by omega, fun y hy h1 h2 => by
       have : y = j := by omega
       subst this
       have h3 := HGET.out
       rw [List.getElem?_eq_getElem hy] at h3
       injection h3 with h3
       rw [h3]
       exact HIJ.out.1⟩
      case round =>
       obtain ⟨q, rfl, hq1, hq2, hq⟩ := hrel
       have hfin : Hid ((q < l.length → inW (l.getD q 0) = false) → run (l.drop j) = (l.drop j).take (q - j) ∧ (run (l.drop j)).length = q - j) := fun hstop => by
        have e : run (l.drop j) = (l.drop j).take (q - j) := takeWhile_stop (by rw [List.length_drop]; omega) (fun y hy hyk => by
          rw [List.length_drop] at hy
          rw [List.getElem_drop]
          exact hq.out _ (by omega) (by omega) (by omega)) (fun x hx => by
          rw [drop_get] at hx
          have h1 : j + (q - j) = q := by omega
          rw [h1] at hx
          have h2 := (List.getElem?_eq_some_iff.1 hx).1
          have := hstop h2
          rw [List.getD, hx] at this
          exact this)
        refine ⟨e, ?_⟩
        rw [e, List.length_take, List.length_drop]
        omega
       obtain ⟨cq, hcq⟩ : ∃ cq, cq = l.getD q 0 := ⟨_, rfl⟩
       rw [← hcq] at hfin
       have hatq : ∀ h : q < (str l).size, (str l)[q]'h = cq := fun h => by
        have h2 : q < l.length := by rw [← hsz]; exact h
        rw [HAT.out q h2, hcq, List.getD, List.getElem?_eq_getElem h2]
        rfl
       have HI := Hd fun W => rInside_any cq W
       have HCQ := Hd hcq
       clear hcq
       by_cases hgo : q < l.length ∧ inW cq = true
       ·obtain ⟨hql, hw⟩ := hgo
        have hN : Hid (∀ y (hy : y < l.length), j ≤ y → y < q + 1 → inW l[y] = true) := fun y hy h1 h2 => by
         by_cases e : y = q
         ·subst e
          have := HCQ.out
          rw [List.getD, List.getElem?_eq_getElem hy] at this
          have h4 : cq = l[y] := this
          rw [← h4]; exact hw
         ·exact hq.out y hy h1 (by omega)
        rw [hw] at HI
        clear hfin hq hw
        go_wp2_with (go_at_call 127; refine (HI.out _).mono ?_; rintro e w' ⟨rfl, rfl⟩)
        go_round
        case rel => exact ⟨q + 1, by go_num, by omega, by omega, hN⟩
        case measure => simp [intOf]; omega
       ·have hst : Hid (q < l.length → inW cq = false) := fun h => by
         cases e : inW cq with
         | false => rfl
         | true => exact absurd ⟨h, e⟩ hgo
        obtain ⟨hrun, hrl⟩ := hfin.out hst.out
        have hrne : run (l.drop j) ≠ [] := by intro h; rw [h] at hrl; simp at hrl; omega
        have hhd : (run (l.drop j)).head?.any isDec = false := by
         have h1 : (l.drop j).head? = some c := by rw [List.head?_drop]; exact HGET.out
         rw [hrun]
         cases hM : l.drop j with
         | nil => rw [hM] at h1; cases h1
         | cons x r =>
          rw [hM] at h1
          have h2 : x = c := by simpa using h1
          have h3 : q - j = (q - j - 1) + 1 := by omega
          rw [h3, List.take_succ_cons, h2]
          simp [HIJ.out.2]
        obtain ⟨w1e, w2e, w3e, w4e⟩ := run_word_first hrne hhd
        have hlq : tokLen (l.drop j) = q - j := by unfold tokLen; rw [if_neg hrne]; exact hrl
        have hw1 : (q < l.length ∧ inW cq = false) ∨ l.length ≤ q := by
         rcases Nat.lt_or_ge q l.length with h | h
         ·exact .inl ⟨h, hst.out h⟩
         ·exact .inr h
        have hjql : ((q : Int) - (j : Int)) = ((q - j : Nat) : Int) := by omega
        clear hfin hq hgo hst hrne hhd HCQ
        by_cases h64 : 64 < q - j
        ·have herr0 : tokErr (l.drop j) = 5 := by rw [w1e, hrl, if_pos h64]
         have herr : tokErr (l.drop j) ≠ 0 := by omega
         have hRR : (R1, R2, R3) = ([], j, tokErr (l.drop j)) := by
          obtain ⟨f, hf, he⟩ := hT.out.st.eq
          exact HR.out.trans (he.trans (E2.out f (by omega) hend herr))
         have h1 : R1 = [] := congrArg (·.1) hRR
         have h2 : R2 = j := congrArg (·.2.1) hRR
         have h3 : R3 = tokErr (l.drop j) := congrArg (·.2.2) hRR
         subst h1 h2
         have HBO := Hd hT.out.st.bel
         have HO := Hd fun W => World.ownsRow_nil W w.heap.size 89 5
         have h5 : R3 = 5 := by omega
         subst h5
         clear hRR E2 E3 HR h3 herr herr0 hT w1e w2e w3e w4e hlq hrun hrl
         rcases hw1 with ⟨hql, hw⟩ | hql
         ·rw [hw] at HI
          clear hw
          go_wp2_with (go_at_call 127; refine (HI.out _).mono ?_; rintro e w' ⟨rfl, rfl⟩)
          go_ret3
          exact ⟨_, rfl, HO.out _, HBO.out.alloc HBO.out.size _⟩
         ·go_wp2
          go_ret3
          exact ⟨_, rfl, HO.out _, HBO.out.alloc HBO.out.size _⟩
        ·have herr : tokErr (l.drop j) = 0 := by rw [w1e, hrl, if_neg h64]
         have hlen := tokLen_le (l.drop j)
         rw [List.length_drop] at hlen
         have hpos := tokLen_pos herr
         have hnext : Hid (∃ f, l.length < f + (j + tokLen (l.drop j)) ∧ lexR l (l.length + 1) 0 1 [] = lexR l f (j + tokLen (l.drop j)) ln (acc ++ [tokAt l j ln])) := by
          obtain ⟨f, hf, he⟩ := hT.out.st.eq
          obtain ⟨g, rfl⟩ : ∃ g, f = g + 1 := ⟨f - 1, by omega⟩
          exact ⟨g, by omega, he.trans (E3.out g hend herr)⟩
         have htok : Hid (tcell (tokAt l j ln) = [.int .i64 (tokKind (l.drop j) : Int), .string (str ((l.drop j).take (tokLen (l.drop j)))), .int .u64 (tokNum (l.drop j) : Int), .int .i64 (j : Int), .int .i64 (ln : Int)]) := rfl
         have hlf : Hid (lineFeeds ((l.drop j).take (j + tokLen (l.drop j) - j)) = 0) := by
          show _ = _
          rw [Nat.add_sub_cancel_left]
          exact tok_no_lf herr
         have hex : (str l).extract j (j + tokLen (l.drop j)) = str ((l.drop j).take (tokLen (l.drop j))) := by rw [extract_mid, Nat.add_sub_cancel_left]; rfl
         have HSN := Hd fun W => HS.out (j + tokLen (l.drop j)) (by omega) W
         have hskle := skipM_le (l.drop (j + tokLen (l.drop j))) false
         rw [List.length_drop] at hskle
         obtain ⟨va, vc, hvl⟩ : ∃ x c, u5 = .slice x acc.length c := by
          rcases hT.out.st.own.2 with ⟨hv, h0⟩ | ⟨g, cap, cur, hv, _⟩
          ·exact ⟨none, 0, by rw [hv, h0]⟩
          ·exact ⟨_, _, hv⟩
         obtain ⟨i0, hi0, hz0, hz1, hz2⟩ := info_parts infoTok2
         have hfew := hT.out.st.few
         have hbelO := hT.out.st.bel
         have hownO := hT.out.st.own
         rw [hvl] at hownO
         subst hvl
         clear E2 E3
         have HKW := Hd fun W => rKeyword_any (run (l.drop j)) W
         rw [← w3e] at HKW
         rw [w2e, ← w3e] at htok
         rw [w4e] at htok
         have HQL : Hid (q = j + tokLen (l.drop j)) := by show _ = _; omega
         rw [← HQL.out] at hex
         clear herr w1e w2e w3e w4e hrun hrl hlq
         have hq64 : ¬ 64 < tokLen (l.drop j) := by have := HQL.out; omega
         generalize tokAt l j ln = tok at *
         generalize tokLen (l.drop j) = L at *
         generalize hik0 : isKey ((l.drop j).take L) = ik at *
         generalize hTT : str ((l.drop j).take L) = T at *
         clear hTT hik0
         obtain rfl : q = j + L := HQL.out
         have hcastq : ((j + L : Nat) : Int) = (j : Int) + (L : Int) := by omega
         have hcastq2 : (j : Int) + (L : Int) - (j : Int) = (L : Int) := by omega
         clear hT hjql HQL
         rcases hw1 with ⟨hql, hw⟩ | hql
         all_goals try rw [hw] at HI
         all_goals try clear hw
         all_goals cases ik
         all_goals
          go_wp2_with (first | (go_at_call 127; refine (HI.out _).mono ?_; rintro e w' ⟨rfl, rfl⟩) | fail)
          refine (HKW.out _).mono ?_
          rintro e w2 ⟨rfl, hb2⟩
         ·have hB2 : Blk w2 wo.heap.size 89 [.int .i64 1, .string ⟨#[]⟩, .int .u64 0, .int .i64 (j : Int), .int .i64 (ln : Int)] := (Blk.alloc wo 89 [.int .i64 1, .string ⟨#[]⟩, .int .u64 0, .int .i64 (j : Int), .int .i64 (ln : Int)]).below hb2 (by simp)
          have c0 : w2.cell? ⟨wo.heap.size, 0, none⟩ = some (.int .i64 1) := hB2.cell 0
          have c1 : w2.cell? ⟨wo.heap.size, 1, none⟩ = some (.string ⟨#[]⟩) := hB2.cell 1
          have c2 : w2.cell? ⟨wo.heap.size, 2, none⟩ = some (.int .u64 0) := hB2.cell 2
          have c3 : w2.cell? ⟨wo.heap.size, 3, none⟩ = some (.int .i64 (j : Int)) := hB2.cell 3
          have c4 : w2.cell? ⟨wo.heap.size, 4, none⟩ = some (.int .i64 (ln : Int)) := hB2.cell 4
          have f0 := hB2.frozen 0
          have f1 := hB2.frozen 1
          have hsz2 := hB2.lt
          have hwo := hbelO.size
          have hbel2 := (hbelO.alloc hwo (.cells #[.int .i64 1, .string ⟨#[]⟩, .int .u64 0, .int .i64 (j : Int), .int .i64 (ln : Int)] 89)).trans (hb2.mono (by simp; omega))
          have hown0 := own_below (hownO.alloc (.cells #[.int .i64 1, .string ⟨#[]⟩, .int .u64 0, .int .i64 (j : Int), .int .i64 (ln : Int)] 89)) hb2 (Nat.le_refl _)
          have hne0 : ∀ g, (Value.slice va acc.length vc).ownBlock = some g → g ≠ wo.heap.size := fun g hg => by have := (hownO.lt g hg).2; omega
          clear hb2 hB2 HL HD
          have hown2 : (w2.setCell ⟨wo.heap.size, 1, none⟩ (.string T)).ownsRow w.heap.size 89 5 (.slice va acc.length vc) acc.length (tcells acc) := own_set_other hown0 hne0 _
          have hbelX : Below w.heap.size w (w2.setCell ⟨wo.heap.size, 1, none⟩ (.string T)) := hbel2.setCell (p := ⟨wo.heap.size, 1, none⟩) hwo _
          have hsizeX : (w2.setCell ⟨wo.heap.size, 1, none⟩ (.string T)).heap.size = w2.heap.size := by simp
          have HNX := Hd (fun (w3 : World) (g3 c3 : Nat) (ho : w3.ownsRow w.heap.size 89 5 (.slice (some ⟨g3, 0, none⟩) (acc.length + 1) c3) (acc.length + 1) (tcells acc ++ [.int .i64 1, .string T, .int .u64 0, .int .i64 (j : Int), .int .i64 (ln : Int)])) (hg : ((w2.setCell ⟨wo.heap.size, 1, none⟩ (.string T)).alloc (.cells #[.int .i64 1, .string T, .int .u64 0, .int .i64 (j : Int), .int .i64 (ln : Int)] 89)).grownBy w3 (Value.slice va acc.length vc).ownBlock) =>
           (show RLSt l w w3 (.slice (some ⟨g3, 0, none⟩) (acc.length + 1) c3) (j + L) ln j (j + L + skipM false (l.drop (j + L))) (acc ++ [tok]) from ⟨⟨hnext.out, by
             have h1 : (acc ++ [tok]).length = acc.length + 1 := by simp
             rw [h1, ← tcells_snoc, htok.out]
             exact ho, (hbelX.alloc hbelX.size _).grown hg (by have := hbelX.size; simp; omega) (fun q hq => (hown2.lt q hq).1), by simp; omega, by omega⟩, by omega, rfl, by omega, hlf.out⟩))
          have hown := hown2.alloc (.cells #[.int .i64 1, .string T, .int .u64 0, .int .i64 (j : Int), .int .i64 (ln : Int)] 89)
          have hbase := hbelX.size
          rw [hsizeX] at hbase
          clear hown2 hnext htok
          go_wp2_with (first
           | (at_builtin; refine wpList_append_lies (w := (w2.setCell ⟨wo.heap.size, 1, none⟩ (.string T)).alloc (.cells #[.int .i64 1, .string T, .int .u64 0, .int .i64 (j : Int), .int .i64 (ln : Int)] 89)) (by rfl) _ _ _ (by rfl) w.heap.size 89 i0 (.agg #[.int .i64 0, .string ⟨#[]⟩, .int .u64 0, .int .i64 0, .int .i64 0]) 5 48 Tryz.underlying59 hi0 hz0 hz1 hz2 (by rfl) (by decide) (.slice va acc.length vc) acc.length (tcells acc) (by rfl) hown ⟨w2.heap.size, 0, none⟩ 1 1 [.int .i64 1, .string T, .int .u64 0, .int .i64 (j : Int), .int .i64 (ln : Int)] (by simp [Act.eval]) (by rfl) (World.news_of_block (cs := #[.int .i64 1, .string T, .int .u64 0, .int .i64 (j : Int), .int .i64 (ln : Int)]) (t := 89) (fr := (0, 0)) (by have := heap_alloc_new (w2.setCell ⟨wo.heap.size, 1, none⟩ (.string T)) (.cells #[.int .i64 1, .string T, .int .u64 0, .int .i64 (j : Int), .int .i64 (ln : Int)] 89); rw [hsizeX] at this; exact this)) (by intro z hz; simp at hz; rcases hz with rfl | rfl | rfl | rfl | rfl <;> rfl) (by decide) (by unfold maxLen; omega) (by omega) (by simp; omega) (w2.heap.size + 1) (by simp) ?_; intro g3 c3 w3 ho3 hg3 hat3 hlt3; have HX3 := Hd (HNX.out w3 g3 c3 ho3 hg3); clear ho3 hg3 hat3 hlt3 HNX hown)
           | (go_at_call 125; refine (HSN.out _).mono ?_; rintro e w' ⟨rfl, rfl⟩))
          go_roundw
          case rel => exact ⟨j + L, ln, j, j + L + skipM false (l.drop (j + L)), acc ++ [tok], rfl, rfl, by go_num, by omega, by omega, by omega, HX3⟩
          case measure => simp [intOf]; omega
         ·have hB2 : Blk w2 wo.heap.size 89 [.int .i64 1, .string ⟨#[]⟩, .int .u64 0, .int .i64 (j : Int), .int .i64 (ln : Int)] := (Blk.alloc wo 89 [.int .i64 1, .string ⟨#[]⟩, .int .u64 0, .int .i64 (j : Int), .int .i64 (ln : Int)]).below hb2 (by simp)
          have c0 : w2.cell? ⟨wo.heap.size, 0, none⟩ = some (.int .i64 1) := hB2.cell 0
          have c1 : w2.cell? ⟨wo.heap.size, 1, none⟩ = some (.string ⟨#[]⟩) := hB2.cell 1
          have c2 : w2.cell? ⟨wo.heap.size, 2, none⟩ = some (.int .u64 0) := hB2.cell 2
          have c3 : w2.cell? ⟨wo.heap.size, 3, none⟩ = some (.int .i64 (j : Int)) := hB2.cell 3
          have c4 : w2.cell? ⟨wo.heap.size, 4, none⟩ = some (.int .i64 (ln : Int)) := hB2.cell 4
          have f0 := hB2.frozen 0
          have f1 := hB2.frozen 1
          have hsz2 := hB2.lt
          have hwo := hbelO.size
          have hbel2 := (hbelO.alloc hwo (.cells #[.int .i64 1, .string ⟨#[]⟩, .int .u64 0, .int .i64 (j : Int), .int .i64 (ln : Int)] 89)).trans (hb2.mono (by simp; omega))
          have hown0 := own_below (hownO.alloc (.cells #[.int .i64 1, .string ⟨#[]⟩, .int .u64 0, .int .i64 (j : Int), .int .i64 (ln : Int)] 89)) hb2 (Nat.le_refl _)
          have hne0 : ∀ g, (Value.slice va acc.length vc).ownBlock = some g → g ≠ wo.heap.size := fun g hg => by have := (hownO.lt g hg).2; omega
          clear hb2 hB2 HL HD
          have hown2 : ((w2.setCell ⟨wo.heap.size, 0, none⟩ (.int .i64 2)).setCell ⟨wo.heap.size, 1, none⟩ (.string T)).ownsRow w.heap.size 89 5 (.slice va acc.length vc) acc.length (tcells acc) := own_set_other (own_set_other hown0 hne0 _) hne0 _
          have hbelX : Below w.heap.size w ((w2.setCell ⟨wo.heap.size, 0, none⟩ (.int .i64 2)).setCell ⟨wo.heap.size, 1, none⟩ (.string T)) := (hbel2.setCell (p := ⟨wo.heap.size, 0, none⟩) hwo _).setCell (p := ⟨wo.heap.size, 1, none⟩) hwo _
          have hsizeX : ((w2.setCell ⟨wo.heap.size, 0, none⟩ (.int .i64 2)).setCell ⟨wo.heap.size, 1, none⟩ (.string T)).heap.size = w2.heap.size := by simp
          have HNX := Hd (fun (w3 : World) (g3 c3 : Nat) (ho : w3.ownsRow w.heap.size 89 5 (.slice (some ⟨g3, 0, none⟩) (acc.length + 1) c3) (acc.length + 1) (tcells acc ++ [.int .i64 2, .string T, .int .u64 0, .int .i64 (j : Int), .int .i64 (ln : Int)])) (hg : (((w2.setCell ⟨wo.heap.size, 0, none⟩ (.int .i64 2)).setCell ⟨wo.heap.size, 1, none⟩ (.string T)).alloc (.cells #[.int .i64 2, .string T, .int .u64 0, .int .i64 (j : Int), .int .i64 (ln : Int)] 89)).grownBy w3 (Value.slice va acc.length vc).ownBlock) =>
           (show RLSt l w w3 (.slice (some ⟨g3, 0, none⟩) (acc.length + 1) c3) (j + L) ln j (j + L + skipM false (l.drop (j + L))) (acc ++ [tok]) from ⟨⟨hnext.out, by
             have h1 : (acc ++ [tok]).length = acc.length + 1 := by simp
             rw [h1, ← tcells_snoc, htok.out]
             exact ho, (hbelX.alloc hbelX.size _).grown hg (by have := hbelX.size; simp; omega) (fun q hq => (hown2.lt q hq).1), by simp; omega, by omega⟩, by omega, rfl, by omega, hlf.out⟩))
          have hown := hown2.alloc (.cells #[.int .i64 2, .string T, .int .u64 0, .int .i64 (j : Int), .int .i64 (ln : Int)] 89)
          have hbase := hbelX.size
          rw [hsizeX] at hbase
          clear hown2 hnext htok
          go_wp2_with (first
           | (at_builtin; refine wpList_append_lies (w := ((w2.setCell ⟨wo.heap.size, 0, none⟩ (.int .i64 2)).setCell ⟨wo.heap.size, 1, none⟩ (.string T)).alloc (.cells #[.int .i64 2, .string T, .int .u64 0, .int .i64 (j : Int), .int .i64 (ln : Int)] 89)) (by rfl) _ _ _ (by rfl) w.heap.size 89 i0 (.agg #[.int .i64 0, .string ⟨#[]⟩, .int .u64 0, .int .i64 0, .int .i64 0]) 5 48 Tryz.underlying59 hi0 hz0 hz1 hz2 (by rfl) (by decide) (.slice va acc.length vc) acc.length (tcells acc) (by rfl) hown ⟨w2.heap.size, 0, none⟩ 1 1 [.int .i64 2, .string T, .int .u64 0, .int .i64 (j : Int), .int .i64 (ln : Int)] (by simp [Act.eval]) (by rfl) (World.news_of_block (cs := #[.int .i64 2, .string T, .int .u64 0, .int .i64 (j : Int), .int .i64 (ln : Int)]) (t := 89) (fr := (0, 0)) (by have := heap_alloc_new ((w2.setCell ⟨wo.heap.size, 0, none⟩ (.int .i64 2)).setCell ⟨wo.heap.size, 1, none⟩ (.string T)) (.cells #[.int .i64 2, .string T, .int .u64 0, .int .i64 (j : Int), .int .i64 (ln : Int)] 89); rw [hsizeX] at this; exact this)) (by intro z hz; simp at hz; rcases hz with rfl | rfl | rfl | rfl | rfl <;> rfl) (by decide) (by unfold maxLen; omega) (by omega) (by simp; omega) (w2.heap.size + 1) (by simp) ?_; intro g3 c3 w3 ho3 hg3 hat3 hlt3; have HX3 := Hd (HNX.out w3 g3 c3 ho3 hg3); clear ho3 hg3 hat3 hlt3 HNX hown)
           | (go_at_call 125; refine (HSN.out _).mono ?_; rintro e w' ⟨rfl, rfl⟩))
          go_roundw
          case rel => exact ⟨j + L, ln, j, j + L + skipM false (l.drop (j + L)), acc ++ [tok], rfl, rfl, by go_num, by omega, by omega, by omega, HX3⟩
          case measure => simp [intOf]; omega
         ·have hB2 : Blk w2 wo.heap.size 89 [.int .i64 1, .string ⟨#[]⟩, .int .u64 0, .int .i64 (j : Int), .int .i64 (ln : Int)] := (Blk.alloc wo 89 [.int .i64 1, .string ⟨#[]⟩, .int .u64 0, .int .i64 (j : Int), .int .i64 (ln : Int)]).below hb2 (by simp)
          have c0 : w2.cell? ⟨wo.heap.size, 0, none⟩ = some (.int .i64 1) := hB2.cell 0
          have c1 : w2.cell? ⟨wo.heap.size, 1, none⟩ = some (.string ⟨#[]⟩) := hB2.cell 1
          have c2 : w2.cell? ⟨wo.heap.size, 2, none⟩ = some (.int .u64 0) := hB2.cell 2
          have c3 : w2.cell? ⟨wo.heap.size, 3, none⟩ = some (.int .i64 (j : Int)) := hB2.cell 3
          have c4 : w2.cell? ⟨wo.heap.size, 4, none⟩ = some (.int .i64 (ln : Int)) := hB2.cell 4
          have f0 := hB2.frozen 0
          have f1 := hB2.frozen 1
          have hsz2 := hB2.lt
          have hwo := hbelO.size
          have hbel2 := (hbelO.alloc hwo (.cells #[.int .i64 1, .string ⟨#[]⟩, .int .u64 0, .int .i64 (j : Int), .int .i64 (ln : Int)] 89)).trans (hb2.mono (by simp; omega))
          have hown0 := own_below (hownO.alloc (.cells #[.int .i64 1, .string ⟨#[]⟩, .int .u64 0, .int .i64 (j : Int), .int .i64 (ln : Int)] 89)) hb2 (Nat.le_refl _)
          have hne0 : ∀ g, (Value.slice va acc.length vc).ownBlock = some g → g ≠ wo.heap.size := fun g hg => by have := (hownO.lt g hg).2; omega
          clear hb2 hB2 HL HD
          have hown2 : (w2.setCell ⟨wo.heap.size, 1, none⟩ (.string T)).ownsRow w.heap.size 89 5 (.slice va acc.length vc) acc.length (tcells acc) := own_set_other hown0 hne0 _
          have hbelX : Below w.heap.size w (w2.setCell ⟨wo.heap.size, 1, none⟩ (.string T)) := hbel2.setCell (p := ⟨wo.heap.size, 1, none⟩) hwo _
          have hsizeX : (w2.setCell ⟨wo.heap.size, 1, none⟩ (.string T)).heap.size = w2.heap.size := by simp
          have HNX := Hd (fun (w3 : World) (g3 c3 : Nat) (ho : w3.ownsRow w.heap.size 89 5 (.slice (some ⟨g3, 0, none⟩) (acc.length + 1) c3) (acc.length + 1) (tcells acc ++ [.int .i64 1, .string T, .int .u64 0, .int .i64 (j : Int), .int .i64 (ln : Int)])) (hg : ((w2.setCell ⟨wo.heap.size, 1, none⟩ (.string T)).alloc (.cells #[.int .i64 1, .string T, .int .u64 0, .int .i64 (j : Int), .int .i64 (ln : Int)] 89)).grownBy w3 (Value.slice va acc.length vc).ownBlock) =>
           (show RLSt l w w3 (.slice (some ⟨g3, 0, none⟩) (acc.length + 1) c3) (j + L) ln j (j + L + skipM false (l.drop (j + L))) (acc ++ [tok]) from ⟨⟨hnext.out, by
             have h1 : (acc ++ [tok]).length = acc.length + 1 := by simp
             rw [h1, ← tcells_snoc, htok.out]
             exact ho, (hbelX.alloc hbelX.size _).grown hg (by have := hbelX.size; simp; omega) (fun q hq => (hown2.lt q hq).1), by simp; omega, by omega⟩, by omega, rfl, by omega, hlf.out⟩))
          have hown := hown2.alloc (.cells #[.int .i64 1, .string T, .int .u64 0, .int .i64 (j : Int), .int .i64 (ln : Int)] 89)
          have hbase := hbelX.size
          rw [hsizeX] at hbase
          clear hown2 hnext htok
          go_wp2_with (first
           | (at_builtin; refine wpList_append_lies (w := (w2.setCell ⟨wo.heap.size, 1, none⟩ (.string T)).alloc (.cells #[.int .i64 1, .string T, .int .u64 0, .int .i64 (j : Int), .int .i64 (ln : Int)] 89)) (by rfl) _ _ _ (by rfl) w.heap.size 89 i0 (.agg #[.int .i64 0, .string ⟨#[]⟩, .int .u64 0, .int .i64 0, .int .i64 0]) 5 48 Tryz.underlying59 hi0 hz0 hz1 hz2 (by rfl) (by decide) (.slice va acc.length vc) acc.length (tcells acc) (by rfl) hown ⟨w2.heap.size, 0, none⟩ 1 1 [.int .i64 1, .string T, .int .u64 0, .int .i64 (j : Int), .int .i64 (ln : Int)] (by simp [Act.eval]) (by rfl) (World.news_of_block (cs := #[.int .i64 1, .string T, .int .u64 0, .int .i64 (j : Int), .int .i64 (ln : Int)]) (t := 89) (fr := (0, 0)) (by have := heap_alloc_new (w2.setCell ⟨wo.heap.size, 1, none⟩ (.string T)) (.cells #[.int .i64 1, .string T, .int .u64 0, .int .i64 (j : Int), .int .i64 (ln : Int)] 89); rw [hsizeX] at this; exact this)) (by intro z hz; simp at hz; rcases hz with rfl | rfl | rfl | rfl | rfl <;> rfl) (by decide) (by unfold maxLen; omega) (by omega) (by simp; omega) (w2.heap.size + 1) (by simp) ?_; intro g3 c3 w3 ho3 hg3 hat3 hlt3; have HX3 := Hd (HNX.out w3 g3 c3 ho3 hg3); clear ho3 hg3 hat3 hlt3 HNX hown)
           | (go_at_call 125; refine (HSN.out _).mono ?_; rintro e w' ⟨rfl, rfl⟩))
          go_roundw
          case rel => exact ⟨j + L, ln, j, j + L + skipM false (l.drop (j + L)), acc ++ [tok], rfl, rfl, by go_num, by omega, by omega, by omega, HX3⟩
          case measure => simp [intOf]; omega
         ·have hB2 : Blk w2 wo.heap.size 89 [.int .i64 1, .string ⟨#[]⟩, .int .u64 0, .int .i64 (j : Int), .int .i64 (ln : Int)] := (Blk.alloc wo 89 [.int .i64 1, .string ⟨#[]⟩, .int .u64 0, .int .i64 (j : Int), .int .i64 (ln : Int)]).below hb2 (by simp)
          have c0 : w2.cell? ⟨wo.heap.size, 0, none⟩ = some (.int .i64 1) := hB2.cell 0
          have c1 : w2.cell? ⟨wo.heap.size, 1, none⟩ = some (.string ⟨#[]⟩) := hB2.cell 1
          have c2 : w2.cell? ⟨wo.heap.size, 2, none⟩ = some (.int .u64 0) := hB2.cell 2
          have c3 : w2.cell? ⟨wo.heap.size, 3, none⟩ = some (.int .i64 (j : Int)) := hB2.cell 3
          have c4 : w2.cell? ⟨wo.heap.size, 4, none⟩ = some (.int .i64 (ln : Int)) := hB2.cell 4
          have f0 := hB2.frozen 0
          have f1 := hB2.frozen 1
          have hsz2 := hB2.lt
          have hwo := hbelO.size
          have hbel2 := (hbelO.alloc hwo (.cells #[.int .i64 1, .string ⟨#[]⟩, .int .u64 0, .int .i64 (j : Int), .int .i64 (ln : Int)] 89)).trans (hb2.mono (by simp; omega))
          have hown0 := own_below (hownO.alloc (.cells #[.int .i64 1, .string ⟨#[]⟩, .int .u64 0, .int .i64 (j : Int), .int .i64 (ln : Int)] 89)) hb2 (Nat.le_refl _)
          have hne0 : ∀ g, (Value.slice va acc.length vc).ownBlock = some g → g ≠ wo.heap.size := fun g hg => by have := (hownO.lt g hg).2; omega
          clear hb2 hB2 HL HD
          have hown2 : ((w2.setCell ⟨wo.heap.size, 0, none⟩ (.int .i64 2)).setCell ⟨wo.heap.size, 1, none⟩ (.string T)).ownsRow w.heap.size 89 5 (.slice va acc.length vc) acc.length (tcells acc) := own_set_other (own_set_other hown0 hne0 _) hne0 _
          have hbelX : Below w.heap.size w ((w2.setCell ⟨wo.heap.size, 0, none⟩ (.int .i64 2)).setCell ⟨wo.heap.size, 1, none⟩ (.string T)) := (hbel2.setCell (p := ⟨wo.heap.size, 0, none⟩) hwo _).setCell (p := ⟨wo.heap.size, 1, none⟩) hwo _
          have hsizeX : ((w2.setCell ⟨wo.heap.size, 0, none⟩ (.int .i64 2)).setCell ⟨wo.heap.size, 1, none⟩ (.string T)).heap.size = w2.heap.size := by simp
          have HNX := Hd (fun (w3 : World) (g3 c3 : Nat) (ho : w3.ownsRow w.heap.size 89 5 (.slice (some ⟨g3, 0, none⟩) (acc.length + 1) c3) (acc.length + 1) (tcells acc ++ [.int .i64 2, .string T, .int .u64 0, .int .i64 (j : Int), .int .i64 (ln : Int)])) (hg : (((w2.setCell ⟨wo.heap.size, 0, none⟩ (.int .i64 2)).setCell ⟨wo.heap.size, 1, none⟩ (.string T)).alloc (.cells #[.int .i64 2, .string T, .int .u64 0, .int .i64 (j : Int), .int .i64 (ln : Int)] 89)).grownBy w3 (Value.slice va acc.length vc).ownBlock) =>
           (show RLSt l w w3 (.slice (some ⟨g3, 0, none⟩) (acc.length + 1) c3) (j + L) ln j (j + L + skipM false (l.drop (j + L))) (acc ++ [tok]) from ⟨⟨hnext.out, by
             have h1 : (acc ++ [tok]).length = acc.length + 1 := by simp
             rw [h1, ← tcells_snoc, htok.out]
             exact ho, (hbelX.alloc hbelX.size _).grown hg (by have := hbelX.size; simp; omega) (fun q hq => (hown2.lt q hq).1), by simp; omega, by omega⟩, by omega, rfl, by omega, hlf.out⟩))
          have hown := hown2.alloc (.cells #[.int .i64 2, .string T, .int .u64 0, .int .i64 (j : Int), .int .i64 (ln : Int)] 89)
          have hbase := hbelX.size
          rw [hsizeX] at hbase
          clear hown2 hnext htok
          go_wp2_with (first
           | (at_builtin; refine wpList_append_lies (w := ((w2.setCell ⟨wo.heap.size, 0, none⟩ (.int .i64 2)).setCell ⟨wo.heap.size, 1, none⟩ (.string T)).alloc (.cells #[.int .i64 2, .string T, .int .u64 0, .int .i64 (j : Int), .int .i64 (ln : Int)] 89)) (by rfl) _ _ _ (by rfl) w.heap.size 89 i0 (.agg #[.int .i64 0, .string ⟨#[]⟩, .int .u64 0, .int .i64 0, .int .i64 0]) 5 48 Tryz.underlying59 hi0 hz0 hz1 hz2 (by rfl) (by decide) (.slice va acc.length vc) acc.length (tcells acc) (by rfl) hown ⟨w2.heap.size, 0, none⟩ 1 1 [.int .i64 2, .string T, .int .u64 0, .int .i64 (j : Int), .int .i64 (ln : Int)] (by simp [Act.eval]) (by rfl) (World.news_of_block (cs := #[.int .i64 2, .string T, .int .u64 0, .int .i64 (j : Int), .int .i64 (ln : Int)]) (t := 89) (fr := (0, 0)) (by have := heap_alloc_new ((w2.setCell ⟨wo.heap.size, 0, none⟩ (.int .i64 2)).setCell ⟨wo.heap.size, 1, none⟩ (.string T)) (.cells #[.int .i64 2, .string T, .int .u64 0, .int .i64 (j : Int), .int .i64 (ln : Int)] 89); rw [hsizeX] at this; exact this)) (by intro z hz; simp at hz; rcases hz with rfl | rfl | rfl | rfl | rfl <;> rfl) (by decide) (by unfold maxLen; omega) (by omega) (by simp; omega) (w2.heap.size + 1) (by simp) ?_; intro g3 c3 w3 ho3 hg3 hat3 hlt3; have HX3 := Hd (HNX.out w3 g3 c3 ho3 hg3); clear ho3 hg3 hat3 hlt3 HNX hown)
           | (go_at_call 125; refine (HSN.out _).mono ?_; rintro e w' ⟨rfl, rfl⟩))
          go_roundw
          case rel => exact ⟨j + L, ln, j, j + L + skipM false (l.drop (j + L)), acc ++ [tok], rfl, rfl, by go_num, by omega, by omega, by omega, HX3⟩
          case measure => simp [intOf]; omega
     | false =>
      rw [hle] at HL
      by_cases hdg : dv c < 10
      ·have hrd : 0 ≤ rd 10 c := by unfold rd; rw [if_pos hdg]; omega
       have hdec : isDec c = true := by rw [isDec_dig]; simp [isDig, hdg]
       have HNU := Hd fun W => rNumber_any l j (by omega) c HGET.out hdec W
       have hkind : tokKind (l.drop j) = 3 := by
        obtain ⟨q1, q2⟩ := dec_tok (L := l.drop j) (c := c) (by rw [List.head?_drop]; exact HGET.out) hdec
        exact (run_dec_first q1 q2).2.1
       by_cases herr : tokErr (l.drop j) = 0
       ·have hlen := tokLen_le (l.drop j)
        rw [List.length_drop] at hlen
        have hpos := tokLen_pos herr
        have hnext : Hid (∃ f, l.length < f + (j + tokLen (l.drop j)) ∧ lexR l (l.length + 1) 0 1 [] = lexR l f (j + tokLen (l.drop j)) ln (acc ++ [tokAt l j ln])) := by
         obtain ⟨f, hf, he⟩ := hT.out.st.eq
         obtain ⟨g, rfl⟩ : ∃ g, f = g + 1 := ⟨f - 1, by omega⟩
         exact ⟨g, by omega, he.trans (E3.out g hend herr)⟩
        have htok : Hid (tcell (tokAt l j ln) = [.int .i64 (tokKind (l.drop j) : Int), .string (str ((l.drop j).take (tokLen (l.drop j)))), .int .u64 (tokNum (l.drop j) : Int), .int .i64 (j : Int), .int .i64 (ln : Int)]) := rfl
        have hlf : Hid (lineFeeds ((l.drop j).take (j + tokLen (l.drop j) - j)) = 0) := by
         show _ = _
         rw [Nat.add_sub_cancel_left]
         exact tok_no_lf herr
        have hex : (str l).extract j (j + tokLen (l.drop j)) = str ((l.drop j).take (tokLen (l.drop j))) := by rw [extract_mid, Nat.add_sub_cancel_left]; rfl
        have HSN := Hd fun W => HS.out (j + tokLen (l.drop j)) (by omega) W
        have hskle := skipM_le (l.drop (j + tokLen (l.drop j))) false
        rw [List.length_drop] at hskle
        obtain ⟨va, vc, hvl⟩ : ∃ x c, u5 = .slice x acc.length c := by
         rcases hT.out.st.own.2 with ⟨hv, h0⟩ | ⟨g, cap, cur, hv, _⟩
         ·exact ⟨none, 0, by rw [hv, h0]⟩
         ·exact ⟨_, _, hv⟩
        obtain ⟨i0, hi0, hz0, hz1, hz2⟩ := info_parts infoTok2
        have hfew := hT.out.st.few
        have hbelO := hT.out.st.bel
        have hownO := hT.out.st.own
        rw [hvl] at hownO
        subst hvl
        clear E2 E3
        have hret : numRet j 0 (tokNum (l.drop j)) (j + tokLen (l.drop j)) = .tuple #[.int .u64 (tokNum (l.drop j) : Int), .int .i64 ((j + tokLen (l.drop j) : Nat) : Int), .int .i64 0] := rfl
        have hcast : ((j + tokLen (l.drop j) : Nat) : Int) = (j : Int) + (tokLen (l.drop j) : Int) := by omega
        rw [herr, hret, hcast] at HNU
        rw [hkind] at htok
        clear hret hcast herr hkind hdec
        generalize tokNum (l.drop j) = N at *
        generalize tokAt l j ln = tok at *
        generalize tokLen (l.drop j) = L at *
        generalize hTT : str ((l.drop j).take L) = T at *
        clear hTT
        clear hT
        have hown2 : (wo.alloc (.cells #[.int .i64 3, .string T, .int .u64 (N : Int), .int .i64 (j : Int), .int .i64 (ln : Int)] 89)).ownsRow w.heap.size 89 5 (.slice va acc.length vc) acc.length (tcells acc) := hownO.alloc _
        have hbelX : Below w.heap.size w (wo.alloc (.cells #[.int .i64 3, .string T, .int .u64 (N : Int), .int .i64 (j : Int), .int .i64 (ln : Int)] 89)) := hbelO.alloc hbelO.size _
        have hsizeX : (wo.alloc (.cells #[.int .i64 3, .string T, .int .u64 (N : Int), .int .i64 (j : Int), .int .i64 (ln : Int)] 89)).heap.size = wo.heap.size + 1 := by simp
        have HNX := Hd (fun (w3 : World) (g3 c3 : Nat) (ho : w3.ownsRow w.heap.size 89 5 (.slice (some ⟨g3, 0, none⟩) (acc.length + 1) c3) (acc.length + 1) (tcells acc ++ [.int .i64 3, .string T, .int .u64 (N : Int), .int .i64 (j : Int), .int .i64 (ln : Int)])) (hg : ((wo.alloc (.cells #[.int .i64 3, .string T, .int .u64 (N : Int), .int .i64 (j : Int), .int .i64 (ln : Int)] 89)).alloc (.cells #[.int .i64 3, .string T, .int .u64 (N : Int), .int .i64 (j : Int), .int .i64 (ln : Int)] 89)).grownBy w3 (Value.slice va acc.length vc).ownBlock) =>
         (show RLSt l w w3 (.slice (some ⟨g3, 0, none⟩) (acc.length + 1) c3) (j + L) ln j (j + L + skipM false (l.drop (j + L))) (acc ++ [tok]) from ⟨⟨hnext.out, by
           have h1 : (acc ++ [tok]).length = acc.length + 1 := by simp
           rw [h1, ← tcells_snoc, htok.out]
           exact ho, (hbelX.alloc hbelX.size _).grown hg (by have := hbelX.size; simp; omega) (fun q hq => (hown2.lt q hq).1), by simp; omega, by omega⟩, by omega, rfl, by omega, hlf.out⟩))
        have hown := hown2.alloc (.cells #[.int .i64 3, .string T, .int .u64 (N : Int), .int .i64 (j : Int), .int .i64 (ln : Int)] 89)
        have hbase := hbelX.size
        rw [hsizeX] at hbase
        clear hown2 hnext htok
        go_wp2_with (first
         | (at_builtin; refine wpList_append_lies (w := (wo.alloc (.cells #[.int .i64 3, .string T, .int .u64 (N : Int), .int .i64 (j : Int), .int .i64 (ln : Int)] 89)).alloc (.cells #[.int .i64 3, .string T, .int .u64 (N : Int), .int .i64 (j : Int), .int .i64 (ln : Int)] 89)) (by rfl) _ _ _ (by rfl) w.heap.size 89 i0 (.agg #[.int .i64 0, .string ⟨#[]⟩, .int .u64 0, .int .i64 0, .int .i64 0]) 5 48 Tryz.underlying59 hi0 hz0 hz1 hz2 (by rfl) (by decide) (.slice va acc.length vc) acc.length (tcells acc) (by rfl) hown ⟨wo.heap.size + 1, 0, none⟩ 1 1 [.int .i64 3, .string T, .int .u64 (N : Int), .int .i64 (j : Int), .int .i64 (ln : Int)] (by simp [Act.eval]) (by rfl) (World.news_of_block (cs := #[.int .i64 3, .string T, .int .u64 (N : Int), .int .i64 (j : Int), .int .i64 (ln : Int)]) (t := 89) (fr := (0, 0)) (by have := heap_alloc_new (wo.alloc (.cells #[.int .i64 3, .string T, .int .u64 (N : Int), .int .i64 (j : Int), .int .i64 (ln : Int)] 89)) (.cells #[.int .i64 3, .string T, .int .u64 (N : Int), .int .i64 (j : Int), .int .i64 (ln : Int)] 89); rw [hsizeX] at this; exact this)) (by intro z hz; simp at hz; rcases hz with rfl | rfl | rfl | rfl | rfl <;> rfl) (by decide) (by unfold maxLen; omega) (by omega) (by simp; omega) (wo.heap.size + 1 + 1) (by simp) ?_; intro g3 c3 w3 ho3 hg3 hat3 hlt3; have HX3 := Hd (HNX.out w3 g3 c3 ho3 hg3); clear ho3 hg3 hat3 hlt3 HNX hown)
         | (go_at_call 125; refine (HSN.out _).mono ?_; rintro e w' ⟨rfl, rfl⟩)
         | (go_at_call 126; refine (HL.out _).mono ?_; rintro e w' ⟨rfl, rfl⟩)
         | (go_at_call 129; refine (HD.out _).mono ?_; rintro e w' ⟨rfl, rfl⟩)
         | (go_at_call 130; refine (HNU.out _).mono ?_; rintro e w' ⟨rfl, rfl⟩))
        go_roundw
        case rel => exact ⟨j + L, ln, j, j + L + skipM false (l.drop (j + L)), acc ++ [tok], rfl, rfl, by go_num, by omega, by omega, by omega, HX3⟩
        case measure => simp [intOf]; omega
       ·have hRR : (R1, R2, R3) = ([], j, tokErr (l.drop j)) := by
         obtain ⟨f, hf, he⟩ := hT.out.st.eq
         exact HR.out.trans (he.trans (E2.out f (by omega) hend herr))
        have h1 : R1 = [] := congrArg (·.1) hRR
        have h2 : R2 = j := congrArg (·.2.1) hRR
        have h3 : R3 = tokErr (l.drop j) := congrArg (·.2.2) hRR
        subst h1 h2
        have HBO := Hd hT.out.st.bel
        have HO := Hd fun W => World.ownsRow_nil W w.heap.size 89 5
        have hret : numRet R2 (tokErr (l.drop R2)) (tokNum (l.drop R2)) (R2 + tokLen (l.drop R2)) = .tuple #[.int .u64 0, .int .i64 (R2 : Int), .int .i64 (R3 : Int)] := by
         unfold numRet
         rw [if_neg herr, if_neg herr, h3]
        rw [hret] at HNU
        have hE : 0 < R3 := by omega
        clear hRR E2 E3 HR hret h3 herr hT
        go_wp2_with (first
         | (go_at_call 126; refine (HL.out _).mono ?_; rintro e w' ⟨rfl, rfl⟩)
         | (go_at_call 129; refine (HD.out _).mono ?_; rintro e w' ⟨rfl, rfl⟩)
         | (go_at_call 130; refine (HNU.out _).mono ?_; rintro e w' ⟨rfl, rfl⟩))
        go_ret3
        exact ⟨_, rfl, HO.out _, HBO.out.alloc HBO.out.size _⟩
      ·have hnw : inW c = false := by
        have := all_u8 (fun b => isLetter b || decide (dv b < 10) || !inW b) (by decide +kernel) c
        rw [hle] at this
        simpa [hdg] using this
       have hL0 : l.drop j = c :: l.drop (j + 1) := by
        rw [List.drop_eq_getElem_cons hlt]
        have h3 := HGET.out
        rw [List.getElem?_eq_getElem hlt] at h3
        injection h3 with h3
        rw [h3]
       have hrn : run (l.drop j) = [] := by
        rw [hL0]
        unfold run
        rw [List.takeWhile_cons, if_neg (by rw [hnw]; simp)]
       have hfirst := run_nil_first hrn
       have hlenj : tokLen (l.drop j) = punctLen (l.drop j) := by unfold tokLen; rw [if_pos hrn]
       obtain ⟨herrC, hkind4, _, hnum0⟩ := hfirst
       have hrdv : rd 10 c = -1 := by unfold rd; rw [if_neg hdg]
       rw [hrdv] at HD
       have hblkP := Blk.alloc (wo.alloc (.cells #[.int .i64 4, .string ⟨#[]⟩, .int .u64 0, .int .i64 (j : Int), .int .i64 (ln : Int)] 89)) 9 (pairs.map fun l => .string (str l))
       have hs1 : (wo.alloc (.cells #[.int .i64 4, .string ⟨#[]⟩, .int .u64 0, .int .i64 (j : Int), .int .i64 (ln : Int)] 89)).heap.size = wo.heap.size + 1 := by simp
       have hs2 : ((wo.alloc (.cells #[.int .i64 4, .string ⟨#[]⟩, .int .u64 0, .int .i64 (j : Int), .int .i64 (ln : Int)] 89)).alloc (.cells (pairs.map fun l => .string (str l)).toArray 9)).heap.size = wo.heap.size + 2 := by simp
       have hblkS := Blk.alloc ((wo.alloc (.cells #[.int .i64 4, .string ⟨#[]⟩, .int .u64 0, .int .i64 (j : Int), .int .i64 (ln : Int)] 89)).alloc (.cells (pairs.map fun l => .string (str l)).toArray 9)) 9 (sing.map fun l => .string (str l))
       have hblkQ := Blk.alloc (wo.alloc (.cells #[.int .i64 4, .string ⟨#[]⟩, .int .u64 0, .int .i64 (j : Int), .int .i64 (ln : Int)] 89)) 9 (sing.map fun l => .string (str l))
       rw [hs1] at hblkP hblkQ
       rw [hs2] at hblkS
       have HP2 := Hd fun W g (h : Blk W g 9 (pairs.map fun l => .string (str l))) => rOne_any pairs g 10 9 ((l.drop j).take 2) W rfl (by omega) h
       have HP1 := Hd fun W g (h : Blk W g 9 (sing.map fun l => .string (str l))) => rOne_any sing g 24 9 [c] W rfl (by omega) h
       rw [sing_has c] at HP1
       have hx2 : (str l).extract j (j + 2) = str ((l.drop j).take 2) := by rw [extract_mid, Nat.add_sub_cancel_left]; rfl
       have hx1 : (str l).extract j (j + 1) = str [c] := by
        rw [extract_mid, Nat.add_sub_cancel_left]
        show str ((l.drop j).take 1) = _
        rw [hL0]
        rfl
       clear hs1 hs2 hrdv hrn hnw
       by_cases h2 : 1 < (l.drop j).length ∧ pairs.contains ((l.drop j).take 2) = true
       ·have hLL : tokLen (l.drop j) = 2 := by rw [hlenj, punct_two h2]
        have herr : tokErr (l.drop j) = 0 := by rw [herrC, ← hlenj, hLL]; rfl
        have hj1 : j + 1 < l.length := by have := h2.1; rw [List.length_drop] at this; omega
        rw [h2.2] at HP2
        have hlen := tokLen_le (l.drop j)
        rw [List.length_drop] at hlen
        have hpos := tokLen_pos herr
        have hnext : Hid (∃ f, l.length < f + (j + tokLen (l.drop j)) ∧ lexR l (l.length + 1) 0 1 [] = lexR l f (j + tokLen (l.drop j)) ln (acc ++ [tokAt l j ln])) := by
         obtain ⟨f, hf, he⟩ := hT.out.st.eq
         obtain ⟨g, rfl⟩ : ∃ g, f = g + 1 := ⟨f - 1, by omega⟩
         exact ⟨g, by omega, he.trans (E3.out g hend herr)⟩
        have htok : Hid (tcell (tokAt l j ln) = [.int .i64 (tokKind (l.drop j) : Int), .string (str ((l.drop j).take (tokLen (l.drop j)))), .int .u64 (tokNum (l.drop j) : Int), .int .i64 (j : Int), .int .i64 (ln : Int)]) := rfl
        have hlf : Hid (lineFeeds ((l.drop j).take (j + tokLen (l.drop j) - j)) = 0) := by
         show _ = _
         rw [Nat.add_sub_cancel_left]
         exact tok_no_lf herr
        have hex : (str l).extract j (j + tokLen (l.drop j)) = str ((l.drop j).take (tokLen (l.drop j))) := by rw [extract_mid, Nat.add_sub_cancel_left]; rfl
        have HSN := Hd fun W => HS.out (j + tokLen (l.drop j)) (by omega) W
        have hskle := skipM_le (l.drop (j + tokLen (l.drop j))) false
        rw [List.length_drop] at hskle
        obtain ⟨va, vc, hvl⟩ : ∃ x c, u5 = .slice x acc.length c := by
         rcases hT.out.st.own.2 with ⟨hv, h0⟩ | ⟨g, cap, cur, hv, _⟩
         ·exact ⟨none, 0, by rw [hv, h0]⟩
         ·exact ⟨_, _, hv⟩
        obtain ⟨i0, hi0, hz0, hz1, hz2⟩ := info_parts infoTok2
        have hfew := hT.out.st.few
        have hbelO := hT.out.st.bel
        have hownO := hT.out.st.own
        rw [hvl] at hownO
        subst hvl
        clear E2 E3
        rw [hLL] at hex hnext htok HSN hlf hskle hlen hpos
        rw [hkind4, hnum0] at htok
        clear hLL hkind4 hnum0
        generalize tokAt l j ln = tok at *
        generalize hTT : str ((l.drop j).take 2) = T at *
        clear hTT hx1 hT h2 hL0 herrC herr hlenj hblkS hblkQ HP1
        go_wp2_with (first | (go_at_call 126; refine (HL.out _).mono ?_; rintro e w' ⟨rfl, rfl⟩) | (go_at_call 129; refine (HD.out _).mono ?_; rintro e w' ⟨rfl, rfl⟩))
        refine Calls.mono (HP2.out _ _ hblkP) ?_
        rintro e w' ⟨rfl, rfl⟩
        clear HP2 hblkP HL HD
        have hown2 : ((wo.alloc (.cells #[.int .i64 4, .string T, .int .u64 0, .int .i64 (j : Int), .int .i64 (ln : Int)] 89)).alloc (.cells (pairs.map fun l => .string (str l)).toArray 9)).ownsRow w.heap.size 89 5 (.slice va acc.length vc) acc.length (tcells acc) := (hownO.alloc _).alloc _
        have hbelX : Below w.heap.size w ((wo.alloc (.cells #[.int .i64 4, .string T, .int .u64 0, .int .i64 (j : Int), .int .i64 (ln : Int)] 89)).alloc (.cells (pairs.map fun l => .string (str l)).toArray 9)) := (hbelO.alloc hbelO.size _).alloc (by have := hbelO.size; simp; omega) _
        have hsizeX : ((wo.alloc (.cells #[.int .i64 4, .string T, .int .u64 0, .int .i64 (j : Int), .int .i64 (ln : Int)] 89)).alloc (.cells (pairs.map fun l => .string (str l)).toArray 9)).heap.size = wo.heap.size + 2 := by simp
        have HNX := Hd (fun (w3 : World) (g3 c3 : Nat) (ho : w3.ownsRow w.heap.size 89 5 (.slice (some ⟨g3, 0, none⟩) (acc.length + 1) c3) (acc.length + 1) (tcells acc ++ [.int .i64 4, .string T, .int .u64 0, .int .i64 (j : Int), .int .i64 (ln : Int)])) (hg : (((wo.alloc (.cells #[.int .i64 4, .string T, .int .u64 0, .int .i64 (j : Int), .int .i64 (ln : Int)] 89)).alloc (.cells (pairs.map fun l => .string (str l)).toArray 9)).alloc (.cells #[.int .i64 4, .string T, .int .u64 0, .int .i64 (j : Int), .int .i64 (ln : Int)] 89)).grownBy w3 (Value.slice va acc.length vc).ownBlock) =>
         (show RLSt l w w3 (.slice (some ⟨g3, 0, none⟩) (acc.length + 1) c3) (j + 2) ln j (j + 2 + skipM false (l.drop (j + 2))) (acc ++ [tok]) from ⟨⟨hnext.out, by
           have h1 : (acc ++ [tok]).length = acc.length + 1 := by simp
           rw [h1, ← tcells_snoc, htok.out]
           exact ho, (hbelX.alloc hbelX.size _).grown hg (by have := hbelX.size; simp; omega) (fun q hq => (hown2.lt q hq).1), by simp; omega, by omega⟩, by omega, rfl, by omega, hlf.out⟩))
        have hown := hown2.alloc (.cells #[.int .i64 4, .string T, .int .u64 0, .int .i64 (j : Int), .int .i64 (ln : Int)] 89)
        have hbase := hbelX.size
        rw [hsizeX] at hbase
        clear hown2 hnext htok
        go_wp2_with (first
         | (at_builtin; refine wpList_append_lies (w := ((wo.alloc (.cells #[.int .i64 4, .string T, .int .u64 0, .int .i64 (j : Int), .int .i64 (ln : Int)] 89)).alloc (.cells (pairs.map fun l => .string (str l)).toArray 9)).alloc (.cells #[.int .i64 4, .string T, .int .u64 0, .int .i64 (j : Int), .int .i64 (ln : Int)] 89)) (by rfl) _ _ _ (by rfl) w.heap.size 89 i0 (.agg #[.int .i64 0, .string ⟨#[]⟩, .int .u64 0, .int .i64 0, .int .i64 0]) 5 48 Tryz.underlying59 hi0 hz0 hz1 hz2 (by rfl) (by decide) (.slice va acc.length vc) acc.length (tcells acc) (by rfl) hown ⟨wo.heap.size + 2, 0, none⟩ 1 1 [.int .i64 4, .string T, .int .u64 0, .int .i64 (j : Int), .int .i64 (ln : Int)] (by simp [Act.eval]) (by rfl) (World.news_of_block (cs := #[.int .i64 4, .string T, .int .u64 0, .int .i64 (j : Int), .int .i64 (ln : Int)]) (t := 89) (fr := (0, 0)) (by have := heap_alloc_new ((wo.alloc (.cells #[.int .i64 4, .string T, .int .u64 0, .int .i64 (j : Int), .int .i64 (ln : Int)] 89)).alloc (.cells (pairs.map fun l => .string (str l)).toArray 9)) (.cells #[.int .i64 4, .string T, .int .u64 0, .int .i64 (j : Int), .int .i64 (ln : Int)] 89); rw [hsizeX] at this; exact this)) (by intro z hz; simp at hz; rcases hz with rfl | rfl | rfl | rfl | rfl <;> rfl) (by decide) (by unfold maxLen; omega) (by omega) (by simp; omega) (wo.heap.size + 2 + 1) (by simp) ?_; intro g3 c3 w3 ho3 hg3 hat3 hlt3; have HX3 := Hd (HNX.out w3 g3 c3 ho3 hg3); clear ho3 hg3 hat3 hlt3 HNX hown)
         | (go_at_call 125; refine (HSN.out _).mono ?_; rintro e w' ⟨rfl, rfl⟩))
        go_roundw
        case rel => exact ⟨j + 2, ln, j, j + 2 + skipM false (l.drop (j + 2)), acc ++ [tok], rfl, rfl, by go_num, by omega, by omega, by omega, HX3⟩
        case measure => simp [intOf]; omega
       ·have hPL : punctLen (l.drop j) = if isPunct c = true then 1 else 0 := by
         rw [hL0] at h2 ⊢
         exact punct_one h2
        cases hpc : isPunct c with
        | true =>
         rw [hpc] at HP1 hPL
         have hLL : tokLen (l.drop j) = 1 := by rw [hlenj, hPL]; rfl
         have herr : tokErr (l.drop j) = 0 := by rw [herrC, ← hlenj, hLL]; rfl
         have hlen := tokLen_le (l.drop j)
         rw [List.length_drop] at hlen
         have hpos := tokLen_pos herr
         have hnext : Hid (∃ f, l.length < f + (j + tokLen (l.drop j)) ∧ lexR l (l.length + 1) 0 1 [] = lexR l f (j + tokLen (l.drop j)) ln (acc ++ [tokAt l j ln])) := by
          obtain ⟨f, hf, he⟩ := hT.out.st.eq
          obtain ⟨g, rfl⟩ : ∃ g, f = g + 1 := ⟨f - 1, by omega⟩
          exact ⟨g, by omega, he.trans (E3.out g hend herr)⟩
         have htok : Hid (tcell (tokAt l j ln) = [.int .i64 (tokKind (l.drop j) : Int), .string (str ((l.drop j).take (tokLen (l.drop j)))), .int .u64 (tokNum (l.drop j) : Int), .int .i64 (j : Int), .int .i64 (ln : Int)]) := rfl
         have hlf : Hid (lineFeeds ((l.drop j).take (j + tokLen (l.drop j) - j)) = 0) := by
          show _ = _
          rw [Nat.add_sub_cancel_left]
          exact tok_no_lf herr
         have hex : (str l).extract j (j + tokLen (l.drop j)) = str ((l.drop j).take (tokLen (l.drop j))) := by rw [extract_mid, Nat.add_sub_cancel_left]; rfl
         have HSN := Hd fun W => HS.out (j + tokLen (l.drop j)) (by omega) W
         have hskle := skipM_le (l.drop (j + tokLen (l.drop j))) false
         rw [List.length_drop] at hskle
         obtain ⟨va, vc, hvl⟩ : ∃ x c, u5 = .slice x acc.length c := by
          rcases hT.out.st.own.2 with ⟨hv, h0⟩ | ⟨g, cap, cur, hv, _⟩
          ·exact ⟨none, 0, by rw [hv, h0]⟩
          ·exact ⟨_, _, hv⟩
         obtain ⟨i0, hi0, hz0, hz1, hz2⟩ := info_parts infoTok2
         have hfew := hT.out.st.few
         have hbelO := hT.out.st.bel
         have hownO := hT.out.st.own
         rw [hvl] at hownO
         subst hvl
         clear E2 E3
         have hT1 : str ((l.drop j).take 1) = str [c] := by rw [hL0]; rfl
         rw [hLL] at hex hnext htok HSN hlf hskle hlen hpos
         rw [hkind4, hnum0] at htok
         clear hLL hkind4 hnum0
         generalize tokAt l j ln = tok at *
         generalize hTT : str ((l.drop j).take 1) = T at *
         clear hTT hex
         rw [← hT1] at HP1 hx1
         clear hT1
         by_cases hj1 : j + 1 < l.length
         ·have hb2 : pairs.contains ((l.drop j).take 2) = false := by
           cases hq : pairs.contains ((l.drop j).take 2) with
           | false => rfl
           | true => exact absurd ⟨by rw [List.length_drop]; omega, hq⟩ h2
          rw [hb2] at HP2
          generalize hTT2 : str ((l.drop j).take 2) = T2 at *
          clear hTT2 hT h2 hL0 herrC herr hlenj hblkQ hPL hb2 hpc
          go_wp2_with (first | (go_at_call 126; refine (HL.out _).mono ?_; rintro e w' ⟨rfl, rfl⟩) | (go_at_call 129; refine (HD.out _).mono ?_; rintro e w' ⟨rfl, rfl⟩))
          refine Calls.mono (HP2.out _ _ hblkP) ?_
          rintro e w' ⟨rfl, rfl⟩
          go_wp2_with fail
          refine Calls.mono (HP1.out _ _ hblkS) ?_
          rintro e w' ⟨rfl, rfl⟩
          clear HP1 HP2 hblkP hblkS HL HD
          have hown2 : (((wo.alloc (.cells #[.int .i64 4, .string T, .int .u64 0, .int .i64 (j : Int), .int .i64 (ln : Int)] 89)).alloc (.cells (pairs.map fun l => .string (str l)).toArray 9)).alloc (.cells (sing.map fun l => .string (str l)).toArray 9)).ownsRow w.heap.size 89 5 (.slice va acc.length vc) acc.length (tcells acc) := ((hownO.alloc _).alloc _).alloc _
          have hbelX : Below w.heap.size w (((wo.alloc (.cells #[.int .i64 4, .string T, .int .u64 0, .int .i64 (j : Int), .int .i64 (ln : Int)] 89)).alloc (.cells (pairs.map fun l => .string (str l)).toArray 9)).alloc (.cells (sing.map fun l => .string (str l)).toArray 9)) := ((hbelO.alloc hbelO.size _).alloc (by have := hbelO.size; simp; omega) _).alloc (by have := hbelO.size; simp; omega) _
          have hsizeX : (((wo.alloc (.cells #[.int .i64 4, .string T, .int .u64 0, .int .i64 (j : Int), .int .i64 (ln : Int)] 89)).alloc (.cells (pairs.map fun l => .string (str l)).toArray 9)).alloc (.cells (sing.map fun l => .string (str l)).toArray 9)).heap.size = wo.heap.size + 3 := by simp
          have HNX := Hd (fun (w3 : World) (g3 c3 : Nat) (ho : w3.ownsRow w.heap.size 89 5 (.slice (some ⟨g3, 0, none⟩) (acc.length + 1) c3) (acc.length + 1) (tcells acc ++ [.int .i64 4, .string T, .int .u64 0, .int .i64 (j : Int), .int .i64 (ln : Int)])) (hg : ((((wo.alloc (.cells #[.int .i64 4, .string T, .int .u64 0, .int .i64 (j : Int), .int .i64 (ln : Int)] 89)).alloc (.cells (pairs.map fun l => .string (str l)).toArray 9)).alloc (.cells (sing.map fun l => .string (str l)).toArray 9)).alloc (.cells #[.int .i64 4, .string T, .int .u64 0, .int .i64 (j : Int), .int .i64 (ln : Int)] 89)).grownBy w3 (Value.slice va acc.length vc).ownBlock) =>
           (show RLSt l w w3 (.slice (some ⟨g3, 0, none⟩) (acc.length + 1) c3) (j + 1) ln j (j + 1 + skipM false (l.drop (j + 1))) (acc ++ [tok]) from ⟨⟨hnext.out, by
             have h1 : (acc ++ [tok]).length = acc.length + 1 := by simp
             rw [h1, ← tcells_snoc, htok.out]
             exact ho, (hbelX.alloc hbelX.size _).grown hg (by have := hbelX.size; simp; omega) (fun q hq => (hown2.lt q hq).1), by simp; omega, by omega⟩, by omega, rfl, by omega, hlf.out⟩))
          have hown := hown2.alloc (.cells #[.int .i64 4, .string T, .int .u64 0, .int .i64 (j : Int), .int .i64 (ln : Int)] 89)
          have hbase := hbelX.size
          rw [hsizeX] at hbase
          clear hown2 hnext htok
          go_wp2_with (first
           | (at_builtin; refine wpList_append_lies (w := (((wo.alloc (.cells #[.int .i64 4, .string T, .int .u64 0, .int .i64 (j : Int), .int .i64 (ln : Int)] 89)).alloc (.cells (pairs.map fun l => .string (str l)).toArray 9)).alloc (.cells (sing.map fun l => .string (str l)).toArray 9)).alloc (.cells #[.int .i64 4, .string T, .int .u64 0, .int .i64 (j : Int), .int .i64 (ln : Int)] 89)) (by rfl) _ _ _ (by rfl) w.heap.size 89 i0 (.agg #[.int .i64 0, .string ⟨#[]⟩, .int .u64 0, .int .i64 0, .int .i64 0]) 5 48 Tryz.underlying59 hi0 hz0 hz1 hz2 (by rfl) (by decide) (.slice va acc.length vc) acc.length (tcells acc) (by rfl) hown ⟨wo.heap.size + 3, 0, none⟩ 1 1 [.int .i64 4, .string T, .int .u64 0, .int .i64 (j : Int), .int .i64 (ln : Int)] (by simp [Act.eval]) (by rfl) (World.news_of_block (cs := #[.int .i64 4, .string T, .int .u64 0, .int .i64 (j : Int), .int .i64 (ln : Int)]) (t := 89) (fr := (0, 0)) (by have := heap_alloc_new (((wo.alloc (.cells #[.int .i64 4, .string T, .int .u64 0, .int .i64 (j : Int), .int .i64 (ln : Int)] 89)).alloc (.cells (pairs.map fun l => .string (str l)).toArray 9)).alloc (.cells (sing.map fun l => .string (str l)).toArray 9)) (.cells #[.int .i64 4, .string T, .int .u64 0, .int .i64 (j : Int), .int .i64 (ln : Int)] 89); rw [hsizeX] at this; exact this)) (by intro z hz; simp at hz; rcases hz with rfl | rfl | rfl | rfl | rfl <;> rfl) (by decide) (by unfold maxLen; omega) (by omega) (by simp; omega) (wo.heap.size + 3 + 1) (by simp) ?_; intro g3 c3 w3 ho3 hg3 hat3 hlt3; have HX3 := Hd (HNX.out w3 g3 c3 ho3 hg3); clear ho3 hg3 hat3 hlt3 HNX hown)
           | (go_at_call 125; refine (HSN.out _).mono ?_; rintro e w' ⟨rfl, rfl⟩))
          go_roundw
          case rel => exact ⟨j + 1, ln, j, j + 1 + skipM false (l.drop (j + 1)), acc ++ [tok], rfl, rfl, by go_num, by omega, by omega, by omega, HX3⟩
          case measure => simp [intOf]; omega
         ·clear hT h2 hL0 herrC herr hlenj hblkS hblkP HP2 hx2 hPL hpc
          go_wp2_with (first | (go_at_call 126; refine (HL.out _).mono ?_; rintro e w' ⟨rfl, rfl⟩) | (go_at_call 129; refine (HD.out _).mono ?_; rintro e w' ⟨rfl, rfl⟩))
          refine Calls.mono (HP1.out _ _ hblkQ) ?_
          rintro e w' ⟨rfl, rfl⟩
          clear HP1 hblkQ HL HD
          have hown2 : ((wo.alloc (.cells #[.int .i64 4, .string T, .int .u64 0, .int .i64 (j : Int), .int .i64 (ln : Int)] 89)).alloc (.cells (sing.map fun l => .string (str l)).toArray 9)).ownsRow w.heap.size 89 5 (.slice va acc.length vc) acc.length (tcells acc) := (hownO.alloc _).alloc _
          have hbelX : Below w.heap.size w ((wo.alloc (.cells #[.int .i64 4, .string T, .int .u64 0, .int .i64 (j : Int), .int .i64 (ln : Int)] 89)).alloc (.cells (sing.map fun l => .string (str l)).toArray 9)) := (hbelO.alloc hbelO.size _).alloc (by have := hbelO.size; simp; omega) _
          have hsizeX : ((wo.alloc (.cells #[.int .i64 4, .string T, .int .u64 0, .int .i64 (j : Int), .int .i64 (ln : Int)] 89)).alloc (.cells (sing.map fun l => .string (str l)).toArray 9)).heap.size = wo.heap.size + 2 := by simp
          have HNX := Hd (fun (w3 : World) (g3 c3 : Nat) (ho : w3.ownsRow w.heap.size 89 5 (.slice (some ⟨g3, 0, none⟩) (acc.length + 1) c3) (acc.length + 1) (tcells acc ++ [.int .i64 4, .string T, .int .u64 0, .int .i64 (j : Int), .int .i64 (ln : Int)])) (hg : (((wo.alloc (.cells #[.int .i64 4, .string T, .int .u64 0, .int .i64 (j : Int), .int .i64 (ln : Int)] 89)).alloc (.cells (sing.map fun l => .string (str l)).toArray 9)).alloc (.cells #[.int .i64 4, .string T, .int .u64 0, .int .i64 (j : Int), .int .i64 (ln : Int)] 89)).grownBy w3 (Value.slice va acc.length vc).ownBlock) =>
           (show RLSt l w w3 (.slice (some ⟨g3, 0, none⟩) (acc.length + 1) c3) (j + 1) ln j (j + 1 + skipM false (l.drop (j + 1))) (acc ++ [tok]) from ⟨⟨hnext.out, by
             have h1 : (acc ++ [tok]).length = acc.length + 1 := by simp
             rw [h1, ← tcells_snoc, htok.out]
             exact ho, (hbelX.alloc hbelX.size _).grown hg (by have := hbelX.size; simp; omega) (fun q hq => (hown2.lt q hq).1), by simp; omega, by omega⟩, by omega, rfl, by omega, hlf.out⟩))
          have hown := hown2.alloc (.cells #[.int .i64 4, .string T, .int .u64 0, .int .i64 (j : Int), .int .i64 (ln : Int)] 89)
          have hbase := hbelX.size
          rw [hsizeX] at hbase
          clear hown2 hnext htok
          go_wp2_with (first
           | (at_builtin; refine wpList_append_lies (w := ((wo.alloc (.cells #[.int .i64 4, .string T, .int .u64 0, .int .i64 (j : Int), .int .i64 (ln : Int)] 89)).alloc (.cells (sing.map fun l => .string (str l)).toArray 9)).alloc (.cells #[.int .i64 4, .string T, .int .u64 0, .int .i64 (j : Int), .int .i64 (ln : Int)] 89)) (by rfl) _ _ _ (by rfl) w.heap.size 89 i0 (.agg #[.int .i64 0, .string ⟨#[]⟩, .int .u64 0, .int .i64 0, .int .i64 0]) 5 48 Tryz.underlying59 hi0 hz0 hz1 hz2 (by rfl) (by decide) (.slice va acc.length vc) acc.length (tcells acc) (by rfl) hown ⟨wo.heap.size + 2, 0, none⟩ 1 1 [.int .i64 4, .string T, .int .u64 0, .int .i64 (j : Int), .int .i64 (ln : Int)] (by simp [Act.eval]) (by rfl) (World.news_of_block (cs := #[.int .i64 4, .string T, .int .u64 0, .int .i64 (j : Int), .int .i64 (ln : Int)]) (t := 89) (fr := (0, 0)) (by have := heap_alloc_new ((wo.alloc (.cells #[.int .i64 4, .string T, .int .u64 0, .int .i64 (j : Int), .int .i64 (ln : Int)] 89)).alloc (.cells (sing.map fun l => .string (str l)).toArray 9)) (.cells #[.int .i64 4, .string T, .int .u64 0, .int .i64 (j : Int), .int .i64 (ln : Int)] 89); rw [hsizeX] at this; exact this)) (by intro z hz; simp at hz; rcases hz with rfl | rfl | rfl | rfl | rfl <;> rfl) (by decide) (by unfold maxLen; omega) (by omega) (by simp; omega) (wo.heap.size + 2 + 1) (by simp) ?_; intro g3 c3 w3 ho3 hg3 hat3 hlt3; have HX3 := Hd (HNX.out w3 g3 c3 ho3 hg3); clear ho3 hg3 hat3 hlt3 HNX hown)
           | (go_at_call 125; refine (HSN.out _).mono ?_; rintro e w' ⟨rfl, rfl⟩))
          go_roundw
          case rel => exact ⟨j + 1, ln, j, j + 1 + skipM false (l.drop (j + 1)), acc ++ [tok], rfl, rfl, by go_num, by omega, by omega, by omega, HX3⟩
          case measure => simp [intOf]; omega
        | false =>
         rw [hpc] at HP1 hPL
         have herr4 : tokErr (l.drop j) = 4 := by rw [herrC, hPL]; rfl
         have herr : tokErr (l.drop j) ≠ 0 := by omega
         have hRR : (R1, R2, R3) = ([], j, tokErr (l.drop j)) := by
          obtain ⟨f, hf, he⟩ := hT.out.st.eq
          exact HR.out.trans (he.trans (E2.out f (by omega) hend herr))
         have h1 : R1 = [] := congrArg (·.1) hRR
         have h2 : R2 = j := congrArg (·.2.1) hRR
         have h3 : R3 = tokErr (l.drop j) := congrArg (·.2.2) hRR
         subst h1 h2
         have HBO := Hd hT.out.st.bel
         have HO := Hd fun W => World.ownsRow_nil W w.heap.size 89 5
         have h5 : R3 = 4 := by omega
         subst h5
         generalize hTT1 : str [c] = T1 at *
         by_cases hj1 : R2 + 1 < l.length
         ·have hb2 : pairs.contains ((l.drop R2).take 2) = false := by
           cases hq : pairs.contains ((l.drop R2).take 2) with
           | false => rfl
           | true => exact absurd ⟨by rw [List.length_drop]; omega, hq⟩ h2
          rw [hb2] at HP2
          generalize hTT2 : str ((l.drop R2).take 2) = T2 at *
          clear hTT1 hTT2 hRR E2 E3 HR h3 herr herr4 hT h2 hL0 herrC hlenj hPL hb2 hpc hblkQ hkind4 hnum0
          go_wp2_with (first | (go_at_call 126; refine (HL.out _).mono ?_; rintro e w' ⟨rfl, rfl⟩) | (go_at_call 129; refine (HD.out _).mono ?_; rintro e w' ⟨rfl, rfl⟩))
          refine Calls.mono (HP2.out _ _ hblkP) ?_
          rintro e w' ⟨rfl, rfl⟩
          go_wp2_with fail
          refine Calls.mono (HP1.out _ _ hblkS) ?_
          rintro e w' ⟨rfl, rfl⟩
          clear HP1 HP2 hblkP hblkS HL HD
          go_wp2
          go_ret3
          exact ⟨_, rfl, HO.out _, ((HBO.out.alloc HBO.out.size _).alloc (by have := HBO.out.size; simp; omega) _).alloc (by have := HBO.out.size; simp; omega) _⟩
         ·clear hTT1 hRR E2 E3 HR h3 herr herr4 hT h2 hL0 herrC hlenj hPL hpc hblkS hblkP HP2 hx2 hkind4 hnum0
          go_wp2_with (first | (go_at_call 126; refine (HL.out _).mono ?_; rintro e w' ⟨rfl, rfl⟩) | (go_at_call 129; refine (HD.out _).mono ?_; rintro e w' ⟨rfl, rfl⟩))
          refine Calls.mono (HP1.out _ _ hblkQ) ?_
          rintro e w' ⟨rfl, rfl⟩
          clear HP1 hblkQ HL HD
          go_wp2
          go_ret3
          exact ⟨_, rfl, HO.out _, (HBO.out.alloc HBO.out.size _).alloc (by have := HBO.out.size; simp; omega) _⟩
  ·have hend : l.length ≤ d + skipM false (l.drop d) := by have := hT.out.at_; omega
   have hRR : (R1, R2, R3) = (acc, l.length, 0) := by
    obtain ⟨f, hf, he⟩ := hT.out.st.eq
    exact HR.out.trans (he.trans (lexR_end (by have := hT.out.dl; omega) hend))
   have h1 : R1 = acc := congrArg (·.1) hRR
   have h2 : R2 = l.length := congrArg (·.2.1) hRR
   have h3 : R3 = 0 := congrArg (·.2.2) hRR
   subst h1 h2 h3
   clear hRR HR hend
   go_wp2
   go_ret3
   exact ⟨_, rfl, hT.out.st.own, hT.out.st.bel⟩
end Go.Proofs.YthdbaligapdbeaaGreatDoor
/- Tokens in memory. -/
namespace Go.Proofs.YthdbaligapdbeaaGreatDoor
open Go Go.RowKit
set_option linter.unusedVariables false

theorem toks_own {w : World} {base : Nat} {e : TypeId} {v : Value} {ts : List Tok} (h : w.ownsRow base e 5 v ts.length (tcells ts)) : (ts = [] ∧ v = .slice none 0 0) ∨ ∃ g c, v = .slice (some ⟨g, 0, none⟩) ts.length c ∧ base ≤ g ∧ TkIn w g ts := by
 rcases h.2 with ⟨hv, h0⟩ | ⟨g, cap, cur, hv, hb, hh, r⟩
 ·exact .inl ⟨List.eq_nil_of_length_eq_zero h0, hv⟩
 ·refine .inr ⟨g, cap, hv, hb, (Array.getElem?_eq_some_iff.1 hh).1, fun i hi => ?_⟩
  have hl := tcells_length ts
  subst hv
  have c : ∀ j, j < 5 → w.cell? ⟨g, i * 5 + j, none⟩ = (tcell ts[i])[j]? := fun j hj => by
   rw [← tcells_get ts i j hi hj]
   exact h.cellAt (i * 5 + j) (by omega)
  rw [tat_get hi]
  exact ⟨c 0 (by omega), c 1 (by omega), c 2 (by omega), c 3 (by omega), c 4 (by omega)⟩
end Go.Proofs.YthdbaligapdbeaaGreatDoor
