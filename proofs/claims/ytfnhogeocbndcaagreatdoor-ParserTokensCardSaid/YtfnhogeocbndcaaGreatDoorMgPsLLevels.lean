/- A source without loops; awake. -/
import Derived.Test.YtfnhogeocbndcaaGreatDoorMgPsParse
import Derived.Test.YtfnhogeocbndcaaGreatDoorMgPsRes
import Derived.Test.YtfnhogeocbndcaaGreatDoorMgPsLaid
import Derived.BigQuiet
import Derived.Laws.IdiomStrings
namespace Go.Proofs.YtfnhogeocbndcaaGreatDoor
open Go Go.RowKit
set_option linter.unusedVariables false

/-- No token begins a loop. -/
def NoLp (sp : List Sp) : Prop := ∀ x ∈ sp, x.2.1 ≠ [35] ∧ x.2.1 ≠ [102, 111, 114] ∧ x.2.1 ≠ [119, 104, 105, 108, 101]
theorem loop_none {ts : List Tok} {sp : List Sp} (h : ts.map key = sp) (hn : NoLp sp) (R g c : Nat) : LoopOK ts R g c := by
  intro f _ s w hq _ _
  exfalso
  have hall : ∀ u v, hasT ts s (u :: v) = true → (u :: v) ∈ sp.map (·.2.1) := by
    intro u v hh
    obtain ⟨hb, hi⟩ := hasT_in hh
    have ht : tx ts s = u :: v := of_decide_eq_true hh
    unfold tx nxt at ht
    rw [hb] at ht
    simp only [Bool.false_eq_true, if_false] at ht
    rw [tat_get hi] at ht
    rw [← h, List.map_map]
    exact List.mem_map.2 ⟨ts[s.i], List.getElem_mem hi, ht⟩
  have hno : ∀ t, (t = [35] ∨ t = [102, 111, 114] ∨ t = [119, 104, 105, 108, 101]) → ¬ t ∈ sp.map (·.2.1) := by
    intro t ht hm
    obtain ⟨x, hx, rfl⟩ := List.mem_map.1 hm
    obtain ⟨h1, h2, h3⟩ := hn x hx
    rcases ht with h | h | h
    · exact h1 h
    · exact h2 h
    · exact h3 h
  simp only [Bool.or_eq_true] at hq
  rcases hq with (hq | hq) | hq
  · exact hno _ (.inl rfl) (hall _ _ hq)
  · exact hno _ (.inr (.inl rfl)) (hall _ _ hq)
  · exact hno _ (.inr (.inr rfl)) (hall _ _ hq)
/-- The literal text of awake: kernel k() { }. -/
def awText : List UInt8 := [107, 101, 114, 110, 101, 108, 32, 107, 40, 41, 32, 123, 32, 125]
def awTree : Tree := .node (labK 1 1) [.node { labK 3 1 with name := [107] } [.node (labK 8 1) []]]
theorem aw_lex : (lexAll awText).2.2 = 0 := by decide +kernel
theorem aw_ne : (lexAll awText).1 ≠ [] := by decide +kernel
theorem aw_no : NoLp ((lexAll awText).1.map key) := by unfold NoLp; decide +kernel
theorem aw_parse : parseM awText = (awTree, 0, 0) := by kernel_rfl
end Go.Proofs.YtfnhogeocbndcaaGreatDoor
/- awake: contract. -/
namespace Go.Proofs.YtfnhogeocbndcaaGreatDoor
open Go Go.RowKit
set_option linter.unusedVariables false

theorem add_zero (a : Addr) : a.add 0 = a := by unfold Addr.add; rw [if_pos rfl]
theorem pp_below {w w' : World} {z : Tree × Nat × Nat} {e : Ending} (h : PP w z e w') : Below w.heap.size w w' := by
  obtain ⟨_, _, _, _, _, _, h⟩ := h
  exact h
set_option maxHeartbeats 1000000 in
set_option maxRecDepth 100000 in
theorem awake_any (w : World) (V : Vs w) (LV : Lv w) : Calls Tryz.prog 10 #[] w fun e w' => e = .returned (.bool true) ∧ Below w.heap.size w w' := by
  have HP : Hid (Calls Tryz.prog 11 #[.string ⟨#[107, 101, 114, 110, 101, 108, 32, 107, 40, 41, 32, 123, 32, 125]⟩] w (PP w (awTree, 0, 0))) := Lib.hid (by
    have h := parse_main awText w V LV aw_lex aw_ne (fun R g c => loop_none rfl aw_no R g c)
    rw [aw_parse] at h
    exact h)
  clear V LV
  go_enter Tryz.func10, Tryz.ntmps10
  go_wp2_with fail
  refine HP.out.mono ?_
  rintro e w1 ⟨l, x, n, k, rfl, hT, hb⟩
  obtain ⟨x0, k0, hcs, hk0, hkm, hkids⟩ := TreeAt.kids hT
  obtain ⟨hkind, hname, hn, rfl, rfl, rfl⟩ : l.kind = 1 ∧ True ∧ True ∧ x = x0 ∧ n = 1 ∧ k = k0 := by
    have e0 := congrArg (fun c : List Value => c[0]?) hcs
    have e10 := congrArg (fun c : List Value => c[10]?) hcs
    simp [lcells] at e0 e10
    exact ⟨by rw [e0]; rfl, trivial, trivial, e10.1, e10.2.1, e10.2.2⟩
  obtain ⟨a, hxa, hpa, l2, x2, n2, k2, ⟨c0, c1, c2, c3, c4, c5, c6, c7, c8, c9, c10⟩, hT2⟩ := hkids 0 (by decide)
  subst hxa
  obtain ⟨x3, k3, hcs2, _, _, _⟩ := TreeAt.kids hT2
  have hnm : str l2.name = ⟨#[107]⟩ := by
    have e1 := congrArg (fun c : List Value => c[1]?) hcs2
    simp [lcells] at e1
    rw [e1]
    rfl
  rw [Nat.zero_mul, add_zero] at c0 c1
  rw [hnm] at c1
  have hal : a.block < w1.heap.size := cell_block_lt c0
  have HB := Lib.hid (hb.alloc hb.size (.cells #[.int .i64 l.kind, .string (str l.name), .int .u64 l.num, .int .i64 l.wd, .bool l.sg, .int .i64 l.op, .int .i64 l.fac, .int .i64 l.pip, .int .i64 l.unr, .int .i64 l.line, .slice (some a) 1 k] 28))
  rw [hkind] at HB
  clear hT hb hkids hT2 hcs hcs2 c2 c3 c4 c5 c6 c7 c8 c9 c10 HP hnm hname hn hpa
  go_wp2
  go_ret
  exact ⟨rfl, HB.out⟩
end Go.Proofs.YtfnhogeocbndcaaGreatDoor
/- The law on levels: the walk. -/
namespace Go.Proofs.YtfnhogeocbndcaaGreatDoor
open Go Go.RowKit
set_option linter.unusedVariables false

theorem cat_append (a b : List UInt8) : str a ++ str b = str (a ++ b) := by
  refine bytes_ext ?_
  simp [str]
theorem Lv.below {w w' : World} (h : Lv w) (hb : Below w.heap.size w w') : Lv w' := by
  intro l hl
  obtain ⟨v, h1, a, c, rfl, h2⟩ := h l hl
  refine ⟨_, by rw [hb.cell (World.block_lt_of_cell? _ _ h1)]; exact h1, a, c, rfl, fun j hj => ?_⟩
  obtain ⟨e1, e2⟩ := h2 j hj
  exact ⟨by rw [hb.cell (World.block_lt_of_cell? _ _ e1)]; exact e1, by rw [hb.cell (World.block_lt_of_cell? _ _ e2)]; exact e2⟩
theorem repU_snoc (u : List UInt8) : ∀ n, repU u (n + 1) = repU u n ++ u := by
  intro n
  induction n with
  | zero => simp [repU]
  | succ n ih => rw [repU, ih, ← List.append_assoc, ← repU, ih]
def lvPre : List UInt8 := [107, 101, 114, 110, 101, 108, 32, 107, 40, 41, 32, 123, 10, 108, 101, 116, 32, 97, 32, 61, 32]
theorem lv_text (u : List UInt8) (n : Nat) : lvPre ++ repU u n ++ [120, 59, 32, 125] = lvText u n := by
  unfold lvPre lvText kwKernel
  simp
theorem lv_nolp {c : UInt8} (hc : [c] ≠ [35]) (n : Nat) : NoLp (preS 1 2 ++ lvS c n) := by
  intro x hx
  rcases List.mem_append.1 hx with h | h
  · unfold preS at h
    simp only [List.mem_cons, List.mem_nil_iff, or_false] at h
    rcases h with rfl | rfl | rfl | rfl | rfl | rfl | rfl | rfl <;> exact ⟨by simp, by simp, by simp⟩
  · unfold lvS at h
    rcases List.mem_append.1 h with h | h
    · obtain ⟨_, rfl⟩ := List.mem_replicate.1 h
      exact ⟨hc, by simp, by simp⟩
    · simp only [List.mem_cons, List.mem_nil_iff, or_false] at h
      rcases h with rfl | rfl | rfl <;> exact ⟨by simp, by simp, by simp⟩
theorem ne_of_len {ts : List Tok} {sp : List Sp} (h : ts.map key = sp) (hn : sp ≠ []) : ts ≠ [] := fun he => hn (by rw [← h, he]; rfl)
/-- Parse of the law's text. -/
theorem lv_call {c : UInt8} {gu : List UInt8} {o : Nat} (H : OpU c gu) (ho : o ≠ 0) (hop : (((levelOps 10).find? fun p => decide ([c] = p.1)).map (·.2)).getD 0 = o) (hio : isOpen [c] = false) (his : isShut [c] = false) (hc : [c] ≠ [35]) (n : Nat) (hn : n ≤ 300) :
    ∃ t, depth t = n + 5 ∧ count t = n + 5 ∧ ∀ w, Vs w → Lv w → Calls Tryz.prog 11 #[.string (str (lvText (c :: gu) n))] w (PP w (if 200 < n + 5 then (tree0, 1, 5) else (t, 0, 0))) := by
  obtain ⟨h1, h2, t, h3, h4, h5⟩ := lv_parse H ho hop hio his n hn
  refine ⟨t, h4, h5, fun w V LV => ?_⟩
  have := parse_main _ w V LV h1 (ne_of_len h2 (by unfold preS; simp)) fun R g c' => loop_none h2 (lv_nolp hc n) R g c'
  rwa [h3] at this
/-- How far the loop has come. -/
structure LvSt (w wr : World) : Prop where
  bel : Below w.heap.size w wr

set_option maxHeartbeats 2000000 in
set_option maxRecDepth 100000 in
theorem levels_0 (n op : Nat) (hn : n ≤ 255) (hop : op ≤ 255) (hr : op % 3 = 0) (w : World) (V : Vs w) (LV : Lv w) : Calls Tryz.prog 9 #[.int .u8 (n : Int), .int .u8 (op : Int)] w fun e w' => e = .returned (.bool true) ∧ Below w.heap.size w w' := by
  obtain ⟨t, hd, hct, hcall⟩ := lv_call (c := 45) (gu := [32]) (o := 19) ⟨by decide, by decide, by decide, by decide, (.inl ⟨rfl, by decide⟩)⟩ (by decide) (by decide) (by decide) (by decide) (by decide) n (by omega)
  have HA := Lib.hid (awake_any w V LV)
  have HV := Lib.hid (And.intro V LV)
  have HP := Lib.hid hcall
  have HD := Lib.hid (depthT_any 1000 t (by omega) (by omega))
  have HS := Lib.hid fun q => (show str (lvPre ++ repU ([45, 32] : List UInt8) q) ++ ⟨#[45, 32]⟩ = str (lvPre ++ repU ([45, 32] : List UInt8) (q + 1)) by
    rw [repU_snoc, ← List.append_assoc]
    exact cat_append (lvPre ++ repU ([45, 32] : List UInt8) q) ([45, 32] : List UInt8))
  have HT : Hid (str (lvPre ++ repU ([45, 32] : List UInt8) n) ++ ⟨#[120, 59, 32, 125]⟩ = str (lvText ([45, 32] : List UInt8) n)) := Lib.hid (by
    rw [← lv_text]
    exact cat_append (lvPre ++ repU ([45, 32] : List UInt8) n) [120, 59, 32, 125])
  have H0 : Hid ((⟨#[107, 101, 114, 110, 101, 108, 32, 107, 40, 41, 32, 123, 10, 108, 101, 116, 32, 97, 32, 61, 32]⟩ : ByteArray) = str (lvPre ++ repU ([45, 32] : List UInt8) 0)) := Lib.hid (by rw [repU, List.append_nil]; rfl)
  have hmod : (op : Int) % 3 = 0 := by omega
  have HSZ := Lib.hid fun q => (show q ≤ 255 → (str (lvPre ++ repU ([45, 32] : List UInt8) q)).size ≤ 1000 by
    intro hq
    rw [str_size, List.length_append, repU_len]
    simp [lvPre]
    omega)
  generalize lvText ([45, 32] : List UInt8) n = TX at *
  clear V LV hcall hr
  go_enter Tryz.func9, Tryz.ntmps9
  go_wp2_with fail
  refine HA.out.mono ?_
  rintro e w1 ⟨rfl, hb1⟩
  have h0 : Hid (LvSt w w1) := ⟨hb1⟩
  clear hb1 HA
  go_wp2
  go_loopw [5, 6] (fun s i wr => ∃ q : Nat, q ≤ n ∧ s = .string (str (lvPre ++ repU ([45, 32] : List UInt8) q)) ∧ i = .int .i64 (q : Int) ∧ Hid (LvSt w wr)) (fun _ i _ => n - (intOf i).toNat)
  case atStart => exact ⟨0, by omega, by rw [← H0.out], rfl, h0⟩
  case round =>
    clear h0
    obtain ⟨q, hq, rfl, rfl, hX⟩ := hrel
    have hsz := HSZ.out q (by omega)
    by_cases hqn : q < n
    · have hs := HS.out q
      have HB := Lib.hid (hX.out.bel.alloc hX.out.bel.size (.cells #[.string ⟨#[45, 32]⟩, .string ⟨#[126]⟩, .string ⟨#[33]⟩] 9))
      go_wp2
      go_roundw
      case rel => exact ⟨q + 1, by omega, rfl, by go_num, ⟨HB.out⟩⟩
      case measure => simp [intOf]; omega
    · obtain rfl : q = n := by omega
      have ht := HT.out
      have HC := Lib.hid (HP.out _ (HV.out.1.below hX.out.bel) (HV.out.2.below hX.out.bel))
      have HB := Lib.hid hX.out.bel
      clear HP hX
      by_cases hb : 200 < q + 5
      · rw [if_pos hb] at HC
        have qb : (200 : Int) < (q : Int) + 5 := by omega
        clear hb
        go_wp2_with fail
        refine HC.out.mono ?_
        rintro e w2 ⟨l, x, m, k, rfl, hT, hb2⟩
        have HB2 := Lib.hid (fun o => (HB.out.trans (hb2.mono HB.out.size)).alloc (HB.out.trans (hb2.mono HB.out.size)).size o)
        clear hT hb2
        go_wp2
        go_ret
        exact ⟨rfl, HB2.out _⟩
      · rw [if_neg hb] at HC
        have qb : (q : Int) + 5 ≤ 200 := by omega
        go_wp2_with fail
        refine HC.out.mono ?_
        rintro e w2 ⟨l, x, m, k, rfl, hT, hb2⟩
        have HB2 := Lib.hid ((HB.out.trans (hb2.mono HB.out.size)).alloc (HB.out.trans (hb2.mono HB.out.size)).size (.cells #[.int .i64 l.kind, .string (str l.name), .int .u64 l.num, .int .i64 l.wd, .bool l.sg, .int .i64 l.op, .int .i64 l.fac, .int .i64 l.pip, .int .i64 l.unr, .int .i64 l.line, .slice x m k] 28))
        have HC2 := Lib.hid (HD.out l x m k (w2.alloc (.cells #[.int .i64 l.kind, .string (str l.name), .int .u64 l.num, .int .i64 l.wd, .bool l.sg, .int .i64 l.op, .int .i64 l.fac, .int .i64 l.pip, .int .i64 l.unr, .int .i64 l.line, .slice x m k] 28)) (hT.keep (fun k _ hl => Below.heap_alloc w2 _ k hl) fun k hk _ => trivial))
        rw [hd] at HC2
        have hcast : ((q + 5 : Nat) : Int) = (q : Int) + 5 := by omega
        clear hT hb2 hb
        go_wp2_with fail
        refine HC2.out.mono ?_
        rintro e w3 ⟨rfl, hb3⟩
        have HB3 := Lib.hid (HB2.out.trans (hb3.mono HB2.out.size))
        clear hb3
        go_wp2
        go_ret
        exact ⟨by simp, HB3.out⟩

set_option maxHeartbeats 2000000 in
set_option maxRecDepth 100000 in
theorem levels_1 (n op : Nat) (hn : n ≤ 255) (hop : op ≤ 255) (hr : op % 3 = 1) (w : World) (V : Vs w) (LV : Lv w) : Calls Tryz.prog 9 #[.int .u8 (n : Int), .int .u8 (op : Int)] w fun e w' => e = .returned (.bool true) ∧ Below w.heap.size w w' := by
  obtain ⟨t, hd, hct, hcall⟩ := lv_call (c := 126) (gu := []) (o := 20) ⟨by decide, by decide, by decide, by decide, (.inr ⟨rfl, by decide, by decide⟩)⟩ (by decide) (by decide) (by decide) (by decide) (by decide) n (by omega)
  have HA := Lib.hid (awake_any w V LV)
  have HV := Lib.hid (And.intro V LV)
  have HP := Lib.hid hcall
  have HD := Lib.hid (depthT_any 1000 t (by omega) (by omega))
  have HS := Lib.hid fun q => (show str (lvPre ++ repU ([126] : List UInt8) q) ++ ⟨#[126]⟩ = str (lvPre ++ repU ([126] : List UInt8) (q + 1)) by
    rw [repU_snoc, ← List.append_assoc]
    exact cat_append (lvPre ++ repU ([126] : List UInt8) q) ([126] : List UInt8))
  have HT : Hid (str (lvPre ++ repU ([126] : List UInt8) n) ++ ⟨#[120, 59, 32, 125]⟩ = str (lvText ([126] : List UInt8) n)) := Lib.hid (by
    rw [← lv_text]
    exact cat_append (lvPre ++ repU ([126] : List UInt8) n) [120, 59, 32, 125])
  have H0 : Hid ((⟨#[107, 101, 114, 110, 101, 108, 32, 107, 40, 41, 32, 123, 10, 108, 101, 116, 32, 97, 32, 61, 32]⟩ : ByteArray) = str (lvPre ++ repU ([126] : List UInt8) 0)) := Lib.hid (by rw [repU, List.append_nil]; rfl)
  have hmod : (op : Int) % 3 = 1 := by omega
  have HSZ := Lib.hid fun q => (show q ≤ 255 → (str (lvPre ++ repU ([126] : List UInt8) q)).size ≤ 1000 by
    intro hq
    rw [str_size, List.length_append, repU_len]
    simp [lvPre]
    omega)
  generalize lvText ([126] : List UInt8) n = TX at *
  clear V LV hcall hr
  go_enter Tryz.func9, Tryz.ntmps9
  go_wp2_with fail
  refine HA.out.mono ?_
  rintro e w1 ⟨rfl, hb1⟩
  have h0 : Hid (LvSt w w1) := ⟨hb1⟩
  clear hb1 HA
  go_wp2
  go_loopw [5, 6] (fun s i wr => ∃ q : Nat, q ≤ n ∧ s = .string (str (lvPre ++ repU ([126] : List UInt8) q)) ∧ i = .int .i64 (q : Int) ∧ Hid (LvSt w wr)) (fun _ i _ => n - (intOf i).toNat)
  case atStart => exact ⟨0, by omega, by rw [← H0.out], rfl, h0⟩
  case round =>
    clear h0
    obtain ⟨q, hq, rfl, rfl, hX⟩ := hrel
    have hsz := HSZ.out q (by omega)
    by_cases hqn : q < n
    · have hs := HS.out q
      have HB := Lib.hid (hX.out.bel.alloc hX.out.bel.size (.cells #[.string ⟨#[45, 32]⟩, .string ⟨#[126]⟩, .string ⟨#[33]⟩] 9))
      go_wp2
      go_roundw
      case rel => exact ⟨q + 1, by omega, rfl, by go_num, ⟨HB.out⟩⟩
      case measure => simp [intOf]; omega
    · obtain rfl : q = n := by omega
      have ht := HT.out
      have HC := Lib.hid (HP.out _ (HV.out.1.below hX.out.bel) (HV.out.2.below hX.out.bel))
      have HB := Lib.hid hX.out.bel
      clear HP hX
      by_cases hb : 200 < q + 5
      · rw [if_pos hb] at HC
        have qb : (200 : Int) < (q : Int) + 5 := by omega
        clear hb
        go_wp2_with fail
        refine HC.out.mono ?_
        rintro e w2 ⟨l, x, m, k, rfl, hT, hb2⟩
        have HB2 := Lib.hid (fun o => (HB.out.trans (hb2.mono HB.out.size)).alloc (HB.out.trans (hb2.mono HB.out.size)).size o)
        clear hT hb2
        go_wp2
        go_ret
        exact ⟨rfl, HB2.out _⟩
      · rw [if_neg hb] at HC
        have qb : (q : Int) + 5 ≤ 200 := by omega
        go_wp2_with fail
        refine HC.out.mono ?_
        rintro e w2 ⟨l, x, m, k, rfl, hT, hb2⟩
        have HB2 := Lib.hid ((HB.out.trans (hb2.mono HB.out.size)).alloc (HB.out.trans (hb2.mono HB.out.size)).size (.cells #[.int .i64 l.kind, .string (str l.name), .int .u64 l.num, .int .i64 l.wd, .bool l.sg, .int .i64 l.op, .int .i64 l.fac, .int .i64 l.pip, .int .i64 l.unr, .int .i64 l.line, .slice x m k] 28))
        have HC2 := Lib.hid (HD.out l x m k (w2.alloc (.cells #[.int .i64 l.kind, .string (str l.name), .int .u64 l.num, .int .i64 l.wd, .bool l.sg, .int .i64 l.op, .int .i64 l.fac, .int .i64 l.pip, .int .i64 l.unr, .int .i64 l.line, .slice x m k] 28)) (hT.keep (fun k _ hl => Below.heap_alloc w2 _ k hl) fun k hk _ => trivial))
        rw [hd] at HC2
        have hcast : ((q + 5 : Nat) : Int) = (q : Int) + 5 := by omega
        clear hT hb2 hb
        go_wp2_with fail
        refine HC2.out.mono ?_
        rintro e w3 ⟨rfl, hb3⟩
        have HB3 := Lib.hid (HB2.out.trans (hb3.mono HB2.out.size))
        clear hb3
        go_wp2
        go_ret
        exact ⟨by simp, HB3.out⟩

set_option maxHeartbeats 2000000 in
set_option maxRecDepth 100000 in
theorem levels_2 (n op : Nat) (hn : n ≤ 255) (hop : op ≤ 255) (hr : op % 3 = 2) (w : World) (V : Vs w) (LV : Lv w) : Calls Tryz.prog 9 #[.int .u8 (n : Int), .int .u8 (op : Int)] w fun e w' => e = .returned (.bool true) ∧ Below w.heap.size w w' := by
  obtain ⟨t, hd, hct, hcall⟩ := lv_call (c := 33) (gu := []) (o := 21) ⟨by decide, by decide, by decide, by decide, (.inr ⟨rfl, by decide, by decide⟩)⟩ (by decide) (by decide) (by decide) (by decide) (by decide) n (by omega)
  have HA := Lib.hid (awake_any w V LV)
  have HV := Lib.hid (And.intro V LV)
  have HP := Lib.hid hcall
  have HD := Lib.hid (depthT_any 1000 t (by omega) (by omega))
  have HS := Lib.hid fun q => (show str (lvPre ++ repU ([33] : List UInt8) q) ++ ⟨#[33]⟩ = str (lvPre ++ repU ([33] : List UInt8) (q + 1)) by
    rw [repU_snoc, ← List.append_assoc]
    exact cat_append (lvPre ++ repU ([33] : List UInt8) q) ([33] : List UInt8))
  have HT : Hid (str (lvPre ++ repU ([33] : List UInt8) n) ++ ⟨#[120, 59, 32, 125]⟩ = str (lvText ([33] : List UInt8) n)) := Lib.hid (by
    rw [← lv_text]
    exact cat_append (lvPre ++ repU ([33] : List UInt8) n) [120, 59, 32, 125])
  have H0 : Hid ((⟨#[107, 101, 114, 110, 101, 108, 32, 107, 40, 41, 32, 123, 10, 108, 101, 116, 32, 97, 32, 61, 32]⟩ : ByteArray) = str (lvPre ++ repU ([33] : List UInt8) 0)) := Lib.hid (by rw [repU, List.append_nil]; rfl)
  have hmod : (op : Int) % 3 = 2 := by omega
  have HSZ := Lib.hid fun q => (show q ≤ 255 → (str (lvPre ++ repU ([33] : List UInt8) q)).size ≤ 1000 by
    intro hq
    rw [str_size, List.length_append, repU_len]
    simp [lvPre]
    omega)
  generalize lvText ([33] : List UInt8) n = TX at *
  clear V LV hcall hr
  go_enter Tryz.func9, Tryz.ntmps9
  go_wp2_with fail
  refine HA.out.mono ?_
  rintro e w1 ⟨rfl, hb1⟩
  have h0 : Hid (LvSt w w1) := ⟨hb1⟩
  clear hb1 HA
  go_wp2
  go_loopw [5, 6] (fun s i wr => ∃ q : Nat, q ≤ n ∧ s = .string (str (lvPre ++ repU ([33] : List UInt8) q)) ∧ i = .int .i64 (q : Int) ∧ Hid (LvSt w wr)) (fun _ i _ => n - (intOf i).toNat)
  case atStart => exact ⟨0, by omega, by rw [← H0.out], rfl, h0⟩
  case round =>
    clear h0
    obtain ⟨q, hq, rfl, rfl, hX⟩ := hrel
    have hsz := HSZ.out q (by omega)
    by_cases hqn : q < n
    · have hs := HS.out q
      have HB := Lib.hid (hX.out.bel.alloc hX.out.bel.size (.cells #[.string ⟨#[45, 32]⟩, .string ⟨#[126]⟩, .string ⟨#[33]⟩] 9))
      go_wp2
      go_roundw
      case rel => exact ⟨q + 1, by omega, rfl, by go_num, ⟨HB.out⟩⟩
      case measure => simp [intOf]; omega
    · obtain rfl : q = n := by omega
      have ht := HT.out
      have HC := Lib.hid (HP.out _ (HV.out.1.below hX.out.bel) (HV.out.2.below hX.out.bel))
      have HB := Lib.hid hX.out.bel
      clear HP hX
      by_cases hb : 200 < q + 5
      · rw [if_pos hb] at HC
        have qb : (200 : Int) < (q : Int) + 5 := by omega
        clear hb
        go_wp2_with fail
        refine HC.out.mono ?_
        rintro e w2 ⟨l, x, m, k, rfl, hT, hb2⟩
        have HB2 := Lib.hid (fun o => (HB.out.trans (hb2.mono HB.out.size)).alloc (HB.out.trans (hb2.mono HB.out.size)).size o)
        clear hT hb2
        go_wp2
        go_ret
        exact ⟨rfl, HB2.out _⟩
      · rw [if_neg hb] at HC
        have qb : (q : Int) + 5 ≤ 200 := by omega
        go_wp2_with fail
        refine HC.out.mono ?_
        rintro e w2 ⟨l, x, m, k, rfl, hT, hb2⟩
        have HB2 := Lib.hid ((HB.out.trans (hb2.mono HB.out.size)).alloc (HB.out.trans (hb2.mono HB.out.size)).size (.cells #[.int .i64 l.kind, .string (str l.name), .int .u64 l.num, .int .i64 l.wd, .bool l.sg, .int .i64 l.op, .int .i64 l.fac, .int .i64 l.pip, .int .i64 l.unr, .int .i64 l.line, .slice x m k] 28))
        have HC2 := Lib.hid (HD.out l x m k (w2.alloc (.cells #[.int .i64 l.kind, .string (str l.name), .int .u64 l.num, .int .i64 l.wd, .bool l.sg, .int .i64 l.op, .int .i64 l.fac, .int .i64 l.pip, .int .i64 l.unr, .int .i64 l.line, .slice x m k] 28)) (hT.keep (fun k _ hl => Below.heap_alloc w2 _ k hl) fun k hk _ => trivial))
        rw [hd] at HC2
        have hcast : ((q + 5 : Nat) : Int) = (q : Int) + 5 := by omega
        clear hT hb2 hb
        go_wp2_with fail
        refine HC2.out.mono ?_
        rintro e w3 ⟨rfl, hb3⟩
        have HB3 := Lib.hid (HB2.out.trans (hb3.mono HB2.out.size))
        clear hb3
        go_wp2
        go_ret
        exact ⟨by simp, HB3.out⟩

theorem parserLevels_walk (n : Int) (hn : 0 ≤ n ∧ n ≤ 255) (op : Int) (ho : 0 ≤ op ∧ op ≤ 255) (w : World) (V : Vs w) (LV : Lv w) : Calls Tryz.prog 9 #[.int .u8 n, .int .u8 op] w fun e w' => e = .returned (.bool true) ∧ Below w.heap.size w w' := by
  obtain ⟨a, rfl⟩ : ∃ m : Nat, n = (m : Int) := ⟨n.toNat, by omega⟩
  obtain ⟨b, rfl⟩ : ∃ m : Nat, op = (m : Int) := ⟨op.toNat, by omega⟩
  have h3 : b % 3 = 0 ∨ b % 3 = 1 ∨ b % 3 = 2 := by omega
  rcases h3 with h | h | h
  · exact levels_0 a b (by omega) (by omega) h w V LV
  · exact levels_1 a b (by omega) (by omega) h w V LV
  · exact levels_2 a b (by omega) (by omega) h w V LV
end Go.Proofs.YtfnhogeocbndcaaGreatDoor
