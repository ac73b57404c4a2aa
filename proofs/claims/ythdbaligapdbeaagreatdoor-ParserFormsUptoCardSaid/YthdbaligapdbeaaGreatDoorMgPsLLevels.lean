/- A source without loops; awake. -/
import Derived.Test.YthdbaligapdbeaaGreatDoorMgPsLx
import Derived.Test.YthdbaligapdbeaaGreatDoorMgPsRes
import Derived.Test.YthdbaligapdbeaaGreatDoorMgPsLaid
import Derived.BigQuiet
import Derived.Laws.IdiomStrings
namespace Go.Proofs.YthdbaligapdbeaaGreatDoor
open Go Go.RowKit
set_option linter.unusedVariables false

def NoLp (sp : List Sp) : Prop := ∀ x ∈ sp, x.2.1 ≠ [35] ∧ x.2.1 ≠ [102, 111, 114] ∧ x.2.1 ≠ [119, 104, 105, 108, 101]
theorem loop_none {ts : List Tok} {sp : List Sp} (h : ts.map key = sp) (hn : NoLp sp) (R g c : Nat) : LoopOK ts R g c := by
 intro f _ s w hq _ _
 exfalso
 have hall : ∀ u v, hasT ts s (u :: v) = true → (u :: v) ∈ sp.map (·.2.1) := by
  intro u v hh
  obtain ⟨hb, hi⟩ := hasT_in hh
  have ht : tx ts s = u :: v := of_decide_eq_true hh
  unfold tx nxt at ht
  rw [hb] at ht
  simp only [Bool.false_eq_true, if_false] at ht
  rw [tat_get hi] at ht
  rw [← h, List.map_map]
  exact List.mem_map.2 ⟨ts[s.i], List.getElem_mem hi, ht⟩
 have hno : ∀ t, (t = [35] ∨ t = [102, 111, 114] ∨ t = [119, 104, 105, 108, 101]) → ¬ t ∈ sp.map (·.2.1) := by
  intro t ht hm
  obtain ⟨x, hx, rfl⟩ := List.mem_map.1 hm
  obtain ⟨h1, h2, h3⟩ := hn x hx
  rcases ht with h | h | h
  ·exact h1 h
  ·exact h2 h
  ·exact h3 h
 simp only [Bool.or_eq_true] at hq
 rcases hq with (hq | hq) | hq
 ·exact hno _ (.inl rfl) (hall _ _ hq)
 ·exact hno _ (.inr (.inl rfl)) (hall _ _ hq)
 ·exact hno _ (.inr (.inr rfl)) (hall _ _ hq)
def awText : List UInt8 := [107, 101, 114, 110, 101, 108, 32, 107, 40, 41, 32, 123, 32, 125]
def awTree : Tree := .node (labK 1 1) [.node { labK 3 1 with name := [107] } [.node (labK 8 1) []]]
theorem aw_lex : (lexAll awText).2.2 = 0 := by decide +kernel
theorem aw_ne : (lexAll awText).1 ≠ [] := by decide +kernel
theorem aw_no : NoLp ((lexAll awText).1.map key) := by unfold NoLp; decide +kernel
theorem aw_parse : parseM awText = (awTree, 0, 0) := by kernel_rfl
end Go.Proofs.YthdbaligapdbeaaGreatDoor
/- awake: contract. -/
namespace Go.Proofs.YthdbaligapdbeaaGreatDoor
open Go Go.RowKit
set_option linter.unusedVariables false

theorem add_zero (a : Addr) : a.add 0 = a := by unfold Addr.add; rw [if_pos rfl]
set_option maxHeartbeats 1000000 in
set_option maxRecDepth 100000 in
theorem awake_any (w : World) (V : Vs w) (LV : Lv w) : Calls Tryz.prog 10 #[] w fun e w' => e = .returned (.bool true) ∧ Below w.heap.size w w' := by
 have HP : Hid (Calls Tryz.prog 26 #[.string ⟨#[107, 101, 114, 110, 101, 108, 32, 107, 40, 41, 32, 123, 32, 125]⟩] w (PP w (awTree, 0, 0))) := Hd (by
  have h := parse_main awText w V LV aw_lex aw_ne (fun R g c => loop_none rfl aw_no R g c)
  rw [aw_parse] at h
  exact h)
 clear V LV
 go_enter Tryz.func10, Tryz.ntmps10
 go_wp2_with fail
 refine HP.out.mono ?_
 rintro e w1 ⟨l, x, n, k, rfl, hT, hb⟩
 obtain ⟨x0, k0, hcs, hk0, hkm, hkids⟩ := TreeAt.kids hT
 obtain ⟨hkind, hname, hn, rfl, rfl, rfl⟩ : l.kind = 1 ∧ True ∧ True ∧ x = x0 ∧ n = 1 ∧ k = k0 := by
  have e0 := congrArg (fun c : List Value => c[0]?) hcs
  have e10 := congrArg (fun c : List Value => c[10]?) hcs
  simp [lcells] at e0 e10
  exact ⟨by rw [e0]; rfl, trivial, trivial, e10.1, e10.2.1, e10.2.2⟩
 obtain ⟨a, hxa, hpa, l2, x2, n2, k2, ⟨c0, c1, c2, c3, c4, c5, c6, c7, c8, c9, c10⟩, hT2⟩ := hkids 0 (by decide)
 subst hxa
 obtain ⟨x3, k3, hcs2, _, _, _⟩ := TreeAt.kids hT2
 have hnm : str l2.name = ⟨#[107]⟩ := by
  have e1 := congrArg (fun c : List Value => c[1]?) hcs2
  simp [lcells] at e1
  rw [e1]
  rfl
 rw [Nat.zero_mul, add_zero] at c0 c1
 rw [hnm] at c1
 have hal : a.block < w1.heap.size := cell_block_lt c0
 have HB := Hd (hb.alloc hb.size (.cells #[.int .i64 l.kind, .string (str l.name), .int .u64 l.num, .int .i64 l.wd, .bool l.sg, .int .i64 l.op, .int .i64 l.fac, .int .i64 l.pip, .int .i64 l.unr, .int .i64 l.line, .slice (some a) 1 k] 27))
 rw [hkind] at HB
 clear hT hb hkids hT2 hcs hcs2 c2 c3 c4 c5 c6 c7 c8 c9 c10 HP hnm hname hn hpa
 go_wp2
 go_ret
 exact ⟨rfl, HB.out⟩
end Go.Proofs.YthdbaligapdbeaaGreatDoor
/- The law on levels: the walk. -/
namespace Go.Proofs.YthdbaligapdbeaaGreatDoor
open Go Go.RowKit
set_option linter.unusedVariables false

theorem Lv.below {w w' : World} (h : Lv w) (hb : Below w.heap.size w w') : Lv w' := by
 intro l hl
 obtain ⟨v, h1, a, c, rfl, h2⟩ := h l hl
 refine ⟨_, by rw [hb.cell (World.block_lt_of_cell? _ _ h1)]; exact h1, a, c, rfl, fun j hj => ?_⟩
 obtain ⟨e1, e2⟩ := h2 j hj
 exact ⟨by rw [hb.cell (World.block_lt_of_cell? _ _ e1)]; exact e1, by rw [hb.cell (World.block_lt_of_cell? _ _ e2)]; exact e2⟩
structure LvSt (w wr : World) : Prop where
 bel : Below w.heap.size w wr

end Go.Proofs.YthdbaligapdbeaaGreatDoor
