/- Names and types: contracts of the code's isName, isType, isAmount, isDivision and of the reference's Name. -/
import Derived.Test.YthdbaligapdbeaaGreatDoorMgPsWi
import Derived.Test.YthdbaligapdbeaaGreatDoorMgLxTk
import Derived.Test.YthdbaligapdbeaaGreatDoorMgLxLex
import Derived.Test.YthdbaligapdbeaaGreatDoorMgLxChain
import Derived.Test.YthdbaligapdbeaaGreatDoorMgPsKid
import Derived.Test.YthdbaligapdbeaaGreatDoorMgPsPut
import Derived.Laws.StructEq
namespace Go.Proofs.YthdbaligapdbeaaGreatDoor
open Go Go.RowKit
set_option linter.unusedVariables false

set_option maxHeartbeats 1000000 in
theorem rLex_all (l : List UInt8) (hs : l.length ≤ 281474976710656) (w : World) : Calls Tryz.prog 93 #[.string (str l)] w fun e w' =>
  ∃ v, e = .returned (.tuple #[v, .int .i64 ((lexAll l).2.1 : Int), .int .i64 ((lexAll l).2.2 : Int)]) ∧ w'.ownsRow w.heap.size 89 5 v (lexAll l).1.length (tcells (lexAll l).1) ∧ Below w.heap.size w w' := by
 by_cases h : l.length ≤ 65536
 ·exact rLex_any l h w
 ·have hsz : (str l).size = l.length := str_size l
  have hl : lexAll l = ([], 65536, 5) := by unfold lexAll; rw [if_pos (by omega)]
  rw [hl]
  have HO := Hd (World.ownsRow_nil w w.heap.size 89 5)
  go_enter Tryz.func93, Tryz.ntmps93
  go_wp2
  go_ret3
  exact ⟨_, rfl, HO.out, Below.refl _ _⟩
theorem nameB_err {s : List UInt8} (h : (lexAll s).2.2 ≠ 0) : nameB s = false := by
 rcases lexAll_cases s with ⟨h1, _⟩ | ⟨_, h1, _⟩
 ·exact absurd h1 h
 ·unfold nameB; rw [h1]
theorem nameB_nil {s : List UInt8} (h : (lexAll s).1 = []) : nameB s = false := by unfold nameB; rw [h]
theorem nameB_two {s : List UInt8} {t u : Tok} {r : List Tok} (h : (lexAll s).1 = t :: u :: r) : nameB s = false := by unfold nameB; rw [h]
theorem nameB_one {s : List UInt8} {t : Tok} (h : (lexAll s).1 = [t]) : nameB s = (decide (t.kind = 1) && decide (t.text = s)) := by unfold nameB; rw [h]
theorem one_tok {w : World} {base : Nat} {v : Value} {t : Tok} (h : w.ownsRow base 89 5 v 1 (tcells [t])) : ∃ g c, v = .slice (some ⟨g, 0, none⟩) 1 c ∧ w.cell? ⟨g, 0, none⟩ = some (.int .i64 (t.kind : Int)) ∧ w.cell? ⟨g, 1, none⟩ = some (.string (str t.text)) := by
 rcases toks_own (ts := [t]) h with ⟨h1, _⟩ | ⟨g, c, hv, _, hT⟩
 ·cases h1
 ·have := hT.2 0 (by simp)
  exact ⟨g, c, hv, this.1, this.2.1⟩
theorem own_slice {w : World} {base : Nat} {v : Value} {ts : List Tok} (h : w.ownsRow base 89 5 v ts.length (tcells ts)) : ∃ x c, v = .slice x ts.length c := by
 rcases toks_own h with ⟨h1, h2⟩ | ⟨g, c, hv, _, _⟩
 ·subst h1; exact ⟨none, 0, h2⟩
 ·exact ⟨_, c, hv⟩
set_option maxHeartbeats 2000000 in
set_option maxRecDepth 100000 in
theorem rname_any (s : List UInt8) (hs : s.length ≤ 281474976710656) (w : World) : Calls Tryz.prog 57 #[.string (str s)] w fun e w' => e = .returned (.bool (nameB s)) ∧ Below w.heap.size w w' := by
 have HL := Hd (rLex_all s hs w)
 have H0 : Hid ((lexAll s).2.2 ≠ 0 → nameB s = false) := Hd nameB_err
 have H1 : Hid ((lexAll s).1 = [] → nameB s = false) := Hd nameB_nil
 have H2 : Hid (∀ t u r, (lexAll s).1 = t :: u :: r → nameB s = false) := Hd fun t u r => nameB_two
 have H3 : Hid (∀ t, (lexAll s).1 = [t] → nameB s = (decide (t.kind = 1) && decide (t.text = s))) := Hd fun t => nameB_one
 generalize lexAll s = L at *
 obtain ⟨ts, at_, er⟩ := L
 dsimp only at *
 clear hs
 generalize nameB s = nb at *
 go_enter Tryz.func57, Tryz.ntmps57
 go_wp2_with fail
 refine HL.out.mono ?_
 rintro e w1 ⟨v, rfl, hown, hb⟩
 have HB := Hd hb
 clear hb HL
 by_cases he : er = 0
 ·subst he
  rcases ts with _ | ⟨t, _ | ⟨u, r⟩⟩
  ·obtain ⟨x, c, rfl⟩ := own_slice hown
   have HR := Hd (H1.out rfl)
   clear hown H0 H1 H2 H3
   go_wp2
   go_ret
   exact ⟨by rw [HR.out]; rfl, HB.out⟩
  ·obtain ⟨g, c, rfl, c0, c1⟩ := one_tok hown
   have HR := Hd (H3.out t rfl)
   clear hown H0 H1 H2 H3
   by_cases hk : t.kind = 1
   ·by_cases ht : t.text = s
    ·have q1 : ((t.kind : Int) == 1) = true := by rw [hk]; rfl
     have HR2 : Hid (nb = true) := Hd (by rw [HR.out, decide_eq_true hk, decide_eq_true ht]; rfl)
     have q2 : (str t.text).toList = (str s).toList := by rw [ht]
     clear HR hk ht
     go_wp2
     go_ret
     exact ⟨by rw [HR2.out]; rfl, HB.out⟩
    ·have q1 : ((t.kind : Int) == 1) = true := by rw [hk]; rfl
     have HR2 : Hid (nb = false) := Hd (by rw [HR.out, decide_eq_false ht, Bool.and_false])
     have q2 : ((str t.text).toList == (str s).toList) = false := by rw [beq_eq_false_iff_ne, str_toList, str_toList]; exact ht
     clear HR hk ht
     go_wp2
     go_ret
     exact ⟨by rw [HR2.out]; rfl, HB.out⟩
   ·have q1 : ((t.kind : Int) == 1) = false := by rw [beq_eq_false_iff_ne]; omega
    have HR2 : Hid (nb = false) := Hd (by rw [HR.out, decide_eq_false hk]; rfl)
    clear HR hk
    go_wp2
    go_ret
    exact ⟨by rw [HR2.out]; rfl, HB.out⟩
  ·obtain ⟨x, c, rfl⟩ := own_slice hown
   have HR := Hd (H2.out t u r rfl)
   clear hown H0 H1 H2 H3
   have q1 : (((t :: u :: r).length : Int) == 1) = false := by rw [beq_eq_false_iff_ne]; simp; omega
   generalize (t :: u :: r).length = N at *
   go_wp2
   go_ret
   exact ⟨by rw [HR.out]; rfl, HB.out⟩
 ·have HR := Hd (H0.out he)
  have q1 : ((er : Int) == 0) = false := by rw [beq_eq_false_iff_ne]; omega
  clear hown H0 H1 H2 H3 he
  go_wp2
  go_ret
  exact ⟨by rw [HR.out]; rfl, HB.out⟩
set_option maxHeartbeats 2000000 in
set_option maxRecDepth 100000 in
theorem isName_any (s : List UInt8) (hs : s.length ≤ 281474976710656) (w : World) (V : Vs w) : Calls Tryz.prog 84 #[.string (str s)] w fun e w' => e = .returned (.bool (nameB s)) ∧ Below w.heap.size w w' := by
 have HL := Hd (lex_any s hs w V)
 have H1 : Hid ((lexAll s).1 = [] → nameB s = false) := Hd nameB_nil
 have H2 : Hid (∀ t u r, (lexAll s).1 = t :: u :: r → nameB s = false) := Hd fun t u r => nameB_two
 have H3 : Hid (∀ t, (lexAll s).1 = [t] → nameB s = (decide (t.kind = 1) && decide (t.text = s))) := Hd fun t => nameB_one
 generalize lexAll s = L at *
 obtain ⟨ts, at_, er⟩ := L
 dsimp only at *
 clear hs V
 generalize nameB s = nb at *
 go_enter Tryz.func84, Tryz.ntmps84
 go_wp2_with fail
 refine HL.out.mono ?_
 rintro e w1 ⟨v, rfl, hown, hb⟩
 have HB := Hd hb
 clear hb HL
 rcases ts with _ | ⟨t, _ | ⟨u, r⟩⟩
 ·obtain ⟨x, c, rfl⟩ := own_slice hown
  have HR := Hd (H1.out rfl)
  clear hown H1 H2 H3
  go_wp2
  go_ret
  exact ⟨by rw [HR.out]; rfl, HB.out⟩
 ·obtain ⟨g, c, rfl, c0, c1⟩ := one_tok hown
  have HR := Hd (H3.out t rfl)
  clear hown H1 H2 H3
  by_cases hk : t.kind = 1
  ·by_cases ht : t.text = s
   ·have q1 : ((t.kind : Int) == 1) = true := by rw [hk]; rfl
    have HR2 : Hid (nb = true) := Hd (by rw [HR.out, decide_eq_true hk, decide_eq_true ht]; rfl)
    have q2 : (str t.text).toList = (str s).toList := by rw [ht]
    clear HR hk ht
    go_wp2
    go_ret
    exact ⟨by rw [HR2.out]; rfl, HB.out⟩
   ·have q1 : ((t.kind : Int) == 1) = true := by rw [hk]; rfl
    have HR2 : Hid (nb = false) := Hd (by rw [HR.out, decide_eq_false ht, Bool.and_false])
    have q2 : ((str t.text).toList == (str s).toList) = false := by rw [beq_eq_false_iff_ne, str_toList, str_toList]; exact ht
    clear HR hk ht
    go_wp2
    go_ret
    exact ⟨by rw [HR2.out]; rfl, HB.out⟩
  ·have q1 : ((t.kind : Int) == 1) = false := by rw [beq_eq_false_iff_ne]; omega
   have HR2 : Hid (nb = false) := Hd (by rw [HR.out, decide_eq_false hk]; rfl)
   clear HR hk
   go_wp2
   go_ret
   exact ⟨by rw [HR2.out]; rfl, HB.out⟩
 ·obtain ⟨x, c, rfl⟩ := own_slice hown
  have HR := Hd (H2.out t u r rfl)
  clear hown H1 H2 H3
  have q1 : (((t :: u :: r).length : Int) == 1) = false := by rw [beq_eq_false_iff_ne]; simp; omega
  generalize (t :: u :: r).length = N at *
  go_wp2
  go_ret
  exact ⟨by rw [HR.out]; rfl, HB.out⟩
set_option maxHeartbeats 1000000 in
set_option maxRecDepth 100000 in
theorem isType_any (wd : Int) (sg : Bool) (w : World) : Calls Tryz.prog 85 #[.agg #[.int .i64 wd, .bool sg]] w fun e w' => e = .returned (.bool (typB wd)) ∧ Below w.heap.size w w' := by
 have HA := Hd ((Below.refl w.heap.size w).alloc (Nat.le_refl _) (.cells #[.int .i64 wd, .bool sg] 24))
 have HT := Hd fun W => typeName_any wd sg W
 by_cases h : 1 ≤ wd ∧ wd ≤ 64
 ·have HR : Hid (typB wd = true) := Hd (by simp [typB, h])
  have q : ¬ (tn wd sg).toList = [] := by
   unfold tn
   rw [if_pos h, str_toList]
   unfold nameOf
   simp
  have q2 : (tn wd sg).toList.isEmpty = false := by rw [List.isEmpty_eq_false_iff]; exact q
  generalize tn wd sg = S at *
  go_enter Tryz.func85, Tryz.ntmps85
  go_wp2_with fail
  refine (HT.out _).mono ?_
  rintro e w1 ⟨rfl, hb⟩
  have HB := Hd (HA.out.trans (hb.mono HA.out.size))
  clear hb
  go_wp2
  go_ret
  exact ⟨by rw [HR.out]; rfl, HB.out⟩
 ·have HR : Hid (typB wd = false) := Hd (by simp [typB]; omega)
  have q : tn wd sg = ⟨#[]⟩ := by unfold tn; rw [if_neg h]
  rw [q] at HT
  go_enter Tryz.func85, Tryz.ntmps85
  go_wp2_with fail
  refine (HT.out _).mono ?_
  rintro e w1 ⟨rfl, hb⟩
  have HB := Hd (HA.out.trans (hb.mono HA.out.size))
  clear hb q
  go_wp2
  go_ret
  exact ⟨by rw [HR.out]; rfl, HB.out⟩
set_option maxHeartbeats 1000000 in
theorem isAmount_any (n : Int) (w : World) : Calls Tryz.prog 87 #[.int .i64 n] w fun e w' => e = .returned (.bool (amtB n)) ∧ w = w' := by
 by_cases h1 : 0 ≤ n
 ·by_cases h2 : n ≤ 1048576
  ·have HR : Hid (amtB n = true) := Hd (by simp [amtB, h1, h2])
   go_enter Tryz.func87, Tryz.ntmps87
   go_wp2
   go_ret
   exact ⟨by rw [HR.out]; rfl, rfl⟩
  ·have HR : Hid (amtB n = false) := Hd (by simp [amtB, h2])
   go_enter Tryz.func87, Tryz.ntmps87
   go_wp2
   go_ret
   exact ⟨by rw [HR.out]; rfl, rfl⟩
 ·have HR : Hid (amtB n = false) := Hd (by simp [amtB, h1])
  go_enter Tryz.func87, Tryz.ntmps87
  go_wp2
  go_ret
  exact ⟨by rw [HR.out]; rfl, rfl⟩
set_option maxHeartbeats 1000000 in
theorem isDivision_any (op fac : Int) (w : World) : Calls Tryz.prog 86 #[.int .i64 op, .int .i64 fac] w fun e w' => e = .returned (.bool (divB op fac)) ∧ w = w' := by
 have HA := Hd fun W => isAmount_any fac W
 have hc : op = 1 ∨ op = 2 ∨ op = 0 ∨ op = 3 ∨ (¬ op = 1 ∧ ¬ op = 2 ∧ ¬ op = 0 ∧ ¬ op = 3) := by omega
 rcases hc with rfl | rfl | rfl | rfl | ⟨g1, g2, g3, g4⟩
 ·have HR : Hid (divB 1 fac = amtB fac) := Hd (by simp [divB])
  go_enter Tryz.func86, Tryz.ntmps86
  go_wp2_with fail
  refine (HA.out _).mono ?_
  rintro e w1 ⟨rfl, rfl⟩
  go_wp2
  go_ret
  exact ⟨by rw [HR.out]; rfl, rfl⟩
 ·have HR : Hid (divB 2 fac = amtB fac) := Hd (by simp [divB])
  go_enter Tryz.func86, Tryz.ntmps86
  go_wp2_with fail
  refine (HA.out _).mono ?_
  rintro e w1 ⟨rfl, rfl⟩
  go_wp2
  go_ret
  exact ⟨by rw [HR.out]; rfl, rfl⟩
 ·by_cases h : fac = 0
  ·subst h
   go_enter Tryz.func86, Tryz.ntmps86
   go_wp2
   go_ret
   exact ⟨rfl, rfl⟩
  ·have HR : Hid (divB 0 fac = false) := Hd (by simp [divB, h])
   go_enter Tryz.func86, Tryz.ntmps86
   go_wp2
   go_ret
   exact ⟨by rw [HR.out]; first | rfl | simp [h], rfl⟩
 ·by_cases h : fac = 0
  ·subst h
   go_enter Tryz.func86, Tryz.ntmps86
   go_wp2
   go_ret
   exact ⟨rfl, rfl⟩
  ·have HR : Hid (divB 3 fac = false) := Hd (by simp [divB, h])
   go_enter Tryz.func86, Tryz.ntmps86
   go_wp2
   go_ret
   exact ⟨by rw [HR.out]; first | rfl | simp [h], rfl⟩
 ·have HR : Hid (divB op fac = false) := Hd (by simp [divB, g1, g2, g3, g4])
  go_enter Tryz.func86, Tryz.ntmps86
  go_wp2
  go_ret
  exact ⟨by rw [HR.out]; rfl, rfl⟩
end Go.Proofs.YthdbaligapdbeaaGreatDoor
/- The code's textOf and binaryLevel: contracts. -/
namespace Go.Proofs.YthdbaligapdbeaaGreatDoor
open Go Go.RowKit
set_option linter.unusedVariables false

def opText (l : Nat) (op : Int) : List UInt8 := (((levelOps l).find? fun p => decide ((p.2 : Int) = op)).map (·.1)).getD []
theorem opText_hit {l k : Nat} {op : Int} (h : k < (levelOps l).length) (hno : ∀ j, j < k → (opN l j : Int) ≠ op) (hy : (opN l k : Int) = op) : opText l op = opT l k := by
 unfold opText
 have : (levelOps l).find? (fun p => decide ((p.2 : Int) = op)) = some (levelOps l)[k] := by
  rw [List.find?_eq_some_iff_getElem]
  refine ⟨by rw [opN_get h]; simpa using hy, k, h, rfl, fun j hj => ?_⟩
  have := hno j hj
  rw [opN_get (by omega)]
  simpa using this
 rw [this]
 exact opT_get h
theorem opText_miss {l : Nat} {op : Int} (hno : ∀ j, j < (levelOps l).length → (opN l j : Int) ≠ op) : opText l op = [] := by
 unfold opText
 have : (levelOps l).find? (fun p => decide ((p.2 : Int) = op)) = none := by
  rw [List.find?_eq_none]
  intro p hp
  obtain ⟨j, hj, rfl⟩ := List.getElem_of_mem hp
  have := hno j hj
  rw [opN_get hj]
  simpa using this
 rw [this]
 rfl
theorem opText_10 (op : Int) : opText 10 op ≠ [] ↔ 19 ≤ op ∧ op ≤ 21 := by
 have hc : op = 19 ∨ op = 20 ∨ op = 21 ∨ ¬ (19 ≤ op ∧ op ≤ 21) := by omega
 rcases hc with rfl | rfl | rfl | h
 ·decide
 ·decide
 ·decide
 ·have : opText 10 op = [] := by
   have h1 : ¬ (19 : Int) = op := by omega
   have h2 : ¬ (20 : Int) = op := by omega
   have h3 : ¬ (21 : Int) = op := by omega
   simp [opText, levelOps, h1, h2, h3]
  simp [this, h]
def hasLv (op : Int) : Prop := ∃ j, j < 9 ∧ opText j op ≠ []
theorem hasLv_iff (op : Int) : hasLv op ↔ 1 ≤ op ∧ op ≤ 18 := by
 constructor
 ·rintro ⟨j, hj, h⟩
  refine Classical.byContradiction fun hn => h ?_
  have e : ∀ k : Nat, 1 ≤ k ∧ k ≤ 18 → ¬ (k : Int) = op := fun k hk he => hn (by omega)
  refine opText_miss fun i hi he => ?_
  have hb : 1 ≤ opN j i ∧ opN j i ≤ 18 := by
   rw [← opN_get hi]
   have : ∀ j, j < 9 → ∀ p ∈ levelOps j, 1 ≤ p.2 ∧ p.2 ≤ 18 := by decide
   exact this j hj _ (List.getElem_mem hi)
  exact e _ hb he
 ·rintro ⟨h1, h2⟩
  obtain ⟨n, rfl⟩ : ∃ n : Nat, op = (n : Int) := ⟨op.toNat, by omega⟩
  have : ∀ n : Nat, n < 19 → 1 ≤ n → ∃ j, j < 9 ∧ opText j (n : Int) ≠ [] := by decide
  exact this n (by omega) (by omega)
theorem Lv.belowK {w w' : World} (h : Lv w) (hb : Below w.heap.size w w') : Lv w' := by
 intro l hl
 obtain ⟨v, hv, a, c, he, hc⟩ := h l hl
 refine ⟨v, (hb.cell (p := ⟨9, l, none⟩) (cell_block_lt hv)).trans hv, a, c, he, fun j hj => ?_⟩
 obtain ⟨h1, h2⟩ := hc j hj
 exact ⟨(hb.cell (cell_block_lt h1)).trans h1, (hb.cell (cell_block_lt h2)).trans h2⟩
structure TxSt (w wr : World) (l : Nat) (op : Int) (k : Nat) : Prop where
 bel : Below w.heap.size w wr
 no : ∀ j, j < k → (opN l j : Int) ≠ op
set_option maxHeartbeats 1000000 in
set_option maxRecDepth 100000 in
theorem textOf_any (l : Nat) (hl : l < 11) (op : Int) (w : World) (L : Lv w) : Calls Tryz.prog 88 #[.int .i64 (l : Int), .int .i64 op] w fun e w' => e = .returned (.string (str (opText l op))) ∧ Below w.heap.size w w' := by
 obtain ⟨v, hv, a, cc, rfl, hrow0⟩ := L l hl
 have HROW := Hd (lv_row hrow0)
 have hlen6 := levelOps_len l
 have HH := Hd fun k (h : k < (levelOps l).length) hno hy => opText_hit (l := l) (k := k) (op := op) h hno hy
 have HM := Hd fun hno => opText_miss (l := l) (op := op) hno
 have h0 : Hid (TxSt w w l op 0) := ⟨Below.refl _ _, fun j h => by omega⟩
 have hl' : (l : Int) < 11 := by omega
 clear hrow0 L
 generalize hT : opText l op = T at *
 have HT := Hd hT
 rw [← hT]
 clear hT
 generalize (levelOps l).length = N at *
 go_enter Tryz.func88, Tryz.ntmps88
 go_wp2
 clear hv
 go_loopw [6, 11] (fun p i wr => ∃ k : Nat, k ≤ N ∧ i = .int .i64 (k : Int) ∧ Hid (TxSt w wr l op k)) (fun _ i _ => N - (intOf i).toNat)
 case atStart => exact ⟨0, by omega, rfl, h0⟩
 case round =>
  clear h0
  obtain ⟨k, hk, rfl, hX⟩ := hrel
  by_cases hkN : k < N
  ·obtain ⟨d1, d2⟩ := HROW.out k hkN
   have hl1 := cell_block_lt d1
   have hl2 := cell_block_lt d2
   have e1 : wr.cell? (a.add (k * 2)) = some (.string (str (opT l k))) := (hX.out.bel.cell hl1).trans d1
   have e2 : wr.cell? (a.add (k * 2 + 1)) = some (.int .i64 (opN l k : Int)) := (hX.out.bel.cell hl2).trans d2
   have e3 : wr.cell? ⟨(a.add (k * 2)).block, (a.add (k * 2)).off + 1, none⟩ = some (.int .i64 (opN l k : Int)) := by rw [← e2, ← Go.Deep.add_add]; rfl
   have HB := Hd (hX.out.bel.alloc hX.out.bel.size (.cells #[.string (str (opT l k)), .int .i64 (opN l k : Int)] 124))
   have hk0 : (0 : Int) ≤ (k : Int) := by omega
   have hk1 : (k : Int) < (N : Int) := by omega
   clear d1 d2 hl1 hl2 e2
   by_cases hy : (opN l k : Int) = op
   ·have HR := Hd (HH.out k hkN hX.out.no hy)
    have q1 : ((opN l k : Int) == op) = true := by rw [hy]; simp
    have HR2 : Hid (opText l op = opT l k) := Hd (HT.out.trans HR.out)
    clear hX hy HR
    generalize opN l k = o1 at *
    go_wp2
    go_ret
    exact ⟨by rw [HR2.out]; rfl, HB.out⟩
   ·have q1 : ((opN l k : Int) == op) = false := by rw [beq_eq_false_iff_ne]; exact hy
    have HX2 : Hid (TxSt w (wr.alloc (.cells #[.string (str (opT l k)), .int .i64 (opN l k : Int)] 124)) l op (k + 1)) := Hd ⟨HB.out, fun j hj => by
     by_cases e : j = k
     ·subst e; exact hy
     ·exact hX.out.no j (by omega)⟩
    clear hX hy
    generalize opN l k = o1 at *
    go_wp2
    go_roundw
    case rel => exact ⟨k + 1, by omega, by go_num, HX2⟩
    case measure => simp [intOf]; omega
  ·obtain rfl : k = N := by omega
   have HR : Hid (opText l op = []) := Hd (HT.out.trans (HM.out hX.out.no))
   have HB := Hd hX.out.bel
   clear hX
   go_wp2
   go_ret
   exact ⟨by rw [HR.out]; rfl, HB.out⟩
structure BlvSt (w wr : World) (op : Int) (k : Nat) : Prop where
 bel : Below w.heap.size w wr
 no : ∀ j, j < k → opText j op = []
set_option maxHeartbeats 1000000 in
set_option maxRecDepth 100000 in
theorem binLevel_any (op : Int) (w : World) (L : Lv w) : Calls Tryz.prog 89 #[.int .i64 op] w fun e w' => (∃ r : Nat, e = .returned (.int .i64 (r : Int)) ∧ r ≤ 9 ∧ decide (r < 9) = (decide (1 ≤ op) && decide (op ≤ 18))) ∧ Below w.heap.size w w' := by
 have HL := Hd L
 have HTX := Hd fun (l : Nat) (hl : l < 9) W (hb : Below w.heap.size w W) => textOf_any l (by omega) op W (HL.out.belowK hb)
 have HY : Hid (∀ k, k < 9 → opText k op ≠ [] → (decide (1 ≤ op) && decide (op ≤ 18)) = true) := Hd fun k hk h => by
  have := (hasLv_iff op).1 ⟨k, hk, h⟩
  simp [this]
 have HN : Hid ((∀ j, j < 9 → opText j op = []) → (decide (1 ≤ op) && decide (op ≤ 18)) = false) := Hd fun h => by
  have : ¬ hasLv op := fun ⟨j, hj, hne⟩ => hne (h j hj)
  rw [hasLv_iff] at this
  rw [Bool.eq_false_iff]
  intro hh
  simp at hh
  exact this hh
 have h0 : Hid (BlvSt w w op 0) := ⟨Below.refl _ _, fun j h => by omega⟩
 clear L HL
 generalize (decide (1 ≤ op) && decide (op ≤ 18)) = R at *
 go_enter Tryz.func89, Tryz.ntmps89
 go_wp2
 go_loopw [3, 4] (fun v i wr => ∃ k : Nat, k ≤ 9 ∧ i = .int .i64 (k : Int) ∧ Hid (BlvSt w wr op k)) (fun _ i _ => 9 - (intOf i).toNat)
 case atStart => exact ⟨0, by omega, rfl, h0⟩
 case round =>
  clear h0
  obtain ⟨k, hk, rfl, hX⟩ := hrel
  by_cases hk9 : k < 9
  ·have HC := Hd (HTX.out k hk9 _ hX.out.bel)
   have hk9i : (k : Int) < 9 := by omega
   by_cases he : opText k op = []
   ·have q : (str (opText k op)).toList.isEmpty = true := by rw [he, str_toList]; rfl
    have q2 : (str (opText k op)).toList = [] := by rw [he, str_toList]
    generalize hS : str (opText k op) = S at *
    clear hS
    go_wp2_with fail
    refine HC.out.mono ?_
    rintro e w1 ⟨rfl, hb⟩
    have HX2 : Hid (BlvSt w w1 op (k + 1)) := Hd ⟨hX.out.bel.trans (hb.mono hX.out.bel.size), fun j hj => by
     by_cases e : j = k
     ·subst e; exact he
     ·exact hX.out.no j (by omega)⟩
    clear hb hX HC he
    go_wp2
    go_roundw
    case rel => exact ⟨k + 1, by omega, by go_num, HX2⟩
    case measure => simp [intOf]; omega
   ·have q : (str (opText k op)).toList.isEmpty = false := by rw [str_toList, List.isEmpty_eq_false_iff]; exact he
    have HR := Hd (HY.out k hk9 he)
    generalize hS : str (opText k op) = S at *
    clear hS
    go_wp2_with fail
    refine HC.out.mono ?_
    rintro e w1 ⟨rfl, hb⟩
    have HB := Hd (hX.out.bel.trans (hb.mono hX.out.bel.size))
    clear hb hX HC he
    go_wp2
    go_ret
    exact ⟨⟨k, rfl, by omega, by rw [HR.out, decide_eq_true hk9]⟩, HB.out⟩
  ·obtain rfl : k = 9 := by omega
   have HR := Hd (HN.out hX.out.no)
   have HB := Hd hX.out.bel
   clear hX
   go_wp2
   go_ret
   exact ⟨⟨9, rfl, by omega, by rw [HR.out]; rfl⟩, HB.out⟩
end Go.Proofs.YthdbaligapdbeaaGreatDoor
/- The reference's fields, Right and directives: contracts. -/
namespace Go.Proofs.YthdbaligapdbeaaGreatDoor
open Go Go.RowKit
set_option linter.unusedVariables false

set_option maxHeartbeats 4000000 in
set_option maxRecDepth 100000 in
theorem fields_any (l1 : Lab) (x1 : Option Addr) (n1 k1 : Nat) (l2 : Lab) (x2 : Option Addr) (n2 k2 : Nat) (w : World) :
  Calls Tryz.prog 31 #[.agg #[.int .i64 l1.kind, .string (str l1.name), .int .u64 l1.num, .int .i64 l1.wd, .bool l1.sg, .int .i64 l1.op, .int .i64 l1.fac, .int .i64 l1.pip, .int .i64 l1.unr, .int .i64 l1.line, .slice x1 n1 k1], .agg #[.int .i64 l2.kind, .string (str l2.name), .int .u64 l2.num, .int .i64 l2.wd, .bool l2.sg, .int .i64 l2.op, .int .i64 l2.fac, .int .i64 l2.pip, .int .i64 l2.unr, .int .i64 l2.line, .slice x2 n2 k2]] w fun e w' => e = .returned (.bool (sameL l2 l1)) ∧ Below w.heap.size w w' := by
 obtain ⟨a0, a1, a2, a3, a4, a5, a6, a7, a8, a9⟩ := l1
 obtain ⟨b0, b1, b2, b3, b4, b5, b6, b7, b8, b9⟩ := l2
 dsimp only at *
 by_cases hl : a0 = b0
 rotate_left
 ·have HS : Hid (sameL ⟨b0, b1, b2, b3, b4, b5, b6, b7, b8, b9⟩ ⟨a0, a1, a2, a3, a4, a5, a6, a7, a8, a9⟩ = false) := Hd (Bool.eq_false_iff.2 fun h => hl (sameL_iff.1 h).1.symm)
  have q1 : (a0 == b0) = false := by rw [beq_eq_false_iff_ne]; exact hl
  go_enter Tryz.func31, Tryz.ntmps31
  go_wp2
  go_ret
  exact ⟨by rw [HS.out]; rfl, ((Below.refl w.heap.size w).alloc (Nat.le_refl _) _).alloc (by simp) _⟩
 subst hl
 by_cases hl : a1 = b1
 rotate_left
 ·have HS : Hid (sameL ⟨a0, b1, b2, b3, b4, b5, b6, b7, b8, b9⟩ ⟨a0, a1, a2, a3, a4, a5, a6, a7, a8, a9⟩ = false) := Hd (Bool.eq_false_iff.2 fun h => hl (sameL_iff.1 h).2.1.symm)
  have q1 : ¬ (str a1).toList = (str b1).toList := by rw [str_toList, str_toList]; exact hl
  go_enter Tryz.func31, Tryz.ntmps31
  go_wp2
  go_ret
  exact ⟨by rw [HS.out]; rfl, ((Below.refl w.heap.size w).alloc (Nat.le_refl _) _).alloc (by simp) _⟩
 subst hl
 by_cases hl : a2 = b2
 rotate_left
 ·have HS : Hid (sameL ⟨a0, a1, b2, b3, b4, b5, b6, b7, b8, b9⟩ ⟨a0, a1, a2, a3, a4, a5, a6, a7, a8, a9⟩ = false) := Hd (Bool.eq_false_iff.2 fun h => hl (sameL_iff.1 h).2.2.1.symm)
  have q1 : (a2 == b2) = false := by rw [beq_eq_false_iff_ne]; exact hl
  go_enter Tryz.func31, Tryz.ntmps31
  go_wp2
  go_ret
  exact ⟨by rw [HS.out]; rfl, ((Below.refl w.heap.size w).alloc (Nat.le_refl _) _).alloc (by simp) _⟩
 subst hl
 by_cases hl : a3 = b3
 rotate_left
 ·have HS : Hid (sameL ⟨a0, a1, a2, b3, b4, b5, b6, b7, b8, b9⟩ ⟨a0, a1, a2, a3, a4, a5, a6, a7, a8, a9⟩ = false) := Hd (Bool.eq_false_iff.2 fun h => hl (sameL_iff.1 h).2.2.2.1.symm)
  have q1 : (a3 == b3) = false := by rw [beq_eq_false_iff_ne]; exact hl
  go_enter Tryz.func31, Tryz.ntmps31
  go_wp2
  go_ret
  exact ⟨by rw [HS.out]; rfl, ((Below.refl w.heap.size w).alloc (Nat.le_refl _) _).alloc (by simp) _⟩
 subst hl
 by_cases hl : a4 = b4
 rotate_left
 ·have HS : Hid (sameL ⟨a0, a1, a2, a3, b4, b5, b6, b7, b8, b9⟩ ⟨a0, a1, a2, a3, a4, a5, a6, a7, a8, a9⟩ = false) := Hd (Bool.eq_false_iff.2 fun h => hl (sameL_iff.1 h).2.2.2.2.1.symm)
  have q1 : (a4 == b4) = false := by rw [beq_eq_false_iff_ne]; exact hl
  go_enter Tryz.func31, Tryz.ntmps31
  go_wp2
  go_ret
  exact ⟨by rw [HS.out]; rfl, ((Below.refl w.heap.size w).alloc (Nat.le_refl _) _).alloc (by simp) _⟩
 subst hl
 by_cases hl : a5 = b5
 rotate_left
 ·have HS : Hid (sameL ⟨a0, a1, a2, a3, a4, b5, b6, b7, b8, b9⟩ ⟨a0, a1, a2, a3, a4, a5, a6, a7, a8, a9⟩ = false) := Hd (Bool.eq_false_iff.2 fun h => hl (sameL_iff.1 h).2.2.2.2.2.1.symm)
  have q1 : (a5 == b5) = false := by rw [beq_eq_false_iff_ne]; exact hl
  go_enter Tryz.func31, Tryz.ntmps31
  go_wp2
  go_ret
  exact ⟨by rw [HS.out]; rfl, ((Below.refl w.heap.size w).alloc (Nat.le_refl _) _).alloc (by simp) _⟩
 subst hl
 by_cases hl : a6 = b6
 rotate_left
 ·have HS : Hid (sameL ⟨a0, a1, a2, a3, a4, a5, b6, b7, b8, b9⟩ ⟨a0, a1, a2, a3, a4, a5, a6, a7, a8, a9⟩ = false) := Hd (Bool.eq_false_iff.2 fun h => hl (sameL_iff.1 h).2.2.2.2.2.2.1.symm)
  have q1 : (a6 == b6) = false := by rw [beq_eq_false_iff_ne]; exact hl
  go_enter Tryz.func31, Tryz.ntmps31
  go_wp2
  go_ret
  exact ⟨by rw [HS.out]; rfl, ((Below.refl w.heap.size w).alloc (Nat.le_refl _) _).alloc (by simp) _⟩
 subst hl
 by_cases hl : a7 = b7
 rotate_left
 ·have HS : Hid (sameL ⟨a0, a1, a2, a3, a4, a5, a6, b7, b8, b9⟩ ⟨a0, a1, a2, a3, a4, a5, a6, a7, a8, a9⟩ = false) := Hd (Bool.eq_false_iff.2 fun h => hl (sameL_iff.1 h).2.2.2.2.2.2.2.1.symm)
  have q1 : (a7 == b7) = false := by rw [beq_eq_false_iff_ne]; exact hl
  go_enter Tryz.func31, Tryz.ntmps31
  go_wp2
  go_ret
  exact ⟨by rw [HS.out]; rfl, ((Below.refl w.heap.size w).alloc (Nat.le_refl _) _).alloc (by simp) _⟩
 subst hl
 by_cases hl : a8 = b8
 rotate_left
 ·have HS : Hid (sameL ⟨a0, a1, a2, a3, a4, a5, a6, a7, b8, b9⟩ ⟨a0, a1, a2, a3, a4, a5, a6, a7, a8, a9⟩ = false) := Hd (Bool.eq_false_iff.2 fun h => hl (sameL_iff.1 h).2.2.2.2.2.2.2.2.symm)
  have q1 : (a8 == b8) = false := by rw [beq_eq_false_iff_ne]; exact hl
  go_enter Tryz.func31, Tryz.ntmps31
  go_wp2
  go_ret
  exact ⟨by rw [HS.out]; rfl, ((Below.refl w.heap.size w).alloc (Nat.le_refl _) _).alloc (by simp) _⟩
 subst hl
 have HS : Hid (sameL ⟨a0, a1, a2, a3, a4, a5, a6, a7, a8, b9⟩ ⟨a0, a1, a2, a3, a4, a5, a6, a7, a8, a9⟩ = true) := Hd (sameL_iff.2 ⟨rfl, rfl, rfl, rfl, rfl, rfl, rfl, rfl, rfl⟩)
 go_enter Tryz.func31, Tryz.ntmps31
 go_wp2
 go_ret
 exact ⟨by rw [HS.out]; rfl, ((Below.refl w.heap.size w).alloc (Nat.le_refl _) _).alloc (by simp) _⟩
set_option maxHeartbeats 1000000 in
set_option maxRecDepth 100000 in
theorem right_any (wd : Int) (sg : Bool) (w : World) : Calls Tryz.prog 59 #[.agg #[.int .i64 wd, .bool sg]] w fun e w' => e = .returned (.bool (typB wd)) ∧ Below w.heap.size w w' := by
 by_cases h1 : 1 ≤ wd
 ·by_cases h2 : wd ≤ 64
  ·have HS : Hid (typB wd = true) := Hd (by simp [typB, h1, h2])
   go_enter Tryz.func59, Tryz.ntmps59
   go_wp2
   go_ret
   exact ⟨by rw [HS.out]; rfl, (Below.refl w.heap.size w).alloc (Nat.le_refl _) _⟩
  ·have HS : Hid (typB wd = false) := Hd (by simp [typB, h2])
   go_enter Tryz.func59, Tryz.ntmps59
   go_wp2
   go_ret
   exact ⟨by rw [HS.out]; rfl, (Below.refl w.heap.size w).alloc (Nat.le_refl _) _⟩
 ·have HS : Hid (typB wd = false) := Hd (by simp [typB, h1])
  go_enter Tryz.func59, Tryz.ntmps59
  go_wp2
  go_ret
  exact ⟨by rw [HS.out]; rfl, (Below.refl w.heap.size w).alloc (Nat.le_refl _) _⟩
set_option maxHeartbeats 1000000 in
set_option maxRecDepth 100000 in
theorem direct_any (l1 : Lab) (x1 : Option Addr) (n1 k1 : Nat) (w : World) :
  Calls Tryz.prog 133 #[.agg #[.int .i64 l1.kind, .string (str l1.name), .int .u64 l1.num, .int .i64 l1.wd, .bool l1.sg, .int .i64 l1.op, .int .i64 l1.fac, .int .i64 l1.pip, .int .i64 l1.unr, .int .i64 l1.line, .slice x1 n1 k1]] w fun e w' => e = .returned (.bool (dirB l1)) ∧ Below w.heap.size w w' := by
 obtain ⟨a0, a1, a2, a3, a4, a5, a6, a7, a8, a9⟩ := l1
 dsimp only at *
 by_cases h1 : 0 ≤ a7
 rotate_left
 ·have HS : Hid (dirB ⟨a0, a1, a2, a3, a4, a5, a6, a7, a8, a9⟩ = false) := Hd (by simp [dirB, h1])
  go_enter Tryz.func133, Tryz.ntmps133
  go_wp2
  go_ret
  exact ⟨by rw [HS.out]; rfl, (Below.refl w.heap.size w).alloc (Nat.le_refl _) _⟩
 by_cases h2 : a7 ≤ 1048576
 rotate_left
 ·have HS : Hid (dirB ⟨a0, a1, a2, a3, a4, a5, a6, a7, a8, a9⟩ = false) := Hd (by simp [dirB, h2])
  go_enter Tryz.func133, Tryz.ntmps133
  go_wp2
  go_ret
  exact ⟨by rw [HS.out]; rfl, (Below.refl w.heap.size w).alloc (Nat.le_refl _) _⟩
 by_cases h3 : 0 ≤ a8
 rotate_left
 ·have HS : Hid (dirB ⟨a0, a1, a2, a3, a4, a5, a6, a7, a8, a9⟩ = false) := Hd (by simp [dirB, h3])
  go_enter Tryz.func133, Tryz.ntmps133
  go_wp2
  go_ret
  exact ⟨by rw [HS.out]; rfl, (Below.refl w.heap.size w).alloc (Nat.le_refl _) _⟩
 by_cases h4 : a8 ≤ 1048576
 rotate_left
 ·have HS : Hid (dirB ⟨a0, a1, a2, a3, a4, a5, a6, a7, a8, a9⟩ = false) := Hd (by simp [dirB, h4])
  go_enter Tryz.func133, Tryz.ntmps133
  go_wp2
  go_ret
  exact ⟨by rw [HS.out]; rfl, (Below.refl w.heap.size w).alloc (Nat.le_refl _) _⟩
 have HS : Hid (dirB ⟨a0, a1, a2, a3, a4, a5, a6, a7, a8, a9⟩ = true) := Hd (by simp [dirB, h1, h2, h3, h4])
 go_enter Tryz.func133, Tryz.ntmps133
 go_wp2
 go_ret
 exact ⟨by rw [HS.out]; rfl, (Below.refl w.heap.size w).alloc (Nat.le_refl _) _⟩
theorem fields_no (a0 : Int) (a1 : List UInt8) (a2 a3 : Int) (a4 : Bool) (a5 a6 a7 a8 a9 : Int) (x1 : Option Addr) (n1 k1 : Nat) (b0 b2 b3 : Int) (b4 : Bool) (b5 b6 b7 b8 b9 : Int) (x2 : Option Addr) (n2 k2 : Nat) (w : World) :
  Calls Tryz.prog 31 #[.agg #[.int .i64 a0, .string (str a1), .int .u64 a2, .int .i64 a3, .bool a4, .int .i64 a5, .int .i64 a6, .int .i64 a7, .int .i64 a8, .int .i64 a9, .slice x1 n1 k1], .agg #[.int .i64 b0, .string ⟨#[]⟩, .int .u64 b2, .int .i64 b3, .bool b4, .int .i64 b5, .int .i64 b6, .int .i64 b7, .int .i64 b8, .int .i64 b9, .slice x2 n2 k2]] w fun e w' => e = .returned (.bool (sameL ⟨b0, [], b2, b3, b4, b5, b6, b7, b8, b9⟩ ⟨a0, a1, a2, a3, a4, a5, a6, a7, a8, a9⟩)) ∧ Below w.heap.size w w' := by
 have h := fields_any ⟨a0, a1, a2, a3, a4, a5, a6, a7, a8, a9⟩ x1 n1 k1 ⟨b0, [], b2, b3, b4, b5, b6, b7, b8, b9⟩ x2 n2 k2 w
 have e : str [] = ⟨#[]⟩ := rfl
 dsimp only at h
 rw [e] at h
 exact h
theorem fields_nm (a0 : Int) (a1 : List UInt8) (a2 a3 : Int) (a4 : Bool) (a5 a6 a7 a8 a9 : Int) (x1 : Option Addr) (n1 k1 : Nat) (b0 : Int) (b1 : List UInt8) (b2 b3 : Int) (b4 : Bool) (b5 b6 b7 b8 b9 : Int) (x2 : Option Addr) (n2 k2 : Nat) (w : World) :
  Calls Tryz.prog 31 #[.agg #[.int .i64 a0, .string (str a1), .int .u64 a2, .int .i64 a3, .bool a4, .int .i64 a5, .int .i64 a6, .int .i64 a7, .int .i64 a8, .int .i64 a9, .slice x1 n1 k1], .agg #[.int .i64 b0, .string (str b1), .int .u64 b2, .int .i64 b3, .bool b4, .int .i64 b5, .int .i64 b6, .int .i64 b7, .int .i64 b8, .int .i64 b9, .slice x2 n2 k2]] w fun e w' => e = .returned (.bool (sameL ⟨b0, b1, b2, b3, b4, b5, b6, b7, b8, b9⟩ ⟨a0, a1, a2, a3, a4, a5, a6, a7, a8, a9⟩)) ∧ Below w.heap.size w w' :=
 fields_any ⟨a0, a1, a2, a3, a4, a5, a6, a7, a8, a9⟩ x1 n1 k1 ⟨b0, b1, b2, b3, b4, b5, b6, b7, b8, b9⟩ x2 n2 k2 w
end Go.Proofs.YthdbaligapdbeaaGreatDoor
