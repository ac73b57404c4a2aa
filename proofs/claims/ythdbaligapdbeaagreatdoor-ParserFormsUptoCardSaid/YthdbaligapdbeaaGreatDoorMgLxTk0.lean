/- A syntax tree that comes in as an argument, opened. -/
import Derived.Test.YthdbaligapdbeaaGreatDoorMgPsTree
import Derived.Test.YthdbaligapdbeaaGreatDoorMgLawKit
import Derived.Test.YthdbaligapdbeaaGreatDoorRows
import Derived.ChangeArms
import Derived.Deep.Slices
import Derived.Test.YthdbaligapdbeaaGreatDoorMgPsMath
import Derived.Test.YthdbaligapdbeaaGreatDoorMgSliceKit
namespace Go.Proofs.YthdbaligapdbeaaGreatDoor
open Go Go.RowKit Go.ChangeShapes Go.WideShapes Go.ChangeAt
set_option linter.unusedVariables false

structure Lab.Wf (N : Nat) (l : Lab) : Prop where
 kind : -9223372036854775808 ≤ l.kind ∧ l.kind ≤ 9223372036854775807
 name : l.name.length ≤ N
 num : 0 ≤ l.num ∧ l.num ≤ 18446744073709551615
 wd : -9223372036854775808 ≤ l.wd ∧ l.wd ≤ 9223372036854775807
 op : -9223372036854775808 ≤ l.op ∧ l.op ≤ 9223372036854775807
 fac : -9223372036854775808 ≤ l.fac ∧ l.fac ≤ 9223372036854775807
 pip : -9223372036854775808 ≤ l.pip ∧ l.pip ≤ 9223372036854775807
 unr : -9223372036854775808 ≤ l.unr ∧ l.unr ≤ 9223372036854775807
 line : -9223372036854775808 ≤ l.line ∧ l.line ≤ 9223372036854775807
inductive TreeWf (N : Nat) : Tree → Prop
 | mk (l : Lab) (ks : List Tree) (h : l.Wf N) (hk : ∀ i (hi : i < ks.length), TreeWf N ks[i]) : TreeWf N (.node l ks)
theorem Lab.Wf.mono {N M : Nat} {l : Lab} (h : l.Wf N) (hm : N ≤ M) : l.Wf M := { h with name := Nat.le_trans h.name hm }
theorem TreeWf.mono {N M : Nat} {t : Tree} (h : TreeWf N t) (hm : N ≤ M) : TreeWf M t := by
 induction h with
 | mk l ks h hk ih => exact .mk l ks (h.mono hm) ih
theorem cellI : Tryz.prog.cellsOf 3 = 1 := by kernel_rfl
theorem cellS : Tryz.prog.cellsOf 9 = 1 := by kernel_rfl
theorem cellU : Tryz.prog.cellsOf 22 = 1 := by kernel_rfl
theorem cellB : Tryz.prog.cellsOf 4 = 1 := by kernel_rfl
theorem cellT : Tryz.prog.cellsOf 24 = 2 := by kernel_rfl
theorem cellL : Tryz.prog.cellsOf 25 = 1 := by kernel_rfl
theorem cellN : Tryz.prog.cellsOf 27 = 11 := by kernel_rfl
theorem list11 {α : Type} {l : List α} (h : l.length = 11) : ∃ a b c d e f g i j k m, l = [a, b, c, d, e, f, g, i, j, k, m] := by
 match l, h with
 | [a, b, c, d, e, f, g, i, j, k, m], _ => exact ⟨a, b, c, d, e, f, g, i, j, k, m, rfl⟩
theorem bulk_all {H : Type} : ∀ {l : List (DataW H)} {d : DataW H} {i : Nat}, l[i]? = some d → Rows.uptoBulk d ≤ Rows.uptoBulkAll l
 | [], d, i, h => by simp at h
 | x :: r, d, 0, h => by simp at h; subst h; rw [Rows.uptoBulkAll]; omega
 | x :: r, d, i + 1, h => by
  have := bulk_all (l := r) (d := d) (i := i) (by simpa using h)
  rw [Rows.uptoBulkAll]; omega
theorem bulk_app {H : Type} : ∀ (l r : List (DataW H)), Rows.uptoBulkAll (l ++ r) = Rows.uptoBulkAll l + Rows.uptoBulkAll r
 | [], r => by simp [Rows.uptoBulkAll]
 | x :: l, r => by rw [List.cons_append, Rows.uptoBulkAll, Rows.uptoBulkAll, bulk_app l r]; omega
theorem counts_app : ∀ (a b : List Tree), counts (a ++ b) = counts a + counts b
 | [], b => by rw [List.nil_append, counts, Nat.zero_add]
 | t :: r, b => by rw [List.cons_append, counts, counts, counts_app r b]; omega
theorem bounds_u64 {a : Int} (h : (Lit.int .u64 a).wf = true) : 0 ≤ a ∧ a ≤ 18446744073709551615 := by
 obtain ⟨x, rfl, hx⟩ := nat_u64 h
 omega
end Go.Proofs.YthdbaligapdbeaaGreatDoor
/- A syntax tree that comes in as an argument, opened: twice its nodes are at most its bulk. -/
namespace Go.Proofs.YthdbaligapdbeaaGreatDoor
open Go Go.RowKit Go.ChangeShapes Go.WideShapes Go.ChangeAt
set_option linter.unusedVariables false

theorem trees_of2 {H : Type} {w : World} (C : Nat → List Value) (D : Nat → DataW H) (B : Nat) : ∀ (n : Nat), (∀ i, i < n → ∃ t, TreeAt w (fun _ => True) (C i) t ∧ TreeWf (Rows.uptoBulk (D i)) t ∧ 2 * count t ≤ Rows.uptoBulk (D i)) → Rows.uptoBulkAll ((List.range n).map D) ≤ B →
  ∃ ks : List Tree, ks.length = n ∧ (∀ i (h : i < ks.length), TreeAt w (fun _ => True) (C i) ks[i]) ∧ (∀ i (h : i < ks.length), TreeWf B ks[i]) ∧ 2 * counts ks ≤ Rows.uptoBulkAll ((List.range n).map D) := by
 intro n
 induction n with
 | zero => intro _ _; exact ⟨[], rfl, fun i h => by simp at h, fun i h => by simp at h, by simp [counts]⟩
 | succ n ih =>
  intro h hB
  rw [List.range_succ, List.map_append, List.map_cons, List.map_nil, bulk_app, Rows.uptoBulkAll, Rows.uptoBulkAll] at hB ⊢
  obtain ⟨ks, h1, h2, h3, h4⟩ := ih (fun i hi => h i (by omega)) (by omega)
  obtain ⟨t, ht, hw, hc⟩ := h n (by omega)
  refine ⟨ks ++ [t], by simp [h1], fun i hi => ?_, fun i hi => ?_, ?_⟩
  ·by_cases hin : i < ks.length
   ·rw [List.getElem_append_left hin]; exact h2 i hin
   ·have : i = ks.length := by simp at hi; omega
    subst this
    rw [List.getElem_append_right (Nat.le_refl _)]
    simp only [Nat.sub_self, List.getElem_cons_zero]
    rw [h1]; exact ht
  ·by_cases hin : i < ks.length
   ·rw [List.getElem_append_left hin]; exact h3 i hin
   ·have : i = ks.length := by simp at hi; omega
    subst this
    rw [List.getElem_append_right (Nat.le_refl _)]
    simp only [Nat.sub_self, List.getElem_cons_zero]
    exact hw.mono (by omega)
  ·rw [counts_app, counts, counts]
   omega
set_option maxRecDepth 100000 in
set_option maxHeartbeats 1000000 in
theorem open_node2 {H : Type} {enc : TypeId × Value → H} {w : World} {base : Nat} {spare : Nat → Bool} {held : Bool} :
  ∀ (fuel : Nat) (cs : List Value) (x : DataW H × List MemPlace), DataW.trod enc Tryz.prog w base spare held fuel 27 cs = some x → ∃ t, TreeAt w (fun _ => True) cs t ∧ TreeWf (Rows.uptoBulk x.1) t ∧ 2 * count t ≤ Rows.uptoBulk x.1 := by
 intro fuel
 induction fuel using Nat.strongRecOn with
 | _ fuel ih =>
  intro cs x h
  obtain ⟨xs, n, hfu, hx, hlen, hxl, hf⟩ := DataW.trod_struct Tryz.underlying27 h
  rw [cellN] at hlen
  obtain ⟨c0, c1, c2, c3, c4, c5, c6, c7, c8, c9, c10, rfl⟩ := list11 hlen
  have each : ∀ i, i < xs.length → ∃ y, xs[i]? = some y := fun i hi => ⟨_, List.getElem?_eq_getElem hi⟩
  have hx10 : xs.length = 10 := hxl
  obtain ⟨y0, e0⟩ := each 0 (by omega)
  obtain ⟨y1, e1⟩ := each 1 (by omega)
  obtain ⟨y2, e2⟩ := each 2 (by omega)
  obtain ⟨y3, e3⟩ := each 3 (by omega)
  obtain ⟨y4, e4⟩ := each 4 (by omega)
  obtain ⟨y5, e5⟩ := each 5 (by omega)
  obtain ⟨y6, e6⟩ := each 6 (by omega)
  obtain ⟨y7, e7⟩ := each 7 (by omega)
  obtain ⟨y8, e8⟩ := each 8 (by omega)
  obtain ⟨y9, e9⟩ := each 9 (by omega)
  have h0 := hf 0 _ rfl
  have h1 := hf 1 _ rfl
  have h2 := hf 2 _ rfl
  have h3 := hf 3 _ rfl
  have h4 := hf 4 _ rfl
  have h5 := hf 5 _ rfl
  have h6 := hf 6 _ rfl
  have h7 := hf 7 _ rfl
  have h8 := hf 8 _ rfl
  have h9 := hf 9 _ rfl
  change DataW.trod enc Tryz.prog w base spare held n 3 (List.take (Tryz.prog.cellsOf 3) (List.drop 0 _)) = _ at h0
  change DataW.trod enc Tryz.prog w base spare held n 9 (List.take (Tryz.prog.cellsOf 9) (List.drop 1 _)) = _ at h1
  change DataW.trod enc Tryz.prog w base spare held n 22 (List.take (Tryz.prog.cellsOf 22) (List.drop 2 _)) = _ at h2
  change DataW.trod enc Tryz.prog w base spare held n 24 (List.take (Tryz.prog.cellsOf 24) (List.drop 3 _)) = _ at h3
  change DataW.trod enc Tryz.prog w base spare held n 3 (List.take (Tryz.prog.cellsOf 3) (List.drop 5 _)) = _ at h4
  change DataW.trod enc Tryz.prog w base spare held n 3 (List.take (Tryz.prog.cellsOf 3) (List.drop 6 _)) = _ at h5
  change DataW.trod enc Tryz.prog w base spare held n 3 (List.take (Tryz.prog.cellsOf 3) (List.drop 7 _)) = _ at h6
  change DataW.trod enc Tryz.prog w base spare held n 3 (List.take (Tryz.prog.cellsOf 3) (List.drop 8 _)) = _ at h7
  change DataW.trod enc Tryz.prog w base spare held n 3 (List.take (Tryz.prog.cellsOf 3) (List.drop 9 _)) = _ at h8
  change DataW.trod enc Tryz.prog w base spare held n 25 (List.take (Tryz.prog.cellsOf 25) (List.drop 10 _)) = _ at h9
  simp only [cellI, cellS, cellU, cellT, cellL, List.drop_succ_cons, List.drop_zero, List.take_succ_cons, List.take_zero] at h0 h1 h2 h3 h4 h5 h6 h7 h8 h9
  rw [e0] at h0
  rw [e1] at h1
  rw [e2] at h2
  rw [e3] at h3
  rw [e4] at h4
  rw [e5] at h5
  rw [e6] at h6
  rw [e7] at h7
  rw [e8] at h8
  rw [e9] at h9
  clear hf each hlen h e0 e2 e3 e4 e5 e6 e7 e8
  obtain ⟨n0, k0, _, w0⟩ := DataW.trod_int Tryz.underlying3 h0
  obtain ⟨n1, k1, x1, w1⟩ := DataW.trod_string Tryz.underlying9 h1
  obtain ⟨n2, k2, _, w2⟩ := DataW.trod_int Tryz.underlying22 h2
  obtain ⟨n4, k4, _, w4⟩ := DataW.trod_int Tryz.underlying3 h4
  obtain ⟨n5, k5, _, w5⟩ := DataW.trod_int Tryz.underlying3 h5
  obtain ⟨n6, k6, _, w6⟩ := DataW.trod_int Tryz.underlying3 h6
  obtain ⟨n7, k7, _, w7⟩ := DataW.trod_int Tryz.underlying3 h7
  obtain ⟨n8, k8, _, w8⟩ := DataW.trod_int Tryz.underlying3 h8
  obtain ⟨xs3, m3, _, _, _, hl3, hf3⟩ := DataW.trod_struct Tryz.underlying24 h3
  have hx2 : xs3.length = 2 := hl3
  obtain ⟨u0, f0⟩ : ∃ y, xs3[0]? = some y := ⟨_, List.getElem?_eq_getElem (by omega)⟩
  obtain ⟨u1, f1⟩ : ∃ y, xs3[1]? = some y := ⟨_, List.getElem?_eq_getElem (by omega)⟩
  have g0 := hf3 0 _ rfl
  have g1 := hf3 1 _ rfl
  change DataW.trod enc Tryz.prog w base spare held m3 3 (List.take (Tryz.prog.cellsOf 3) (List.drop 0 _)) = _ at g0
  change DataW.trod enc Tryz.prog w base spare held m3 4 (List.take (Tryz.prog.cellsOf 4) (List.drop 1 _)) = _ at g1
  simp only [cellI, cellB, List.drop_succ_cons, List.drop_zero, List.take_succ_cons, List.take_zero] at g0 g1
  rw [f0] at g0
  rw [f1] at g1
  obtain ⟨n3, k3, _, w3⟩ := DataW.trod_int Tryz.underlying3 g0
  obtain ⟨n9, k9, _⟩ := DataW.trod_bool Tryz.underlying4 g1
  simp only [List.cons.injEq, and_true] at k0 k1 k2 k3 k4 k5 k6 k7 k8 k9
  subst k0 k1 k2 k3 k4 k5 k6 k7 k8 k9
  have b9 : Rows.uptoBulk y9.1 ≤ Rows.uptoBulkAll (xs.map (·.1)) := bulk_all (i := 9) (by rw [List.getElem?_map, e9]; rfl)
  have b1 : Rows.uptoBulk y1.1 ≤ Rows.uptoBulkAll (xs.map (·.1)) := bulk_all (i := 1) (by rw [List.getElem?_map, e1]; rfl)
  have bx : Rows.uptoBulk x.1 = Rows.uptoBulkAll (xs.map (·.1)) + 1 := by rw [hx]; rw [Rows.uptoBulk]
  have bn : n1.data.toList.length + 1 = Rows.uptoBulk y1.1 := by rw [x1]; rw [Rows.uptoBulk]
  have hL : ∀ v, [Value.int .i64 n0, .string n1, .int .u64 n2, .int .i64 n3, .bool n9, .int .i64 n4, .int .i64 n5, .int .i64 n6, .int .i64 n7, .int .i64 n8, v] = lcells ⟨n0, n1.data.toList, n2, n3, n9, n4, n5, n6, n7, n8⟩ v := fun v => by
   unfold lcells
   rw [str_of]
  have hW : ∀ M, n1.data.toList.length ≤ M → Lab.Wf M ⟨n0, n1.data.toList, n2, n3, n9, n4, n5, n6, n7, n8⟩ := fun M hM =>
   ⟨bounds_i64 w0, hM, bounds_u64 w2, bounds_i64 w3, bounds_i64 w4, bounds_i64 w5, bounds_i64 w6, bounds_i64 w7, bounds_i64 w8⟩
  clear h0 h1 h2 h3 h4 h5 h6 h7 h8 g0 g1 f0 f1 hf3 e1 e9 x1
  rcases DataW.trod_slice Tryz.underlying25 h9 with ⟨hc, _⟩ | ⟨a, len, cap, elems, rest, n10, hn10, hc, hy9, _, hlc, hcm, hel, hE, _⟩
  ·simp only [List.cons.injEq, and_true] at hc
   subst hc
   refine ⟨.node _ [], hL _ ▸ .nil _ _, .mk _ _ (hW _ (by omega)) (fun i hi => by simp at hi), ?_⟩
   have b9' : 1 ≤ Rows.uptoBulk y9.1 := by cases y9.1 with
    | lit l => cases l <;> simp [Rows.uptoBulk]
    | _ => simp [Rows.uptoBulk]
   rw [count, counts]
   omega
  ·simp only [List.cons.injEq, and_true] at hc
   subst hc
   have hgo : ∀ i, i < len → ∃ cs' e, w.cells? base (a.add (i * 11)) 11 = some cs' ∧ elems[i]? = some e ∧ DataW.trod enc Tryz.prog w base spare held n10 27 cs' = some e := by
    intro i hi
    have h1 := hE i hi
    rw [cellN] at h1
    rw [List.getElem?_eq_getElem (by omega : i < elems.length)] at h1
    rcases hcs : w.cells? base (a.add (i * 11)) 11 with _ | cs'
    ·rw [hcs] at h1; cases h1
    ·rw [hcs] at h1
     exact ⟨cs', _, rfl, List.getElem?_eq_getElem _, h1⟩
   have hB : Rows.uptoBulkAll (elems.map (·.1)) + 1 ≤ Rows.uptoBulk y9.1 := by rw [hy9]; simp only [Rows.uptoBulk]; omega
   have hD : (List.range len).map (fun i => (elems.map (·.1)).getD i .nil) = elems.map (·.1) := by
    apply List.ext_getElem
    ·simp [hel]
    ·intro i h1 h2
     simp at h1 h2
     simp [List.getD, h2]
   obtain ⟨ks, hk1, hk2, hk3, hk4⟩ := trees_of2 (w := w) (fun i => (w.cells? base (a.add (i * 11)) 11).getD []) (fun i => (elems.map (·.1)).getD i .nil) (Rows.uptoBulk x.1) len (fun i hi => by
    obtain ⟨cs', e, h1, h2, h3⟩ := hgo i hi
    obtain ⟨t, t1, t2, t3⟩ := ih n10 (by omega) cs' e h3
    refine ⟨t, ?_, ?_, ?_⟩
    ·rw [h1]; exact t1
    ·simpa [List.getD, List.getElem?_map, h2] using t2
    ·simpa [List.getD, List.getElem?_map, h2] using t3) (by rw [hD]; omega)
   rw [hD] at hk4
   have hT : TreeAt w (fun _ => True) (lcells ⟨n0, n1.data.toList, n2, n3, n9, n4, n5, n6, n7, n8⟩ (.slice (some a) len cap)) (.node ⟨n0, n1.data.toList, n2, n3, n9, n4, n5, n6, n7, n8⟩ ks) := by
    refine .mk _ _ a len cap _ ks hk1.symm hlc hcm (fun _ => trivial) (fun i hi j hj => ?_) hk2
    obtain ⟨cs', e, h1, h2, h3⟩ := hgo i hi
    rw [h1]
    obtain ⟨_, _, h4⟩ := World.cells?_some h1
    have := h4 j hj
    rw [Go.Deep.add_add] at this
    exact this
   refine ⟨_, (hL _).symm ▸ hT, .mk _ _ (hW _ (by omega)) hk3, ?_⟩
   rw [count]
   omega
end Go.Proofs.YthdbaligapdbeaaGreatDoor
/- What the rules do to the state of the reader: it never goes back, and stays when a token could not follow. Nothing of the program stands here. -/
namespace Go.Proofs.YthdbaligapdbeaaGreatDoor
open Go

def On (ts : List Tok) (s t : Sg) : Prop := s.i ≤ t.i ∧ (s.i ≤ ts.length → t.i ≤ ts.length) ∧ (s.bad = true → t = s)
theorem On.refl (ts : List Tok) (s : Sg) : On ts s s := ⟨Nat.le_refl _, id, fun _ => rfl⟩
theorem On.trans {ts : List Tok} {a b c : Sg} (h : On ts a b) (k : On ts b c) : On ts a c :=
 ⟨Nat.le_trans h.1 k.1, fun h0 => k.2.1 (h.2.1 h0), fun hb => by have := h.2.2 hb; subst this; exact k.2.2 hb⟩
theorem On.ite {ts : List Tok} {c : Prop} [Decidable c] {s a b : Sg} (h : c → On ts s a) (k : ¬ c → On ts s b) : On ts s (if c then a else b) := by
 split
 ·exact h ‹_›
 ·exact k ‹_›
theorem tx_in {ts : List Tok} {s : Sg} (h : tx ts s ≠ []) : s.bad = false ∧ s.i < ts.length := by
 unfold tx nxt at h
 cases hb : s.bad with
 | true => rw [hb] at h; simp at h
 | false =>
  refine ⟨rfl, ?_⟩
  rw [hb] at h
  by_cases hl : s.i < ts.length
  ·exact hl
  ·exact absurd (by simp [tat_out (Nat.le_of_not_lt hl)]) h
theorem kd_in {ts : List Tok} {s : Sg} {k : Nat} (h : kd ts s = k) (hk : k ≠ 0) : s.bad = false ∧ s.i < ts.length := by
 unfold kd nxt at h
 cases hb : s.bad with
 | true => rw [hb] at h; exact absurd h.symm hk
 | false =>
  refine ⟨rfl, ?_⟩
  rw [hb] at h
  by_cases hl : s.i < ts.length
  ·exact hl
  ·exact absurd (by rw [← h]; simp [tat_out (Nat.le_of_not_lt hl)]) hk
theorem hasT_in {ts : List Tok} {s : Sg} {c : UInt8} {t : List UInt8} (h : hasT ts s (c :: t) = true) : s.bad = false ∧ s.i < ts.length := by
 refine tx_in ?_
 unfold hasT at h
 rw [of_decide_eq_true h]
 simp
theorem adv_on {ts : List Tok} {s : Sg} (h : s.bad = false ∧ s.i < ts.length) : On ts s (adv s) :=
 ⟨Nat.le_succ _, fun _ => h.2, fun hb => by rw [h.1] at hb; cases hb⟩
theorem stop_on (ts : List Tok) (s : Sg) : On ts s (stop s) :=
 ⟨Nat.le_refl _, id, fun hb => by cases s; simp_all [stop]⟩
theorem exc_on {ts : List Tok} {s : Sg} {c : UInt8} {t : List UInt8} : On ts s (exc ts s (c :: t)) := On.ite (fun h => adv_on (hasT_in h)) fun _ => stop_on _ _
theorem nmS_on (ts : List Tok) (s : Sg) : On ts s (nmS ts s) := On.ite (fun h => adv_on (kd_in h (by decide))) fun _ => stop_on _ _
theorem nuS_on (ts : List Tok) (s : Sg) (k : Nat) : On ts s (nuS ts s k) := On.ite (fun h => adv_on (kd_in (k := 3) (by unfold okN at h; simp at h; exact h.1) (by decide))) fun _ => stop_on _ _
theorem typeOf_nil : (typeOf []).1 = 0 := by decide +kernel
theorem tyS_on (ts : List Tok) (s : Sg) : On ts s (tyS ts s) := On.ite (fun h => adv_on (tx_in fun he => by rw [he, typeOf_nil] at h; omega)) fun _ => stop_on _ _
theorem levelOps_ne (l : Nat) : ∀ p ∈ levelOps l, p.1 ≠ [] ∧ p.2 ≠ 0 := by
 unfold levelOps
 split <;> decide
theorem opV_in {ts : List Tok} {s : Sg} {l : Nat} (h : ¬ opV ts s l = 0) : s.bad = false ∧ s.i < ts.length := by
 refine tx_in fun he => h ?_
 unfold opV
 rw [he]
 have : (levelOps l).find? (fun p => decide (([] : List UInt8) = p.1)) = none := by
  rw [List.find?_eq_none]
  intro p hp h2
  exact (levelOps_ne l p hp).1 (of_decide_eq_true h2).symm
 rw [this]
 rfl
theorem more_on {ts : List Tok} {item : Sg → Tree × Sg} (hi : ∀ s, On ts s (item s).2) : ∀ f acc s, On ts s (more ts item f acc s).2 := by
 intro f
 induction f with
 | zero => intro acc s; exact On.refl _ _
 | succ f ih =>
  intro acc s
  rw [more]
  split
  ·exact (adv_on (hasT_in ‹_›)).trans ((hi _).trans (ih _ _))
  ·exact On.refl _ _
theorem listM_on {ts : List Tok} {item : Sg → Tree × Sg} (hi : ∀ s, On ts s (item s).2) (f : Nat) (s : Sg) : On ts s (listM ts item f s).2 := by
 unfold listM
 split
 ·exact exc_on.trans (adv_on (hasT_in ‹_›))
 ·exact exc_on.trans ((hi _).trans ((more_on hi f _ _).trans exc_on))
theorem E_on (ts : List Tok) : ∀ f nt s, On ts s (E ts f nt s).2 := by
 intro f
 induction f with
 | zero => intro nt s; exact On.refl _ _
 | succ f ih =>
  intro nt s
  cases nt with
  | ex =>
   rw [E]
   split
   ·exact (ih _ _).trans ((adv_on (hasT_in ‹_›)).trans ((ih _ _).trans (exc_on.trans (ih _ _))))
   ·exact ih _ _
  | bn l =>
   rw [E]
   split
   ·exact ih _ _
   ·exact (ih _ _).trans (ih _ _)
  | bl l line left =>
   rw [E]
   split
   ·exact On.refl _ _
   ·split
    ·exact (adv_on (opV_in ‹_›)).trans (ih _ _)
    ·exact (adv_on (opV_in ‹_›)).trans ((ih _ _).trans (ih _ _))
  | ca => rw [E]; exact (ih _ _).trans (ih _ _)
  | cl line t =>
   rw [E]
   split
   ·exact (adv_on (hasT_in ‹_›)).trans ((tyS_on _ _).trans (ih _ _))
   ·exact On.refl _ _
  | un =>
   rw [E]
   split
   ·exact ih _ _
   ·exact (adv_on (opV_in ‹_›)).trans (ih _ _)
  | pr =>
   rw [E]
   split
   ·exact adv_on (kd_in ‹_› (by decide))
   ·split
    ·exact adv_on (hasT_in ‹_›)
    ·split
     ·exact adv_on (hasT_in ‹_›)
     ·split
      ·exact (adv_on (hasT_in ‹_›)).trans (exc_on.trans ((nmS_on _ _).trans exc_on))
      ·split
       ·exact (adv_on (hasT_in ‹_›)).trans ((ih _ _).trans exc_on)
       ·exact ih _ _
  | us =>
   rw [E]
   split
   ·exact (nmS_on _ _).trans (listM_on (fun q => ih _ q) _ _)
   ·split
    ·exact (nmS_on _ _).trans ((adv_on (hasT_in ‹_›)).trans ((ih _ _).trans exc_on))
    ·exact nmS_on _ _
theorem xpr_on (ts : List Tok) (s : Sg) : On ts s (xpr ts s).2 := by unfold xpr; exact E_on ts _ _ _
theorem amS_on (ts : List Tok) (s : Sg) (k : Nat) : On ts s (amS ts s k) := On.ite (fun _ => nuS_on _ _ _) fun _ => On.refl _ _
theorem dir_on (ts : List Tok) (p u : Nat) (s : Sg) : On ts s (dir ts p u s).2.2 := by
 unfold dir
 split
 ·exact (adv_on (hasT_in (‹_ ∧ _› : _ ∧ _).2)).trans (amS_on _ _ _)
 ·split
  ·exact (adv_on (hasT_in (‹u = 0 ∧ _› : _ ∧ _).2)).trans (amS_on _ _ _)
  ·exact stop_on _ _
theorem dirs_on (ts : List Tok) : ∀ f p u s, On ts s (dirs ts f p u s).2.2 := by
 intro f
 induction f with
 | zero => intro p u s; exact On.refl _ _
 | succ f ih =>
  intro p u s
  rw [dirs]
  split
  ·exact (adv_on (hasT_in (‹_ ∧ _› : _ ∧ _).2)).trans ((dir_on _ _ _ _).trans (ih _ _ _))
  ·exact On.refl _ _
theorem declL_on {ts : List Tok} {s : Sg} (h : s.bad = false ∧ s.i < ts.length) : On ts s (declL ts s).2 := by
 unfold declL
 dsimp only
 have h1 : On ts s (if hasT ts (nmS ts (adv s)) [58] = true then tyS ts (adv (nmS ts (adv s))) else nmS ts (adv s)) :=
  On.ite (fun h2 => (adv_on h).trans ((nmS_on _ _).trans ((adv_on (hasT_in h2)).trans (tyS_on _ _)))) fun _ => (adv_on h).trans (nmS_on _ _)
 exact h1.trans (exc_on.trans ((xpr_on _ _).trans exc_on))
theorem declV_on {ts : List Tok} {s : Sg} (h : s.bad = false ∧ s.i < ts.length) : On ts s (declV ts s).2 := by
 unfold declV
 dsimp only
 split
 ·exact (adv_on h).trans ((nmS_on _ _).trans (exc_on.trans ((tyS_on _ _).trans ((adv_on (hasT_in ‹_›)).trans ((xpr_on _ _).trans exc_on)))))
 ·exact (adv_on h).trans ((nmS_on _ _).trans (exc_on.trans ((tyS_on _ _).trans exc_on)))
theorem change_on (ts : List Tok) (s : Sg) : On ts s (change ts s).2 := by
 unfold change
 dsimp only
 split
 ·exact (nmS_on _ _).trans ((adv_on (hasT_in ‹_›)).trans ((xpr_on _ _).trans (exc_on.trans (exc_on.trans ((xpr_on _ _).trans exc_on)))))
 ·exact (nmS_on _ _).trans (exc_on.trans ((xpr_on _ _).trans exc_on))
theorem sendM_on {ts : List Tok} {s : Sg} (h : s.bad = false ∧ s.i < ts.length) : On ts s (sendM ts s).2 := by
 unfold sendM
 dsimp only
 exact (adv_on h).trans ((nmS_on _ _).trans (exc_on.trans ((xpr_on _ _).trans (exc_on.trans exc_on))))
theorem resM_on {ts : List Tok} {s : Sg} (h : s.bad = false ∧ s.i < ts.length) : On ts s (resM ts s).2 := by
 unfold resM
 exact (adv_on h).trans ((xpr_on _ _).trans exc_on)
theorem S_on (ts : List Tok) : ∀ f n s, (match n with | .br => s.bad = false ∧ s.i < ts.length | _ => True) → On ts s (S ts f n s).2 := by
 intro f
 induction f with
 | zero => intro n s _; exact On.refl _ _
 | succ f ih =>
  intro n s hn
  cases n with
  | bk => rw [S]; exact exc_on.trans ((ih _ _ trivial).trans exc_on)
  | bs acc =>
   rw [S]
   split
   ·exact (ih _ _ trivial).trans (ih _ _ trivial)
   ·exact On.refl _ _
  | st =>
   rw [S]
   split
   ·exact declV_on (hasT_in ‹_›)
   ·split
    ·exact declL_on (hasT_in ‹_›)
    ·split
     ·exact ih _ _ (hasT_in ‹_›)
     ·split
      ·exact ih _ _ trivial
      ·split
       ·exact sendM_on (hasT_in ‹_›)
       ·split
        ·exact resM_on (hasT_in ‹_›)
        ·exact change_on _ _
  | br =>
   have hn' : s.bad = false ∧ s.i < ts.length := hn
   have h1 : On ts s (S ts f .bk (xpr ts (adv s)).2).2 := (adv_on hn').trans ((xpr_on _ _).trans (ih _ _ trivial))
   rw [S]
   split
   ·split
    ·exact h1.trans ((adv_on (hasT_in ‹_›)).trans (ih _ _ (hasT_in ‹_›)))
    ·exact h1.trans ((adv_on (hasT_in ‹_›)).trans (ih _ _ trivial))
   ·exact h1
  | lp =>
   rw [S]
   dsimp only
   split
   ·exact (dirs_on _ _ _ _ _).trans ((adv_on (hasT_in ‹_›)).trans ((nmS_on _ _).trans (exc_on.trans ((tyS_on _ _).trans (exc_on.trans ((xpr_on _ _).trans (exc_on.trans ((xpr_on _ _).trans (ih _ _ trivial)))))))))
   ·exact (dirs_on _ _ _ _ _).trans (exc_on.trans ((xpr_on _ _).trans (ih _ _ trivial)))
theorem blk_on (ts : List Tok) (s : Sg) : On ts s (blk ts s).2 := by unfold blk; exact S_on ts _ _ _ trivial
theorem scal_on (ts : List Tok) (s : Sg) : On ts s (scal ts s).2 := (nmS_on _ _).trans (exc_on.trans (tyS_on _ _))
theorem divS_on (ts : List Tok) (s : Sg) : On ts s (divS ts s) :=
 On.ite (fun h => (adv_on (hasT_in h)).trans (nuS_on _ _ _)) fun _ => On.ite (fun h => (adv_on (hasT_in h)).trans (nuS_on _ _ _)) fun _ => On.ite (fun h => adv_on (hasT_in h)) fun _ => On.refl _ _
theorem prmS_on (ts : List Tok) (s : Sg) : On ts s (prmS ts s) := On.ite (fun h => adv_on (hasT_in h)) fun _ => On.ite (fun h => adv_on (hasT_in h)) fun _ => On.refl _ _
theorem prm_on (ts : List Tok) (s : Sg) : On ts s (prm ts s).2 := by
 have h1 : On ts s (tyS ts (prmS ts (exc ts (nmS ts s) [58]))) := (nmS_on _ _).trans (exc_on.trans ((prmS_on _ _).trans (tyS_on _ _)))
 unfold prm
 dsimp only
 split
 ·exact h1.trans ((adv_on (hasT_in (‹_ ∧ _› : _ ∧ _).2)).trans ((nuS_on _ _ _).trans (exc_on.trans (divS_on _ _))))
 ·exact h1
theorem func_on {ts : List Tok} {s : Sg} (h : s.bad = false ∧ s.i < ts.length) : On ts s (func ts s).2 := by
 unfold func
 dsimp only
 exact (adv_on h).trans ((nmS_on _ _).trans ((listM_on (scal_on ts) _ _).trans (exc_on.trans ((tyS_on _ _).trans (blk_on _ _)))))
theorem kern_on (ts : List Tok) (s : Sg) : On ts s (kern ts s).2 := by
 have h1 : On ts s (listM ts (prm ts) (big ts) (nmS ts (exc ts s [107, 101, 114, 110, 101, 108]))).2 := exc_on.trans ((nmS_on _ _).trans (listM_on (prm_on ts) _ _))
 unfold kern
 dsimp only
 split
 ·exact h1.trans ((adv_on (hasT_in ‹_›)).trans ((tyS_on _ _).trans (blk_on _ _)))
 ·exact h1.trans (blk_on _ _)
end Go.Proofs.YthdbaligapdbeaaGreatDoor
/- Tokens in memory: a block of cells. Nothing of the program stands here. -/
namespace Go.Proofs.YthdbaligapdbeaaGreatDoor
open Go Go.RowKit
set_option linter.unusedVariables false

def TkIn (w : World) (g : Nat) (ts : List Tok) : Prop := g < w.heap.size ∧ ∀ i, i < ts.length →
 w.cell? ⟨g, i * 5, none⟩ = some (.int .i64 ((tat ts i).kind : Int)) ∧ w.cell? ⟨g, i * 5 + 1, none⟩ = some (.string (str (tat ts i).text)) ∧ w.cell? ⟨g, i * 5 + 2, none⟩ = some (.int .u64 ((tat ts i).num : Int)) ∧
 w.cell? ⟨g, i * 5 + 3, none⟩ = some (.int .i64 ((tat ts i).pos : Int)) ∧ w.cell? ⟨g, i * 5 + 4, none⟩ = some (.int .i64 ((tat ts i).line : Int))
theorem TkIn.below {w w' : World} {g B : Nat} {ts : List Tok} (h : TkIn w g ts) (hb : Below B w w') (hg : g < B) : TkIn w' g ts := by
 refine ⟨Nat.lt_of_lt_of_le h.1 hb.size, fun i hi => ?_⟩
 have := h.2 i hi
 rw [hb.cell (p := ⟨g, i * 5, none⟩) hg, hb.cell (p := ⟨g, i * 5 + 1, none⟩) hg, hb.cell (p := ⟨g, i * 5 + 2, none⟩) hg, hb.cell (p := ⟨g, i * 5 + 3, none⟩) hg, hb.cell (p := ⟨g, i * 5 + 4, none⟩) hg]
 exact this

end Go.Proofs.YthdbaligapdbeaaGreatDoor
