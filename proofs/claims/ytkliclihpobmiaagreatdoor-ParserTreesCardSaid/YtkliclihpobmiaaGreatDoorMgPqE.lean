/- The reference's reader: operator: contract. -/
import Derived.Test.YtkliclihpobmiaaGreatDoorMgPqLv
import Derived.Test.YtkliclihpobmiaaGreatDoorMgPqPr
namespace Go.Proofs.YtkliclihpobmiaaGreatDoor
namespace Q
open Go Go.RowKit
set_option linter.unusedVariables false
set_option linter.unusedSimpArgs false

structure OpQ (ts : List Tok) (R g c : Nat) (s : Sg) (l b N : Nat) (w wr : World) (k : Nat) : Prop where
 rd : Rd wr R g c ts s
 st : St w wr R
 row : ∀ j, j < N → wr.cell? ⟨b, j, none⟩ = some (.string (str (opT l j)))
 lt : b < wr.heap.size
 no : kd ts s = 4 → ∀ j, j < k → hasT ts s (opT l j) = false

set_option maxHeartbeats 2000000 in
set_option maxRecDepth 100000 in
theorem oper_any {ts : List Tok} {R g c : Nat} (X : QC ts R g c) {s : Sg} (l : Nat) (hl : l < 9) (w : World) (hR : Rd w R g c ts s) :
  Calls Tryz.prog 187 #[.pointer (some ⟨R, 0, none⟩), .int .i64 (l : Int)] w fun e w' => e = .returned (.int .i64 (opV ts s l : Int)) ∧ Rd w' R g c ts s ∧ St w w' R := by
 have HL := Hd (Levels_any w)
 have HO := Hd fun W => Ops_any W
 have HK := Hd fun W (h : Rd W R g c ts s) => kind_quiet X.x W h
 have HT := Hd fun W (h : Rd W R g c ts s) => text_quiet X.x W h
 have HNE := Hd fun k (h : k < (levelOps l).length) => opT_ne h
 have HLE := Hd fun k (h : k < (levelOps l).length) => opN_le h
 have hlen6 := levelOps_len l
 have HH := Hd fun k (h : k < (levelOps l).length) hno hy => opV_hit (ts := ts) (s := s) (l := l) (k := k) h hno hy
 have HM : Hid ((kd ts s = 4 → ∀ j, j < (levelOps l).length → hasT ts s (opT l j) = false) → opV ts s l = 0) := Hd fun hno => by
  by_cases h4 : kd ts s = 4
  ·exact opV_miss (ts := ts) (s := s) (l := l) (hno h4)
  ·by_cases h0 : opV ts s l = 0
   ·exact h0
   ·exact absurd (X.k4 s l hl h0) h4
 have HB := Hd fun t => str_bytes ts s t
 have hXl := X.x.lt
 have hl' : (l : Int) < 9 := by omega
 have HR := Hd hR
 have hltR := hR.lt
 clear hR
 go_enter Tryz.func187, Tryz.ntmps187
 go_wp2_with fail
 refine HL.out.mono ?_
 rintro e w1 ⟨gv, rfl, hb, hgl, hrows⟩
 obtain ⟨b, hb1, hbl, hbk⟩ := hrows l hl
 have HRO : Hid (∀ j, j < (levelOps l).length → w1.cell? ⟨b, j, none⟩ = some (.string (str (opT l j)))) := Hd hbk
 clear hrows hbk
 have h0 : Hid (OpQ ts R g c s l b (levelOps l).length w w1 0) := Hd ⟨HR.out.below hXl hb hltR, St.of_below hb, HRO.out, hbl, fun _ j hj => by omega⟩
 clear HRO HR hb HL
 generalize hN : (levelOps l).length = N at *
 have HN := Hd hN
 clear hN
 go_wp2
 clear hb1 hgl hbl
 go_loopw [6] (fun i wr => ∃ k : Nat, k ≤ N ∧ i = .int .i64 (k : Int) ∧ Hid (OpQ ts R g c s l b N w wr k)) (fun i _ => N - (intOf i).toNat)
 case atStart => exact ⟨0, by omega, rfl, h0⟩
 case round =>
  clear h0
  obtain ⟨k, hk, rfl, hT⟩ := hrel
  by_cases hkN : k < N
  ·have e1 := hT.out.row k hkN
   have hlt := hT.out.lt
   have HKw := Hd fun n => HK.out (wr.drewN n) (hT.out.rd.drewN n)
   have HTw := Hd fun n => HT.out (wr.drewN n) (hT.out.rd.drewN n)
   have hD : Hid (∀ n, OpQ ts R g c s l b N w (wr.drewN n) k) := Hd fun n => ⟨hT.out.rd.drewN n, hT.out.st.drewN n, hT.out.row, hT.out.lt, hT.out.no⟩
   clear hT
   by_cases h4 : kd ts s = 4
   ·have hq := HB.out (opT l k)
    rw [h4] at HKw
    cases hh : hasT ts s (opT l k) with
    | true =>
     rw [hh] at hq
     have hle := HLE.out k hkN
     have hO : Hid (∀ n, OpQ ts R g c s l b N w (wr.drewN n) k → opV ts s l = opN l k) := Hd fun n h => HH.out k hkN (h.no h4) hh
     generalize str (opT l k) = S1 at *
     generalize str (tx ts s) = S2 at *
     clear hh h4 HH HNE HLE HB HK HT
     go_wp2
     go_quiet ((first | (go_at_call 136; exact Calls.quiet_of (HKw.out _)) | (go_at_call 70; exact Calls.quiet_of (HTw.out _))))
     have hD2 := Hd (hD.out nq)
     have hOV := Hd (hO.out nq (hD.out nq))
     clear hD hO HKw HTw
     generalize wr.drewN nq = wq at *
     go_wp2_with fail
     refine (HO.out _).mono ?_
     rintro e w2 ⟨gw, rfl, hb, hgl, hrows⟩
     obtain ⟨bo, ho1, hol, hok⟩ := hrows l hl
     have ho2 := hok k
     rw [HN.out] at ho1 ho2
     have ho3 := ho2 hkN
     have HF := Hd (And.intro (hD2.out.rd.below hXl hb hD2.out.rd.lt) (hD2.out.st.trans (St.of_below hb)))
     clear hrows hok hb ho2 HN HM hD2
     go_wp2
     go_ret
     exact ⟨ret_int (by rw [hOV.out]), HF.out.1, HF.out.2⟩
    | false =>
     rw [hh] at hq
     have hO : Hid (∀ n, OpQ ts R g c s l b N w (wr.drewN n) k → OpQ ts R g c s l b N w (wr.drewN n) (k + 1)) := Hd fun n h => ⟨h.rd, h.st, h.row, h.lt, fun h4 j hj => by
      by_cases hjk : j = k
      ·subst hjk; exact hh
      ·exact h.no h4 j (by omega)⟩
     generalize str (opT l k) = S1 at *
     generalize str (tx ts s) = S2 at *
     clear hh h4 HH HNE HLE HB HK HT HM HO HN
     go_wp2
     go_quiet ((first | (go_at_call 136; exact Calls.quiet_of (HKw.out _)) | (go_at_call 70; exact Calls.quiet_of (HTw.out _))))
     have hD2 := Hd (hO.out nq (hD.out nq))
     clear hD hO HKw HTw
     generalize wr.drewN nq = wq at *
     go_wp2
     go_roundw
     case rel => exact ⟨k + 1, by omega, by simp, hD2⟩
     case measure => simp [intOf]; omega
   ·have q : ((kd ts s : Int) == 4) = false := by simp; omega
    have hO : Hid (∀ n, OpQ ts R g c s l b N w (wr.drewN n) k → OpQ ts R g c s l b N w (wr.drewN n) (k + 1)) := Hd fun n h => ⟨h.rd, h.st, h.row, h.lt, fun h4' => absurd h4' h4⟩
    generalize (kd ts s : Int) = n1 at *
    clear h4 HH HNE HLE HB HK HT HM HO HN HTw
    go_wp2
    go_quiet ((go_at_call 136; exact Calls.quiet_of (HKw.out _)))
    have hD2 := Hd (hO.out nq (hD.out nq))
    clear hD hO HKw
    generalize wr.drewN nq = wq at *
    go_wp2
    go_roundw
    case rel => exact ⟨k + 1, by omega, by simp, hD2⟩
    case measure => simp [intOf]; omega
  ·obtain rfl : k = N := by omega
   have hOV := Hd (HM.out fun h4 j hj => hT.out.no h4 j hj)
   clear HM HH HNE HLE HB HK HT HO HN
   go_wp2
   go_ret
   exact ⟨ret_int (by rw [hOV.out]; rfl), hT.out.rd, hT.out.st⟩
end Q
end Go.Proofs.YtkliclihpobmiaaGreatDoor
/- The reference's rules of expressions lead to the same states, and to the same trees where no token could not follow. Nothing of the program stands here. -/
namespace Go.Proofs.YtkliclihpobmiaaGreatDoor
open Go
set_option linter.unusedVariables false
set_option linter.unusedSimpArgs false

theorem On.good {ts : List Tok} {s t : Sg} (h : On ts s t) (hg : t.bad = false) : s.bad = false := by
 cases hb : s.bad with
 | false => rfl
 | true => rw [h.2.2 hb, hb] at hg; cases hg
theorem stop_bad (s : Sg) : (stop s).bad = true := rfl
theorem exc_good {ts : List Tok} {s : Sg} {c : UInt8} {t : List UInt8} (h : (exc ts s (c :: t)).bad = false) : s.bad = false ∧ s.i < ts.length ∧ exc ts s (c :: t) = adv s ∧ hasT ts s (c :: t) = true := by
 unfold exc at h ⊢
 cases hh : hasT ts s (c :: t) with
 | true => have := hasT_in hh; simp [this]
 | false => rw [hh] at h; simp [stop] at h
theorem nmS_good {ts : List Tok} {s : Sg} (h : (nmS ts s).bad = false) : s.bad = false ∧ s.i < ts.length ∧ kd ts s = 1 := by
 unfold nmS at h
 by_cases hk : kd ts s = 1
 ·have := kd_in hk (by decide); exact ⟨this.1, this.2, hk⟩
 ·rw [if_neg hk] at h; simp [stop] at h
theorem tyS_good {ts : List Tok} {s : Sg} (h : (tyS ts s).bad = false) : s.bad = false := (tyS_on ts s).good h
theorem ln_eq {ts : List Tok} {s : Sg} (hb : s.bad = false) (hi : s.i < ts.length) : lnR ts s = ln ts s := by
 unfold lnR ln nxt
 rw [if_pos hi, hb]
 simp
theorem lt_of_on {ts : List Tok} {s t : Sg} (h : On ts s t) (ht : t.i < ts.length) : s.i < ts.length := Nat.lt_of_le_of_lt h.1 ht
theorem hasT_bad {ts : List Tok} {s : Sg} (h : s.bad = true) (c : UInt8) (t : List UInt8) : hasT ts s (c :: t) = false := by
 cases hh : hasT ts s (c :: t) with
 | false => rfl
 | true => have := (hasT_in hh).1; rw [h] at this; cases this
theorem hasT_two {ts : List Tok} {s : Sg} {a b : List UInt8} (hne : a ≠ b) (h : hasT ts s a = true) : hasT ts s b = false := by
 unfold hasT at h ⊢
 have := of_decide_eq_true h
 exact decide_eq_false fun e => hne (by rw [← this, e])

theorem more_st {ts : List Tok} {i1 i2 : Sg → Tree × Sg} (h : ∀ s, (i1 s).2 = (i2 s).2) : ∀ f a1 a2 s, (more ts i1 f a1 s).2 = (more ts i2 f a2 s).2 := by
 intro f
 induction f with
 | zero => intro a1 a2 s; rfl
 | succ f ih =>
  intro a1 a2 s
  rw [more, more]
  split
  ·rw [h]; exact ih _ _ _
  ·rfl
theorem listM_st {ts : List Tok} {i1 i2 : Sg → Tree × Sg} (h : ∀ s, (i1 s).2 = (i2 s).2) (f : Nat) (s : Sg) : (listM ts i1 f s).2 = (listM ts i2 f s).2 := by
 unfold listM
 split
 ·rfl
 ·rw [h]
  show exc ts (more ts i1 f _ _).2 [41] = exc ts (more ts i2 f _ _).2 [41]
  rw [more_st h f _ [(i2 (exc ts s [40])).1]]
theorem more_tr {ts : List Tok} {i1 i2 : Sg → Tree × Sg} (hon : ∀ s, On ts s (i2 s).2) (h : ∀ s, (i1 s).2 = (i2 s).2) (ht : ∀ s, (i2 s).2.bad = false → (i1 s).1 = (i2 s).1) : ∀ f acc s, (more ts i2 f acc s).2.bad = false → (more ts i1 f acc s).1 = (more ts i2 f acc s).1 := by
 intro f
 induction f with
 | zero => intro acc s _; rfl
 | succ f ih =>
  intro acc s hg
  rw [more] at hg ⊢
  rw [more]
  split
  ·rename_i hc
   rw [if_pos hc] at hg
   have g1 := (more_on hon f _ _).good hg
   rw [h, ht _ g1]
   exact ih _ _ hg
  ·rfl
theorem listM_tr {ts : List Tok} {i1 i2 : Sg → Tree × Sg} (hon : ∀ s, On ts s (i2 s).2) (h : ∀ s, (i1 s).2 = (i2 s).2) (ht : ∀ s, (i2 s).2.bad = false → (i1 s).1 = (i2 s).1) (f : Nat) (s : Sg) (hg : (listM ts i2 f s).2.bad = false) : (listM ts i1 f s).1 = (listM ts i2 f s).1 := by
 unfold listM at hg ⊢
 split
 ·rfl
 ·rename_i hc
  rw [if_neg hc] at hg
  have g1 := (exc_good hg).1
  have g2 := (more_on hon f _ _).good g1
  rw [h, ht _ g2]
  exact more_tr hon h ht f _ _ g1

def sh : NT → NT → Prop
 | .ex, .ex => True | .bn l, .bn m => l = m | .bl l _ _, .bl m _ _ => l = m | .ca, .ca => True | .cl _ _, .cl _ _ => True | .un, .un => True | .pr, .pr => True | .us, .us => True | _, _ => False
def rl (ts : List Tok) (s : Sg) : NT → NT → Prop
 | .ex, .ex => True | .bn l, .bn m => l = m | .bl l a t, .bl m b u => l = m ∧ t = u ∧ (s.bad = false → s.i < ts.length → a = b) | .ca, .ca => True | .cl a t, .cl b u => t = u ∧ (s.bad = false → s.i < ts.length → a = b) | .un, .un => True | .pr, .pr => True | .us, .us => True | _, _ => False
theorem us_bad {ts : List Tok} {f : Nat} {s : Sg} (hk : ¬ kd ts s = 1) : (E ts (f + 1) .us s).2 = stop s := by
 have e : nmS ts s = stop s := if_neg hk
 rw [E, e, if_neg (by rw [hasT_bad rfl]; simp), if_neg (by rw [hasT_bad rfl]; simp)]
theorem EQ_st (ts : List Tok) : ∀ f nt nt' s, sh nt nt' → (EQ ts f nt' s).2 = (E ts f nt s).2 := by
 intro f
 induction f with
 | zero => intro nt nt' s _; rw [EQ, E]
 | succ f ih =>
  have ex : ∀ s, (EQ ts f .ex s).2 = (E ts f .ex s).2 := fun s => ih .ex .ex s trivial
  have bn : ∀ l s, (EQ ts f (.bn l) s).2 = (E ts f (.bn l) s).2 := fun l s => ih (.bn l) (.bn l) s rfl
  intro nt nt' s h
  cases nt <;> cases nt' <;> try exact h.elim
  ·rw [EQ, E, bn, ex, ex]
   split
   ·rfl
   ·exact bn 0 s
  ·obtain rfl : _ = _ := h
   rw [EQ, E]
   split
   ·exact ih .ca .ca s trivial
   ·rw [bn]; exact ih (.bl _ _ _) (.bl _ _ _) _ rfl
  ·obtain rfl : _ = _ := h
   rw [EQ, E]
   split
   ·rfl
   ·split
    ·exact bn _ _
    ·rw [bn]; exact ih (.bl _ _ _) (.bl _ _ _) _ rfl
  ·rw [EQ, E, ih .un .un s trivial]
   exact ih (.cl _ _) (.cl _ _) _ trivial
  ·rw [EQ, E]
   split
   ·exact ih (.cl _ _) (.cl _ _) _ trivial
   ·rfl
  ·rw [EQ, E]
   split
   ·exact ih .pr .pr s trivial
   ·exact ih .un .un _ trivial
  ·rw [EQ, E, ex]
   split
   ·rfl
   split
   ·rfl
   split
   ·rfl
   split
   ·rfl
   split
   ·rfl
   split
   ·exact ih .us .us s trivial
   ·rename_i hk
    cases f with
    | zero => rfl
    | succ f => rw [if_neg (by omega)]; exact (us_bad hk).symm
  ·rw [EQ, E, ex]
   cases h1 : hasT ts (nmS ts s) [91] with
   | true =>
    rw [hasT_two (by decide) h1]
    simp
   | false =>
    cases h2 : hasT ts (nmS ts s) [40] with
    | true => simp; exact listM_st ex f _
    | false => simp
theorem E_good {ts : List Tok} {f : Nat} {nt : NT} {s : Sg} (h : (E ts f nt s).2.bad = false) : s.bad = false := (E_on ts f nt s).good h
theorem adv_good {s : Sg} (h : (adv s).bad = false) : s.bad = false := h
theorem EQ_tr (ts : List Tok) : ∀ f nt nt' s, rl ts s nt' nt → (E ts f nt s).2.bad = false → (EQ ts f nt' s).1 = (E ts f nt s).1 := by
 intro f
 induction f with
 | zero => intro nt nt' s _ _; rw [EQ, E]
 | succ f ih =>
  have ex2 : ∀ s, (EQ ts f .ex s).2 = (E ts f .ex s).2 := fun s => EQ_st ts f .ex .ex s trivial
  have bn2 : ∀ l s, (EQ ts f (.bn l) s).2 = (E ts f (.bn l) s).2 := fun l s => EQ_st ts f (.bn l) (.bn l) s rfl
  have ex1 : ∀ s, (E ts f .ex s).2.bad = false → (EQ ts f .ex s).1 = (E ts f .ex s).1 := fun s => ih .ex .ex s trivial
  have bn1 : ∀ l s, (E ts f (.bn l) s).2.bad = false → (EQ ts f (.bn l) s).1 = (E ts f (.bn l) s).1 := fun l s => ih (.bn l) (.bn l) s rfl
  intro nt nt' s h hg
  cases nt <;> cases nt' <;> try exact h.elim
  ·rw [E] at hg ⊢
   rw [EQ, bn2, ex2, ex2]
   split
   ·rename_i hc
    rw [if_pos hc] at hg
    have g1 := E_good hg
    have g2 := (exc_good g1).1
    have g3 := E_good g2
    have hin := hasT_in hc
    rw [bn1 _ _ hin.1, ex1 _ g2, ex1 _ hg, ln_eq (E_good hin.1) (lt_of_on (E_on ts f _ _) hin.2)]
   ·rename_i hc
    rw [if_neg hc] at hg
    exact bn1 0 s hg
  ·obtain rfl : _ = _ := h
   rw [E] at hg ⊢
   rw [EQ]
   split
   ·rename_i hc
    rw [if_pos hc] at hg
    exact ih .ca .ca s trivial hg
   ·rename_i hc
    rw [if_neg hc] at hg
    rw [bn2, bn1 _ _ (E_good hg)]
    exact ih (.bl _ _ _) (.bl _ _ _) _ ⟨rfl, rfl, fun hb hi => ln_eq (E_good (E_good hg)) (lt_of_on (E_on ts f _ _) hi)⟩ hg
  ·obtain ⟨rfl, rfl, hl⟩ := h
   rw [E] at hg ⊢
   rw [EQ]
   split
   ·rfl
   ·rename_i hc
    rw [if_neg hc] at hg
    have hin := opV_in hc
    obtain rfl := hl hin.1 hin.2
    split
    ·rename_i hc2
     rw [if_pos hc2] at hg
     rw [bn1 _ _ hg]
    ·rename_i hc2
     rw [if_neg hc2] at hg
     rw [bn2, bn1 _ _ (E_good hg)]
     exact ih (.bl _ _ _) (.bl _ _ _) _ ⟨rfl, rfl, fun _ _ => rfl⟩ hg
  ·rw [E] at hg ⊢
   rw [EQ, EQ_st ts f .un .un s trivial, ih .un .un s trivial (E_good hg)]
   exact ih (.cl _ _) (.cl _ _) _ ⟨rfl, fun hb hi => ln_eq (E_good (E_good hg)) (lt_of_on (E_on ts f _ _) hi)⟩ hg
  ·obtain ⟨rfl, hl⟩ := h
   rw [E] at hg ⊢
   rw [EQ]
   split
   ·rename_i hc
    rw [if_pos hc] at hg
    have hin := hasT_in hc
    obtain rfl := hl hin.1 hin.2
    exact ih (.cl _ _) (.cl _ _) _ ⟨rfl, fun _ _ => rfl⟩ hg
   ·rfl
  ·rw [E] at hg ⊢
   rw [EQ]
   split
   ·rename_i hc
    rw [if_pos hc] at hg
    exact ih .pr .pr s trivial hg
   ·rename_i hc
    rw [if_neg hc] at hg
    have hin := opV_in hc
    rw [ih .un .un _ trivial hg, ln_eq hin.1 hin.2]
  ·rw [E] at hg ⊢
   rw [EQ]
   split
   ·rename_i hc
    have hin := kd_in hc (by decide)
    rw [ln_eq hin.1 hin.2]
   split
   ·rename_i hc
    have hin := hasT_in hc
    rw [ln_eq hin.1 hin.2]
   split
   ·rename_i hc
    have hin := hasT_in hc
    rw [ln_eq hin.1 hin.2]
   split
   ·rename_i hc
    have hin := hasT_in hc
    rw [ln_eq hin.1 hin.2]
   rename_i k1 k2 k3 k4
   rw [if_neg k1, if_neg k2, if_neg k3, if_neg k4] at hg
   split
   ·rename_i hc
    rw [if_pos hc] at hg
    exact ex1 _ (exc_good hg).1
   rename_i k5
   rw [if_neg k5] at hg
   split
   ·exact ih .us .us s trivial hg
   ·rename_i hk
    cases f with
    | zero => rw [if_pos rfl, E]
    | succ f => rw [us_bad hk] at hg; cases hg
  ·rw [E] at hg ⊢
   rw [EQ]
   cases h1 : hasT ts (nmS ts s) [91] with
   | true =>
    rw [hasT_two (b := [40]) (by decide) h1] at hg ⊢
    rw [h1] at hg
    simp only [if_true, Bool.false_eq_true, if_false] at hg ⊢
    have g1 := (exc_good hg).1
    have hn := nmS_good (adv_good (E_good g1))
    rw [ex1 _ g1, ln_eq hn.1 hn.2.1]
   | false =>
    rw [h1] at hg
    cases h2 : hasT ts (nmS ts s) [40] with
    | true =>
     rw [h2] at hg
     simp only [if_true, Bool.false_eq_true, if_false] at hg ⊢
     have hn := nmS_good ((listM_on (fun q => E_on ts f .ex q) f _).good hg)
     rw [listM_tr (fun q => E_on ts f .ex q) ex2 ex1 f _ hg, ln_eq hn.1 hn.2.1]
    | false =>
     rw [h2] at hg
     simp only [Bool.false_eq_true, if_false] at hg ⊢
     have hn := nmS_good hg
     rw [ln_eq hn.1 hn.2.1]
theorem xprQ_st (ts : List Tok) (s : Sg) : (xprQ ts s).2 = (xpr ts s).2 := by unfold xprQ xpr; exact EQ_st ts _ .ex .ex s trivial
theorem xprQ_tr (ts : List Tok) (s : Sg) (h : (xpr ts s).2.bad = false) : (xprQ ts s).1 = (xpr ts s).1 := by unfold xpr at h; unfold xprQ xpr; exact EQ_tr ts _ .ex .ex s trivial h
end Go.Proofs.YtkliclihpobmiaaGreatDoor
