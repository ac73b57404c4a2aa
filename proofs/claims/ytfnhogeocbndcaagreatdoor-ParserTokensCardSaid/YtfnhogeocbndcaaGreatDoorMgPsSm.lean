/- The rules of statements: what the code does with fuel. -/
import Derived.Test.YtfnhogeocbndcaaGreatDoorMgPsSt1
import Derived.Test.YtfnhogeocbndcaaGreatDoorMgPsCh
namespace Go.Proofs.YtfnhogeocbndcaaGreatDoor
open Go Go.RowKit
set_option linter.unusedVariables false

/-- The one tree that a rule of statements gives. -/
def one (x : List Tree × Sg) : Tree × Sg := (x.1.headD tree0, x.2)
structure SC (ts : List Tok) (R g c f : Nat) : Prop where
  bk : ∀ s w, Rd w R g c ts s → 8 * rem ts s + 6 ≤ f → Calls Tryz.prog 98 #[.pointer (some ⟨R, 0, none⟩)] w (TP w R g c ts (one (S ts f .bk s)))
  st : ∀ s w, s.bad = false ∧ s.i < ts.length → Rd w R g c ts s → 8 * rem ts s + 4 ≤ f → Calls Tryz.prog 133 #[.pointer (some ⟨R, 0, none⟩)] w (TP w R g c ts (one (S ts f .st s)))
  br : ∀ s w, hasT ts s [105, 102] = true → Rd w R g c ts s → 8 * rem ts s + 3 ≤ f → Calls Tryz.prog 156 #[.pointer (some ⟨R, 0, none⟩)] w (TP w R g c ts (one (S ts f .br s)))
theorem S_one {ts : List Tok} : ∀ f n s, (∀ acc, n ≠ .bs acc) → (S ts f n s).1 = [(one (S ts f n s)).1] := by
  intro f
  induction f with
  | zero => intro n s _; rfl
  | succ f ih =>
    intro n s hn
    cases n with
    | bs acc => exact absurd rfl (hn acc)
    | bk => rfl
    | br =>
      unfold one
      rw [S]
      split
      · split <;> rfl
      · rfl
    | lp =>
      unfold one
      rw [S]
      dsimp only
      split <;> rfl
    | st =>
      have h1 := ih .br s (by simp)
      have h2 := ih .lp s (by simp)
      unfold one at h1 h2 ⊢
      rw [S]
      split
      · rfl
      · split
        · rfl
        · split
          · exact h1
          · split
            · exact h2
            · split
              · rfl
              · split <;> rfl
theorem S_bs_end {ts : List Tok} {f : Nat} {acc : List Tree} {s : Sg} (h : ¬ (s.bad = false ∧ s.i < ts.length ∧ hasT ts s [125] = false)) : S ts (f + 1) (.bs acc) s = (acc, s) := by rw [S, if_neg h]
theorem S_bs_more {ts : List Tok} {f : Nat} {acc : List Tree} {s : Sg} (h : s.bad = false ∧ s.i < ts.length ∧ hasT ts s [125] = false) : S ts (f + 1) (.bs acc) s = S ts f (.bs (acc ++ [(one (S ts f .st s)).1])) (one (S ts f .st s)).2 := by
  rw [S, if_pos h, S_one f .st s (by simp)]
  rfl
/-- A statement takes a token, or meets one that cannot follow. -/
theorem st_prog {ts : List Tok} {f : Nat} {s : Sg} (hs : s.bad = false ∧ s.i < ts.length) : rem ts (S ts (f + 2) .st s).2 + 1 ≤ rem ts s := by
  have ha := rem_adv hs
  have key : ∀ t, On ts (adv s) t → rem ts t + 1 ≤ rem ts s := fun t ht => by have := rem_on ht; omega
  have hst : rem ts (stop s) + 1 ≤ rem ts s := by unfold rem stop; rw [hs.1]; simp; omega
  rw [S]
  split
  · rename_i h
    refine key _ ?_
    unfold declV
    dsimp only
    split
    · exact (nmS_on _ _).trans (exc_on.trans ((tyS_on _ _).trans ((adv_on (hasT_in ‹_›)).trans ((xpr_on _ _).trans exc_on))))
    · exact (nmS_on _ _).trans (exc_on.trans ((tyS_on _ _).trans exc_on))
  · split
    · refine key _ ?_
      unfold declL
      dsimp only
      have h1 : On ts (adv s) (if hasT ts (nmS ts (adv s)) [58] = true then tyS ts (adv (nmS ts (adv s))) else nmS ts (adv s)) :=
        On.ite (fun h2 => (nmS_on _ _).trans ((adv_on (hasT_in h2)).trans (tyS_on _ _))) fun _ => nmS_on _ _
      exact h1.trans (exc_on.trans ((xpr_on _ _).trans exc_on))
    · split
      · rename_i h
        refine key _ ?_
        have h1 : On ts (adv s) (S ts f .bk (xpr ts (adv s)).2).2 := (xpr_on _ _).trans (S_on ts _ _ _ trivial)
        rw [S]
        split
        · split
          · exact h1.trans ((adv_on (hasT_in ‹_›)).trans (S_on ts _ _ _ (hasT_in ‹_›)))
          · exact h1.trans ((adv_on (hasT_in ‹_›)).trans (S_on ts _ _ _ trivial))
        · exact h1
      · split
        · rename_i h
          refine key _ ?_
          rw [S]
          dsimp only
          by_cases h35 : hasT ts s [35] = true
          · have hd : On ts (adv s) (dirs ts 3 0 0 s).2.2 := by
              rw [dirs, if_pos ⟨.inl rfl, h35⟩]
              exact (dir_on _ _ _ _).trans (dirs_on _ _ _ _ _)
            split
            · exact hd.trans ((adv_on (hasT_in ‹_›)).trans ((nmS_on _ _).trans (exc_on.trans ((tyS_on _ _).trans (exc_on.trans ((xpr_on _ _).trans (exc_on.trans ((xpr_on _ _).trans (S_on ts _ _ _ trivial)))))))))
            · exact hd.trans (exc_on.trans ((xpr_on _ _).trans (S_on ts _ _ _ trivial)))
          · have hd : dirs ts 3 0 0 s = (0, 0, s) := by rw [dirs, if_neg (fun h => h35 h.2)]
            rw [hd]
            dsimp only
            split
            · exact (nmS_on _ _).trans (exc_on.trans ((tyS_on _ _).trans (exc_on.trans ((xpr_on _ _).trans (exc_on.trans ((xpr_on _ _).trans (S_on ts _ _ _ trivial)))))))
            · rename_i hf
              have hw : hasT ts s [119, 104, 105, 108, 101] = true := by
                simp [h35, hf] at h
                exact h
              rw [exc_has hw]
              exact (xpr_on _ _).trans (S_on ts _ _ _ trivial)
        · split
          · exact key _ ((nmS_on _ _).trans (exc_on.trans ((xpr_on _ _).trans (exc_on.trans exc_on))))
          · split
            · exact key _ ((xpr_on _ _).trans exc_on)
            · unfold change
              dsimp only
              have hn : On ts (adv s) (nmS ts s) ∨ nmS ts s = stop s := by
                unfold nmS
                split
                · exact .inl (On.refl _ _)
                · exact .inr rfl
              rcases hn with hn | hn
              · refine key _ ?_
                split
                · exact hn.trans ((adv_on (hasT_in ‹_›)).trans ((xpr_on _ _).trans (exc_on.trans (exc_on.trans ((xpr_on _ _).trans exc_on)))))
                · exact hn.trans (exc_on.trans ((xpr_on _ _).trans exc_on))
              · have key2 : ∀ t, On ts (stop s) t → rem ts t + 1 ≤ rem ts s := fun t ht => by have := rem_on ht; omega
                refine key2 _ ?_
                rw [hn]
                split
                · exact (adv_on (hasT_in ‹_›)).trans ((xpr_on _ _).trans (exc_on.trans (exc_on.trans ((xpr_on _ _).trans exc_on))))
                · exact exc_on.trans ((xpr_on _ _).trans exc_on)
theorem S_br_no {ts : List Tok} {f : Nat} {s : Sg} (h : hasT ts (one (S ts f .bk (xpr ts (adv s)).2)).2 [101, 108, 115, 101] = false) : one (S ts (f + 1) .br s) = (.node (labK 13 (ln ts s)) [(xpr ts (adv s)).1, (one (S ts f .bk (xpr ts (adv s)).2)).1], (one (S ts f .bk (xpr ts (adv s)).2)).2) := by
  have h1 := S_one f .bk (xpr ts (adv s)).2 (ts := ts) (by simp)
  have h2 : hasT ts (S ts f .bk (xpr ts (adv s)).2).2 [101, 108, 115, 101] = false := h
  rw [one, S, if_neg (by simp [h2]), h1]
  rfl
theorem S_br_if {ts : List Tok} {f : Nat} {s : Sg} (h : hasT ts (one (S ts f .bk (xpr ts (adv s)).2)).2 [101, 108, 115, 101] = true) (h3 : hasT ts (adv (one (S ts f .bk (xpr ts (adv s)).2)).2) [105, 102] = true) :
    one (S ts (f + 1) .br s) = (.node (labK 13 (ln ts s)) [(xpr ts (adv s)).1, (one (S ts f .bk (xpr ts (adv s)).2)).1, (one (S ts f .br (adv (one (S ts f .bk (xpr ts (adv s)).2)).2))).1], (one (S ts f .br (adv (one (S ts f .bk (xpr ts (adv s)).2)).2))).2) := by
  have h1 := S_one f .bk (xpr ts (adv s)).2 (ts := ts) (by simp)
  have h4 := S_one f .br (adv (one (S ts f .bk (xpr ts (adv s)).2)).2) (ts := ts) (by simp)
  have h2 : hasT ts (S ts f .bk (xpr ts (adv s)).2).2 [101, 108, 115, 101] = true := h
  have h5 : hasT ts (adv (S ts f .bk (xpr ts (adv s)).2).2) [105, 102] = true := h3
  have h6 : (S ts f .br (adv (S ts f .bk (xpr ts (adv s)).2).2)).1 = [(one (S ts f .br (adv (one (S ts f .bk (xpr ts (adv s)).2)).2))).1] := h4
  rw [one, S, if_pos h2, if_pos h5, h1, h6]
  rfl
theorem S_br_el {ts : List Tok} {f : Nat} {s : Sg} (h : hasT ts (one (S ts f .bk (xpr ts (adv s)).2)).2 [101, 108, 115, 101] = true) (h3 : hasT ts (adv (one (S ts f .bk (xpr ts (adv s)).2)).2) [105, 102] = false) :
    one (S ts (f + 1) .br s) = (.node (labK 13 (ln ts s)) [(xpr ts (adv s)).1, (one (S ts f .bk (xpr ts (adv s)).2)).1, (one (S ts f .bk (adv (one (S ts f .bk (xpr ts (adv s)).2)).2))).1], (one (S ts f .bk (adv (one (S ts f .bk (xpr ts (adv s)).2)).2))).2) := by
  have h1 := S_one f .bk (xpr ts (adv s)).2 (ts := ts) (by simp)
  have h4 := S_one f .bk (adv (one (S ts f .bk (xpr ts (adv s)).2)).2) (ts := ts) (by simp)
  have h2 : hasT ts (S ts f .bk (xpr ts (adv s)).2).2 [101, 108, 115, 101] = true := h
  have h5 : hasT ts (adv (S ts f .bk (xpr ts (adv s)).2).2) [105, 102] = false := h3
  have h6 : (S ts f .bk (adv (S ts f .bk (xpr ts (adv s)).2).2)).1 = [(one (S ts f .bk (adv (one (S ts f .bk (xpr ts (adv s)).2)).2))).1] := h4
  rw [one, S, if_pos h2, if_neg (by simp [h5]), h1, h6]
  rfl
theorem atOf_adv2 {ts : List Tok} {s t : Sg} (h : s.bad = false ∧ s.i < ts.length) (ht : On ts s t) (hr : rem ts t + 1 ≤ rem ts s) (hi : t.i ≤ ts.length) : atOf ts s < atOf ts t ∧ atOf ts t ≤ ts.length := by
  have h1 := ht.1
  unfold rem at hr
  unfold atOf
  rw [h.1] at hr ⊢
  cases hb : t.bad with
  | false => rw [hb] at hr; simp at hr ⊢; omega
  | true => simp; omega
theorem hasT_excl {ts : List Tok} {s : Sg} {a b : List UInt8} (h : hasT ts s a = true) (hab : a ≠ b) : hasT ts s b = false := by
  unfold hasT at h ⊢
  rw [of_decide_eq_true h]
  simp [hab]
end Go.Proofs.YtfnhogeocbndcaaGreatDoor
/- The rule branch: contract. -/
namespace Go.Proofs.YtfnhogeocbndcaaGreatDoor
open Go Go.RowKit
set_option linter.unusedVariables false
set_option linter.unusedSimpArgs false

set_option maxHeartbeats 2000000 in
set_option maxRecDepth 100000 in
theorem branch_step {ts : List Tok} {R g c : Nat} (X : Ctx ts R g c) (f : Nat) (H : SC ts R g c f) (s : Sg) (hv : hasT ts s [105, 102] = true) (w : World) (hR : Rd w R g c ts s) (hf : 8 * rem ts s + 3 ≤ f + 1) : Calls Tryz.prog 156 #[.pointer (some ⟨R, 0, none⟩)] w (TP w R g c ts (one (S ts (f + 1) .br s))) := by
  have hXl := X.lt
  have F0 := Lib.hid ((Fr.start hR).node hXl ncz)
  have HN := Lib.hid fun W (h : Rd W R g c ts s) => node_any X 13 W h
  have HX := Lib.hid fun q W (h : Rd W R g c ts q) => xpr_any X q W h
  have HNM := Lib.hid fun q W (h : Rd W R g c ts q) => name_any X (s := q) W h
  have HE0 := Lib.hid fun W (h : Rd W R g c ts s) => expect_any X (s := s) [105, 102] (by simp) W h
  rw [exc_has hv] at HE0
  have hin := hasT_in hv
  have hra := rem_adv hin
  have hrx := rem_on (xpr_on ts (adv s))
  have HBK := Lib.hid fun W (h : Rd W R g c ts (xpr ts (adv s)).2) => H.bk _ W h (by omega)
  have hrb : rem ts (one (S ts f .bk (xpr ts (adv s)).2)).2 ≤ rem ts (xpr ts (adv s)).2 := rem_on (S_on ts f .bk _ trivial)
  have HSK := Lib.hid fun W (h : Rd W R g c ts (one (S ts f .bk (xpr ts (adv s)).2)).2) => skip_any' X [101, 108, 115, 101] (by simp) W h
  unfold skp at HSK
  have HL : Hid (nc (labK 13 (ln ts s)) = [.int .i64 13, .string ⟨#[]⟩, .int .u64 0, .int .i64 0, .bool false, .int .i64 0, .int .i64 0, .int .i64 0, .int .i64 0, .int .i64 ((ln ts s : Nat) : Int), .slice none 0 0]) := Lib.hid rfl
  rw [HL.out] at HN
  cases h1 : hasT ts (one (S ts f .bk (xpr ts (adv s)).2)).2 [101, 108, 115, 101] with
  | false =>
    have HM : Hid (one (S ts (f + 1) .br s) = (.node (labK 13 (ln ts s)) [(xpr ts (adv s)).1, (one (S ts f .bk (xpr ts (adv s)).2)).1], (one (S ts f .bk (xpr ts (adv s)).2)).2)) := Lib.hid (S_br_no h1)
    rw [HM.out]
    rw [h1] at HSK
    clear HM hR HL h1 H hin hra hrx hrb hf hv HNM
    go_enter Tryz.func156, Tryz.ntmps156
    go_wp2_with fail
    refine (HN.out _ F0.out.rd).mono ?_
    rintro e v1 ⟨rfl, hb⟩
    have G1 := Lib.hid (F0.out.quiet hXl hb)
    clear hb
    obtain ⟨hc0, hf0⟩ := G1.out.b0.all
    have hz0 := G1.out.b0.lt
    unfold ncz at hc0
    have hq10 := G1.out.b0.lt
    have G2 := Lib.hid (G1.out.node hXl [.int .i64 13, .string ⟨#[]⟩, .int .u64 0, .int .i64 0, .bool false, .int .i64 0, .int .i64 0, .int .i64 0, .int .i64 0, .int .i64 ((ln ts s : Nat) : Int), .slice none 0 0])
    go_wp2_with fail
    refine (HE0.out _ G2.out.rd).mono ?_
    rintro e v2 ⟨rfl, hr, hs⟩
    clear hc0 hf0 hz0
    have G3 := Lib.hid (G2.out.call hr hs)
    clear hr hs
    obtain ⟨hc0, hf0⟩ := G3.out.b0.all
    have hz0 := G3.out.b0.lt
    obtain ⟨hc1, hf1⟩ := G3.out.b1.all
    have hz1 := G3.out.b1.lt
    unfold ncz at hc1
    have G4 := Lib.hid (G3.out.fb)
    go_wp2_with fail
    refine (HX.out _ _ G4.out.fr.rd).mono ?_
    rintro e v3 ⟨l1, x1, n1, k1, rfl, hT, hr, hs⟩
    clear hc0 hf0 hz0 hc1 hf1 hz1
    have G5 := Lib.hid (G4.out.tree hT hr hs)
    clear hT hr hs
    obtain ⟨hc0, hf0⟩ := G5.out.fr.b0.all
    have hz0 := G5.out.fr.b0.lt
    obtain ⟨hc1, hf1⟩ := G5.out.fr.b1.all
    have hz1 := G5.out.fr.b1.lt
    unfold ncz at hc1
    go_wp2_with fail
    refine (HBK.out _ G5.out.fr.rd).mono ?_
    rintro e v4 ⟨l2, x2, n2, k2, rfl, hT, hr, hs⟩
    clear hc0 hf0 hz0 hc1 hf1 hz1
    have G6 := Lib.hid (G5.out.tree hT hr hs)
    clear hT hr hs
    obtain ⟨hc0, hf0⟩ := G6.out.fr.b0.all
    have hz0 := G6.out.fr.b0.lt
    obtain ⟨hc1, hf1⟩ := G6.out.fr.b1.all
    have hz1 := G6.out.fr.b1.lt
    unfold ncz at hc1
    have G7 := Lib.hid (G6.out.set0 hXl 10 (.slice (some ⟨v4.heap.size, 0, none⟩) 2 2) [.int .i64 13, .string ⟨#[]⟩, .int .u64 0, .int .i64 0, .bool false, .int .i64 0, .int .i64 0, .int .i64 0, .int .i64 0, .int .i64 ((ln ts s : Nat) : Int), .slice (some ⟨v4.heap.size, 0, none⟩) 2 2] rfl)
    have G8 := Lib.hid (G7.out.two hXl (List.Mem.tail _ (List.Mem.head _)) (List.Mem.head _) [.int .i64 l1.kind, .string (str l1.name), .int .u64 l1.num, .int .i64 l1.wd, .bool l1.sg, .int .i64 l1.op, .int .i64 l1.fac, .int .i64 l1.pip, .int .i64 l1.unr, .int .i64 l1.line, .slice x1 n1 k1, .int .i64 l2.kind, .string (str l2.name), .int .u64 l2.num, .int .i64 l2.wd, .bool l2.sg, .int .i64 l2.op, .int .i64 l2.fac, .int .i64 l2.pip, .int .i64 l2.unr, .int .i64 l2.line, .slice x2 n2 k2] rfl v4.heap.size (by simp only [size_setCell]))
    go_wp2_with fail
    refine (HSK.out _ G8.out.fr.rd).mono ?_
    rintro e v5 ⟨rfl, hr, hs⟩
    clear hc0 hf0 hz0 hc1 hf1 hz1
    have G9 := Lib.hid (G8.out.call hr hs)
    clear hr hs
    obtain ⟨hc0, hf0⟩ := G9.out.fr.b0.all
    have hz0 := G9.out.fr.b0.lt
    obtain ⟨hc1, hf1⟩ := G9.out.fr.b1.all
    have hz1 := G9.out.fr.b1.lt
    unfold ncz at hc1
    have G10 := Lib.hid (G9.out.tree (labK 13 (ln ts s)))
    go_wp2
    have G11 := Lib.hid (G10.out.stoR hXl (List.Mem.tail _ (List.Mem.head _)) rfl (.int .i64 13) (.string ⟨#[]⟩) (.int .u64 0) (.int .i64 0) (.bool false) (.int .i64 0) (.int .i64 0) (.int .i64 0) (.int .i64 0) (.int .i64 ((ln ts s : Nat) : Int)) (.slice (some ⟨v4.heap.size, 0, none⟩) 2 2))
    refine bodyPost_ret (G11.out.b0.res1 Tryz.results156 Tryz.underlying28 rfl infoNd _ rfl) rfl ?_
    exact G11.out.outT (rfl)
  | true =>
    have hin2 := hasT_in h1
    have hra2 := rem_adv hin2
    rw [h1] at HSK
    have HNX := Lib.hid fun W (h : Rd W R g c ts (adv (one (S ts f .bk (xpr ts (adv s)).2)).2)) => next_any X W h
    have hF := fldT (nxt ts (adv (one (S ts f .bk (xpr ts (adv s)).2)).2))
    have hq1 : ((str (nxt ts (adv (one (S ts f .bk (xpr ts (adv s)).2)).2)).text).toList == [105, 102]) = hasT ts (adv (one (S ts f .bk (xpr ts (adv s)).2)).2) [105, 102] := by have := hasT_bytes ts (adv (one (S ts f .bk (xpr ts (adv s)).2)).2) [105, 102]; rw [str_toList [105, 102]] at this; exact this
    cases h2 : hasT ts (adv (one (S ts f .bk (xpr ts (adv s)).2)).2) [105, 102] with
    | true =>
      have HM : Hid (one (S ts (f + 1) .br s) = (.node (labK 13 (ln ts s)) [(xpr ts (adv s)).1, (one (S ts f .bk (xpr ts (adv s)).2)).1, (one (S ts f .br (adv (one (S ts f .bk (xpr ts (adv s)).2)).2))).1], (one (S ts f .br (adv (one (S ts f .bk (xpr ts (adv s)).2)).2))).2)) := Lib.hid (S_br_if h1 h2)
      rw [HM.out]
      rw [h2] at hq1
      have HRU := Lib.hid fun W (h : Rd W R g c ts (adv (one (S ts f .bk (xpr ts (adv s)).2)).2)) => H.br _ W h2 h (by omega)
      clear HM hR HL h1 h2 H hin hra hrx hrb hf hv hin2 hra2 HNM
      go_enter Tryz.func156, Tryz.ntmps156
      go_wp2_with fail
      refine (HN.out _ F0.out.rd).mono ?_
      rintro e v1 ⟨rfl, hb⟩
      have G1 := Lib.hid (F0.out.quiet hXl hb)
      clear hb
      obtain ⟨hc0, hf0⟩ := G1.out.b0.all
      have hz0 := G1.out.b0.lt
      unfold ncz at hc0
      have hq10 := G1.out.b0.lt
      have G2 := Lib.hid (G1.out.node hXl [.int .i64 13, .string ⟨#[]⟩, .int .u64 0, .int .i64 0, .bool false, .int .i64 0, .int .i64 0, .int .i64 0, .int .i64 0, .int .i64 ((ln ts s : Nat) : Int), .slice none 0 0])
      go_wp2_with fail
      refine (HE0.out _ G2.out.rd).mono ?_
      rintro e v2 ⟨rfl, hr, hs⟩
      clear hc0 hf0 hz0
      have G3 := Lib.hid (G2.out.call hr hs)
      clear hr hs
      obtain ⟨hc0, hf0⟩ := G3.out.b0.all
      have hz0 := G3.out.b0.lt
      obtain ⟨hc1, hf1⟩ := G3.out.b1.all
      have hz1 := G3.out.b1.lt
      unfold ncz at hc1
      have G4 := Lib.hid (G3.out.fb)
      go_wp2_with fail
      refine (HX.out _ _ G4.out.fr.rd).mono ?_
      rintro e v3 ⟨l1, x1, n1, k1, rfl, hT, hr, hs⟩
      clear hc0 hf0 hz0 hc1 hf1 hz1
      have G5 := Lib.hid (G4.out.tree hT hr hs)
      clear hT hr hs
      obtain ⟨hc0, hf0⟩ := G5.out.fr.b0.all
      have hz0 := G5.out.fr.b0.lt
      obtain ⟨hc1, hf1⟩ := G5.out.fr.b1.all
      have hz1 := G5.out.fr.b1.lt
      unfold ncz at hc1
      go_wp2_with fail
      refine (HBK.out _ G5.out.fr.rd).mono ?_
      rintro e v4 ⟨l2, x2, n2, k2, rfl, hT, hr, hs⟩
      clear hc0 hf0 hz0 hc1 hf1 hz1
      have G6 := Lib.hid (G5.out.tree hT hr hs)
      clear hT hr hs
      obtain ⟨hc0, hf0⟩ := G6.out.fr.b0.all
      have hz0 := G6.out.fr.b0.lt
      obtain ⟨hc1, hf1⟩ := G6.out.fr.b1.all
      have hz1 := G6.out.fr.b1.lt
      unfold ncz at hc1
      have G7 := Lib.hid (G6.out.set0 hXl 10 (.slice (some ⟨v4.heap.size, 0, none⟩) 2 2) [.int .i64 13, .string ⟨#[]⟩, .int .u64 0, .int .i64 0, .bool false, .int .i64 0, .int .i64 0, .int .i64 0, .int .i64 0, .int .i64 ((ln ts s : Nat) : Int), .slice (some ⟨v4.heap.size, 0, none⟩) 2 2] rfl)
      have G8 := Lib.hid (G7.out.two hXl (List.Mem.tail _ (List.Mem.head _)) (List.Mem.head _) [.int .i64 l1.kind, .string (str l1.name), .int .u64 l1.num, .int .i64 l1.wd, .bool l1.sg, .int .i64 l1.op, .int .i64 l1.fac, .int .i64 l1.pip, .int .i64 l1.unr, .int .i64 l1.line, .slice x1 n1 k1, .int .i64 l2.kind, .string (str l2.name), .int .u64 l2.num, .int .i64 l2.wd, .bool l2.sg, .int .i64 l2.op, .int .i64 l2.fac, .int .i64 l2.pip, .int .i64 l2.unr, .int .i64 l2.line, .slice x2 n2 k2] rfl v4.heap.size (by simp only [size_setCell]))
      go_wp2_with fail
      refine (HSK.out _ G8.out.fr.rd).mono ?_
      rintro e v5 ⟨rfl, hr, hs⟩
      clear hc0 hf0 hz0 hc1 hf1 hz1
      have G9 := Lib.hid (G8.out.call hr hs)
      clear hr hs
      obtain ⟨hc0, hf0⟩ := G9.out.fr.b0.all
      have hz0 := G9.out.fr.b0.lt
      obtain ⟨hc1, hf1⟩ := G9.out.fr.b1.all
      have hz1 := G9.out.fr.b1.lt
      unfold ncz at hc1
      go_wp2_with fail
      refine (HNX.out _ G9.out.fr.rd).mono ?_
      rintro e v6 ⟨rfl, hb⟩
      clear hc0 hf0 hz0 hc1 hf1 hz1
      have G10 := Lib.hid (G9.out.quiet hXl hb)
      clear hb
      obtain ⟨hc0, hf0⟩ := G10.out.fr.b0.all
      have hz0 := G10.out.fr.b0.lt
      obtain ⟨hc1, hf1⟩ := G10.out.fr.b1.all
      have hz1 := G10.out.fr.b1.lt
      unfold ncz at hc1
      go_wp2
      have G11 := Lib.hid (G10.out.drew)
      go_region_law (first | (refine fk_append KT1.out hXl (by rfl) _ _ _ (by rfl) Tryz.underlying26 infoNd2 (by rfl) (by simp [Act.eval]) ?_; intro g1 c1 u1 hk6; have KX1 := Lib.hid hk6; clear hk6; obtain ⟨hd10, he10⟩ := KX1.out.fr.b0.all; have hy10 := KX1.out.fr.b0.lt; obtain ⟨hd11, he11⟩ := KX1.out.fr.b1.all; have hy11 := KX1.out.fr.b1.lt; unfold ncz at hd11) | (go_simp; go_at_call 156; refine (HRU.out _ G11.out.fr.rd).mono ?_; rintro e y1 ⟨l3, x3, n3, k3, rfl, hT, hr, hs⟩; have KT1 := Lib.hid (G11.out.callT (by simp) hT hr hs); clear hT hr hs; obtain ⟨hu10, hv10⟩ := KT1.out.fr.b0.all; have hw10 := KT1.out.fr.b0.lt; obtain ⟨hu11, hv11⟩ := KT1.out.fr.b1.all; have hw11 := KT1.out.fr.b1.lt; unfold ncz at hu11))
      all_goals
        clear hu10 hv10 hw10 hu11 hv11 hw11
        clear hc0 hf0 hz0 hc1 hf1 hz1
        have G12 := Lib.hid (KX1.out.set0 hXl 10 (.slice (some ⟨g1, 0, none⟩) 3 c1) [.int .i64 13, .string ⟨#[]⟩, .int .u64 0, .int .i64 0, .bool false, .int .i64 0, .int .i64 0, .int .i64 0, .int .i64 0, .int .i64 ((ln ts s : Nat) : Int), .slice (some ⟨g1, 0, none⟩) 3 c1] rfl)
        have G13 := Lib.hid (G12.out.tree (labK 13 (ln ts s)))
        go_wp2
        have G14 := Lib.hid (G13.out.stoR hXl (List.Mem.tail _ (List.Mem.head _)) rfl (.int .i64 13) (.string ⟨#[]⟩) (.int .u64 0) (.int .i64 0) (.bool false) (.int .i64 0) (.int .i64 0) (.int .i64 0) (.int .i64 0) (.int .i64 ((ln ts s : Nat) : Int)) (.slice (some ⟨g1, 0, none⟩) 3 c1))
        refine bodyPost_ret (G14.out.b0.res1 Tryz.results156 Tryz.underlying28 rfl infoNd _ rfl) rfl ?_
        exact G14.out.outT (rfl)
    | false =>
      have HM : Hid (one (S ts (f + 1) .br s) = (.node (labK 13 (ln ts s)) [(xpr ts (adv s)).1, (one (S ts f .bk (xpr ts (adv s)).2)).1, (one (S ts f .bk (adv (one (S ts f .bk (xpr ts (adv s)).2)).2))).1], (one (S ts f .bk (adv (one (S ts f .bk (xpr ts (adv s)).2)).2))).2)) := Lib.hid (S_br_el h1 h2)
      rw [HM.out]
      rw [h2] at hq1
      have HRU := Lib.hid fun W (h : Rd W R g c ts (adv (one (S ts f .bk (xpr ts (adv s)).2)).2)) => H.bk _ W h (by omega)
      clear HM hR HL h1 h2 H hin hra hrx hrb hf hv hin2 hra2 HNM
      go_enter Tryz.func156, Tryz.ntmps156
      go_wp2_with fail
      refine (HN.out _ F0.out.rd).mono ?_
      rintro e v1 ⟨rfl, hb⟩
      have G1 := Lib.hid (F0.out.quiet hXl hb)
      clear hb
      obtain ⟨hc0, hf0⟩ := G1.out.b0.all
      have hz0 := G1.out.b0.lt
      unfold ncz at hc0
      have hq10 := G1.out.b0.lt
      have G2 := Lib.hid (G1.out.node hXl [.int .i64 13, .string ⟨#[]⟩, .int .u64 0, .int .i64 0, .bool false, .int .i64 0, .int .i64 0, .int .i64 0, .int .i64 0, .int .i64 ((ln ts s : Nat) : Int), .slice none 0 0])
      go_wp2_with fail
      refine (HE0.out _ G2.out.rd).mono ?_
      rintro e v2 ⟨rfl, hr, hs⟩
      clear hc0 hf0 hz0
      have G3 := Lib.hid (G2.out.call hr hs)
      clear hr hs
      obtain ⟨hc0, hf0⟩ := G3.out.b0.all
      have hz0 := G3.out.b0.lt
      obtain ⟨hc1, hf1⟩ := G3.out.b1.all
      have hz1 := G3.out.b1.lt
      unfold ncz at hc1
      have G4 := Lib.hid (G3.out.fb)
      go_wp2_with fail
      refine (HX.out _ _ G4.out.fr.rd).mono ?_
      rintro e v3 ⟨l1, x1, n1, k1, rfl, hT, hr, hs⟩
      clear hc0 hf0 hz0 hc1 hf1 hz1
      have G5 := Lib.hid (G4.out.tree hT hr hs)
      clear hT hr hs
      obtain ⟨hc0, hf0⟩ := G5.out.fr.b0.all
      have hz0 := G5.out.fr.b0.lt
      obtain ⟨hc1, hf1⟩ := G5.out.fr.b1.all
      have hz1 := G5.out.fr.b1.lt
      unfold ncz at hc1
      go_wp2_with fail
      refine (HBK.out _ G5.out.fr.rd).mono ?_
      rintro e v4 ⟨l2, x2, n2, k2, rfl, hT, hr, hs⟩
      clear hc0 hf0 hz0 hc1 hf1 hz1
      have G6 := Lib.hid (G5.out.tree hT hr hs)
      clear hT hr hs
      obtain ⟨hc0, hf0⟩ := G6.out.fr.b0.all
      have hz0 := G6.out.fr.b0.lt
      obtain ⟨hc1, hf1⟩ := G6.out.fr.b1.all
      have hz1 := G6.out.fr.b1.lt
      unfold ncz at hc1
      have G7 := Lib.hid (G6.out.set0 hXl 10 (.slice (some ⟨v4.heap.size, 0, none⟩) 2 2) [.int .i64 13, .string ⟨#[]⟩, .int .u64 0, .int .i64 0, .bool false, .int .i64 0, .int .i64 0, .int .i64 0, .int .i64 0, .int .i64 ((ln ts s : Nat) : Int), .slice (some ⟨v4.heap.size, 0, none⟩) 2 2] rfl)
      have G8 := Lib.hid (G7.out.two hXl (List.Mem.tail _ (List.Mem.head _)) (List.Mem.head _) [.int .i64 l1.kind, .string (str l1.name), .int .u64 l1.num, .int .i64 l1.wd, .bool l1.sg, .int .i64 l1.op, .int .i64 l1.fac, .int .i64 l1.pip, .int .i64 l1.unr, .int .i64 l1.line, .slice x1 n1 k1, .int .i64 l2.kind, .string (str l2.name), .int .u64 l2.num, .int .i64 l2.wd, .bool l2.sg, .int .i64 l2.op, .int .i64 l2.fac, .int .i64 l2.pip, .int .i64 l2.unr, .int .i64 l2.line, .slice x2 n2 k2] rfl v4.heap.size (by simp only [size_setCell]))
      go_wp2_with fail
      refine (HSK.out _ G8.out.fr.rd).mono ?_
      rintro e v5 ⟨rfl, hr, hs⟩
      clear hc0 hf0 hz0 hc1 hf1 hz1
      have G9 := Lib.hid (G8.out.call hr hs)
      clear hr hs
      obtain ⟨hc0, hf0⟩ := G9.out.fr.b0.all
      have hz0 := G9.out.fr.b0.lt
      obtain ⟨hc1, hf1⟩ := G9.out.fr.b1.all
      have hz1 := G9.out.fr.b1.lt
      unfold ncz at hc1
      go_wp2_with fail
      refine (HNX.out _ G9.out.fr.rd).mono ?_
      rintro e v6 ⟨rfl, hb⟩
      clear hc0 hf0 hz0 hc1 hf1 hz1
      have G10 := Lib.hid (G9.out.quiet hXl hb)
      clear hb
      obtain ⟨hc0, hf0⟩ := G10.out.fr.b0.all
      have hz0 := G10.out.fr.b0.lt
      obtain ⟨hc1, hf1⟩ := G10.out.fr.b1.all
      have hz1 := G10.out.fr.b1.lt
      unfold ncz at hc1
      go_wp2
      have G11 := Lib.hid (G10.out.drew)
      go_region_law (first | (refine fk_append KT1.out hXl (by rfl) _ _ _ (by rfl) Tryz.underlying26 infoNd2 (by rfl) (by simp [Act.eval]) ?_; intro g1 c1 u1 hk6; have KX1 := Lib.hid hk6; clear hk6; obtain ⟨hd10, he10⟩ := KX1.out.fr.b0.all; have hy10 := KX1.out.fr.b0.lt; obtain ⟨hd11, he11⟩ := KX1.out.fr.b1.all; have hy11 := KX1.out.fr.b1.lt; unfold ncz at hd11) | (go_simp; go_at_call 98; refine (HRU.out _ G11.out.fr.rd).mono ?_; rintro e y1 ⟨l3, x3, n3, k3, rfl, hT, hr, hs⟩; have KT1 := Lib.hid (G11.out.callT (by simp) hT hr hs); clear hT hr hs; obtain ⟨hu10, hv10⟩ := KT1.out.fr.b0.all; have hw10 := KT1.out.fr.b0.lt; obtain ⟨hu11, hv11⟩ := KT1.out.fr.b1.all; have hw11 := KT1.out.fr.b1.lt; unfold ncz at hu11))
      all_goals
        clear hu10 hv10 hw10 hu11 hv11 hw11
        clear hc0 hf0 hz0 hc1 hf1 hz1
        have G12 := Lib.hid (KX1.out.set0 hXl 10 (.slice (some ⟨g1, 0, none⟩) 3 c1) [.int .i64 13, .string ⟨#[]⟩, .int .u64 0, .int .i64 0, .bool false, .int .i64 0, .int .i64 0, .int .i64 0, .int .i64 0, .int .i64 ((ln ts s : Nat) : Int), .slice (some ⟨g1, 0, none⟩) 3 c1] rfl)
        have G13 := Lib.hid (G12.out.tree (labK 13 (ln ts s)))
        go_wp2
        have G14 := Lib.hid (G13.out.stoR hXl (List.Mem.tail _ (List.Mem.head _)) rfl (.int .i64 13) (.string ⟨#[]⟩) (.int .u64 0) (.int .i64 0) (.bool false) (.int .i64 0) (.int .i64 0) (.int .i64 0) (.int .i64 0) (.int .i64 ((ln ts s : Nat) : Int)) (.slice (some ⟨g1, 0, none⟩) 3 c1))
        refine bodyPost_ret (G14.out.b0.res1 Tryz.results156 Tryz.underlying28 rfl infoNd _ rfl) rfl ?_
        exact G14.out.outT (rfl)
end Go.Proofs.YtfnhogeocbndcaaGreatDoor
/- The rule statement: contract. -/
namespace Go.Proofs.YtfnhogeocbndcaaGreatDoor
open Go Go.RowKit
set_option linter.unusedVariables false
set_option linter.unusedSimpArgs false

set_option maxHeartbeats 2000000 in
set_option maxRecDepth 100000 in
theorem statement_step {ts : List Tok} {R g c : Nat} (X : Ctx ts R g c) (f : Nat) (H : SC ts R g c f) (HLP : ∀ s w, (hasT ts s [35] || hasT ts s [102, 111, 114] || hasT ts s [119, 104, 105, 108, 101]) = true → Rd w R g c ts s → 8 * rem ts s + 3 ≤ f → Calls Tryz.prog 157 #[.pointer (some ⟨R, 0, none⟩)] w (TP w R g c ts (one (S ts f .lp s)))) (s : Sg) (w : World) (hR : Rd w R g c ts s) (hf : 8 * rem ts s + 4 ≤ f + 1) : Calls Tryz.prog 133 #[.pointer (some ⟨R, 0, none⟩)] w (TP w R g c ts (one (S ts (f + 1) .st s))) := by
  have hXl := X.lt
  have F0 := Lib.hid ((Fr.start hR).node hXl ncz)
  have HNX := Lib.hid fun W (h : Rd W R g c ts s) => next_any X W h
  have hF := fldT (nxt ts s)
  have q0 : ((str (nxt ts s).text).toList == [118, 97, 114]) = hasT ts s [118, 97, 114] := by have := hasT_bytes ts s [118, 97, 114]; rw [str_toList [118, 97, 114]] at this; exact this
  have q1 : ((str (nxt ts s).text).toList == [108, 101, 116]) = hasT ts s [108, 101, 116] := by have := hasT_bytes ts s [108, 101, 116]; rw [str_toList [108, 101, 116]] at this; exact this
  have q2 : ((str (nxt ts s).text).toList == [105, 102]) = hasT ts s [105, 102] := by have := hasT_bytes ts s [105, 102]; rw [str_toList [105, 102]] at this; exact this
  have q3 : ((str (nxt ts s).text).toList == [35]) = hasT ts s [35] := by have := hasT_bytes ts s [35]; rw [str_toList [35]] at this; exact this
  have q4 : ((str (nxt ts s).text).toList == [102, 111, 114]) = hasT ts s [102, 111, 114] := by have := hasT_bytes ts s [102, 111, 114]; rw [str_toList [102, 111, 114]] at this; exact this
  have q5 : ((str (nxt ts s).text).toList == [119, 104, 105, 108, 101]) = hasT ts s [119, 104, 105, 108, 101] := by have := hasT_bytes ts s [119, 104, 105, 108, 101]; rw [str_toList [119, 104, 105, 108, 101]] at this; exact this
  have q6 : ((str (nxt ts s).text).toList == [115, 101, 110, 100]) = hasT ts s [115, 101, 110, 100] := by have := hasT_bytes ts s [115, 101, 110, 100]; rw [str_toList [115, 101, 110, 100]] at this; exact this
  have q7 : ((str (nxt ts s).text).toList == [114, 101, 116, 117, 114, 110]) = hasT ts s [114, 101, 116, 117, 114, 110] := by have := hasT_bytes ts s [114, 101, 116, 117, 114, 110]; rw [str_toList [114, 101, 116, 117, 114, 110]] at this; exact this
  cases g0 : hasT ts s [118, 97, 114] with
  | true =>
    have HM : Hid (one (S ts (f + 1) .st s) = declV ts s) := Lib.hid (by unfold one; rw [S]; simp [g0])
    rw [HM.out]
    rw [g0] at q0
    have HRU := Lib.hid (fun W (h : Rd W R g c ts s) => declV_any X s g0 (hasT_excl g0 (by decide)) W h)
    clear HM hR H HLP hf q1 q2 q3 q4 q5 q6 q7 g0
    go_enter Tryz.func133, Tryz.ntmps133
    go_wp2_with fail
    refine (HNX.out _ F0.out.rd).mono ?_
    rintro e v1 ⟨rfl, hb⟩
    have G1 := Lib.hid (F0.out.quiet hXl hb)
    clear hb
    obtain ⟨hc0, hf0⟩ := G1.out.b0.all
    have hz0 := G1.out.b0.lt
    unfold ncz at hc0
    go_wp2_with fail
    refine (HRU.out _ G1.out.rd).mono ?_
    rintro e v2 ⟨l1, x1, n1, k1, rfl, hT, hr, hs⟩
    clear hc0 hf0 hz0
    have G2 := Lib.hid (G1.out.tree hT hr hs)
    clear hT hr hs
    obtain ⟨hc0, hf0⟩ := G2.out.b0.all
    have hz0 := G2.out.b0.lt
    unfold ncz at hc0
    go_wp2
    have G3 := Lib.hid (G2.out.stoR hXl (List.Mem.head _) rfl (.int .i64 l1.kind) (.string (str l1.name)) (.int .u64 l1.num) (.int .i64 l1.wd) (.bool l1.sg) (.int .i64 l1.op) (.int .i64 l1.fac) (.int .i64 l1.pip) (.int .i64 l1.unr) (.int .i64 l1.line) (.slice x1 n1 k1))
    refine bodyPost_ret (G3.out.b0.res1 Tryz.results133 Tryz.underlying28 rfl infoNd _ rfl) rfl ?_
    exact G3.out.outT (rfl)
  | false =>
    rw [g0] at q0
    cases g1 : hasT ts s [108, 101, 116] with
    | true =>
      have HM : Hid (one (S ts (f + 1) .st s) = declL ts s) := Lib.hid (by unfold one; rw [S]; simp [g0, g1])
      rw [HM.out]
      rw [g1] at q1
      have HRU := Lib.hid (fun W (h : Rd W R g c ts s) => declL_any X s g1 W h)
      clear HM hR H HLP hf q2 q3 q4 q5 q6 q7 g0 g1
      go_enter Tryz.func133, Tryz.ntmps133
      go_wp2_with fail
      refine (HNX.out _ F0.out.rd).mono ?_
      rintro e v1 ⟨rfl, hb⟩
      have G1 := Lib.hid (F0.out.quiet hXl hb)
      clear hb
      obtain ⟨hc0, hf0⟩ := G1.out.b0.all
      have hz0 := G1.out.b0.lt
      unfold ncz at hc0
      go_wp2_with fail
      refine (HRU.out _ G1.out.rd).mono ?_
      rintro e v2 ⟨l1, x1, n1, k1, rfl, hT, hr, hs⟩
      clear hc0 hf0 hz0
      have G2 := Lib.hid (G1.out.tree hT hr hs)
      clear hT hr hs
      obtain ⟨hc0, hf0⟩ := G2.out.b0.all
      have hz0 := G2.out.b0.lt
      unfold ncz at hc0
      go_wp2
      have G3 := Lib.hid (G2.out.stoR hXl (List.Mem.head _) rfl (.int .i64 l1.kind) (.string (str l1.name)) (.int .u64 l1.num) (.int .i64 l1.wd) (.bool l1.sg) (.int .i64 l1.op) (.int .i64 l1.fac) (.int .i64 l1.pip) (.int .i64 l1.unr) (.int .i64 l1.line) (.slice x1 n1 k1))
      refine bodyPost_ret (G3.out.b0.res1 Tryz.results133 Tryz.underlying28 rfl infoNd _ rfl) rfl ?_
      exact G3.out.outT (rfl)
    | false =>
      rw [g1] at q1
      cases g2 : hasT ts s [105, 102] with
      | true =>
        have HM : Hid (one (S ts (f + 1) .st s) = one (S ts f .br s)) := Lib.hid (by unfold one; rw [S]; simp [g0, g1, g2])
        rw [HM.out]
        rw [g2] at q2
        have HRU := Lib.hid (fun W (h : Rd W R g c ts s) => H.br s W g2 h (by omega))
        clear HM hR H HLP hf q3 q4 q5 q6 q7 g0 g1 g2
        go_enter Tryz.func133, Tryz.ntmps133
        go_wp2_with fail
        refine (HNX.out _ F0.out.rd).mono ?_
        rintro e v1 ⟨rfl, hb⟩
        have G1 := Lib.hid (F0.out.quiet hXl hb)
        clear hb
        obtain ⟨hc0, hf0⟩ := G1.out.b0.all
        have hz0 := G1.out.b0.lt
        unfold ncz at hc0
        go_wp2_with fail
        refine (HRU.out _ G1.out.rd).mono ?_
        rintro e v2 ⟨l1, x1, n1, k1, rfl, hT, hr, hs⟩
        clear hc0 hf0 hz0
        have G2 := Lib.hid (G1.out.tree hT hr hs)
        clear hT hr hs
        obtain ⟨hc0, hf0⟩ := G2.out.b0.all
        have hz0 := G2.out.b0.lt
        unfold ncz at hc0
        go_wp2
        have G3 := Lib.hid (G2.out.stoR hXl (List.Mem.head _) rfl (.int .i64 l1.kind) (.string (str l1.name)) (.int .u64 l1.num) (.int .i64 l1.wd) (.bool l1.sg) (.int .i64 l1.op) (.int .i64 l1.fac) (.int .i64 l1.pip) (.int .i64 l1.unr) (.int .i64 l1.line) (.slice x1 n1 k1))
        refine bodyPost_ret (G3.out.b0.res1 Tryz.results133 Tryz.underlying28 rfl infoNd _ rfl) rfl ?_
        exact G3.out.outT (rfl)
      | false =>
        rw [g2] at q2
        cases g3 : hasT ts s [35] with
        | true =>
          have HM : Hid (one (S ts (f + 1) .st s) = one (S ts f .lp s)) := Lib.hid (by unfold one; rw [S]; simp [g0, g1, g2, g3])
          rw [HM.out]
          rw [g3] at q3
          have HRU := Lib.hid (fun W (h : Rd W R g c ts s) => HLP s W (by simp [g3]) h (by omega))
          clear HM hR H HLP hf q4 q5 q6 q7 g0 g1 g2 g3
          go_enter Tryz.func133, Tryz.ntmps133
          go_wp2_with fail
          refine (HNX.out _ F0.out.rd).mono ?_
          rintro e v1 ⟨rfl, hb⟩
          have G1 := Lib.hid (F0.out.quiet hXl hb)
          clear hb
          obtain ⟨hc0, hf0⟩ := G1.out.b0.all
          have hz0 := G1.out.b0.lt
          unfold ncz at hc0
          go_wp2_with fail
          refine (HRU.out _ G1.out.rd).mono ?_
          rintro e v2 ⟨l1, x1, n1, k1, rfl, hT, hr, hs⟩
          clear hc0 hf0 hz0
          have G2 := Lib.hid (G1.out.tree hT hr hs)
          clear hT hr hs
          obtain ⟨hc0, hf0⟩ := G2.out.b0.all
          have hz0 := G2.out.b0.lt
          unfold ncz at hc0
          go_wp2
          have G3 := Lib.hid (G2.out.stoR hXl (List.Mem.head _) rfl (.int .i64 l1.kind) (.string (str l1.name)) (.int .u64 l1.num) (.int .i64 l1.wd) (.bool l1.sg) (.int .i64 l1.op) (.int .i64 l1.fac) (.int .i64 l1.pip) (.int .i64 l1.unr) (.int .i64 l1.line) (.slice x1 n1 k1))
          refine bodyPost_ret (G3.out.b0.res1 Tryz.results133 Tryz.underlying28 rfl infoNd _ rfl) rfl ?_
          exact G3.out.outT (rfl)
        | false =>
          rw [g3] at q3
          cases g4 : hasT ts s [102, 111, 114] with
          | true =>
            have HM : Hid (one (S ts (f + 1) .st s) = one (S ts f .lp s)) := Lib.hid (by unfold one; rw [S]; simp [g0, g1, g2, g3, g4])
            rw [HM.out]
            rw [g4] at q4
            have HRU := Lib.hid (fun W (h : Rd W R g c ts s) => HLP s W (by simp [g4]) h (by omega))
            clear HM hR H HLP hf q5 q6 q7 g0 g1 g2 g3 g4
            go_enter Tryz.func133, Tryz.ntmps133
            go_wp2_with fail
            refine (HNX.out _ F0.out.rd).mono ?_
            rintro e v1 ⟨rfl, hb⟩
            have G1 := Lib.hid (F0.out.quiet hXl hb)
            clear hb
            obtain ⟨hc0, hf0⟩ := G1.out.b0.all
            have hz0 := G1.out.b0.lt
            unfold ncz at hc0
            go_wp2_with fail
            refine (HRU.out _ G1.out.rd).mono ?_
            rintro e v2 ⟨l1, x1, n1, k1, rfl, hT, hr, hs⟩
            clear hc0 hf0 hz0
            have G2 := Lib.hid (G1.out.tree hT hr hs)
            clear hT hr hs
            obtain ⟨hc0, hf0⟩ := G2.out.b0.all
            have hz0 := G2.out.b0.lt
            unfold ncz at hc0
            go_wp2
            have G3 := Lib.hid (G2.out.stoR hXl (List.Mem.head _) rfl (.int .i64 l1.kind) (.string (str l1.name)) (.int .u64 l1.num) (.int .i64 l1.wd) (.bool l1.sg) (.int .i64 l1.op) (.int .i64 l1.fac) (.int .i64 l1.pip) (.int .i64 l1.unr) (.int .i64 l1.line) (.slice x1 n1 k1))
            refine bodyPost_ret (G3.out.b0.res1 Tryz.results133 Tryz.underlying28 rfl infoNd _ rfl) rfl ?_
            exact G3.out.outT (rfl)
          | false =>
            rw [g4] at q4
            cases g5 : hasT ts s [119, 104, 105, 108, 101] with
            | true =>
              have HM : Hid (one (S ts (f + 1) .st s) = one (S ts f .lp s)) := Lib.hid (by unfold one; rw [S]; simp [g0, g1, g2, g3, g4, g5])
              rw [HM.out]
              rw [g5] at q5
              have HRU := Lib.hid (fun W (h : Rd W R g c ts s) => HLP s W (by simp [g5]) h (by omega))
              clear HM hR H HLP hf q6 q7 g0 g1 g2 g3 g4 g5
              go_enter Tryz.func133, Tryz.ntmps133
              go_wp2_with fail
              refine (HNX.out _ F0.out.rd).mono ?_
              rintro e v1 ⟨rfl, hb⟩
              have G1 := Lib.hid (F0.out.quiet hXl hb)
              clear hb
              obtain ⟨hc0, hf0⟩ := G1.out.b0.all
              have hz0 := G1.out.b0.lt
              unfold ncz at hc0
              go_wp2_with fail
              refine (HRU.out _ G1.out.rd).mono ?_
              rintro e v2 ⟨l1, x1, n1, k1, rfl, hT, hr, hs⟩
              clear hc0 hf0 hz0
              have G2 := Lib.hid (G1.out.tree hT hr hs)
              clear hT hr hs
              obtain ⟨hc0, hf0⟩ := G2.out.b0.all
              have hz0 := G2.out.b0.lt
              unfold ncz at hc0
              go_wp2
              have G3 := Lib.hid (G2.out.stoR hXl (List.Mem.head _) rfl (.int .i64 l1.kind) (.string (str l1.name)) (.int .u64 l1.num) (.int .i64 l1.wd) (.bool l1.sg) (.int .i64 l1.op) (.int .i64 l1.fac) (.int .i64 l1.pip) (.int .i64 l1.unr) (.int .i64 l1.line) (.slice x1 n1 k1))
              refine bodyPost_ret (G3.out.b0.res1 Tryz.results133 Tryz.underlying28 rfl infoNd _ rfl) rfl ?_
              exact G3.out.outT (rfl)
            | false =>
              rw [g5] at q5
              cases g6 : hasT ts s [115, 101, 110, 100] with
              | true =>
                have HM : Hid (one (S ts (f + 1) .st s) = sendM ts s) := Lib.hid (by unfold one; rw [S]; simp [g0, g1, g2, g3, g4, g5, g6])
                rw [HM.out]
                rw [g6] at q6
                have HRU := Lib.hid (fun W (h : Rd W R g c ts s) => send_any X s g6 W h)
                clear HM hR H HLP hf q7 g0 g1 g2 g3 g4 g5 g6
                go_enter Tryz.func133, Tryz.ntmps133
                go_wp2_with fail
                refine (HNX.out _ F0.out.rd).mono ?_
                rintro e v1 ⟨rfl, hb⟩
                have G1 := Lib.hid (F0.out.quiet hXl hb)
                clear hb
                obtain ⟨hc0, hf0⟩ := G1.out.b0.all
                have hz0 := G1.out.b0.lt
                unfold ncz at hc0
                go_wp2_with fail
                refine (HRU.out _ G1.out.rd).mono ?_
                rintro e v2 ⟨l1, x1, n1, k1, rfl, hT, hr, hs⟩
                clear hc0 hf0 hz0
                have G2 := Lib.hid (G1.out.tree hT hr hs)
                clear hT hr hs
                obtain ⟨hc0, hf0⟩ := G2.out.b0.all
                have hz0 := G2.out.b0.lt
                unfold ncz at hc0
                go_wp2
                have G3 := Lib.hid (G2.out.stoR hXl (List.Mem.head _) rfl (.int .i64 l1.kind) (.string (str l1.name)) (.int .u64 l1.num) (.int .i64 l1.wd) (.bool l1.sg) (.int .i64 l1.op) (.int .i64 l1.fac) (.int .i64 l1.pip) (.int .i64 l1.unr) (.int .i64 l1.line) (.slice x1 n1 k1))
                refine bodyPost_ret (G3.out.b0.res1 Tryz.results133 Tryz.underlying28 rfl infoNd _ rfl) rfl ?_
                exact G3.out.outT (rfl)
              | false =>
                rw [g6] at q6
                cases g7 : hasT ts s [114, 101, 116, 117, 114, 110] with
                | true =>
                  have HM : Hid (one (S ts (f + 1) .st s) = resM ts s) := Lib.hid (by unfold one; rw [S]; simp [g0, g1, g2, g3, g4, g5, g6, g7])
                  rw [HM.out]
                  rw [g7] at q7
                  have HRU := Lib.hid (fun W (h : Rd W R g c ts s) => result_any X s g7 W h)
                  clear HM hR H HLP hf  g0 g1 g2 g3 g4 g5 g6 g7
                  go_enter Tryz.func133, Tryz.ntmps133
                  go_wp2_with fail
                  refine (HNX.out _ F0.out.rd).mono ?_
                  rintro e v1 ⟨rfl, hb⟩
                  have G1 := Lib.hid (F0.out.quiet hXl hb)
                  clear hb
                  obtain ⟨hc0, hf0⟩ := G1.out.b0.all
                  have hz0 := G1.out.b0.lt
                  unfold ncz at hc0
                  go_wp2_with fail
                  refine (HRU.out _ G1.out.rd).mono ?_
                  rintro e v2 ⟨l1, x1, n1, k1, rfl, hT, hr, hs⟩
                  clear hc0 hf0 hz0
                  have G2 := Lib.hid (G1.out.tree hT hr hs)
                  clear hT hr hs
                  obtain ⟨hc0, hf0⟩ := G2.out.b0.all
                  have hz0 := G2.out.b0.lt
                  unfold ncz at hc0
                  go_wp2
                  have G3 := Lib.hid (G2.out.stoR hXl (List.Mem.head _) rfl (.int .i64 l1.kind) (.string (str l1.name)) (.int .u64 l1.num) (.int .i64 l1.wd) (.bool l1.sg) (.int .i64 l1.op) (.int .i64 l1.fac) (.int .i64 l1.pip) (.int .i64 l1.unr) (.int .i64 l1.line) (.slice x1 n1 k1))
                  refine bodyPost_ret (G3.out.b0.res1 Tryz.results133 Tryz.underlying28 rfl infoNd _ rfl) rfl ?_
                  exact G3.out.outT (rfl)
                | false =>
                  rw [g7] at q7
                  have HM : Hid (one (S ts (f + 1) .st s) = change ts s) := Lib.hid (by unfold one; rw [S]; simp [g0, g1, g2, g3, g4, g5, g6, g7])
                  rw [HM.out]
                  have HRU := Lib.hid fun W (h : Rd W R g c ts s) => change_any X s W h
                  clear HM hR H HLP hf g0 g1 g2 g3 g4 g5 g6 g7
                  go_enter Tryz.func133, Tryz.ntmps133
                  go_wp2_with fail
                  refine (HNX.out _ F0.out.rd).mono ?_
                  rintro e v1 ⟨rfl, hb⟩
                  have G1 := Lib.hid (F0.out.quiet hXl hb)
                  clear hb
                  obtain ⟨hc0, hf0⟩ := G1.out.b0.all
                  have hz0 := G1.out.b0.lt
                  unfold ncz at hc0
                  go_wp2_with fail
                  refine (HRU.out _ G1.out.rd).mono ?_
                  rintro e v2 ⟨l1, x1, n1, k1, rfl, hT, hr, hs⟩
                  clear hc0 hf0 hz0
                  have G2 := Lib.hid (G1.out.tree hT hr hs)
                  clear hT hr hs
                  obtain ⟨hc0, hf0⟩ := G2.out.b0.all
                  have hz0 := G2.out.b0.lt
                  unfold ncz at hc0
                  go_wp2
                  have G3 := Lib.hid (G2.out.stoR hXl (List.Mem.head _) rfl (.int .i64 l1.kind) (.string (str l1.name)) (.int .u64 l1.num) (.int .i64 l1.wd) (.bool l1.sg) (.int .i64 l1.op) (.int .i64 l1.fac) (.int .i64 l1.pip) (.int .i64 l1.unr) (.int .i64 l1.line) (.slice x1 n1 k1))
                  refine bodyPost_ret (G3.out.b0.res1 Tryz.results133 Tryz.underlying28 rfl infoNd _ rfl) rfl ?_
                  exact G3.out.outT (rfl)
end Go.Proofs.YtfnhogeocbndcaaGreatDoor
