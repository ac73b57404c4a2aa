/- All tokens: contract of the code. -/
import Derived.Test.YtkliclihpobmiaaGreatDoorMgLxFirst
import Derived.Test.YtkliclihpobmiaaGreatDoorMgRegKit
namespace Go.Proofs.YtkliclihpobmiaaGreatDoor
open Go Go.RowKit
set_option linter.unusedVariables false

def tcell (t : Tok) : List Value := [.int .i64 (t.kind : Int), .string (str t.text), .int .u64 (t.num : Int), .int .i64 (t.pos : Int), .int .i64 (t.line : Int)]
def tcells (ts : List Tok) : List Value := ts.flatMap tcell
theorem tcells_length (ts : List Tok) : (tcells ts).length = ts.length * 5 := by
 induction ts with
 | nil => rfl
 | cons a t ih => simp only [tcells, List.flatMap_cons, List.length_append] at ih ⊢; rw [ih]; simp [tcell]; omega
theorem tcells_snoc (ts : List Tok) (t : Tok) : tcells ts ++ tcell t = tcells (ts ++ [t]) := by simp [tcells]
theorem tcells_get : ∀ (ts : List Tok) (i j : Nat) (h : i < ts.length) (_ : j < 5), (tcells ts)[i * 5 + j]? = (tcell ts[i])[j]? := by
 intro ts
 induction ts with
 | nil => intro i j h; simp at h
 | cons a t ih =>
  intro i j h hj
  match i with
  | 0 =>
   have e2 : tcells (a :: t) = tcell a ++ tcells t := by simp [tcells]
   rw [e2, Nat.zero_mul, Nat.zero_add, List.getElem?_append_left (by simp [tcell]; omega)]
   rfl
  | i + 1 =>
   have e2 : tcells (a :: t) = tcell a ++ tcells t := by simp [tcells]
   rw [e2, List.getElem?_append_right (by simp [tcell]; omega)]
   have := ih i j (by simpa using h) hj
   simp only [tcell, List.length_cons, List.length_nil] at this ⊢
   have e3 : (i + 1) * 5 + j - (0 + 1 + 1 + 1 + 1 + 1) = i * 5 + j := by omega
   rw [e3, this]
   rfl
theorem infoTok2 : (Tryz.prog.info? 53).map (fun i => (i.zero, i.size, i.bytes)) = some (some (.agg #[.int .i64 0, .string ⟨#[]⟩, .int .u64 0, .int .i64 0, .int .i64 0]), 5, 48) := by kernel_rfl
theorem lexR_end {l : List UInt8} {f d line : Nat} {acc : List Tok} (hf : 0 < f) (h : l.length ≤ d + skipM false (l.drop d)) : lexR l f d line acc = (acc, l.length, 0) := by
 obtain ⟨g, rfl⟩ : ∃ g, f = g + 1 := ⟨f - 1, by omega⟩
 rw [lexR]
 rw [if_pos h]
theorem lexR_err {l : List UInt8} {f d line : Nat} {acc : List Tok} (hf : 0 < f) (h : ¬ l.length ≤ d + skipM false (l.drop d)) (he : tokErr (l.drop (d + skipM false (l.drop d))) ≠ 0) : lexR l f d line acc = ([], d + skipM false (l.drop d), tokErr (l.drop (d + skipM false (l.drop d)))) := by
 obtain ⟨g, rfl⟩ : ∃ g, f = g + 1 := ⟨f - 1, by omega⟩
 rw [lexR]
 rw [if_neg h, if_pos he]
def tokAt (l : List UInt8) (a line : Nat) : Tok := ⟨tokKind (l.drop a), (l.drop a).take (tokLen (l.drop a)), tokNum (l.drop a), a, line⟩
theorem lexR_tok {l : List UInt8} {f d line : Nat} {acc : List Tok} (h : ¬ l.length ≤ d + skipM false (l.drop d)) (he : tokErr (l.drop (d + skipM false (l.drop d))) = 0) :
  lexR l (f + 1) d line acc = lexR l f (d + skipM false (l.drop d) + tokLen (l.drop (d + skipM false (l.drop d)))) (line + lineFeeds ((l.drop d).take (skipM false (l.drop d)))) (acc ++ [tokAt l (d + skipM false (l.drop d)) (line + lineFeeds ((l.drop d).take (skipM false (l.drop d))))]) := by
 conv => lhs; rw [lexR]
 rw [if_neg h, if_neg (by simp [he])]
 rfl

theorem clone_any (s : ByteArray) (hs : s.size ≤ 281474976710656) (w : World) : Calls Tryz.prog 43 #[.string s] w fun e w' => e = .returned (.string s) ∧ Below w.heap.size w w' := by
 have H := Hd fun W => Tryz.stringslite_Clone s W hs
 go_enter Tryz.func43, Tryz.ntmps43
 go_wp2_with fail
 refine (H.out _).mono ?_
 rintro e w1 ⟨rfl, hb⟩
 go_wp2
 go_ret
 exact ⟨rfl, hb⟩
theorem count_any (s : List UInt8) (w : World) : Calls Tryz.prog 28 #[.string (str s), .string ⟨#[10]⟩] w fun e w' => e = .returned (.int .i64 (lineFeeds s : Int)) ∧ w = w' :=
 (Tryz.strings_Count_one (str s) 10 w).mono fun e w' ⟨he, hw⟩ => ⟨he, hw.symm⟩
theorem lineFeeds_le (s : List UInt8) : lineFeeds s ≤ s.length := List.count_le_length

structure LexSt (l : List UInt8) (w wr : World) (v : Value) (d line : Nat) (acc : List Tok) : Prop where
 eq : ∃ f, l.length < f + d ∧ lexR l (l.length + 1) 0 1 [] = lexR l f d line acc
 own : wr.ownsRow w.heap.size 53 5 v acc.length (tcells acc)
 bel : Below w.heap.size w wr
 few : acc.length ≤ d
 lines : line ≤ d + 1

set_option maxHeartbeats 4000000 in
set_option maxRecDepth 100000 in
theorem lex_any (l : List UInt8) (hs : l.length ≤ 281474976710656) (w : World) (V : Vs w) : Calls Tryz.prog 20 #[.string (str l)] w fun e w' =>
  ∃ v, e = .returned (.tuple #[v, .int .i64 ((lexAll l).2.1 : Int), .int .i64 ((lexAll l).2.2 : Int)]) ∧ w'.ownsRow w.heap.size 53 5 v (lexAll l).1.length (tcells (lexAll l).1) ∧ Below w.heap.size w w' := by
 have hsz : (str l).size = l.length := str_size l
 by_cases hbig : 65536 < l.length
 ·have hl : lexAll l = ([], 65536, 5) := by unfold lexAll; rw [if_pos hbig]
  rw [hl]
  have HO := Hd (World.ownsRow_nil w w.heap.size 53 5)
  go_enter Tryz.func20, Tryz.ntmps20
  go_wp2
  go_ret3
  exact ⟨_, rfl, HO.out, Below.refl _ _⟩
 ·have hl : lexAll l = lexR l (l.length + 1) 0 1 [] := by unfold lexAll; rw [if_neg hbig]
  rw [hl]
  clear hl
  have HC := Hd fun W => clone_any (str l) (by rw [hsz]; exact hs) W
  have HS := Hd fun i (hi : i ≤ l.length) W => skip_any (str l) i W (by rw [hsz]; unfold maxLen; omega) (by rw [hsz]; exact hi)
  rw [str_data] at HS
  have HV := Hd V
  clear V
  obtain ⟨R, hR⟩ : ∃ R, R = lexR l (l.length + 1) 0 1 [] := ⟨_, rfl⟩
  have HR := Hd hR
  rw [← hR]
  clear hR hs
  obtain ⟨R1, R2, R3⟩ := R
  go_enter Tryz.func20, Tryz.ntmps20
  go_wp2_with fail
  refine (HC.out _).mono ?_
  rintro e w1 ⟨rfl, hb1⟩
  have h0 : Hid (LexSt l w w1 (.slice none 0 0) 0 1 []) := ⟨⟨l.length + 1, by omega, rfl⟩, World.ownsRow_nil _ _ _ _, hb1, by simp, by omega⟩
  clear hb1 HC
  go_wp2
  go_loopw [5, 6, 7] (fun v d line wr => ∃ (dd ll : Nat) (acc : List Tok), dd ≤ l.length ∧ d = .int .i64 (dd : Int) ∧ line = .int .i64 (ll : Int) ∧ Hid (LexSt l w wr v dd ll acc)) (fun _ d _ _ => l.length - (intOf d).toNat)
  case atStart => exact ⟨0, 1, [], by omega, rfl, rfl, h0⟩
  case round =>
   obtain ⟨d, line, acc, hd, rfl, rfl, hT⟩ := hrel
   have hk := skipM_le (l.drop d) false
   rw [List.length_drop] at hk
   have HS1 := Hd fun W => HS.out d hd W
   have E1 := Hd fun (f : Nat) (hf : 0 < f) => lexR_end (l := l) (d := d) (line := line) (acc := acc) (f := f) hf
   have E2 := Hd fun (f : Nat) (hf : 0 < f) => lexR_err (l := l) (d := d) (line := line) (acc := acc) (f := f) hf
   have E3 := Hd fun (f : Nat) => lexR_tok (l := l) (d := d) (line := line) (acc := acc) (f := f)
   have hx1 : ∀ a, d ≤ a → (str l).extract d a = str ((l.drop d).take (a - d)) := fun a _ => by rw [extract_mid]; rfl
   obtain ⟨k, hkk⟩ : ∃ k, k = skipM false (l.drop d) := ⟨_, rfl⟩
   rw [← hkk] at hk HS1 E1 E2 E3
   obtain ⟨a, haa⟩ : ∃ a, a = d + k := ⟨_, rfl⟩
   have hda : d ≤ a := by omega
   have hal : a ≤ l.length := by omega
   have hkd : a - d = k := by omega
   have hx2 := hx1 a hda
   rw [hkd] at hx2
   rw [← haa] at HS1 E1 E2 E3
   clear hx1 hkk hk hkd HS
   by_cases hend : l.length ≤ a
   ·have hRR : (R1, R2, R3) = (acc, l.length, 0) := by
     obtain ⟨f, hf, he⟩ := hT.out.eq
     exact HR.out.trans (he.trans (E1.out f (by omega) hend))
    have h1 : R1 = acc := congrArg (·.1) hRR
    have h2 : R2 = l.length := congrArg (·.2.1) hRR
    have h3 : R3 = 0 := congrArg (·.2.2) hRR
    subst h1 h2 h3
    obtain rfl : a = l.length := by omega
    clear hRR E1 E2 E3 HR hx2 haa
    go_wp2_with (go_at_call 44; refine (HS1.out _).mono ?_; rintro e w' ⟨rfl, rfl⟩)
    go_ret3
    exact ⟨_, rfl, hT.out.own, hT.out.bel⟩
   ·have hx3 : (str l).extract a l.length = str (l.drop a) := by rw [← hsz, extract_tail]; rfl
    have HF := Hd fun W V => first_any (l.drop a) (by rw [List.length_drop]; omega) (by intro h; have := congrArg List.length h; rw [List.length_drop] at this; simp at this; omega) W V
    have HN := Hd fun W => count_any ((l.drop d).take k) W
    have hlf := lineFeeds_le ((l.drop d).take k)
    have hlk : lineFeeds ((l.drop d).take k) ≤ k := by rw [List.length_take] at hlf; omega
    have hll := hT.out.lines
    generalize lineFeeds ((l.drop d).take k) = nf at *
    generalize hs1 : str ((l.drop d).take k) = S1 at *
    clear hs1 hlf
    by_cases herr : tokErr (l.drop a) = 0
    ·have hlen := tokLen_le (l.drop a)
     rw [List.length_drop] at hlen
     have hpos := tokLen_pos herr
     have hnext : Hid (∃ f, l.length < f + (a + tokLen (l.drop a)) ∧ lexR l (l.length + 1) 0 1 [] = lexR l f (a + tokLen (l.drop a)) (line + nf) (acc ++ [tokAt l a (line + nf)])) := by
      obtain ⟨f, hf, he⟩ := hT.out.eq
      obtain ⟨g, rfl⟩ : ∃ g, f = g + 1 := ⟨f - 1, by omega⟩
      exact ⟨g, by omega, he.trans (E3.out g hend herr)⟩
     have htok : Hid (tcell (tokAt l a (line + nf)) = [.int .i64 (tokKind (l.drop a) : Int), .string (str ((l.drop a).take (tokLen (l.drop a)))), .int .u64 (tokNum (l.drop a) : Int), .int .i64 (a : Int), .int .i64 ((line + nf : Nat) : Int)]) := rfl
     have hret : tkRet 0 (tokKind (l.drop a)) ((l.drop a).take (tokLen (l.drop a))) (tokNum (l.drop a)) = .tuple #[.agg #[.int .i64 (tokKind (l.drop a) : Int), .string (str ((l.drop a).take (tokLen (l.drop a)))), .int .u64 (tokNum (l.drop a) : Int), .int .i64 0, .int .i64 0], .int .i64 0] := rfl
     have htl : (str ((l.drop a).take (tokLen (l.drop a)))).size = tokLen (l.drop a) := by rw [str_size, List.length_take, List.length_drop]; omega
     rw [herr, hret] at HF
     obtain ⟨nl, hnl⟩ : ∃ nl, nl = line + nf := ⟨_, rfl⟩
     rw [← hnl] at hnext htok
     have hln : wrap64 ((line : Int) + (nf : Int)) = (nl : Int) := by rw [IntWalk.wrap64_in _ (by omega)]; omega
     have hnlb : nl ≤ a + 1 := by rw [hnl, haa]; exact Nat.le_trans (Nat.add_le_add hll hlk) (by rw [Nat.add_right_comm]; exact Nat.le_refl _)
     clear E1 E2 E3 haa hret herr hnl
     generalize tokAt l a nl = tok at *
     generalize tokKind (l.drop a) = K at *
     generalize tokNum (l.drop a) = N at *
     generalize tokLen (l.drop a) = L at *
     generalize str ((l.drop a).take L) = T at *
     generalize str (l.drop a) = S2 at *
     go_wp2_with (first | (go_at_call 44; refine (HS1.out _).mono ?_; rintro e w' ⟨rfl, rfl⟩) | (go_at_call 28; refine (HN.out _).mono ?_; rintro e w' ⟨rfl, rfl⟩))
     refine (HF.out _ (HV.out.below hT.out.bel)).mono ?_
     rintro e w2 ⟨rfl, hb2⟩
     have HB2 := Hd (hT.out.bel.trans (hb2.mono hT.out.bel.size))
     have hown2 := own_below hT.out.own hb2 (Nat.le_refl _)
     obtain ⟨va, vc, hvl⟩ : ∃ x c, u5 = .slice x acc.length c := by
      rcases hT.out.own.2 with ⟨hv, h0⟩ | ⟨g, cap, cur, hv, _⟩
      ·exact ⟨none, 0, by rw [hv, h0]⟩
      ·exact ⟨_, _, hv⟩
     clear hb2
     obtain ⟨i0, hi0, hz0, hz1, hz2⟩ := info_parts infoTok2
     have hfew := hT.out.few
     have hwsz := HB2.out.size
     subst hvl
     have HNX := Hd (fun (w3 : World) (g3 c3 : Nat) (ho : w3.ownsRow w.heap.size 53 5 (.slice (some ⟨g3, 0, none⟩) (acc.length + 1) c3) (acc.length + 1) (tcells acc ++ [.int .i64 (K : Int), .string T, .int .u64 (N : Int), .int .i64 (a : Int), .int .i64 (nl : Int)])) (hg : ((w2.alloc (.cells #[.int .i64 (K : Int), .string T, .int .u64 (N : Int), .int .i64 (a : Int), .int .i64 (nl : Int)] 53)).alloc (.cells #[.int .i64 (K : Int), .string T, .int .u64 (N : Int), .int .i64 (a : Int), .int .i64 (nl : Int)] 53)).grownBy w3 (Value.slice va acc.length vc).ownBlock) =>
      (show LexSt l w w3 (.slice (some ⟨g3, 0, none⟩) (acc.length + 1) c3) (a + L) nl (acc ++ [tok]) from ⟨hnext.out, by
        have h1 : (acc ++ [tok]).length = acc.length + 1 := by simp
        rw [h1, ← tcells_snoc, htok.out]
        exact ho, ((HB2.out.alloc HB2.out.size _).alloc (by simp; omega) _).grown hg (by simp; omega) (fun q hq => (hown2.lt q hq).1), by simp; omega, by omega⟩))
     have HT1 := Hd (fun (w3 : World) (hg : ((w2.alloc (.cells #[.int .i64 (K : Int), .string T, .int .u64 (N : Int), .int .i64 (a : Int), .int .i64 (nl : Int)] 53)).alloc (.cells #[.int .i64 (K : Int), .string T, .int .u64 (N : Int), .int .i64 (a : Int), .int .i64 (nl : Int)] 53)).grownBy w3 (Value.slice va acc.length vc).ownBlock) =>
      (show w3.cell? ⟨w2.heap.size, 1, none⟩ = some (.string T) by
       rw [hg.cell_far ⟨w2.heap.size, 1, none⟩ (by simp; omega) (fun hq => absurd (hown2.lt _ hq.symm).2 (Nat.lt_irrefl _))]
       exact ((Blk.alloc w2 53 [.int .i64 (K : Int), .string T, .int .u64 (N : Int), .int .i64 (a : Int), .int .i64 (nl : Int)]).alloc_other _).cell 1))
     have hown := (hown2.alloc (.cells #[.int .i64 (K : Int), .string T, .int .u64 (N : Int), .int .i64 (a : Int), .int .i64 (nl : Int)] 53)).alloc (.cells #[.int .i64 (K : Int), .string T, .int .u64 (N : Int), .int .i64 (a : Int), .int .i64 (nl : Int)] 53)
     clear hown2 hnext htok hT
     go_wp2_with (at_builtin; refine wpList_append_lies (w := (w2.alloc (.cells #[.int .i64 (K : Int), .string T, .int .u64 (N : Int), .int .i64 (a : Int), .int .i64 (nl : Int)] 53)).alloc (.cells #[.int .i64 (K : Int), .string T, .int .u64 (N : Int), .int .i64 (a : Int), .int .i64 (nl : Int)] 53)) (by rfl) _ _ _ (by rfl) w.heap.size 53 i0 (.agg #[.int .i64 0, .string ⟨#[]⟩, .int .u64 0, .int .i64 0, .int .i64 0]) 5 48 Tryz.underlying37 hi0 hz0 hz1 hz2 (by rfl) (by decide) (.slice va acc.length vc) acc.length (tcells acc) (by rfl) hown ⟨w2.heap.size + 1, 0, none⟩ 1 1 [.int .i64 (K : Int), .string T, .int .u64 (N : Int), .int .i64 (a : Int), .int .i64 (nl : Int)] (by simp [Act.eval]) (by rfl) (World.news_of_block (cs := #[.int .i64 (K : Int), .string T, .int .u64 (N : Int), .int .i64 (a : Int), .int .i64 (nl : Int)]) (t := 53) (fr := (0, 0)) (by have := heap_alloc_new (w2.alloc (.cells #[.int .i64 (K : Int), .string T, .int .u64 (N : Int), .int .i64 (a : Int), .int .i64 (nl : Int)] 53)) (.cells #[.int .i64 (K : Int), .string T, .int .u64 (N : Int), .int .i64 (a : Int), .int .i64 (nl : Int)] 53); simpa using this)) (by intro z hz; simp at hz; rcases hz with rfl | rfl | rfl | rfl | rfl <;> rfl) (by decide) (by unfold maxLen; omega) (by omega) (by simp; omega) (w2.heap.size + 2) (by simp) ?_; intro g3 c3 w3 ho3 hg3 hat3 hlt3; have hcz := HT1.out _ hg3)
     have HX3 := Hd (HNX.out w3 g3 c3 ho3 hg3)
     clear ho3 hg3 hat3 hlt3 HT1 HNX hown
     go_wp2
     go_roundw
     case rel => exact ⟨a + L, nl, acc ++ [tok], by omega, by go_num, rfl, HX3⟩
     case measure => simp [intOf]; omega
    ·have hRR : (R1, R2, R3) = ([], a, tokErr (l.drop a)) := by
      obtain ⟨f, hf, he⟩ := hT.out.eq
      exact HR.out.trans (he.trans (E2.out f (by omega) hend herr))
     have h1 : R1 = [] := congrArg (·.1) hRR
     have h2 : R2 = a := congrArg (·.2.1) hRR
     have h3 : R3 = tokErr (l.drop a) := congrArg (·.2.2) hRR
     subst h1 h2
     obtain ⟨K, T, N, hf⟩ := tkRet_form (tokErr (l.drop R2)) (tokKind (l.drop R2)) (tokNum (l.drop R2)) ((l.drop R2).take (tokLen (l.drop R2)))
     rw [hf] at HF
     rw [← h3] at HF herr
     clear hRR E1 E2 E3 HR haa hf h3
     generalize str (l.drop R2) = S2 at *
     have hE : 0 < R3 := by omega
     have HO := Hd fun W => World.ownsRow_nil W w.heap.size 53 5
     clear herr
     go_wp2_with (first | (go_at_call 44; refine (HS1.out _).mono ?_; rintro e w' ⟨rfl, rfl⟩) | (go_at_call 28; refine (HN.out _).mono ?_; rintro e w' ⟨rfl, rfl⟩))
     refine (HF.out _ (HV.out.below hT.out.bel)).mono ?_
     rintro e w2 ⟨rfl, hb2⟩
     have HB2 := Hd (hT.out.bel.trans (hb2.mono hT.out.bel.size))
     clear hb2
     go_wp2
     go_ret3
     exact ⟨_, rfl, HO.out _, HB2.out.alloc HB2.out.size _⟩
end Go.Proofs.YtkliclihpobmiaaGreatDoor
/- The tokens of a source, one behind the other. -/
namespace Go.Proofs.YtkliclihpobmiaaGreatDoor
open Go

def Chain (l : List UInt8) : Nat → Nat → List Tok → Prop
 | d, _, [] => l.length ≤ d + skipM false (l.drop d)
 | d, line, t :: ts => ¬ l.length ≤ d + skipM false (l.drop d) ∧ tokErr (l.drop (d + skipM false (l.drop d))) = 0 ∧ t = tokAt l (d + skipM false (l.drop d)) (line + lineFeeds ((l.drop d).take (skipM false (l.drop d)))) ∧
   Chain l (d + skipM false (l.drop d) + tokLen (l.drop (d + skipM false (l.drop d)))) (line + lineFeeds ((l.drop d).take (skipM false (l.drop d)))) ts
theorem lexR_chain (l : List UInt8) : ∀ (f d line : Nat) (acc : List Tok), l.length < f + d →
  ((lexR l f d line acc).2.2 = 0 ∧ ∃ ts, (lexR l f d line acc).1 = acc ++ ts ∧ (lexR l f d line acc).2.1 = l.length ∧ Chain l d line ts) ∨ ((lexR l f d line acc).2.2 ≠ 0 ∧ (lexR l f d line acc).1 = [] ∧ (lexR l f d line acc).2.1 ≤ l.length) := by
 intro f
 induction f with
 | zero =>
  intro d line acc h
  left
  rw [lexR]
  exact ⟨rfl, [], by simp, rfl, by unfold Chain; omega⟩
 | succ f ih =>
  intro d line acc h
  by_cases hend : l.length ≤ d + skipM false (l.drop d)
  ·left
   rw [lexR_end (by omega) hend]
   exact ⟨rfl, [], by simp, rfl, by unfold Chain; exact hend⟩
  ·by_cases he : tokErr (l.drop (d + skipM false (l.drop d))) = 0
   ·rw [lexR_tok hend he]
    have hp := tokLen_pos he
    rcases ih _ (line + lineFeeds ((l.drop d).take (skipM false (l.drop d)))) (acc ++ [tokAt l (d + skipM false (l.drop d)) (line + lineFeeds ((l.drop d).take (skipM false (l.drop d))))]) (show l.length < f + (d + skipM false (l.drop d) + tokLen (l.drop (d + skipM false (l.drop d)))) by omega) with ⟨h1, ts, h2, h3, h4⟩ | h
    ·left
     refine ⟨h1, tokAt l (d + skipM false (l.drop d)) (line + lineFeeds ((l.drop d).take (skipM false (l.drop d)))) :: ts, ?_, h3, ?_⟩
     ·rw [h2, List.append_assoc]; rfl
     ·unfold Chain; exact ⟨hend, he, rfl, h4⟩
    ·exact .inr h
   ·right
    rw [lexR_err (by omega) hend he]
    exact ⟨he, rfl, by show d + skipM false (l.drop d) ≤ l.length; omega⟩
theorem lexAll_cases (l : List UInt8) : ((lexAll l).2.2 = 0 ∧ (lexAll l).2.1 = l.length ∧ l.length ≤ 65536 ∧ Chain l 0 1 (lexAll l).1) ∨ ((lexAll l).2.2 ≠ 0 ∧ (lexAll l).1 = [] ∧ (l.length ≤ 65536 → (lexAll l).2.1 ≤ l.length)) := by
 unfold lexAll
 by_cases h : 65536 < l.length
 ·rw [if_pos h]
  exact .inr ⟨by simp, rfl, fun h2 => by omega⟩
 ·rw [if_neg h]
  rcases lexR_chain l (l.length + 1) 0 1 [] (by omega) with ⟨h1, ts, h2, h3, h4⟩ | ⟨h1, h2, h3⟩
  ·rw [List.nil_append] at h2
   exact .inl ⟨h1, h3, by omega, by rw [h2]; exact h4⟩
  ·exact .inr ⟨h1, h2, fun _ => h3⟩
theorem Chain.step {l : List UInt8} {d line : Nat} {t : Tok} {ts : List Tok} (h : Chain l d line (t :: ts)) :
  t.pos = d + skipM false (l.drop d) ∧ t.pos < l.length ∧ 0 < tokLen (l.drop t.pos) ∧ t.pos + tokLen (l.drop t.pos) ≤ l.length ∧ t.text = (l.drop t.pos).take (tokLen (l.drop t.pos)) ∧ t.text.length = tokLen (l.drop t.pos) ∧
  t.line = line + lineFeeds ((l.drop d).take (t.pos - d)) ∧ tokErr (l.drop t.pos) = 0 ∧ t.kind = tokKind (l.drop t.pos) ∧ t.num = tokNum (l.drop t.pos) ∧ Chain l (t.pos + tokLen (l.drop t.pos)) t.line ts := by
 unfold Chain at h
 obtain ⟨h1, h2, h3, h4⟩ := h
 obtain ⟨k, hk⟩ : ∃ k, k = skipM false (l.drop d) := ⟨_, rfl⟩
 rw [← hk] at h1 h2 h3 h4 ⊢
 obtain ⟨a, ha⟩ : ∃ a, a = d + k := ⟨_, rfl⟩
 rw [← ha] at h1 h2 h3 h4 ⊢
 have hkd : k = a - d := by omega
 rw [hkd] at h3 h4
 have hp := tokLen_pos h2
 have hl := tokLen_le (l.drop a)
 rw [List.length_drop] at hl
 have e1 : t.pos = a := by rw [h3]; rfl
 have e2 : t.text = (l.drop a).take (tokLen (l.drop a)) := by rw [h3]; rfl
 have e3 : t.line = line + lineFeeds ((l.drop d).take (a - d)) := by rw [h3]; rfl
 have e4 : t.kind = tokKind (l.drop a) := by rw [h3]; rfl
 have e5 : t.num = tokNum (l.drop a) := by rw [h3]; rfl
 rw [e1]
 refine ⟨rfl, by omega, hp, by omega, e2, ?_, e3, h2, e4, e5, by rw [e3]; exact h4⟩
 rw [e2, List.length_take, List.length_drop]
 omega
theorem Chain.len {l : List UInt8} : ∀ (ts : List Tok) (d line : Nat), d ≤ l.length → Chain l d line ts → d + ts.length ≤ l.length := by
 intro ts
 induction ts with
 | nil => intro d line h _; simpa using h
 | cons t ts ih =>
  intro d line h hc
  obtain ⟨e1, e2, e3, e4, _, _, _, _, _, _, e11⟩ := hc.step
  have := ih _ _ e4 e11
  rw [List.length_cons]
  omega
theorem lf_step {l : List UInt8} {j a : Nat} {c : UInt8} (h : l[j]? = some c) (hj : j < a) : lineFeeds ((l.drop j).take (a - j)) = (if c.toNat = 10 then 1 else 0) + lineFeeds ((l.drop (j + 1)).take (a - (j + 1))) := by
 obtain ⟨hi, hv⟩ := List.getElem?_eq_some_iff.1 h
 have e : a - j = (a - (j + 1)) + 1 := by omega
 rw [List.drop_eq_getElem_cons hi, hv, e, List.take_succ_cons]
 unfold lineFeeds
 rw [List.count_cons]
 by_cases hc : c.toNat = 10
 ·have : c = 10 := UInt8.toNat_inj.1 hc
  subst this
  simp
  omega
 ·have : ¬ c = 10 := fun h => hc (by rw [h]; rfl)
  rw [if_neg hc]
  simp [this]
end Go.Proofs.YtkliclihpobmiaaGreatDoor
