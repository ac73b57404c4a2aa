/- The law on numbers: the walk. -/
import Derived.Test.YtgglmcjclbaceaaDoorLxDigs
import Derived.Test.YtgglmcjclbaceaaDoorLxLLimits
import Derived.Deep.QuietTactic
import Derived.BigQuiet
namespace Go.Proofs.YtgglmcjclbaceaaDoor
open Go Go.RowKit
set_option linter.unusedVariables false

theorem hexd_at' : ∀ d : Fin 16, (([48, 49, 50, 51, 52, 53, 54, 55, 56, 57, 97, 98, 99, 100, 101, 102] : List UInt8).drop d.val).take 1 = [hx d.val] := by decide +kernel
theorem hexd_at {d : Nat} (h : d < 16) : (⟨#[48, 49, 50, 51, 52, 53, 54, 55, 56, 57, 97, 98, 99, 100, 101, 102]⟩ : ByteArray).extract d (d + 1) = str [hx d] := by
  rw [extract_mid, Nat.add_sub_cancel_left]
  exact congrArg str (hexd_at' ⟨d, h⟩)

def dsOr (ds : List UInt8) : List UInt8 := if ds = [] then [48] else ds
theorem numT_of {B n k : Nat} {ds : List UInt8} (hb : B = 10 ∨ B = 16 ∨ B = 2) (hn : n < 18446744073709551616) (h : DgSt B n 0 ds) : NumT B n (List.replicate k 48 ++ dsOr ds) := by
  have h48 : isDig B 48 = true := by unfold isDig; rw [show dv 48 = 0 from by decide]; simp; omega
  have he := h.eq
  refine ⟨hb, ?_, ?_, ?_, hn⟩
  · unfold dsOr
    split
    · simp
    · rename_i h1; simp [h1]
  · intro c hc
    rcases List.mem_append.1 hc with hc | hc
    · rw [(List.mem_replicate.1 hc).2]; exact h48
    · unfold dsOr at hc
      split at hc
      · simp at hc; rw [hc]; exact h48
      · exact h.all c hc
  · rw [numVal_zeros]
    unfold dsOr
    split
    · rename_i h1
      rw [h1] at he
      have e1 : numVal B [48] = 0 := by rw [numVal_cons, show dv 48 = 0 from by decide]; simp [numVal]
      rw [e1]
      have he' : 0 * B ^ ([] : List UInt8).length + numVal B [] = n := he
      have hz : numVal B [] = 0 := rfl
      omega
    · rw [Nat.zero_mul, Nat.zero_add] at he
      exact he
theorem letter_c {m : Nat} (h : m < 20) : isDig 16 (UInt8.ofNat (103 + m)) = false ∧ inW (UInt8.ofNat (103 + m)) = true ∧ ((UInt8.ofNat (103 + m)).toNat : Int) = 103 + (m : Int) := by
  have : ∀ m : Fin 20, isDig 16 (UInt8.ofNat (103 + m.val)) = false ∧ inW (UInt8.ofNat (103 + m.val)) = true ∧ (UInt8.ofNat (103 + m.val)).toNat = 103 + m.val := by decide +kernel
  obtain ⟨h1, h2, h3⟩ := this ⟨m, h⟩
  refine ⟨h1, h2, ?_⟩
  have h3' : (UInt8.ofNat (103 + m)).toNat = 103 + m := h3
  omega

/-- The state of the outer loop. -/
structure NbSt (w wr : World) (g : Nat) : Prop where
  blk : Blk wr g 27 [.int .u64 10, .int .u64 16, .int .u64 2]
  bel : Below w.heap.size w wr
def bs3 (j : Nat) : Nat := if j = 0 then 10 else if j = 1 then 16 else 2
theorem bs3_is (j : Nat) : bs3 j = 10 ∨ bs3 j = 16 ∨ bs3 j = 2 := by
  unfold bs3
  split
  · simp
  · split <;> simp
theorem bs3_at {j : Nat} (h : j < 3) : ([.int .u64 10, .int .u64 16, .int .u64 2] : List Value)[j]? = some (.int .u64 (bs3 j : Int)) := by
  rcases (by omega : j = 0 ∨ j = 1 ∨ j = 2) with rfl | rfl | rfl <;> rfl
theorem NbSt.drewN {w wr : World} {g : Nat} (h : NbSt w wr g) (q : Nat) : NbSt w (wr.drewN q) g := by
  have h1 := Below.refl wr.heap.size wr
  have h2 : Below wr.heap.size wr (wr.drewN q) := ⟨h1.os, h1.tape, h1.output, h1.size, h1.block⟩
  exact ⟨h.blk.below h2 h.blk.lt, h.bel.trans (h2.mono h.bel.size)⟩

set_option maxHeartbeats 20000000 in
set_option maxRecDepth 100000 in
theorem numbers_main (n : Nat) (hn : n < 18446744073709551616) (zs : Nat) (hz : zs ≤ 255) (lt : Nat) (hlt : lt ≤ 255) (w : World) (V : Vs w) :
    Calls Tryd.prog 7 #[.int .u64 (n : Int), .int .u8 (zs : Int), .int .u8 (lt : Int)] w fun e w' => e = .returned (.bool true) ∧ Below w.heap.size w w' := by
  have HA := Lib.hid fun W V => awake_any W V
  have HV := Lib.hid V
  have hz20 : (zs : Int) % 20 = ((zs % 20 : Nat) : Int) := by omega
  have hz20t : Int.tmod (zs : Int) 20 = ((zs % 20 : Nat) : Int) := by rw [Int.tmod_eq_emod_of_nonneg (by omega)]; omega
  have hpb : zs % 20 < 20 := Nat.mod_lt _ (by omega)
  generalize hp : zs % 20 = P at *
  have hl20 : (lt : Int) % 20 = ((lt % 20 : Nat) : Int) := by omega
  have hlb : lt % 20 < 20 := Nat.mod_lt _ (by omega)
  generalize hlm : lt % 20 = m at *
  obtain ⟨lc1, lc2, lc3⟩ := letter_c hlb
  generalize UInt8.ofNat (103 + m) = cc at *
  have HCV : Hid (∀ W : World, (Go.convert 38 9 (.slice (some ⟨W.heap.size, 0, none⟩) 1 1)).run Tryd.prog (W.alloc (.cells #[.int .u8 (103 + (m : Int))] 5)) = .ok (.string (str [cc])) (W.alloc (.cells #[.int .u8 (103 + (m : Int))] 5))) := fun W =>
    run_convert_bytes_back (P := Tryd.prog) (W.alloc (.cells #[.int .u8 (103 + (m : Int))] 5)) 38 9 5 ⟨W.heap.size, 0, none⟩ 1 [cc] Tryd.underlying38 Tryd.underlying5 Tryd.underlying9 (fun j hj => by
      obtain rfl : j = 0 := by simpa using hj
      have := (Blk.alloc W 5 [.int .u8 (103 + (m : Int))]).cell 0
      rw [Addr.add_lit]
      simp [lc3])
  have HLC := Lib.hid (And.intro lc1 lc2)
  clear V hp hlm lc1 lc2 lc3
  have h0 : Hid ((⟨#[]⟩ : ByteArray) = str (List.replicate 0 48)) := rfl
  go_enter Tryd.func7, Tryd.ntmps7
  go_wp2_with fail
  refine (HA.out _ HV.out).mono ?_
  rintro e w1 ⟨rfl, hb1⟩
  have HB1 := Lib.hid hb1
  clear hb1 HA
  go_wp2
  go_loop [7, 8] (fun s i => ∃ (S : ByteArray) (k : Nat), s = .string S ∧ i = .int .i64 (k : Int) ∧ k ≤ P ∧ S.size ≤ 20 ∧ Hid (S = str (List.replicate k 48))) (fun _ i => P - (intOf i).toNat)
  case atStart => exact ⟨_, 0, rfl, rfl, by omega, by show (0 : Nat) ≤ 20; omega, h0⟩
  case round =>
    clear h0
    obtain ⟨S, k, rfl, rfl, hk, hS, hE⟩ := hrel
    by_cases hkl : k < P
    · have hN : Hid (S ++ ⟨#[48]⟩ = str (List.replicate (k + 1) 48)) := by
        have e : (⟨#[48]⟩ : ByteArray) = str [48] := rfl
        show _ = _
        rw [hE.out, e, str_append, List.replicate_succ']
      have hNs : (S ++ (⟨#[48]⟩ : ByteArray)).size ≤ 20 := by rw [hN.out, str_size, List.length_replicate]; omega
      clear hE
      go_wp2
      go_round
      case rel => exact ⟨_, k + 1, rfl, by go_num, by omega, hNs, hN⟩
      case measure => simp [intOf]; omega
    · obtain rfl : k = P := by omega
      have hB0 : Hid (NbSt w (w1.alloc (.cells #[.int .u64 10, .int .u64 16, .int .u64 2] 27)) w1.heap.size) := ⟨Blk.alloc w1 27 [.int .u64 10, .int .u64 16, .int .u64 2], HB1.out.alloc HB1.out.size _⟩
      go_wp2
      go_loopw [10, 11, 12, 13, 14, 15, 16, 17, 18, 19, 20, 34] (fun _ _ _ _ _ _ _ _ _ _ _ p wr => ∃ j : Nat, p = .int .i64 (j : Int) ∧ j ≤ 3 ∧ Hid (NbSt w wr w1.heap.size)) (fun _ _ _ _ _ _ _ _ _ _ _ p _ => 3 - (intOf p).toNat)
      case atStart => exact ⟨0, rfl, by omega, hB0⟩
      case round =>
        clear hB0
        obtain ⟨j, rfl, hj, hT⟩ := hrel
        obtain ⟨wo, rfl⟩ : ∃ wo : World, wo = wr := ⟨_, rfl⟩
        by_cases hj3 : j < 3
        · have c0 := (hT.out.blk.cell j).trans (bs3_at hj3)
          have hBB := bs3_is j
          generalize bs3 j = B at *
          have hB2 : 2 ≤ B ∧ B ≤ 16 := by omega
          have hBne : ¬ (B : Int) = 0 := by omega
          have hD0 : Hid (∃ ds, (⟨#[]⟩ : ByteArray) = str ds ∧ DgSt B n n ds) := ⟨[], rfl, DgSt.start B n⟩
          go_wp2
          clear c0
          go_loopw [11, 12] (fun d x wq => ∃ (D : ByteArray) (xv : Nat), d = .string D ∧ x = .int .u64 (xv : Int) ∧ xv ≤ n ∧ D.size ≤ 64 ∧ Hid (∃ ds, D = str ds ∧ DgSt B n xv ds) ∧ Hid (NbSt w wq w1.heap.size)) (fun _ x _ => (intOf x).toNat)
          case atStart => exact ⟨_, n, rfl, rfl, by omega, by show (0 : Nat) ≤ 64; omega, hD0, hT⟩
          case round =>
            clear hD0 hT
            obtain ⟨D, xv, rfl, rfl, hxn, hDs, hD, hT⟩ := hrel
            obtain ⟨wp, rfl⟩ : ∃ wp : World, wp = wr := ⟨_, rfl⟩
            by_cases hx0 : 0 < xv
            · obtain ⟨ds, hde, hdg⟩ := hD.out
              have hsh := hdg.short hn hx0
              have hdn := hdg.step hB2 hx0
              have hdl : xv % B < B := Nat.mod_lt _ (by omega)
              have hdx := hexd_at (d := xv % B) (by omega)
              have hm1 : (xv : Int) % (B : Int) = ((xv % B : Nat) : Int) := by omega
              have hq1 : (xv : Int) / (B : Int) = ((xv / B : Nat) : Int) := by omega
              have hqx : xv / B < xv := Nat.div_lt_self hx0 (by omega)
              have hN : Hid (∃ ds', str [hx (xv % B)] ++ D = str ds' ∧ DgSt B n (xv / B) ds') := ⟨_, by rw [hde, str_append]; rfl, hdn⟩
              have hNs : (str [hx (xv % B)] ++ D).size ≤ 64 := by rw [ByteArray.size_append, hde, str_size, str_size]; simp; omega
              have h1s : (str [hx (xv % B)]).size = 1 := by rw [str_size]; rfl
              have hd16 : xv % B < 16 := by omega
              have HW := Lib.hid fun q => hT.out.drewN q
              clear hde hdg hdn hD
              generalize str [hx (xv % B)] = C at *
              generalize xv % B = d at *
              generalize xv / B = q at *
              go_wp2
              go_quiet (fail)
              have hN2 := Lib.hid (HW.out nq)
              go_wp2
              go_roundw
              case rel => exact ⟨_, q, rfl, rfl, by omega, hNs, hN, hN2⟩
              case measure => simp [intOf]; omega
            · obtain rfl : xv = 0 := by omega
              obtain ⟨ds, hde, hdg⟩ := hD.out
              have hnum : NumT B n (List.replicate k 48 ++ dsOr ds) := numT_of hBB hn hdg
              have hdl : ds.length ≤ 64 := by rw [hde, str_size] at hDs; exact hDs
              have hdo : (dsOr ds).length ≤ 65 := by
                unfold dsOr
                split
                · simp
                · omega
              have hpf : (pfx B).length ≤ 2 := by rcases hBB with rfl | rfl | rfl <;> decide
              have htl : (pfx B ++ (List.replicate k 48 ++ dsOr ds)).length ≤ 100 := by simp; omega
              have hL1 := hnum.lex (by omega)
              have hL2 := hnum.bad (by omega) HLC.out.1 HLC.out.2
              have HX1 := Lib.hid fun W V => lex_any (pfx B ++ (List.replicate k 48 ++ dsOr ds) ++ [59]) (by have q := htl; simp only [List.length_append, List.length_cons, List.length_nil] at q ⊢; omega) W V
              have HX2 := Lib.hid fun W V => lex_any ([43] ++ (pfx B ++ (List.replicate k 48 ++ dsOr ds)) ++ [cc]) (by have q := htl; simp only [List.length_append, List.length_cons, List.length_nil] at q ⊢; omega) W V
              rw [hL1] at HX1
              rw [hL2] at HX2
              have hem : D.toList.isEmpty = ds.isEmpty := by rw [hde, str_toList]
              have hemz : ds.isEmpty = decide (ds = []) := by cases ds <;> simp
              have hN0 : True := trivial
              by_cases hds : ds = []
              · have hem2 : D.toList.isEmpty = true := by rw [hem, hds]; rfl
                have hEE : (⟨#[48]⟩ : ByteArray) = str (dsOr ds) := by rw [hds]; rfl
                clear hem hemz hde hds hDs
                rcases hBB with rfl | rfl | rfl
                · have hs0 : S ++ (⟨#[48]⟩ : ByteArray) = str (List.replicate k 48 ++ dsOr ds) := by rw [hE.out, hEE, str_append]
                  have hs1 : (S ++ (⟨#[48]⟩ : ByteArray)) = str (pfx 10 ++ (List.replicate k 48 ++ dsOr ds)) := by
                    rw [hs0]; rfl
                  have hs2 : (S ++ (⟨#[48]⟩ : ByteArray)) ++ (⟨#[59]⟩ : ByteArray) = str (pfx 10 ++ (List.replicate k 48 ++ dsOr ds) ++ [59]) := by rw [hs1]; exact str_append _ _
                  have hs3 : (⟨#[43]⟩ : ByteArray) ++ (S ++ (⟨#[48]⟩ : ByteArray)) ++ str [cc] = str ([43] ++ (pfx 10 ++ (List.replicate k 48 ++ dsOr ds)) ++ [cc]) := by
                    rw [hs1, show (⟨#[43]⟩ : ByteArray) = str [43] from rfl, str_append, str_append]
                  have z0 : (S ++ (⟨#[48]⟩ : ByteArray)).size ≤ 100 := by rw [hs0, str_size]; simp only [List.length_append] at htl ⊢; omega
                  have z1 : (S ++ (⟨#[48]⟩ : ByteArray)).size ≤ 100 := by rw [hs1, str_size]; exact htl
                  have z2 : ((⟨#[43]⟩ : ByteArray) ++ (S ++ (⟨#[48]⟩ : ByteArray))).size ≤ 101 := by rw [ByteArray.size_append]; have : (⟨#[43]⟩ : ByteArray).size = 1 := rfl; omega
                  have z3 : (str [cc]).size = 1 := by rw [str_size]; rfl
                  rw [← hs2] at HX1
                  rw [← hs3] at HX2
                  generalize hLL : (pfx 10 ++ (List.replicate k 48 ++ dsOr ds)) = TX at *
                  have HS1 := Lib.hid hs1
                  have HNB := Lib.hid hT.out
                  have HCVx := HCV.out
                  clear hEE hs0 hs1 hs2 hs3 hL1 hL2 hnum hD hN0 htl hdg hpf hdo hdl hLL
                  go_wp2_with fail
                  refine (HX1.out _ (HV.out.below HNB.out.bel)).mono ?_
                  rintro e wx ⟨v, rfl, hown, hbx⟩
                  rcases toks_own hown with ⟨h, _⟩ | ⟨gg, c, rfl, hgg, hTk⟩
                  · cases h
                  · have a1 := hTk.2 0 (by simp)
                    have a2 := hTk.2 1 (by simp)
                    have d0 : wx.cell? ⟨gg, 0, none⟩ = some (.int .i64 3) := a1.1
                    have d1 : wx.cell? ⟨gg, 1, none⟩ = some (.string (S ++ (⟨#[48]⟩ : ByteArray))) := by rw [HS1.out]; exact a1.2.1
                    have d2 : wx.cell? ⟨gg, 2, none⟩ = some (.int .u64 (n : Int)) := a1.2.2.1
                    have d7 : wx.cell? ⟨gg, 7, none⟩ = some (.int .u64 0) := a2.2.2.1
                    have HNX := Lib.hid (NbSt.mk (HNB.out.blk.below hbx HNB.out.blk.lt) (HNB.out.bel.trans (hbx.mono HNB.out.bel.size)))
                    clear a1 a2 hown hTk hgg hbx HNB HX1 HS1
                    go_wp2_with fail
                    have HVX := Lib.hid (HV.out.below (HNX.out.bel.alloc HNX.out.bel.size (.cells #[.int .u8 (103 + (m : Int))] 5)))
                    refine (HX2.out _ HVX.out).mono ?_
                    rintro e wy ⟨v3, rfl, hown3, hby⟩
                    have HNY : Hid (NbSt w wy w1.heap.size) := by
                      have q1 := HNX.out.blk.alloc_other (.cells #[.int .u8 (103 + (m : Int))] 5)
                      have q2 := HNX.out.bel.alloc HNX.out.bel.size (.cells #[.int .u8 (103 + (m : Int))] 5)
                      exact ⟨q1.below hby q1.lt, q2.trans (hby.mono q2.size)⟩
                    have hv3 : v3 = .slice none 0 0 ∨ ∃ g c, v3 = .slice (some ⟨g, 0, none⟩) 0 c := by
                      rcases toks_own (ts := []) hown3 with ⟨_, h⟩ | ⟨g, c, h, _⟩
                      · exact .inl h
                      · exact .inr ⟨g, c, h⟩
                    clear hown3 hby HVX HNX HX2 d0 d1 d2 d7 HCVx
                    rcases hv3 with rfl | ⟨g, c, rfl⟩
                    all_goals
                      go_wp2
                      go_roundw
                      case rel => exact ⟨j + 1, by go_num, by omega, HNY⟩
                      case measure => simp [intOf]; omega
                · have hs0 : S ++ (⟨#[48]⟩ : ByteArray) = str (List.replicate k 48 ++ dsOr ds) := by rw [hE.out, hEE, str_append]
                  have hs1 : ((⟨#[48, 120]⟩ : ByteArray) ++ (S ++ (⟨#[48]⟩ : ByteArray))) = str (pfx 16 ++ (List.replicate k 48 ++ dsOr ds)) := by
                    rw [hs0]; exact str_append _ _
                  have hs2 : ((⟨#[48, 120]⟩ : ByteArray) ++ (S ++ (⟨#[48]⟩ : ByteArray))) ++ (⟨#[59]⟩ : ByteArray) = str (pfx 16 ++ (List.replicate k 48 ++ dsOr ds) ++ [59]) := by rw [hs1]; exact str_append _ _
                  have hs3 : (⟨#[43]⟩ : ByteArray) ++ ((⟨#[48, 120]⟩ : ByteArray) ++ (S ++ (⟨#[48]⟩ : ByteArray))) ++ str [cc] = str ([43] ++ (pfx 16 ++ (List.replicate k 48 ++ dsOr ds)) ++ [cc]) := by
                    rw [hs1, show (⟨#[43]⟩ : ByteArray) = str [43] from rfl, str_append, str_append]
                  have z0 : (S ++ (⟨#[48]⟩ : ByteArray)).size ≤ 100 := by rw [hs0, str_size]; simp only [List.length_append] at htl ⊢; omega
                  have z1 : ((⟨#[48, 120]⟩ : ByteArray) ++ (S ++ (⟨#[48]⟩ : ByteArray))).size ≤ 100 := by rw [hs1, str_size]; exact htl
                  have z2 : ((⟨#[43]⟩ : ByteArray) ++ ((⟨#[48, 120]⟩ : ByteArray) ++ (S ++ (⟨#[48]⟩ : ByteArray)))).size ≤ 101 := by rw [ByteArray.size_append]; have : (⟨#[43]⟩ : ByteArray).size = 1 := rfl; omega
                  have z3 : (str [cc]).size = 1 := by rw [str_size]; rfl
                  rw [← hs2] at HX1
                  rw [← hs3] at HX2
                  generalize hLL : (pfx 16 ++ (List.replicate k 48 ++ dsOr ds)) = TX at *
                  have HS1 := Lib.hid hs1
                  have HNB := Lib.hid hT.out
                  have HCVx := HCV.out
                  clear hEE hs0 hs1 hs2 hs3 hL1 hL2 hnum hD hN0 htl hdg hpf hdo hdl hLL
                  go_wp2_with fail
                  refine (HX1.out _ (HV.out.below HNB.out.bel)).mono ?_
                  rintro e wx ⟨v, rfl, hown, hbx⟩
                  rcases toks_own hown with ⟨h, _⟩ | ⟨gg, c, rfl, hgg, hTk⟩
                  · cases h
                  · have a1 := hTk.2 0 (by simp)
                    have a2 := hTk.2 1 (by simp)
                    have d0 : wx.cell? ⟨gg, 0, none⟩ = some (.int .i64 3) := a1.1
                    have d1 : wx.cell? ⟨gg, 1, none⟩ = some (.string ((⟨#[48, 120]⟩ : ByteArray) ++ (S ++ (⟨#[48]⟩ : ByteArray)))) := by rw [HS1.out]; exact a1.2.1
                    have d2 : wx.cell? ⟨gg, 2, none⟩ = some (.int .u64 (n : Int)) := a1.2.2.1
                    have d7 : wx.cell? ⟨gg, 7, none⟩ = some (.int .u64 0) := a2.2.2.1
                    have HNX := Lib.hid (NbSt.mk (HNB.out.blk.below hbx HNB.out.blk.lt) (HNB.out.bel.trans (hbx.mono HNB.out.bel.size)))
                    clear a1 a2 hown hTk hgg hbx HNB HX1 HS1
                    go_wp2_with fail
                    have HVX := Lib.hid (HV.out.below (HNX.out.bel.alloc HNX.out.bel.size (.cells #[.int .u8 (103 + (m : Int))] 5)))
                    refine (HX2.out _ HVX.out).mono ?_
                    rintro e wy ⟨v3, rfl, hown3, hby⟩
                    have HNY : Hid (NbSt w wy w1.heap.size) := by
                      have q1 := HNX.out.blk.alloc_other (.cells #[.int .u8 (103 + (m : Int))] 5)
                      have q2 := HNX.out.bel.alloc HNX.out.bel.size (.cells #[.int .u8 (103 + (m : Int))] 5)
                      exact ⟨q1.below hby q1.lt, q2.trans (hby.mono q2.size)⟩
                    have hv3 : v3 = .slice none 0 0 ∨ ∃ g c, v3 = .slice (some ⟨g, 0, none⟩) 0 c := by
                      rcases toks_own (ts := []) hown3 with ⟨_, h⟩ | ⟨g, c, h, _⟩
                      · exact .inl h
                      · exact .inr ⟨g, c, h⟩
                    clear hown3 hby HVX HNX HX2 d0 d1 d2 d7 HCVx
                    rcases hv3 with rfl | ⟨g, c, rfl⟩
                    all_goals
                      go_wp2
                      go_roundw
                      case rel => exact ⟨j + 1, by go_num, by omega, HNY⟩
                      case measure => simp [intOf]; omega
                · have hs0 : S ++ (⟨#[48]⟩ : ByteArray) = str (List.replicate k 48 ++ dsOr ds) := by rw [hE.out, hEE, str_append]
                  have hs1 : ((⟨#[48, 98]⟩ : ByteArray) ++ (S ++ (⟨#[48]⟩ : ByteArray))) = str (pfx 2 ++ (List.replicate k 48 ++ dsOr ds)) := by
                    rw [hs0]; exact str_append _ _
                  have hs2 : ((⟨#[48, 98]⟩ : ByteArray) ++ (S ++ (⟨#[48]⟩ : ByteArray))) ++ (⟨#[59]⟩ : ByteArray) = str (pfx 2 ++ (List.replicate k 48 ++ dsOr ds) ++ [59]) := by rw [hs1]; exact str_append _ _
                  have hs3 : (⟨#[43]⟩ : ByteArray) ++ ((⟨#[48, 98]⟩ : ByteArray) ++ (S ++ (⟨#[48]⟩ : ByteArray))) ++ str [cc] = str ([43] ++ (pfx 2 ++ (List.replicate k 48 ++ dsOr ds)) ++ [cc]) := by
                    rw [hs1, show (⟨#[43]⟩ : ByteArray) = str [43] from rfl, str_append, str_append]
                  have z0 : (S ++ (⟨#[48]⟩ : ByteArray)).size ≤ 100 := by rw [hs0, str_size]; simp only [List.length_append] at htl ⊢; omega
                  have z1 : ((⟨#[48, 98]⟩ : ByteArray) ++ (S ++ (⟨#[48]⟩ : ByteArray))).size ≤ 100 := by rw [hs1, str_size]; exact htl
                  have z2 : ((⟨#[43]⟩ : ByteArray) ++ ((⟨#[48, 98]⟩ : ByteArray) ++ (S ++ (⟨#[48]⟩ : ByteArray)))).size ≤ 101 := by rw [ByteArray.size_append]; have : (⟨#[43]⟩ : ByteArray).size = 1 := rfl; omega
                  have z3 : (str [cc]).size = 1 := by rw [str_size]; rfl
                  rw [← hs2] at HX1
                  rw [← hs3] at HX2
                  generalize hLL : (pfx 2 ++ (List.replicate k 48 ++ dsOr ds)) = TX at *
                  have HS1 := Lib.hid hs1
                  have HNB := Lib.hid hT.out
                  have HCVx := HCV.out
                  clear hEE hs0 hs1 hs2 hs3 hL1 hL2 hnum hD hN0 htl hdg hpf hdo hdl hLL
                  go_wp2_with fail
                  refine (HX1.out _ (HV.out.below HNB.out.bel)).mono ?_
                  rintro e wx ⟨v, rfl, hown, hbx⟩
                  rcases toks_own hown with ⟨h, _⟩ | ⟨gg, c, rfl, hgg, hTk⟩
                  · cases h
                  · have a1 := hTk.2 0 (by simp)
                    have a2 := hTk.2 1 (by simp)
                    have d0 : wx.cell? ⟨gg, 0, none⟩ = some (.int .i64 3) := a1.1
                    have d1 : wx.cell? ⟨gg, 1, none⟩ = some (.string ((⟨#[48, 98]⟩ : ByteArray) ++ (S ++ (⟨#[48]⟩ : ByteArray)))) := by rw [HS1.out]; exact a1.2.1
                    have d2 : wx.cell? ⟨gg, 2, none⟩ = some (.int .u64 (n : Int)) := a1.2.2.1
                    have d7 : wx.cell? ⟨gg, 7, none⟩ = some (.int .u64 0) := a2.2.2.1
                    have HNX := Lib.hid (NbSt.mk (HNB.out.blk.below hbx HNB.out.blk.lt) (HNB.out.bel.trans (hbx.mono HNB.out.bel.size)))
                    clear a1 a2 hown hTk hgg hbx HNB HX1 HS1
                    go_wp2_with fail
                    have HVX := Lib.hid (HV.out.below (HNX.out.bel.alloc HNX.out.bel.size (.cells #[.int .u8 (103 + (m : Int))] 5)))
                    refine (HX2.out _ HVX.out).mono ?_
                    rintro e wy ⟨v3, rfl, hown3, hby⟩
                    have HNY : Hid (NbSt w wy w1.heap.size) := by
                      have q1 := HNX.out.blk.alloc_other (.cells #[.int .u8 (103 + (m : Int))] 5)
                      have q2 := HNX.out.bel.alloc HNX.out.bel.size (.cells #[.int .u8 (103 + (m : Int))] 5)
                      exact ⟨q1.below hby q1.lt, q2.trans (hby.mono q2.size)⟩
                    have hv3 : v3 = .slice none 0 0 ∨ ∃ g c, v3 = .slice (some ⟨g, 0, none⟩) 0 c := by
                      rcases toks_own (ts := []) hown3 with ⟨_, h⟩ | ⟨g, c, h, _⟩
                      · exact .inl h
                      · exact .inr ⟨g, c, h⟩
                    clear hown3 hby HVX HNX HX2 d0 d1 d2 d7 HCVx
                    rcases hv3 with rfl | ⟨g, c, rfl⟩
                    all_goals
                      go_wp2
                      go_roundw
                      case rel => exact ⟨j + 1, by go_num, by omega, HNY⟩
                      case measure => simp [intOf]; omega
              · have hem2 : D.toList.isEmpty = false := by rw [hem]; cases ds <;> simp_all
                have hEE : D = str (dsOr ds) := by unfold dsOr; rw [if_neg hds]; exact hde
                clear hem hemz hde hds
                rcases hBB with rfl | rfl | rfl
                · have hs0 : S ++ D = str (List.replicate k 48 ++ dsOr ds) := by rw [hE.out, hEE, str_append]
                  have hs1 : (S ++ D) = str (pfx 10 ++ (List.replicate k 48 ++ dsOr ds)) := by
                    rw [hs0]; rfl
                  have hs2 : (S ++ D) ++ (⟨#[59]⟩ : ByteArray) = str (pfx 10 ++ (List.replicate k 48 ++ dsOr ds) ++ [59]) := by rw [hs1]; exact str_append _ _
                  have hs3 : (⟨#[43]⟩ : ByteArray) ++ (S ++ D) ++ str [cc] = str ([43] ++ (pfx 10 ++ (List.replicate k 48 ++ dsOr ds)) ++ [cc]) := by
                    rw [hs1, show (⟨#[43]⟩ : ByteArray) = str [43] from rfl, str_append, str_append]
                  have z0 : (S ++ D).size ≤ 100 := by rw [hs0, str_size]; simp only [List.length_append] at htl ⊢; omega
                  have z1 : (S ++ D).size ≤ 100 := by rw [hs1, str_size]; exact htl
                  have z2 : ((⟨#[43]⟩ : ByteArray) ++ (S ++ D)).size ≤ 101 := by rw [ByteArray.size_append]; have : (⟨#[43]⟩ : ByteArray).size = 1 := rfl; omega
                  have z3 : (str [cc]).size = 1 := by rw [str_size]; rfl
                  rw [← hs2] at HX1
                  rw [← hs3] at HX2
                  generalize hLL : (pfx 10 ++ (List.replicate k 48 ++ dsOr ds)) = TX at *
                  have HS1 := Lib.hid hs1
                  have HNB := Lib.hid hT.out
                  have HCVx := HCV.out
                  clear hEE hs0 hs1 hs2 hs3 hL1 hL2 hnum hD hN0 htl hdg hpf hdo hdl hLL
                  go_wp2_with fail
                  refine (HX1.out _ (HV.out.below HNB.out.bel)).mono ?_
                  rintro e wx ⟨v, rfl, hown, hbx⟩
                  rcases toks_own hown with ⟨h, _⟩ | ⟨gg, c, rfl, hgg, hTk⟩
                  · cases h
                  · have a1 := hTk.2 0 (by simp)
                    have a2 := hTk.2 1 (by simp)
                    have d0 : wx.cell? ⟨gg, 0, none⟩ = some (.int .i64 3) := a1.1
                    have d1 : wx.cell? ⟨gg, 1, none⟩ = some (.string (S ++ D)) := by rw [HS1.out]; exact a1.2.1
                    have d2 : wx.cell? ⟨gg, 2, none⟩ = some (.int .u64 (n : Int)) := a1.2.2.1
                    have d7 : wx.cell? ⟨gg, 7, none⟩ = some (.int .u64 0) := a2.2.2.1
                    have HNX := Lib.hid (NbSt.mk (HNB.out.blk.below hbx HNB.out.blk.lt) (HNB.out.bel.trans (hbx.mono HNB.out.bel.size)))
                    clear a1 a2 hown hTk hgg hbx HNB HX1 HS1
                    go_wp2_with fail
                    have HVX := Lib.hid (HV.out.below (HNX.out.bel.alloc HNX.out.bel.size (.cells #[.int .u8 (103 + (m : Int))] 5)))
                    refine (HX2.out _ HVX.out).mono ?_
                    rintro e wy ⟨v3, rfl, hown3, hby⟩
                    have HNY : Hid (NbSt w wy w1.heap.size) := by
                      have q1 := HNX.out.blk.alloc_other (.cells #[.int .u8 (103 + (m : Int))] 5)
                      have q2 := HNX.out.bel.alloc HNX.out.bel.size (.cells #[.int .u8 (103 + (m : Int))] 5)
                      exact ⟨q1.below hby q1.lt, q2.trans (hby.mono q2.size)⟩
                    have hv3 : v3 = .slice none 0 0 ∨ ∃ g c, v3 = .slice (some ⟨g, 0, none⟩) 0 c := by
                      rcases toks_own (ts := []) hown3 with ⟨_, h⟩ | ⟨g, c, h, _⟩
                      · exact .inl h
                      · exact .inr ⟨g, c, h⟩
                    clear hown3 hby HVX HNX HX2 d0 d1 d2 d7 HCVx
                    rcases hv3 with rfl | ⟨g, c, rfl⟩
                    all_goals
                      go_wp2
                      go_roundw
                      case rel => exact ⟨j + 1, by go_num, by omega, HNY⟩
                      case measure => simp [intOf]; omega
                · have hs0 : S ++ D = str (List.replicate k 48 ++ dsOr ds) := by rw [hE.out, hEE, str_append]
                  have hs1 : ((⟨#[48, 120]⟩ : ByteArray) ++ (S ++ D)) = str (pfx 16 ++ (List.replicate k 48 ++ dsOr ds)) := by
                    rw [hs0]; exact str_append _ _
                  have hs2 : ((⟨#[48, 120]⟩ : ByteArray) ++ (S ++ D)) ++ (⟨#[59]⟩ : ByteArray) = str (pfx 16 ++ (List.replicate k 48 ++ dsOr ds) ++ [59]) := by rw [hs1]; exact str_append _ _
                  have hs3 : (⟨#[43]⟩ : ByteArray) ++ ((⟨#[48, 120]⟩ : ByteArray) ++ (S ++ D)) ++ str [cc] = str ([43] ++ (pfx 16 ++ (List.replicate k 48 ++ dsOr ds)) ++ [cc]) := by
                    rw [hs1, show (⟨#[43]⟩ : ByteArray) = str [43] from rfl, str_append, str_append]
                  have z0 : (S ++ D).size ≤ 100 := by rw [hs0, str_size]; simp only [List.length_append] at htl ⊢; omega
                  have z1 : ((⟨#[48, 120]⟩ : ByteArray) ++ (S ++ D)).size ≤ 100 := by rw [hs1, str_size]; exact htl
                  have z2 : ((⟨#[43]⟩ : ByteArray) ++ ((⟨#[48, 120]⟩ : ByteArray) ++ (S ++ D))).size ≤ 101 := by rw [ByteArray.size_append]; have : (⟨#[43]⟩ : ByteArray).size = 1 := rfl; omega
                  have z3 : (str [cc]).size = 1 := by rw [str_size]; rfl
                  rw [← hs2] at HX1
                  rw [← hs3] at HX2
                  generalize hLL : (pfx 16 ++ (List.replicate k 48 ++ dsOr ds)) = TX at *
                  have HS1 := Lib.hid hs1
                  have HNB := Lib.hid hT.out
                  have HCVx := HCV.out
                  clear hEE hs0 hs1 hs2 hs3 hL1 hL2 hnum hD hN0 htl hdg hpf hdo hdl hLL
                  go_wp2_with fail
                  refine (HX1.out _ (HV.out.below HNB.out.bel)).mono ?_
                  rintro e wx ⟨v, rfl, hown, hbx⟩
                  rcases toks_own hown with ⟨h, _⟩ | ⟨gg, c, rfl, hgg, hTk⟩
                  · cases h
                  · have a1 := hTk.2 0 (by simp)
                    have a2 := hTk.2 1 (by simp)
                    have d0 : wx.cell? ⟨gg, 0, none⟩ = some (.int .i64 3) := a1.1
                    have d1 : wx.cell? ⟨gg, 1, none⟩ = some (.string ((⟨#[48, 120]⟩ : ByteArray) ++ (S ++ D))) := by rw [HS1.out]; exact a1.2.1
                    have d2 : wx.cell? ⟨gg, 2, none⟩ = some (.int .u64 (n : Int)) := a1.2.2.1
                    have d7 : wx.cell? ⟨gg, 7, none⟩ = some (.int .u64 0) := a2.2.2.1
                    have HNX := Lib.hid (NbSt.mk (HNB.out.blk.below hbx HNB.out.blk.lt) (HNB.out.bel.trans (hbx.mono HNB.out.bel.size)))
                    clear a1 a2 hown hTk hgg hbx HNB HX1 HS1
                    go_wp2_with fail
                    have HVX := Lib.hid (HV.out.below (HNX.out.bel.alloc HNX.out.bel.size (.cells #[.int .u8 (103 + (m : Int))] 5)))
                    refine (HX2.out _ HVX.out).mono ?_
                    rintro e wy ⟨v3, rfl, hown3, hby⟩
                    have HNY : Hid (NbSt w wy w1.heap.size) := by
                      have q1 := HNX.out.blk.alloc_other (.cells #[.int .u8 (103 + (m : Int))] 5)
                      have q2 := HNX.out.bel.alloc HNX.out.bel.size (.cells #[.int .u8 (103 + (m : Int))] 5)
                      exact ⟨q1.below hby q1.lt, q2.trans (hby.mono q2.size)⟩
                    have hv3 : v3 = .slice none 0 0 ∨ ∃ g c, v3 = .slice (some ⟨g, 0, none⟩) 0 c := by
                      rcases toks_own (ts := []) hown3 with ⟨_, h⟩ | ⟨g, c, h, _⟩
                      · exact .inl h
                      · exact .inr ⟨g, c, h⟩
                    clear hown3 hby HVX HNX HX2 d0 d1 d2 d7 HCVx
                    rcases hv3 with rfl | ⟨g, c, rfl⟩
                    all_goals
                      go_wp2
                      go_roundw
                      case rel => exact ⟨j + 1, by go_num, by omega, HNY⟩
                      case measure => simp [intOf]; omega
                · have hs0 : S ++ D = str (List.replicate k 48 ++ dsOr ds) := by rw [hE.out, hEE, str_append]
                  have hs1 : ((⟨#[48, 98]⟩ : ByteArray) ++ (S ++ D)) = str (pfx 2 ++ (List.replicate k 48 ++ dsOr ds)) := by
                    rw [hs0]; exact str_append _ _
                  have hs2 : ((⟨#[48, 98]⟩ : ByteArray) ++ (S ++ D)) ++ (⟨#[59]⟩ : ByteArray) = str (pfx 2 ++ (List.replicate k 48 ++ dsOr ds) ++ [59]) := by rw [hs1]; exact str_append _ _
                  have hs3 : (⟨#[43]⟩ : ByteArray) ++ ((⟨#[48, 98]⟩ : ByteArray) ++ (S ++ D)) ++ str [cc] = str ([43] ++ (pfx 2 ++ (List.replicate k 48 ++ dsOr ds)) ++ [cc]) := by
                    rw [hs1, show (⟨#[43]⟩ : ByteArray) = str [43] from rfl, str_append, str_append]
                  have z0 : (S ++ D).size ≤ 100 := by rw [hs0, str_size]; simp only [List.length_append] at htl ⊢; omega
                  have z1 : ((⟨#[48, 98]⟩ : ByteArray) ++ (S ++ D)).size ≤ 100 := by rw [hs1, str_size]; exact htl
                  have z2 : ((⟨#[43]⟩ : ByteArray) ++ ((⟨#[48, 98]⟩ : ByteArray) ++ (S ++ D))).size ≤ 101 := by rw [ByteArray.size_append]; have : (⟨#[43]⟩ : ByteArray).size = 1 := rfl; omega
                  have z3 : (str [cc]).size = 1 := by rw [str_size]; rfl
                  rw [← hs2] at HX1
                  rw [← hs3] at HX2
                  generalize hLL : (pfx 2 ++ (List.replicate k 48 ++ dsOr ds)) = TX at *
                  have HS1 := Lib.hid hs1
                  have HNB := Lib.hid hT.out
                  have HCVx := HCV.out
                  clear hEE hs0 hs1 hs2 hs3 hL1 hL2 hnum hD hN0 htl hdg hpf hdo hdl hLL
                  go_wp2_with fail
                  refine (HX1.out _ (HV.out.below HNB.out.bel)).mono ?_
                  rintro e wx ⟨v, rfl, hown, hbx⟩
                  rcases toks_own hown with ⟨h, _⟩ | ⟨gg, c, rfl, hgg, hTk⟩
                  · cases h
                  · have a1 := hTk.2 0 (by simp)
                    have a2 := hTk.2 1 (by simp)
                    have d0 : wx.cell? ⟨gg, 0, none⟩ = some (.int .i64 3) := a1.1
                    have d1 : wx.cell? ⟨gg, 1, none⟩ = some (.string ((⟨#[48, 98]⟩ : ByteArray) ++ (S ++ D))) := by rw [HS1.out]; exact a1.2.1
                    have d2 : wx.cell? ⟨gg, 2, none⟩ = some (.int .u64 (n : Int)) := a1.2.2.1
                    have d7 : wx.cell? ⟨gg, 7, none⟩ = some (.int .u64 0) := a2.2.2.1
                    have HNX := Lib.hid (NbSt.mk (HNB.out.blk.below hbx HNB.out.blk.lt) (HNB.out.bel.trans (hbx.mono HNB.out.bel.size)))
                    clear a1 a2 hown hTk hgg hbx HNB HX1 HS1
                    go_wp2_with fail
                    have HVX := Lib.hid (HV.out.below (HNX.out.bel.alloc HNX.out.bel.size (.cells #[.int .u8 (103 + (m : Int))] 5)))
                    refine (HX2.out _ HVX.out).mono ?_
                    rintro e wy ⟨v3, rfl, hown3, hby⟩
                    have HNY : Hid (NbSt w wy w1.heap.size) := by
                      have q1 := HNX.out.blk.alloc_other (.cells #[.int .u8 (103 + (m : Int))] 5)
                      have q2 := HNX.out.bel.alloc HNX.out.bel.size (.cells #[.int .u8 (103 + (m : Int))] 5)
                      exact ⟨q1.below hby q1.lt, q2.trans (hby.mono q2.size)⟩
                    have hv3 : v3 = .slice none 0 0 ∨ ∃ g c, v3 = .slice (some ⟨g, 0, none⟩) 0 c := by
                      rcases toks_own (ts := []) hown3 with ⟨_, h⟩ | ⟨g, c, h, _⟩
                      · exact .inl h
                      · exact .inr ⟨g, c, h⟩
                    clear hown3 hby HVX HNX HX2 d0 d1 d2 d7 HCVx
                    rcases hv3 with rfl | ⟨g, c, rfl⟩
                    all_goals
                      go_wp2
                      go_roundw
                      case rel => exact ⟨j + 1, by go_num, by omega, HNY⟩
                      case measure => simp [intOf]; omega
        · have HBO := Lib.hid hT.out.bel
          clear hT
          go_wp2
          go_ret
          exact ⟨rfl, HBO.out⟩
theorem lexerNumbers_walk (n : Nat) (hn : n < 18446744073709551616) (zs : Int) (hz : 0 ≤ zs ∧ zs ≤ 255) (lt : Int) (hlt : 0 ≤ lt ∧ lt ≤ 255) (w : World) (V : Vs w) :
    Calls Tryd.prog 7 #[.int .u64 (n : Int), .int .u8 zs, .int .u8 lt] w fun e w' => e = .returned (.bool true) ∧ Below w.heap.size w w' := by
  obtain ⟨z, rfl⟩ : ∃ z : Nat, zs = (z : Int) := ⟨zs.toNat, by omega⟩
  obtain ⟨l, rfl⟩ : ∃ l : Nat, lt = (l : Int) := ⟨lt.toNat, by omega⟩
  exact numbers_main n hn z (by omega) l (by omega) w V
end Go.Proofs.YtgglmcjclbaceaaDoor
