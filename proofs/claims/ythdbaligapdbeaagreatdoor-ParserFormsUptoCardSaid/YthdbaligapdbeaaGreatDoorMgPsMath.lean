/- Plain mathematics of the tokens of a source. Nothing of the program stands here. -/
import Derived.Lib.ItoaNum
import Derived.Lib.AtoiAll
import Derived.Lib.IndexBytes
import Derived.Lib.SlTrimSet
import Derived.Lib.Hide
namespace Go.Proofs.YthdbaligapdbeaaGreatDoor
open Go
theorem Hd {p : Prop} (h : p) : RowKit.Hid p := Lib.hid h

theorem all_u8 (p : UInt8 → Bool) (h : (List.range 256).all (fun n => p (UInt8.ofNat n)) = true) (b : UInt8) : p b = true := by
 have h1 := List.all_eq_true.1 h b.toNat (List.mem_range.2 b.toNat_lt)
 have e : UInt8.ofNat b.toNat = b := by simp
 rwa [e] at h1

def isLetter (b : UInt8) : Bool := (decide (97 ≤ b.toNat) && decide (b.toNat ≤ 122)) || (decide (65 ≤ b.toNat) && decide (b.toNat ≤ 90)) || decide (b.toNat = 95)
def isDec (b : UInt8) : Bool := decide (48 ≤ b.toNat) && decide (b.toNat ≤ 57)
def inW (b : UInt8) : Bool := isLetter b || isDec b
def isBlank (b : UInt8) : Bool := decide (b.toNat = 32) || decide (b.toNat = 9) || decide (b.toNat = 13) || decide (b.toNat = 10)
def dv (b : UInt8) : Nat := if 48 ≤ b.toNat ∧ b.toNat ≤ 57 then b.toNat - 48 else if 97 ≤ b.toNat ∧ b.toNat ≤ 102 then b.toNat - 87 else if 65 ≤ b.toNat ∧ b.toNat ≤ 70 then b.toNat - 55 else 99
def isDig (base : Nat) (b : UInt8) : Bool := decide (dv b < base)

def decSet : List UInt8 := [48, 49, 50, 51, 52, 53, 54, 55, 56, 57]
def hexSet : List UInt8 := decSet ++ [97, 98, 99, 100, 101, 102, 65, 66, 67, 68, 69, 70]
def binSet : List UInt8 := [48, 49]
def wordSet : List UInt8 := decSet ++ [95] ++ ((List.range 26).map fun i => UInt8.ofNat (97 + i)) ++ ((List.range 26).map fun i => UInt8.ofNat (65 + i))
def blankSet : List UInt8 := [32, 9, 13, 10]
theorem decSet_is (b : UInt8) : decSet.contains b = isDig 10 b := by
 have := all_u8 (fun b => decSet.contains b == isDig 10 b) (by decide +kernel) b
 simpa using this
theorem hexSet_is (b : UInt8) : hexSet.contains b = isDig 16 b := by
 have := all_u8 (fun b => hexSet.contains b == isDig 16 b) (by decide +kernel) b
 simpa using this
theorem binSet_is (b : UInt8) : binSet.contains b = isDig 2 b := by
 have := all_u8 (fun b => binSet.contains b == isDig 2 b) (by decide +kernel) b
 simpa using this
theorem wordSet_is (b : UInt8) : wordSet.contains b = inW b := by
 have := all_u8 (fun b => wordSet.contains b == inW b) (by decide +kernel) b
 simpa using this
theorem isDec_dig (b : UInt8) : isDec b = isDig 10 b := by
 have := all_u8 (fun b => isDec b == isDig 10 b) (by decide +kernel) b
 simpa using this
theorem dig_word {base : Nat} (hb : base ≤ 16) {b : UInt8} (h : isDig base b = true) : inW b = true := by
 have h1 : isDig 16 b = true := by simp only [isDig, decide_eq_true_eq] at h ⊢; omega
 have := all_u8 (fun b => !isDig 16 b || inW b) (by decide +kernel) b
 rw [h1] at this
 simpa using this
theorem indexByte_blank (b : UInt8) : decide (0 ≤ Lib.indexByte blankSet b) = isBlank b := by
 have := all_u8 (fun b => decide (0 ≤ Lib.indexByte blankSet b) == isBlank b) (by decide +kernel) b
 simpa using this
def punctSet : List UInt8 := [40, 41, 123, 125, 91, 93, 44, 59, 58, 61, 43, 45, 42, 47, 37, 38, 124, 94, 126, 33, 60, 62, 63, 35]
def isPunct (b : UInt8) : Bool := punctSet.contains b
theorem indexByte_punct (b : UInt8) : decide (0 ≤ Lib.indexByte punctSet b) = isPunct b := by
 have := all_u8 (fun b => decide (0 ≤ Lib.indexByte punctSet b) == isPunct b) (by decide +kernel) b
 simpa using this

def skipM : Bool → List UInt8 → Nat
 | _, [] => 0
 | true, c :: r => 1 + skipM (decide (c.toNat ≠ 10)) r
 | false, c :: r => if isBlank c = true then 1 + skipM false r else if c = 47 ∧ r.head? = some 47 then 1 + skipM true r else 0
theorem skipM_le : ∀ (l : List UInt8) (m : Bool), skipM m l ≤ l.length := by
 intro l
 induction l with
 | nil => intro m; cases m <;> simp [skipM]
 | cons c r ih =>
  intro m
  cases m
  ·simp only [skipM, List.length_cons]
   have h1 := ih false
   have h2 := ih true
   split
   ·omega
   ·split <;> omega
  ·simp only [skipM, List.length_cons]
   have := ih (decide (c.toNat ≠ 10))
   omega

def pairs : List (List UInt8) := [[45, 62], [46, 46], [60, 60], [62, 62], [61, 61], [33, 61], [60, 61], [62, 61], [38, 38], [124, 124]]
def punctLen (l : List UInt8) : Nat := if 1 < l.length ∧ pairs.contains (l.take 2) = true then 2 else match l with
 | [] => 0
 | c :: _ => if isPunct c = true then 1 else 0

def run (l : List UInt8) : List UInt8 := l.takeWhile inW
def baseOf (r : List UInt8) : Nat := if [48, 120].isPrefixOf r = true then 16 else if [48, 98].isPrefixOf r = true then 2 else 10
def digs (r : List UInt8) : List UInt8 := if baseOf r = 10 then r else r.drop 2
def numVal (base : Nat) (l : List UInt8) : Nat := l.foldl (fun n b => n * base + dv b) 0
def numErr (r : List UInt8) : Nat := if digs r = [] ∨ ¬ (digs r).all (isDig (baseOf r)) = true then 4 else if 18446744073709551616 ≤ numVal (baseOf r) (digs r) then 5 else 0

def dec2 (w : Nat) : List UInt8 := if w < 10 then [UInt8.ofNat (48 + w)] else [UInt8.ofNat (48 + w / 10), UInt8.ofNat (48 + w % 10)]
theorem dec2_eq {w : Nat} (h : w < 100) : Lib.decDigits w = dec2 w := by
 unfold dec2
 split
 ·rename_i h1; exact Lib.decDigits_one h1
 ·rename_i h1; exact Lib.decDigits_two h1 h
def nameOf (w : Nat) (sg : Bool) : List UInt8 := (if sg then 115 else 117) :: dec2 w
def boolName : List UInt8 := [98, 111, 111, 108]
def cands : List (Nat × Bool) := (List.range 64).flatMap fun i => [(i + 1, false), (i + 1, true)]
def typeOf (l : List UInt8) : Nat × Bool := if l = boolName then (1, false) else (cands.find? fun c => nameOf c.1 c.2 == l).getD (0, false)
def keywords : List (List UInt8) := [[97, 115], [98, 108, 111, 99, 107, 115], [99, 111, 109, 112, 108, 101, 116, 101], [99, 121, 99, 108, 105, 99], [101, 108, 115, 101], [102, 97, 108, 115, 101], [102, 110], [102, 111, 114], [105, 102], [105, 110], [107, 101, 114, 110, 101, 108], [108, 101, 116], [111, 117, 116], [114, 101, 99, 118], [114, 101, 116, 117, 114, 110], [115, 101, 110, 100], [116, 114, 117, 101], [118, 97, 114], [119, 104, 105, 108, 101]]
def isKey (l : List UInt8) : Bool := keywords.contains l || decide (0 < (typeOf l).1)

def tokErr (l : List UInt8) : Nat := if run l = [] then (if punctLen l = 0 then 4 else 0) else if (run l).head?.any isDec = true then numErr (run l) else if 64 < (run l).length then 5 else 0
def tokKind (l : List UInt8) : Nat := if run l = [] then 4 else if (run l).head?.any isDec = true then 3 else if isKey (run l) = true then 2 else 1
def tokLen (l : List UInt8) : Nat := if run l = [] then punctLen l else (run l).length
def tokNum (l : List UInt8) : Nat := if run l ≠ [] ∧ (run l).head?.any isDec = true then numVal (baseOf (run l)) (digs (run l)) else 0

structure Tok where
 kind : Nat
 text : List UInt8
 num : Nat
 pos : Nat
 line : Nat
 deriving DecidableEq
def lineFeeds (l : List UInt8) : Nat := l.count 10
def lexR (l : List UInt8) : Nat → Nat → Nat → List Tok → List Tok × Nat × Nat
 | 0, _, _, acc => (acc, l.length, 0)
 | f + 1, d, line, acc =>
  let k := skipM false (l.drop d)
  if l.length ≤ d + k then (acc, l.length, 0)
  else if tokErr (l.drop (d + k)) ≠ 0 then ([], d + k, tokErr (l.drop (d + k)))
  else lexR l f (d + k + tokLen (l.drop (d + k))) (line + lineFeeds ((l.drop d).take k)) (acc ++ [⟨tokKind (l.drop (d + k)), (l.drop (d + k)).take (tokLen (l.drop (d + k))), tokNum (l.drop (d + k)), d + k, line + lineFeeds ((l.drop d).take k)⟩])
def lexAll (l : List UInt8) : List Tok × Nat × Nat := if 65536 < l.length then ([], 65536, 5) else lexR l (l.length + 1) 0 1 []

theorem run_le (l : List UInt8) : (run l).length ≤ l.length := (List.takeWhile_prefix (p := inW) (l := l)).length_le
theorem run_eq_take (l : List UInt8) : run l = l.take (run l).length := (List.prefix_iff_eq_take.1 (List.takeWhile_prefix (p := inW) (l := l)))
theorem punctLen_le (l : List UInt8) : punctLen l ≤ l.length := by
 unfold punctLen
 split
 ·omega
 ·cases l with
  | nil => simp
  | cons c r => simp only; split <;> simp
theorem tokLen_le (l : List UInt8) : tokLen l ≤ l.length := by
 unfold tokLen
 split
 ·exact punctLen_le l
 ·exact run_le l
theorem tokLen_pos {l : List UInt8} (h : tokErr l = 0) : 0 < tokLen l := by
 unfold tokErr at h
 unfold tokLen
 split at h
 ·rename_i h1
  rw [if_pos h1]
  split at h
  ·omega
  ·omega
 ·rename_i h1
  rw [if_neg h1]
  exact List.length_pos_iff.2 h1
def tat (ts : List Tok) (i : Nat) : Tok := ts.getD i ⟨0, [], 0, 0, 0⟩
theorem tat_get {ts : List Tok} {i : Nat} (h : i < ts.length) : tat ts i = ts[i] := by simp [tat, List.getD, h]
end Go.Proofs.YthdbaligapdbeaaGreatDoor
/- Plain mathematics of the parser: syntax trees, the state of a reader of tokens, and the rules of the grammar as functions. Nothing of the program stands here. -/
namespace Go.Proofs.YthdbaligapdbeaaGreatDoor
open Go

structure Lab where
 kind : Int
 name : List UInt8
 num : Int
 wd : Int
 sg : Bool
 op : Int
 fac : Int
 pip : Int
 unr : Int
 line : Int
 deriving DecidableEq
inductive Tree where
 | node (l : Lab) (kids : List Tree)
def lab0 : Lab := ⟨0, [], 0, 0, false, 0, 0, 0, 0, 0⟩
def labK (k : Int) (line : Nat) : Lab := { lab0 with kind := k, line := line }

theorem tat_out {ts : List Tok} {i : Nat} (h : ts.length ≤ i) : tat ts i = ⟨0, [], 0, 0, 0⟩ := by simp [tat, List.getD, h]

structure Sg where
 i : Nat
 bad : Bool
 deriving DecidableEq
def nxt (ts : List Tok) (s : Sg) : Tok := if s.bad then ⟨0, [], 0, 0, 0⟩ else tat ts s.i
def tx (ts : List Tok) (s : Sg) : List UInt8 := (nxt ts s).text
def kd (ts : List Tok) (s : Sg) : Nat := (nxt ts s).kind
def ln (ts : List Tok) (s : Sg) : Nat := (nxt ts s).line
def stop (s : Sg) : Sg := ⟨s.i, true⟩
def adv (s : Sg) : Sg := ⟨s.i + 1, s.bad⟩
def hasT (ts : List Tok) (s : Sg) (t : List UInt8) : Bool := decide (tx ts s = t)
def skp (ts : List Tok) (s : Sg) (t : List UInt8) : Sg := if hasT ts s t then adv s else s
def exc (ts : List Tok) (s : Sg) (t : List UInt8) : Sg := if hasT ts s t then adv s else stop s
def nmV (ts : List Tok) (s : Sg) : List UInt8 := if kd ts s = 1 then tx ts s else []
def nmS (ts : List Tok) (s : Sg) : Sg := if kd ts s = 1 then adv s else stop s
def okN (ts : List Tok) (s : Sg) (least : Nat) : Bool := decide (kd ts s = 3) && (decide (least ≤ (nxt ts s).num) && decide ((nxt ts s).num ≤ 1048576))
def nuV (ts : List Tok) (s : Sg) (least : Nat) : Nat := if okN ts s least then (nxt ts s).num else 0
def nuS (ts : List Tok) (s : Sg) (least : Nat) : Sg := if okN ts s least then adv s else stop s
def tyV' (ts : List Tok) (s : Sg) : Nat × Bool := typeOf (tx ts s)
def tyS (ts : List Tok) (s : Sg) : Sg := if 0 < (typeOf (tx ts s)).1 then adv s else stop s

def levelOps : Nat → List (List UInt8 × Nat)
 | 0 => [([124, 124], 18)]
 | 1 => [([38, 38], 17)]
 | 2 => [([61, 61], 11), ([33, 61], 12), ([60], 13), ([60, 61], 14), ([62], 15), ([62, 61], 16)]
 | 3 => [([124], 7)]
 | 4 => [([94], 8)]
 | 5 => [([38], 6)]
 | 6 => [([60, 60], 9), ([62, 62], 10)]
 | 7 => [([43], 1), ([45], 2)]
 | 8 => [([42], 3), ([47], 4), ([37], 5)]
 | 10 => [([45], 19), ([126], 20), ([33], 21)]
 | _ => []
def opV (ts : List Tok) (s : Sg) (l : Nat) : Nat := (((levelOps l).find? fun p => decide (tx ts s = p.1)).map (·.2)).getD 0
def opS (ts : List Tok) (s : Sg) (l : Nat) : Sg := if opV ts s l = 0 then s else adv s

def more (ts : List Tok) (item : Sg → Tree × Sg) : Nat → List Tree → Sg → List Tree × Sg
 | 0, acc, s => (acc, s)
 | f + 1, acc, s => if hasT ts s [44] then more ts item f (acc ++ [(item (adv s)).1]) (item (adv s)).2 else (acc, s)
def listM (ts : List Tok) (item : Sg → Tree × Sg) (f : Nat) (s : Sg) : List Tree × Sg :=
 if hasT ts (exc ts s [40]) [41] then ([], adv (exc ts s [40]))
 else ((more ts item f [(item (exc ts s [40])).1] (item (exc ts s [40])).2).1, exc ts (more ts item f [(item (exc ts s [40])).1] (item (exc ts s [40])).2).2 [41])

inductive NT where
 | ex | bn (l : Nat) | bl (l line : Nat) (left : Tree) | ca | cl (line : Nat) (t : Tree) | un | pr | us
def tree0 : Tree := .node lab0 []
def E (ts : List Tok) : Nat → NT → Sg → Tree × Sg
 | 0, _, s => (tree0, s)
 | f + 1, .ex, s => if hasT ts (E ts f (.bn 0) s).2 [63] then
   (.node (labK 23 (ln ts s)) [(E ts f (.bn 0) s).1, (E ts f .ex (adv (E ts f (.bn 0) s).2)).1, (E ts f .ex (exc ts (E ts f .ex (adv (E ts f (.bn 0) s).2)).2 [58])).1], (E ts f .ex (exc ts (E ts f .ex (adv (E ts f (.bn 0) s).2)).2 [58])).2)
  else E ts f (.bn 0) s
 | f + 1, .bn l, s => if l = 9 then E ts f .ca s else E ts f (.bl l (ln ts s) (E ts f (.bn (l + 1)) s).1) (E ts f (.bn (l + 1)) s).2
 | f + 1, .bl l line left, s => if opV ts s l = 0 then (left, s)
  else if l = 2 then (.node { labK 22 line with op := opV ts s l } [left, (E ts f (.bn (l + 1)) (adv s)).1], (E ts f (.bn (l + 1)) (adv s)).2)
  else E ts f (.bl l line (.node { labK 22 line with op := opV ts s l } [left, (E ts f (.bn (l + 1)) (adv s)).1])) (E ts f (.bn (l + 1)) (adv s)).2
 | f + 1, .ca, s => E ts f (.cl (ln ts s) (E ts f .un s).1) (E ts f .un s).2
 | f + 1, .cl line t, s => if hasT ts s [97, 115] then E ts f (.cl line (.node { labK 24 line with wd := (tyV' ts (adv s)).1, sg := (tyV' ts (adv s)).2 } [t])) (tyS ts (adv s)) else (t, s)
 | f + 1, .un, s => if opV ts s 10 = 0 then E ts f .pr s else (.node { labK 21 (ln ts s) with op := opV ts s 10 } [(E ts f .un (adv s)).1], (E ts f .un (adv s)).2)
 | f + 1, .pr, s => if kd ts s = 3 then (.node { labK 18 (ln ts s) with num := (nxt ts s).num } [], adv s)
  else if hasT ts s [116, 114, 117, 101] then (.node { labK 18 (ln ts s) with num := 1, wd := 1 } [], adv s)
  else if hasT ts s [102, 97, 108, 115, 101] then (.node { labK 18 (ln ts s) with wd := 1 } [], adv s)
  else if hasT ts s [114, 101, 99, 118] then (.node { labK 26 (ln ts s) with name := nmV ts (exc ts (adv s) [40]) } [], exc ts (nmS ts (exc ts (adv s) [40])) [41])
  else if hasT ts s [40] then ((E ts f .ex (adv s)).1, exc ts (E ts f .ex (adv s)).2 [41])
  else E ts f .us s
 | f + 1, .us, s => if hasT ts (nmS ts s) [40] then (.node { labK 25 (ln ts s) with name := nmV ts s } (listM ts (fun q => E ts f .ex q) f (nmS ts s)).1, (listM ts (fun q => E ts f .ex q) f (nmS ts s)).2)
  else if hasT ts (nmS ts s) [91] then (.node { labK 20 (ln ts s) with name := nmV ts s } [(E ts f .ex (adv (nmS ts s))).1], exc ts (E ts f .ex (adv (nmS ts s))).2 [93])
  else (.node { labK 19 (ln ts s) with name := nmV ts s } [], nmS ts s)
@[irreducible] def big (ts : List Tok) : Nat := 64 * ts.length + 100
@[irreducible] def xpr (ts : List Tok) (s : Sg) : Tree × Sg := E ts (big ts) .ex s

def amV (ts : List Tok) (s : Sg) (least : Nat) : Nat := if kd ts s = 3 then nuV ts s least else 1
def amS (ts : List Tok) (s : Sg) (least : Nat) : Sg := if kd ts s = 3 then nuS ts s least else s
def dir (ts : List Tok) (p u : Nat) (s : Sg) : Nat × Nat × Sg :=
 if p = 0 ∧ hasT ts s [112, 105, 112, 101, 108, 105, 110, 101] = true then (amV ts (adv s) 1, u, amS ts (adv s) 1)
 else if u = 0 ∧ hasT ts s [117, 110, 114, 111, 108, 108] = true then (p, amV ts (adv s) 2, amS ts (adv s) 2)
 else (p, u, stop s)
def dirs (ts : List Tok) : Nat → Nat → Nat → Sg → Nat × Nat × Sg
 | 0, p, u, s => (p, u, s)
 | f + 1, p, u, s => if (p = 0 ∨ u = 0) ∧ hasT ts s [35] = true then dirs ts f (dir ts p u (adv s)).1 (dir ts p u (adv s)).2.1 (dir ts p u (adv s)).2.2 else (p, u, s)

def declL (ts : List Tok) (s : Sg) : Tree × Sg :=
 let s1 := adv s
 let s2 := nmS ts s1
 let s3 := if hasT ts s2 [58] then tyS ts (adv s2) else s2
 let s4 := exc ts s3 [61]
 (.node { labK 10 (ln ts s) with name := nmV ts s1, wd := if hasT ts s2 [58] then ((tyV' ts (adv s2)).1 : Int) else 0, sg := if hasT ts s2 [58] then (tyV' ts (adv s2)).2 else false } [(xpr ts s4).1], exc ts (xpr ts s4).2 [59])
def declV (ts : List Tok) (s : Sg) : Tree × Sg :=
 let s1 := adv s
 let s2 := exc ts (nmS ts s1) [58]
 let s3 := tyS ts s2
 if hasT ts s3 [61] then (.node { labK 9 (ln ts s) with name := nmV ts s1, wd := (tyV' ts s2).1, sg := (tyV' ts s2).2 } [(xpr ts (adv s3)).1], exc ts (xpr ts (adv s3)).2 [59])
 else (.node { labK 9 (ln ts s) with name := nmV ts s1, wd := (tyV' ts s2).1, sg := (tyV' ts s2).2 } [], exc ts s3 [59])
def change (ts : List Tok) (s : Sg) : Tree × Sg :=
 let s1 := nmS ts s
 if hasT ts s1 [91] then
  let s2 := exc ts (exc ts (xpr ts (adv s1)).2 [93]) [61]
  (.node { labK 12 (ln ts s) with name := nmV ts s } [(xpr ts (adv s1)).1, (xpr ts s2).1], exc ts (xpr ts s2).2 [59])
 else
  let s2 := exc ts s1 [61]
  (.node { labK 11 (ln ts s) with name := nmV ts s } [(xpr ts s2).1], exc ts (xpr ts s2).2 [59])
def sendM (ts : List Tok) (s : Sg) : Tree × Sg :=
 let s1 := adv s
 let s2 := exc ts (nmS ts s1) [40]
 (.node { labK 16 (ln ts s) with name := nmV ts s1 } [(xpr ts s2).1], exc ts (exc ts (xpr ts s2).2 [41]) [59])
def resM (ts : List Tok) (s : Sg) : Tree × Sg := (.node (labK 17 (ln ts s)) [(xpr ts (adv s)).1], exc ts (xpr ts (adv s)).2 [59])

inductive NS where
 | bk | bs (acc : List Tree) | st | br | lp
def S (ts : List Tok) : Nat → NS → Sg → List Tree × Sg
 | 0, _, s => ([tree0], s)
 | f + 1, .bk, s => ([.node (labK 8 (ln ts s)) (S ts f (.bs []) (exc ts s [123])).1], exc ts (S ts f (.bs []) (exc ts s [123])).2 [125])
 | f + 1, .bs acc, s => if s.bad = false ∧ s.i < ts.length ∧ hasT ts s [125] = false then S ts f (.bs (acc ++ (S ts f .st s).1)) (S ts f .st s).2 else (acc, s)
 | f + 1, .st, s => if hasT ts s [118, 97, 114] then ([(declV ts s).1], (declV ts s).2) else if hasT ts s [108, 101, 116] then ([(declL ts s).1], (declL ts s).2)
  else if hasT ts s [105, 102] then S ts f .br s
  else if hasT ts s [35] || hasT ts s [102, 111, 114] || hasT ts s [119, 104, 105, 108, 101] then S ts f .lp s
  else if hasT ts s [115, 101, 110, 100] then ([(sendM ts s).1], (sendM ts s).2) else if hasT ts s [114, 101, 116, 117, 114, 110] then ([(resM ts s).1], (resM ts s).2) else ([(change ts s).1], (change ts s).2)
 | f + 1, .br, s =>
  if hasT ts (S ts f .bk (xpr ts (adv s)).2).2 [101, 108, 115, 101] then
   if hasT ts (adv (S ts f .bk (xpr ts (adv s)).2).2) [105, 102] then ([.node (labK 13 (ln ts s)) ([(xpr ts (adv s)).1] ++ (S ts f .bk (xpr ts (adv s)).2).1 ++ (S ts f .br (adv (S ts f .bk (xpr ts (adv s)).2).2)).1)], (S ts f .br (adv (S ts f .bk (xpr ts (adv s)).2).2)).2)
   else ([.node (labK 13 (ln ts s)) ([(xpr ts (adv s)).1] ++ (S ts f .bk (xpr ts (adv s)).2).1 ++ (S ts f .bk (adv (S ts f .bk (xpr ts (adv s)).2).2)).1)], (S ts f .bk (adv (S ts f .bk (xpr ts (adv s)).2).2)).2)
  else ([.node (labK 13 (ln ts s)) ([(xpr ts (adv s)).1] ++ (S ts f .bk (xpr ts (adv s)).2).1)], (S ts f .bk (xpr ts (adv s)).2).2)
 | f + 1, .lp, s =>
  let d := dirs ts 3 0 0 s
  let s1 := d.2.2
  if hasT ts s1 [102, 111, 114] then
   let s2 := exc ts (nmS ts (adv s1)) [58]
   let s3 := exc ts (tyS ts s2) [105, 110]
   let s4 := exc ts (xpr ts s3).2 [46, 46]
   ([.node { labK 14 (ln ts s) with name := nmV ts (adv s1), wd := (tyV' ts s2).1, sg := (tyV' ts s2).2, pip := d.1, unr := d.2.1 } ([(xpr ts s3).1, (xpr ts s4).1] ++ (S ts f .bk (xpr ts s4).2).1)], (S ts f .bk (xpr ts s4).2).2)
  else
   let s2 := exc ts s1 [119, 104, 105, 108, 101]
   ([.node { labK 15 (ln ts s) with pip := d.1, unr := d.2.1 } ([(xpr ts s2).1] ++ (S ts f .bk (xpr ts s2).2).1)], (S ts f .bk (xpr ts s2).2).2)
@[irreducible] def blk (ts : List Tok) (s : Sg) : Tree × Sg := ((S ts (big ts) .bk s).1.headD tree0, (S ts (big ts) .bk s).2)

def scal (ts : List Tok) (s : Sg) : Tree × Sg :=
 let s2 := exc ts (nmS ts s) [58]
 (.node { labK 4 (ln ts s) with name := nmV ts s, wd := (tyV' ts s2).1, sg := (tyV' ts s2).2 } [], tyS ts s2)
def divO (ts : List Tok) (s : Sg) : Nat := if hasT ts s [99, 121, 99, 108, 105, 99] then 1 else if hasT ts s [98, 108, 111, 99, 107, 115] then 2 else if hasT ts s [99, 111, 109, 112, 108, 101, 116, 101] then 3 else 0
def divF (ts : List Tok) (s : Sg) : Nat := if hasT ts s [99, 121, 99, 108, 105, 99] then nuV ts (adv s) 0 else if hasT ts s [98, 108, 111, 99, 107, 115] then nuV ts (adv s) 0 else 0
def divS (ts : List Tok) (s : Sg) : Sg := if hasT ts s [99, 121, 99, 108, 105, 99] then nuS ts (adv s) 0 else if hasT ts s [98, 108, 111, 99, 107, 115] then nuS ts (adv s) 0 else if hasT ts s [99, 111, 109, 112, 108, 101, 116, 101] then adv s else s
def prmK (ts : List Tok) (s : Sg) : Nat := if hasT ts s [105, 110] then 6 else if hasT ts s [111, 117, 116] then 7 else 4
def prmS (ts : List Tok) (s : Sg) : Sg := if hasT ts s [105, 110] then adv s else if hasT ts s [111, 117, 116] then adv s else s
def prm (ts : List Tok) (s : Sg) : Tree × Sg :=
 let s2 := exc ts (nmS ts s) [58]
 let s3 := tyS ts (prmS ts s2)
 if prmK ts s2 = 4 ∧ hasT ts s3 [91] = true then
  let s4 := nuS ts (adv s3) 0
  let s5 := exc ts s4 [93]
  (.node { labK 5 (ln ts s) with name := nmV ts s, wd := (tyV' ts (prmS ts s2)).1, sg := (tyV' ts (prmS ts s2)).2, num := nuV ts (adv s3) 0, op := divO ts s5, fac := divF ts s5 } [], divS ts s5)
 else (.node { labK (prmK ts s2) (ln ts s) with name := nmV ts s, wd := (tyV' ts (prmS ts s2)).1, sg := (tyV' ts (prmS ts s2)).2 } [], s3)
def func (ts : List Tok) (s : Sg) : Tree × Sg :=
 let s1 := adv s
 let p := listM ts (scal ts) (big ts) (nmS ts s1)
 let s3 := exc ts p.2 [45, 62]
 let b := blk ts (tyS ts s3)
 (.node { labK 2 (ln ts s) with name := nmV ts s1, wd := (tyV' ts s3).1, sg := (tyV' ts s3).2 } (p.1 ++ [b.1]), b.2)
def kern (ts : List Tok) (s : Sg) : Tree × Sg :=
 let s1 := exc ts s [107, 101, 114, 110, 101, 108]
 let p := listM ts (prm ts) (big ts) (nmS ts s1)
 if hasT ts p.2 [45, 62] then
  let s3 := adv p.2
  let b := blk ts (tyS ts s3)
  (.node { labK 3 (ln ts s) with name := nmV ts s1, wd := (tyV' ts s3).1, sg := (tyV' ts s3).2 } (p.1 ++ [b.1]), b.2)
 else
  let b := blk ts p.2
  (.node { labK 3 (ln ts s) with name := nmV ts s1 } (p.1 ++ [b.1]), b.2)
def units (ts : List Tok) : Nat → List Tree → Sg → List Tree × Sg
 | 0, acc, s => (acc, s)
 | f + 1, acc, s => if s.bad = false ∧ s.i < ts.length then (if hasT ts s [102, 110] then units ts f (acc ++ [(func ts s).1]) (func ts s).2 else units ts f (acc ++ [(kern ts s).1]) (kern ts s).2) else (acc, s)
def progT (ts : List Tok) : Tree × Sg :=
 let u := units ts (ts.length + 1) [] ⟨0, false⟩
 (.node (labK 1 (max (ln ts ⟨0, false⟩) 1)) u.1, u.2)

mutual
def count : Tree → Nat
 | .node _ ks => 1 + counts ks
def counts : List Tree → Nat
 | [] => 0
 | t :: r => count t + counts r
end
mutual
def depth : Tree → Nat
 | .node _ ks => 1 + depths ks
def depths : List Tree → Nat
 | [] => 0
 | t :: r => max (depth t) (depths r)
end
def isOpen (t : List UInt8) : Bool := decide (t = [40]) || (decide (t = [91]) || decide (t = [123]))
def isShut (t : List UInt8) : Bool := decide (t = [41]) || (decide (t = [93]) || decide (t = [125]))
def opens (o : Nat) (t : Tok) : Nat := if isOpen t.text then o + 1 else if isShut t.text then o - 1 else o
def crowd : Nat → List Tok → Nat
 | _, [] => 0
 | o, t :: r => if 200 < opens o t then t.line else crowd (opens o t) r
def lineAt (l : List UInt8) (at_ : Nat) : Nat := 1 + (l.take at_).count 10
def parseM (l : List UInt8) : Tree × Nat × Nat :=
 let x := lexAll l
 let ts := x.1
 if x.2.2 ≠ 0 then (tree0, lineAt l x.2.1, x.2.2)
 else if 0 < crowd 0 ts then (tree0, crowd 0 ts, 5)
 else if (progT ts).2.bad then (tree0, (tat ts (min (progT ts).2.i (ts.length - 1))).line, 4)
 else if 20000 < count (progT ts).1 ∨ 200 < depth (progT ts).1 then (tree0, 1, 5)
 else ((progT ts).1, 0, 0)
end Go.Proofs.YthdbaligapdbeaaGreatDoor
