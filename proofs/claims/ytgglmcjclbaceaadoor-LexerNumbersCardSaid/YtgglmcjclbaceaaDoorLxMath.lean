/- Plain mathematics of the tokens of a source. Nothing of the program stands here. -/
import Derived.Lib.ItoaNum
import Derived.Lib.AtoiAll
import Derived.Lib.IndexBytes
import Derived.Lib.SlTrimSet
import Derived.Lib.Hide
namespace Go.Proofs.YtgglmcjclbaceaaDoor
open Go

theorem all_u8 (p : UInt8 → Bool) (h : (List.range 256).all (fun n => p (UInt8.ofNat n)) = true) (b : UInt8) : p b = true := by
  have h1 := List.all_eq_true.1 h b.toNat (List.mem_range.2 b.toNat_lt)
  have e : UInt8.ofNat b.toNat = b := by simp
  rwa [e] at h1

def isLetter (b : UInt8) : Bool := (decide (97 ≤ b.toNat) && decide (b.toNat ≤ 122)) || (decide (65 ≤ b.toNat) && decide (b.toNat ≤ 90)) || decide (b.toNat = 95)
def isDec (b : UInt8) : Bool := decide (48 ≤ b.toNat) && decide (b.toNat ≤ 57)
def inW (b : UInt8) : Bool := isLetter b || isDec b
def isBlank (b : UInt8) : Bool := decide (b.toNat = 32) || decide (b.toNat = 9) || decide (b.toNat = 13) || decide (b.toNat = 10)
/-- The value of a digit, 99 if it is none. -/
def dv (b : UInt8) : Nat := if 48 ≤ b.toNat ∧ b.toNat ≤ 57 then b.toNat - 48 else if 97 ≤ b.toNat ∧ b.toNat ≤ 102 then b.toNat - 87 else if 65 ≤ b.toNat ∧ b.toNat ≤ 70 then b.toNat - 55 else 99
def isDig (base : Nat) (b : UInt8) : Bool := decide (dv b < base)

def decSet : List UInt8 := [48, 49, 50, 51, 52, 53, 54, 55, 56, 57]
def hexSet : List UInt8 := decSet ++ [97, 98, 99, 100, 101, 102, 65, 66, 67, 68, 69, 70]
def binSet : List UInt8 := [48, 49]
def wordSet : List UInt8 := decSet ++ [95] ++ ((List.range 26).map fun i => UInt8.ofNat (97 + i)) ++ ((List.range 26).map fun i => UInt8.ofNat (65 + i))
def blankSet : List UInt8 := [32, 9, 13, 10]
theorem decSet_is (b : UInt8) : decSet.contains b = isDig 10 b := by
  have := all_u8 (fun b => decSet.contains b == isDig 10 b) (by decide +kernel) b
  simpa using this
theorem hexSet_is (b : UInt8) : hexSet.contains b = isDig 16 b := by
  have := all_u8 (fun b => hexSet.contains b == isDig 16 b) (by decide +kernel) b
  simpa using this
theorem binSet_is (b : UInt8) : binSet.contains b = isDig 2 b := by
  have := all_u8 (fun b => binSet.contains b == isDig 2 b) (by decide +kernel) b
  simpa using this
theorem wordSet_is (b : UInt8) : wordSet.contains b = inW b := by
  have := all_u8 (fun b => wordSet.contains b == inW b) (by decide +kernel) b
  simpa using this
theorem isDec_dig (b : UInt8) : isDec b = isDig 10 b := by
  have := all_u8 (fun b => isDec b == isDig 10 b) (by decide +kernel) b
  simpa using this
theorem dig_word {base : Nat} (hb : base ≤ 16) {b : UInt8} (h : isDig base b = true) : inW b = true := by
  have h1 : isDig 16 b = true := by simp only [isDig, decide_eq_true_eq] at h ⊢; omega
  have := all_u8 (fun b => !isDig 16 b || inW b) (by decide +kernel) b
  rw [h1] at this
  simpa using this
theorem indexByte_blank (b : UInt8) : decide (0 ≤ Lib.indexByte blankSet b) = isBlank b := by
  have := all_u8 (fun b => decide (0 ≤ Lib.indexByte blankSet b) == isBlank b) (by decide +kernel) b
  simpa using this
def punctSet : List UInt8 := [40, 41, 123, 125, 91, 93, 44, 59, 58, 61, 43, 45, 42, 47, 37, 38, 124, 94, 126, 33, 60, 62, 63, 35]
def isPunct (b : UInt8) : Bool := punctSet.contains b
theorem indexByte_punct (b : UInt8) : decide (0 ≤ Lib.indexByte punctSet b) = isPunct b := by
  have := all_u8 (fun b => decide (0 ≤ Lib.indexByte punctSet b) == isPunct b) (by decide +kernel) b
  simpa using this

/-- How many bytes of blanks and comments stand at the beginning; m: inside a comment. -/
def skipM : Bool → List UInt8 → Nat
  | _, [] => 0
  | true, c :: r => 1 + skipM (decide (c.toNat ≠ 10)) r
  | false, c :: r => if isBlank c = true then 1 + skipM false r else if c = 47 ∧ r.head? = some 47 then 1 + skipM true r else 0
theorem skipM_le : ∀ (l : List UInt8) (m : Bool), skipM m l ≤ l.length := by
  intro l
  induction l with
  | nil => intro m; cases m <;> simp [skipM]
  | cons c r ih =>
    intro m
    cases m
    · simp only [skipM, List.length_cons]
      have h1 := ih false
      have h2 := ih true
      split
      · omega
      · split <;> omega
    · simp only [skipM, List.length_cons]
      have := ih (decide (c.toNat ≠ 10))
      omega

def pairs : List (List UInt8) := [[45, 62], [46, 46], [60, 60], [62, 62], [61, 61], [33, 61], [60, 61], [62, 61], [38, 38], [124, 124]]
/-- How long the punctuation at the beginning is, 0 if there is none. -/
def punctLen (l : List UInt8) : Nat := if 1 < l.length ∧ pairs.contains (l.take 2) = true then 2 else match l with
  | [] => 0
  | c :: _ => if isPunct c = true then 1 else 0

/-- The run of letters, digits and underscores at the beginning. -/
def run (l : List UInt8) : List UInt8 := l.takeWhile inW
def baseOf (r : List UInt8) : Nat := if [48, 120].isPrefixOf r = true then 16 else if [48, 98].isPrefixOf r = true then 2 else 10
def digs (r : List UInt8) : List UInt8 := if baseOf r = 10 then r else r.drop 2
def numVal (base : Nat) (l : List UInt8) : Nat := l.foldl (fun n b => n * base + dv b) 0
/-- The error of a run that begins with a digit: 4 syntax, 5 limit. -/
def numErr (r : List UInt8) : Nat := if digs r = [] ∨ ¬ (digs r).all (isDig (baseOf r)) = true then 4 else if 18446744073709551616 ≤ numVal (baseOf r) (digs r) then 5 else 0

/-- The name of a width, of at most two digits. -/
def dec2 (w : Nat) : List UInt8 := if w < 10 then [UInt8.ofNat (48 + w)] else [UInt8.ofNat (48 + w / 10), UInt8.ofNat (48 + w % 10)]
theorem dec2_eq {w : Nat} (h : w < 100) : Lib.decDigits w = dec2 w := by
  unfold dec2
  split
  · rename_i h1; exact Lib.decDigits_one h1
  · rename_i h1; exact Lib.decDigits_two h1 h
def nameOf (w : Nat) (sg : Bool) : List UInt8 := (if sg then 115 else 117) :: dec2 w
def boolName : List UInt8 := [98, 111, 111, 108]
def cands : List (Nat × Bool) := (List.range 64).flatMap fun i => [(i + 1, false), (i + 1, true)]
/-- The type that a name denotes; width 0 for none. -/
def typeOf (l : List UInt8) : Nat × Bool := if l = boolName then (1, false) else (cands.find? fun c => nameOf c.1 c.2 == l).getD (0, false)
def keywords : List (List UInt8) := [[97, 115], [98, 108, 111, 99, 107, 115], [99, 111, 109, 112, 108, 101, 116, 101], [99, 121, 99, 108, 105, 99], [101, 108, 115, 101], [102, 97, 108, 115, 101], [102, 110], [102, 111, 114], [105, 102], [105, 110], [107, 101, 114, 110, 101, 108], [108, 101, 116], [111, 117, 116], [114, 101, 99, 118], [114, 101, 116, 117, 114, 110], [115, 101, 110, 100], [116, 114, 117, 101], [118, 97, 114], [119, 104, 105, 108, 101]]
def isKey (l : List UInt8) : Bool := keywords.contains l || decide (0 < (typeOf l).1)

/-- The first token of a text: its error, its kind, its length, its number. -/
def tokErr (l : List UInt8) : Nat := if run l = [] then (if punctLen l = 0 then 4 else 0) else if (run l).head?.any isDec = true then numErr (run l) else if 64 < (run l).length then 5 else 0
def tokKind (l : List UInt8) : Nat := if run l = [] then 4 else if (run l).head?.any isDec = true then 3 else if isKey (run l) = true then 2 else 1
def tokLen (l : List UInt8) : Nat := if run l = [] then punctLen l else (run l).length
def tokNum (l : List UInt8) : Nat := if run l ≠ [] ∧ (run l).head?.any isDec = true then numVal (baseOf (run l)) (digs (run l)) else 0

structure Tok where
  kind : Nat
  text : List UInt8
  num : Nat
  pos : Nat
  line : Nat
  deriving DecidableEq
def lineFeeds (l : List UInt8) : Nat := l.count 10
/-- The tokens from an offset on. -/
def lexR (l : List UInt8) : Nat → Nat → Nat → List Tok → List Tok × Nat × Nat
  | 0, _, _, acc => (acc, l.length, 0)
  | f + 1, d, line, acc =>
    let k := skipM false (l.drop d)
    if l.length ≤ d + k then (acc, l.length, 0)
    else if tokErr (l.drop (d + k)) ≠ 0 then ([], d + k, tokErr (l.drop (d + k)))
    else lexR l f (d + k + tokLen (l.drop (d + k))) (line + lineFeeds ((l.drop d).take k)) (acc ++ [⟨tokKind (l.drop (d + k)), (l.drop (d + k)).take (tokLen (l.drop (d + k))), tokNum (l.drop (d + k)), d + k, line + lineFeeds ((l.drop d).take k)⟩])
def lexAll (l : List UInt8) : List Tok × Nat × Nat := if 65536 < l.length then ([], 65536, 5) else lexR l (l.length + 1) 0 1 []

theorem run_le (l : List UInt8) : (run l).length ≤ l.length := (List.takeWhile_prefix (p := inW) (l := l)).length_le
theorem run_eq_take (l : List UInt8) : run l = l.take (run l).length := (List.prefix_iff_eq_take.1 (List.takeWhile_prefix (p := inW) (l := l)))
theorem punctLen_le (l : List UInt8) : punctLen l ≤ l.length := by
  unfold punctLen
  split
  · omega
  · cases l with
    | nil => simp
    | cons c r => simp only; split <;> simp
theorem tokLen_le (l : List UInt8) : tokLen l ≤ l.length := by
  unfold tokLen
  split
  · exact punctLen_le l
  · exact run_le l
theorem tokLen_pos {l : List UInt8} (h : tokErr l = 0) : 0 < tokLen l := by
  unfold tokErr at h
  unfold tokLen
  split at h
  · rename_i h1
    rw [if_pos h1]
    split at h
    · omega
    · omega
  · rename_i h1
    rw [if_neg h1]
    exact List.length_pos_iff.2 h1
end Go.Proofs.YtgglmcjclbaceaaDoor
