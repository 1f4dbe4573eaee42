/-
  Names, plainly: the runes of a text, letters, names, what is folded, what may be said.
-/
import Derived.RowKit
import Derived.Lib.DecodeN
import Derived.Lib.RuneBytes
import Derived.Lib.RuneCount
import Derived.Lib.SplitLaws
namespace Go.Proofs.Ytlngbpipmaaedaa.Nam
set_option linter.unusedVariables false

def letN (r : Int) : Bool := decide (97 ≤ r ∧ r ≤ 122) || decide (224 ≤ r ∧ r ≤ 254 ∧ r ≠ 247) || decide (945 ≤ r ∧ r ≤ 969 ∧ r ≠ 962) || decide (1072 ≤ r ∧ r ≤ 1103)
def bigN (r : Int) : Bool := letN (r + 32)
def stN (r : Int) (c : Nat) : Bool := letN r || (decide (0 < c) && (decide (r = 45) || decide (48 ≤ r ∧ r ≤ 57)))
/-- the runes from a place on -/
def runs (s : ByteArray) : Nat → Nat → List Nat
  | 0, _ => []
  | f + 1, p => if p < s.size then (Utf8.decode s p).1 :: runs s f (p + (Utf8.decode s p).2) else []
def runesS (s : ByteArray) : List Nat := runs s s.size 0
theorem runs_end (s : ByteArray) (f p : Nat) (h : ¬ p < s.size) : runs s f p = [] := by cases f <;> simp [runs, h]
theorem runs_step (s : ByteArray) (f p : Nat) (h : p < s.size) : runs s (f + 1) p = (Utf8.decode s p).1 :: runs s f (p + (Utf8.decode s p).2) := by simp [runs, h]
theorem runs_len (s : ByteArray) : ∀ f p, (runs s f p).length ≤ f
  | 0, _ => Nat.le_refl _
  | f + 1, p => by
    unfold runs
    split
    · have := runs_len s f (p + (Utf8.decode s p).2); simp; omega
    · simp
def rightL : List Nat → Nat → Bool
  | [], c => decide (0 < c)
  | r :: rs, c => if c = 16 then false else if stN r c then rightL rs (c + 1) else false
def rightS (s : ByteArray) : Bool := rightL (runesS s) 0
def textL (most : Int) : List Nat → Nat → Bool
  | [], c => decide ((c : Int) ≤ most)
  | r :: rs, c => if r < 32 ∨ r = 127 ∨ r = 65533 then false else textL most rs (c + 1)
def textS (s : ByteArray) (most : Int) : Bool := textL most (runesS s) 0
def foldR (r : Nat) : Nat := if bigN r then r + 32 else r
def foldL (l : List Nat) : List UInt8 := l.flatMap fun r => Lib.encodeRune (foldR r)
def foldS (s : ByteArray) : ByteArray := ⟨(foldL (runesS s)).toArray⟩
def wordsS (s : ByteArray) : List ByteArray := Lib.splitB ⟨#[32]⟩ 0 (Lib.countB s ⟨#[32]⟩) s
end Go.Proofs.Ytlngbpipmaaedaa.Nam
