/-
  No cell of these rows narrows 'for every input' (looked for: loops, veiled, ifaces, maps, wideKeys, modest, calm, conditions, laid).
  DERIVED. THE GIVEN ROWS OF THIS SEAT. 6 by the template 'for every input the law returns true; each argument reads behind the call as it read before'; 0 by the template 'total and deterministic' (their statements: YtbfcdlfjlailjaaTotals.lean).
  GIVEN WITH THE SEED: the statements are not yours to turn. If you find one false, say at which input.
  Laid BY PROGRAM, IN A SANDBOX (cutbox-rows.mjs): the forced cells as the released guide's own fill.sh prints them over the translation 5e7d576a7d007099… (all of the seat's roots in one cut). By AI agents, Wed Nov 11 2026. No macro, syntax, notation, axiom, sorry.
-/
import Derived.Test.YtbfcdlfjlailjaaChecked
import GoSem.Claim
import GoSem.ClaimJoined
import GoSem.ClaimMapViews
import Derived.JoinedTies
import Derived.KernelRfl
namespace Go.Proofs.Ytbfcdlfjlailjaa
/- THE CELL 'sum', in the pinned program and in every row, IS THE sha256 OF THE DUMP (.gsa) THAT YtbfcdlfjlailjaaProg.lean LOADS. Nothing in Lean hashes anything: it is a label: what it is worth is what the hold of that sum in a sandbox is worth. -/
noncomputable def Try.pinned : Pinned := { name := "ytbfcdlfjlailjaa", sum := "5e7d576a7d00709901fcaad7531e9eda2353bed59bae16b0efd9e2272f335f36", checked := Try.checked }
namespace Rows
def none {H : Type} : Left H := { results := [], args := [] }

/-- 'compeerlaw07.SymPlays': WHATEVER THE INPUT: true; the input reads as it did. -/
def symPlaysSpec : ChangeSpec := { name := "symPlays", fn := fun _ => fun
  | [d] => { results := [.lit (.bool true)], args := [d] }
  | _ => none }
def symPlaysRow : OpenClaim := { program := "ytbfcdlfjlailjaa", sum := "5e7d576a7d00709901fcaad7531e9eda2353bed59bae16b0efd9e2272f335f36", func := "compeer/compeerlaw07.SymPlays", spec := "symPlays", unfollowed := true, recurses := true, plainKeys := false, apart := false }
def SymPlaysSaid : Prop := symPlaysRow.holds Try.pinned (OpenSpec.ofChange symPlaysSpec)

/-- ITS FALSE NEIGHBOUR: 'it returns false'. Refute it at one input. -/
def symPlaysWrong : ChangeSpec := { name := "symPlays", fn := fun _ => fun
  | [d] => { results := [.lit (.bool false)], args := [d] }
  | _ => none }
def SymPlaysWrongFalsely : Prop := symPlaysRow.holds Try.pinned (OpenSpec.ofChange symPlaysWrong)

/-- 'compeerlaw07.SymMarks': WHATEVER THE INPUT: true; the input reads as it did. -/
def symMarksSpec : ChangeSpec := { name := "symMarks", fn := fun _ => fun
  | [d1, d2, d3, d4] => { results := [.lit (.bool true)], args := [d1, d2, d3, d4] }
  | _ => none }
def symMarksRow : OpenClaim := { program := "ytbfcdlfjlailjaa", sum := "5e7d576a7d00709901fcaad7531e9eda2353bed59bae16b0efd9e2272f335f36", func := "compeer/compeerlaw07.SymMarks", spec := "symMarks", plainKeys := false, apart := false }
def SymMarksSaid : Prop := symMarksRow.holds Try.pinned (OpenSpec.ofChange symMarksSpec)

/-- ITS FALSE NEIGHBOUR: 'it returns false'. Refute it at one input. -/
def symMarksWrong : ChangeSpec := { name := "symMarks", fn := fun _ => fun
  | [d1, d2, d3, d4] => { results := [.lit (.bool false)], args := [d1, d2, d3, d4] }
  | _ => none }
def SymMarksWrongFalsely : Prop := symMarksRow.holds Try.pinned (OpenSpec.ofChange symMarksWrong)

/-- 'compeerlaw07.SymAgain': WHATEVER THE INPUT: true; the input reads as it did. -/
def symAgainSpec : ChangeSpec := { name := "symAgain", fn := fun _ => fun
  | [d1, d2, d3, d4, d5] => { results := [.lit (.bool true)], args := [d1, d2, d3, d4, d5] }
  | _ => none }
def symAgainRow : OpenClaim := { program := "ytbfcdlfjlailjaa", sum := "5e7d576a7d00709901fcaad7531e9eda2353bed59bae16b0efd9e2272f335f36", func := "compeer/compeerlaw07.SymAgain", spec := "symAgain", unfollowed := true, recurses := true, plainKeys := false, apart := false }
def SymAgainSaid : Prop := symAgainRow.holds Try.pinned (OpenSpec.ofChange symAgainSpec)

/-- ITS FALSE NEIGHBOUR: 'it returns false'. Refute it at one input. -/
def symAgainWrong : ChangeSpec := { name := "symAgain", fn := fun _ => fun
  | [d1, d2, d3, d4, d5] => { results := [.lit (.bool false)], args := [d1, d2, d3, d4, d5] }
  | _ => none }
def SymAgainWrongFalsely : Prop := symAgainRow.holds Try.pinned (OpenSpec.ofChange symAgainWrong)

/-- 'compeerlaw08.KnowsCloses': WHATEVER THE INPUT: true; the input reads as it did. -/
def knowsClosesSpec : ChangeSpec := { name := "knowsCloses", fn := fun _ => fun
  | [d] => { results := [.lit (.bool true)], args := [d] }
  | _ => none }
def knowsClosesRow : OpenClaim := { program := "ytbfcdlfjlailjaa", sum := "5e7d576a7d00709901fcaad7531e9eda2353bed59bae16b0efd9e2272f335f36", func := "compeer/compeerlaw08.KnowsCloses", spec := "knowsCloses", inPlace := ["internal/bytealg.IndexByte", "internal/bytealg.Index", "internal/bytealg.Compare"], unfollowed := true, recurses := true, named := ["internal/bytealg.MaxLen"], plainKeys := false, apart := false }
def KnowsClosesSaid : Prop := knowsClosesRow.holds Try.pinned (OpenSpec.ofChange knowsClosesSpec)

/-- ITS FALSE NEIGHBOUR: 'it returns false'. Refute it at one input. -/
def knowsClosesWrong : ChangeSpec := { name := "knowsCloses", fn := fun _ => fun
  | [d] => { results := [.lit (.bool false)], args := [d] }
  | _ => none }
def KnowsClosesWrongFalsely : Prop := knowsClosesRow.holds Try.pinned (OpenSpec.ofChange knowsClosesWrong)

/-- 'compeerlaw08.KnowsMore': WHATEVER THE INPUT: true; the input reads as it did. -/
def knowsMoreSpec : ChangeSpec := { name := "knowsMore", fn := fun _ => fun
  | [d] => { results := [.lit (.bool true)], args := [d] }
  | _ => none }
def knowsMoreRow : OpenClaim := { program := "ytbfcdlfjlailjaa", sum := "5e7d576a7d00709901fcaad7531e9eda2353bed59bae16b0efd9e2272f335f36", func := "compeer/compeerlaw08.KnowsMore", spec := "knowsMore", inPlace := ["internal/bytealg.IndexByte", "internal/bytealg.Index", "internal/bytealg.Compare"], unfollowed := true, recurses := true, named := ["internal/bytealg.MaxLen"], plainKeys := false, apart := false }
def KnowsMoreSaid : Prop := knowsMoreRow.holds Try.pinned (OpenSpec.ofChange knowsMoreSpec)

/-- ITS FALSE NEIGHBOUR: 'it returns false'. Refute it at one input. -/
def knowsMoreWrong : ChangeSpec := { name := "knowsMore", fn := fun _ => fun
  | [d] => { results := [.lit (.bool false)], args := [d] }
  | _ => none }
def KnowsMoreWrongFalsely : Prop := knowsMoreRow.holds Try.pinned (OpenSpec.ofChange knowsMoreWrong)

/-- 'compeerlaw08.KnowsLate': WHATEVER THE INPUT: true; the input reads as it did. -/
def knowsLateSpec : ChangeSpec := { name := "knowsLate", fn := fun _ => fun
  | [d1, d2] => { results := [.lit (.bool true)], args := [d1, d2] }
  | _ => none }
def knowsLateRow : OpenClaim := { program := "ytbfcdlfjlailjaa", sum := "5e7d576a7d00709901fcaad7531e9eda2353bed59bae16b0efd9e2272f335f36", func := "compeer/compeerlaw08.KnowsLate", spec := "knowsLate", inPlace := ["internal/bytealg.IndexByte", "internal/bytealg.Index", "internal/bytealg.Compare"], unfollowed := true, recurses := true, named := ["internal/bytealg.MaxLen"], plainKeys := false, apart := false }
def KnowsLateSaid : Prop := knowsLateRow.holds Try.pinned (OpenSpec.ofChange knowsLateSpec)

/-- ITS FALSE NEIGHBOUR: 'it returns false'. Refute it at one input. -/
def knowsLateWrong : ChangeSpec := { name := "knowsLate", fn := fun _ => fun
  | [d1, d2] => { results := [.lit (.bool false)], args := [d1, d2] }
  | _ => none }
def KnowsLateWrongFalsely : Prop := knowsLateRow.holds Try.pinned (OpenSpec.ofChange knowsLateWrong)

/- THE SECOND FORM. 'bulk': how many values and letters a reading holds, each counted each time it is reached (what is shared counts as often as it is met; a slice's spare places count too). A statement '..UptoSaid' is the law's where the arguments, and the package variables that the reading takes, are together of bulk at most 1048576: NARROWER than '..Said'. Prove '..Said' where nothing that the law and all that it calls make is longer than what came in: it says more and counts as full. Else prove '..UptoSaid'. A law counts once. -/
mutual
def uptoBulk {H : Type} : DataW H → Nat
  | .lit (.string bytes) => bytes.length + 1
  | .lit _ => 1
  | .nil => 1
  | .ptr d => uptoBulk d + 1
  | .slice elems spare => uptoBulkAll elems + uptoBulkAll spare + 1
  | .agg parts => uptoBulkAll parts + 1
  | .iface _ d => uptoBulk d + 1
  | .map entries => uptoBulkEntries entries + 1
  | .held _ => 1
def uptoBulkAll {H : Type} : List (DataW H) → Nat
  | [] => 0
  | d :: r => uptoBulk d + uptoBulkAll r
def uptoBulkEntries {H : Type} : List (Lit × DataW H) → Nat
  | [] => 0
  | x :: r => uptoBulkEntry x + uptoBulkEntries r
def uptoBulkEntry {H : Type} : Lit × DataW H → Nat
  | (.string bytes, d) => bytes.length + uptoBulk d + 1
  | (_, d) => uptoBulk d + 1
 end
def uptoSmall : (H : Type) → List (DataW H) → Bool := fun _ ds => decide (uptoBulkAll ds ≤ 1048576)
def OpenSpec.upto (s : _root_.Go.ChangeSpec) : _root_.Go.OpenSpec := { _root_.Go.OpenSpec.ofChange s with cond := some uptoSmall }

/-- 'compeerlaw07.SymPlays', WHERE WHAT IT READS IS OF BULK AT MOST 1048576: true; the input reads as it did. -/
def symPlaysUptoRow : OpenClaim := { program := "ytbfcdlfjlailjaa", sum := "5e7d576a7d00709901fcaad7531e9eda2353bed59bae16b0efd9e2272f335f36", func := "compeer/compeerlaw07.SymPlays", spec := "symPlays", unfollowed := true, recurses := true, plainKeys := false, apart := false, narrowed := true }
def SymPlaysUptoSaid : Prop := symPlaysUptoRow.holds Try.pinned (OpenSpec.upto symPlaysSpec)

/-- 'compeerlaw07.SymMarks', WHERE WHAT IT READS IS OF BULK AT MOST 1048576: true; the input reads as it did. -/
def symMarksUptoRow : OpenClaim := { program := "ytbfcdlfjlailjaa", sum := "5e7d576a7d00709901fcaad7531e9eda2353bed59bae16b0efd9e2272f335f36", func := "compeer/compeerlaw07.SymMarks", spec := "symMarks", plainKeys := false, apart := false, narrowed := true }
def SymMarksUptoSaid : Prop := symMarksUptoRow.holds Try.pinned (OpenSpec.upto symMarksSpec)

/-- 'compeerlaw07.SymAgain', WHERE WHAT IT READS IS OF BULK AT MOST 1048576: true; the input reads as it did. -/
def symAgainUptoRow : OpenClaim := { program := "ytbfcdlfjlailjaa", sum := "5e7d576a7d00709901fcaad7531e9eda2353bed59bae16b0efd9e2272f335f36", func := "compeer/compeerlaw07.SymAgain", spec := "symAgain", unfollowed := true, recurses := true, plainKeys := false, apart := false, narrowed := true }
def SymAgainUptoSaid : Prop := symAgainUptoRow.holds Try.pinned (OpenSpec.upto symAgainSpec)

/-- 'compeerlaw08.KnowsCloses', WHERE WHAT IT READS IS OF BULK AT MOST 1048576: true; the input reads as it did. -/
def knowsClosesUptoRow : OpenClaim := { program := "ytbfcdlfjlailjaa", sum := "5e7d576a7d00709901fcaad7531e9eda2353bed59bae16b0efd9e2272f335f36", func := "compeer/compeerlaw08.KnowsCloses", spec := "knowsCloses", inPlace := ["internal/bytealg.IndexByte", "internal/bytealg.Index", "internal/bytealg.Compare"], unfollowed := true, recurses := true, named := ["internal/bytealg.MaxLen"], plainKeys := false, apart := false, narrowed := true }
def KnowsClosesUptoSaid : Prop := knowsClosesUptoRow.holds Try.pinned (OpenSpec.upto knowsClosesSpec)

/-- 'compeerlaw08.KnowsMore', WHERE WHAT IT READS IS OF BULK AT MOST 1048576: true; the input reads as it did. -/
def knowsMoreUptoRow : OpenClaim := { program := "ytbfcdlfjlailjaa", sum := "5e7d576a7d00709901fcaad7531e9eda2353bed59bae16b0efd9e2272f335f36", func := "compeer/compeerlaw08.KnowsMore", spec := "knowsMore", inPlace := ["internal/bytealg.IndexByte", "internal/bytealg.Index", "internal/bytealg.Compare"], unfollowed := true, recurses := true, named := ["internal/bytealg.MaxLen"], plainKeys := false, apart := false, narrowed := true }
def KnowsMoreUptoSaid : Prop := knowsMoreUptoRow.holds Try.pinned (OpenSpec.upto knowsMoreSpec)

/-- 'compeerlaw08.KnowsLate', WHERE WHAT IT READS IS OF BULK AT MOST 1048576: true; the input reads as it did. -/
def knowsLateUptoRow : OpenClaim := { program := "ytbfcdlfjlailjaa", sum := "5e7d576a7d00709901fcaad7531e9eda2353bed59bae16b0efd9e2272f335f36", func := "compeer/compeerlaw08.KnowsLate", spec := "knowsLate", inPlace := ["internal/bytealg.IndexByte", "internal/bytealg.Index", "internal/bytealg.Compare"], unfollowed := true, recurses := true, named := ["internal/bytealg.MaxLen"], plainKeys := false, apart := false, narrowed := true }
def KnowsLateUptoSaid : Prop := knowsLateUptoRow.holds Try.pinned (OpenSpec.upto knowsLateSpec)

end Rows
end Go.Proofs.Ytbfcdlfjlailjaa
