/-
  THE CONTRACTS of octet.Key, Zero and Joined.
-/
import Derived.Test.YtcgkjcfckbplmaaOctb
import Derived.Lib.SliceRun
import Derived.Laws.CopyOwn
import Derived.Laws.ResultCell
namespace Go.Proofs.Ytcgkjcfckbplmaa.Oct
open Go.RowKit
open Go.Proofs.Ytcgkjcfckbplmaa.Kit
set_option linter.unusedVariables false

def zero16 : Value := .agg (Array.replicate 16 (.int .u8 0))
theorem key_no (A : Option Addr) (n c : Nat) (w : World) (h : n ≠ 16) (hm : n ≤ 9223372036854775807) :
    Calls Try.prog 48 #[.slice A n c] w fun e w' => e = .returned (.tuple #[zero16, .bool false]) ∧ Below w.heap.size w w' := by
  have h1 : ((n : Int) != 16) = true := by simp; omega
  go_enter Try.func48, Try.ntmps48
  go_wp2
  refine bodyPost_ret (v := .tuple #[zero16, .bool false]) (by simp [results, Try.results48, go_sem]; rfl) rfl ⟨rfl, ?_⟩
  exact ((Below.refl _ _).alloc (Nat.le_refl _) _).alloc (by simp) _
end Go.Proofs.Ytcgkjcfckbplmaa.Oct
