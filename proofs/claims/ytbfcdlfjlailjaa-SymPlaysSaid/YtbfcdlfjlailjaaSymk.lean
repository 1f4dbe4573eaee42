/-
  sym's Keys and Boxes.
-/
import Derived.Test.YtbfcdlfjlailjaaSymo
namespace Go.Proofs.Ytbfcdlfjlailjaa.Sym
open Go.RowKit
open Go.Proofs.Ytbfcdlfjlailjaa.Kit
open Go.Proofs.Ytbfcdlfjlailjaa.Oct
set_option linter.unusedVariables false

theorem keys_any {tb : Nat} {L : Lay} {O S : Nat → Prop} {T : Tab} {w : World} (h : TabAt w tb L O S T) :
    Calls Try.prog 20 #[.pointer (some ⟨tb, 0, none⟩)] w fun e w' => e = .returned (.int .i64 T.ks.length) ∧ w = w' := by
  have hc : w.cell? ⟨tb, 0, none⟩ = some (.slice L.A1 T.ks.length L.c1) := (cell_of_row w tb 0 _ _ (0, 0) h.box).trans rfl
  clear h
  go_enter Try.func20, Try.ntmps20
  go_wp2
  go_ret
  exact ⟨rfl, rfl⟩
theorem boxes_any {tb : Nat} {L : Lay} {O S : Nat → Prop} {T : Tab} {w : World} (h : TabAt w tb L O S T) :
    Calls Try.prog 21 #[.pointer (some ⟨tb, 0, none⟩)] w fun e w' => e = .returned (.int .i64 T.bs.length) ∧ w = w' := by
  have hc : w.cell? ⟨tb, 1, none⟩ = some (.slice L.A2 T.bs.length L.c2) := (cell_of_row w tb 1 _ _ (0, 0) h.box).trans rfl
  clear h
  go_enter Try.func21, Try.ntmps21
  go_wp2
  go_ret
  exact ⟨rfl, rfl⟩
end Go.Proofs.Ytbfcdlfjlailjaa.Sym
