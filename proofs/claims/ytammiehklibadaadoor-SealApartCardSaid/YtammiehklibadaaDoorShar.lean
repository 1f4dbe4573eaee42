/-
  THE LAID TABLE of a tied card, as the walks take it.
-/
import Derived.Test.YtammiehklibadaaDoorRows
import Derived.Test.YtammiehklibadaaDoorSham
import Derived.Lib.LaidTab
import Derived.MakeChecks
import Derived.LaidMore
import Derived.Lay
namespace Go.Proofs.YtammiehklibadaaDoor.Sha
open Go.RowKit
open Go.Proofs.YtammiehklibadaaDoor.Kit
set_option linter.unusedVariables false

def rootsZ : List Int := shaK.map fun x => (x.toNat : Int)
def laidL : List (String × DataW Unit) := [("compeer/sha.roots", Rows.laid_compeer_sha_roots)]
theorem laidL_eq : laidL = [("compeer/sha.roots", Lib.tabData .u32 rootsZ)] := rfl
theorem roots_of {W : World} (h : laidMetH Tryd.prog laidL W) : Roots W := by
  rw [MakeChecks.laidMetH_plain _ _ _ (by kernel_rfl), laidL_eq] at h
  have hg : Tryd.prog.globalNamed "compeer/sha.roots" = some 0 := by kernel_rfl
  have ht := Lib.tabIs_of_head (g := 0) (t := 92) (e := 59) (n := 64) hg (by kernel_rfl) Tryd.underlying92 Tryd.underlying59 (by kernel_rfl) (by kernel_rfl) h
  intro i hi
  have hl : shaK.length = 64 := rfl
  rw [ht.cell hg i (by rw [rootsZ, List.length_map, hl]; exact hi)]
  rw [rootsZ, wd, List.getD_eq_getElem?_getD, List.getD_eq_getElem?_getD, List.getElem?_map, List.getElem?_eq_getElem (by rw [hl]; exact hi)]
  rfl
end Go.Proofs.YtammiehklibadaaDoor.Sha
