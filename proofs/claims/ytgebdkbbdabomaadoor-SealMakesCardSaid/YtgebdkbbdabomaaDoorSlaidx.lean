/-
  THE LAID TABLE of a tied card, as the walks take it.
-/
import Derived.Test.YtgebdkbbdabomaaDoorRows
import Derived.Test.YtgebdkbbdabomaaDoorSham
import Derived.Lib.LaidTab
import Derived.MakeChecks
import Derived.LaidMore
import Derived.Lay
namespace Go.Proofs.YtgebdkbbdabomaaDoor.Sha
open Go.RowKit
open Go.Proofs.YtgebdkbbdabomaaDoor.Kit
set_option linter.unusedVariables false

def rootsZ : List Int := shaK.map fun x => (x.toNat : Int)
def laidL : List (String × DataW Unit) := [("compeer/sha.roots", Rows.laid_compeer_sha_roots)]
theorem laidL_eq : laidL = [("compeer/sha.roots", Lib.tabData .u32 rootsZ)] := rfl
theorem roots_of {W : World} (h : laidMetH Tryd.prog laidL W) : Roots W := by
  rw [MakeChecks.laidMetH_plain _ _ _ (by kernel_rfl), laidL_eq] at h
  have hg : Tryd.prog.globalNamed "compeer/sha.roots" = some 0 := by kernel_rfl
  have ht := Lib.tabIs_of_head (g := 0) (t := 91) (e := 63) (n := 64) hg (by kernel_rfl) Tryd.underlying91 Tryd.underlying63 (by kernel_rfl) (by kernel_rfl) h
  intro i hi
  have hl : shaK.length = 64 := rfl
  rw [ht.cell hg i (by rw [rootsZ, List.length_map, hl]; exact hi)]
  rw [rootsZ, wd, List.getD_eq_getElem?_getD, List.getD_eq_getElem?_getD, List.getElem?_map, List.getElem?_eq_getElem (by rw [hl]; exact hi)]
  rfl
end Go.Proofs.YtgebdkbbdabomaaDoor.Sha

/-
  THE FOUR LAID TABLES of seal's cards, as the walks take them.
-/
namespace Go.Proofs.YtgebdkbbdabomaaDoor.Sha
open Go.RowKit
open Go.Proofs.YtgebdkbbdabomaaDoor.Kit
set_option linter.unusedVariables false

theorem laidMet_tail {P : Program} {W : World} {x : String × DataW Unit} {l : List (String × DataW Unit)} (h : laidMet P (x :: l) W) : laidMet P l W := by
  obtain ⟨ps, ⟨g, t, cs, fuel, p, q, hg, ht, hvar, hd, hr, e⟩, hnd, hcell⟩ := h
  refine ⟨q, hr, ?_, fun b off hq => hcell b off (by rw [e]; exact List.mem_append_right _ hq)⟩
  rw [e] at hnd
  exact (List.nodup_append.1 hnd).2.1
def laidL4 : List (String × DataW Unit) := [("math/bits.deBruijn32tab", Rows.laid_math_bits_deBruijn32tab), ("math/bits.deBruijn64tab", Rows.laid_math_bits_deBruijn64tab), ("compeer/sha.roots", Rows.laid_compeer_sha_roots), ("internal/strconv.uint64pow10", Rows.laid_internal_strconv_uint64pow10)]
theorem laidL4_eq : laidL4 = [("math/bits.deBruijn32tab", Rows.laid_math_bits_deBruijn32tab), ("math/bits.deBruijn64tab", Rows.laid_math_bits_deBruijn64tab), ("compeer/sha.roots", Lib.tabData .u32 rootsZ), ("internal/strconv.uint64pow10", Rows.laid_internal_strconv_uint64pow10)] := rfl
theorem roots_of4 {W : World} (h : laidMetH Tryd.prog laidL4 W) : Roots W := by
  rw [MakeChecks.laidMetH_plain _ _ _ (by kernel_rfl), laidL4_eq] at h
  have h2 := laidMet_tail (laidMet_tail h)
  have hg : Tryd.prog.globalNamed "compeer/sha.roots" = some 0 := by kernel_rfl
  have ht := Lib.tabIs_of_head (g := 0) (t := 91) (e := 63) (n := 64) hg (by kernel_rfl) Tryd.underlying91 Tryd.underlying63 (by kernel_rfl) (by kernel_rfl) h2
  intro i hi
  have hl : shaK.length = 64 := rfl
  rw [ht.cell hg i (by rw [rootsZ, List.length_map, hl]; exact hi)]
  rw [rootsZ, wd, List.getD_eq_getElem?_getD, List.getD_eq_getElem?_getD, List.getElem?_map, List.getElem?_eq_getElem (by rw [hl]; exact hi)]
  rfl
end Go.Proofs.YtgebdkbbdabomaaDoor.Sha
