/-
  THE CONTRACTS of sha's small functions of words.
-/
import Derived.Test.YtgebdkbbdabomaaDoorOctm
import Derived.Test.YtgebdkbbdabomaaDoorWord
import Derived.Outline
namespace Go.Proofs.YtgebdkbbdabomaaDoor.Sha
open Go.RowKit
open Go.Proofs.YtgebdkbbdabomaaDoor.Kit
open Go.Proofs.YtgebdkbbdabomaaDoor.Oct
set_option linter.unusedVariables false

attribute [local go_sem] w_xor w_and w_or w_add w_not
theorem ret_w {a b : Int} (h : a = b) : Ending.returned (.int .u32 a) = .returned (.int .u32 b) := by rw [h]
theorem rot_2 (x : UInt32) (w : World) :
    Calls Tryd.prog 86 #[.int .u32 (wi x), .int .i64 (-2)] w fun e w' => e = .returned (.int .u32 (wi (rotr x 2))) ∧ w = w' := by
  have hx := wi_lt x
  have hk : bits .and .u64 (IntKind.u64.wrap (-2)) 31 = 30 := by decide
  go_enter Tryd.func86, Tryd.ntmps86
  go_wp2
  go_ret
  exact ⟨ret_w (rotr_or x 2 30 _ _ (by decide) (by decide) (by decide) (by decide) (by decide)), rfl⟩
theorem right_2 (x : UInt32) (w : World) :
    Calls Tryd.prog 80 #[.int .u32 (wi x), .int .i64 2] w fun e w' => e = .returned (.int .u32 (wi (rotr x 2))) ∧ w = w' := by
  have hx := wi_lt x
  go_enter Tryd.func80, Tryd.ntmps80
  go_wp2_with fail
  refine (rot_2 x _).mono ?_
  rintro e w' ⟨rfl, rfl⟩
  go_wp2
  go_ret
  exact ⟨rfl, rfl⟩
theorem rot_6 (x : UInt32) (w : World) :
    Calls Tryd.prog 86 #[.int .u32 (wi x), .int .i64 (-6)] w fun e w' => e = .returned (.int .u32 (wi (rotr x 6))) ∧ w = w' := by
  have hx := wi_lt x
  have hk : bits .and .u64 (IntKind.u64.wrap (-6)) 31 = 26 := by decide
  go_enter Tryd.func86, Tryd.ntmps86
  go_wp2
  go_ret
  exact ⟨ret_w (rotr_or x 6 26 _ _ (by decide) (by decide) (by decide) (by decide) (by decide)), rfl⟩
theorem right_6 (x : UInt32) (w : World) :
    Calls Tryd.prog 80 #[.int .u32 (wi x), .int .i64 6] w fun e w' => e = .returned (.int .u32 (wi (rotr x 6))) ∧ w = w' := by
  have hx := wi_lt x
  go_enter Tryd.func80, Tryd.ntmps80
  go_wp2_with fail
  refine (rot_6 x _).mono ?_
  rintro e w' ⟨rfl, rfl⟩
  go_wp2
  go_ret
  exact ⟨rfl, rfl⟩
theorem rot_7 (x : UInt32) (w : World) :
    Calls Tryd.prog 86 #[.int .u32 (wi x), .int .i64 (-7)] w fun e w' => e = .returned (.int .u32 (wi (rotr x 7))) ∧ w = w' := by
  have hx := wi_lt x
  have hk : bits .and .u64 (IntKind.u64.wrap (-7)) 31 = 25 := by decide
  go_enter Tryd.func86, Tryd.ntmps86
  go_wp2
  go_ret
  exact ⟨ret_w (rotr_or x 7 25 _ _ (by decide) (by decide) (by decide) (by decide) (by decide)), rfl⟩
theorem right_7 (x : UInt32) (w : World) :
    Calls Tryd.prog 80 #[.int .u32 (wi x), .int .i64 7] w fun e w' => e = .returned (.int .u32 (wi (rotr x 7))) ∧ w = w' := by
  have hx := wi_lt x
  go_enter Tryd.func80, Tryd.ntmps80
  go_wp2_with fail
  refine (rot_7 x _).mono ?_
  rintro e w' ⟨rfl, rfl⟩
  go_wp2
  go_ret
  exact ⟨rfl, rfl⟩
theorem rot_11 (x : UInt32) (w : World) :
    Calls Tryd.prog 86 #[.int .u32 (wi x), .int .i64 (-11)] w fun e w' => e = .returned (.int .u32 (wi (rotr x 11))) ∧ w = w' := by
  have hx := wi_lt x
  have hk : bits .and .u64 (IntKind.u64.wrap (-11)) 31 = 21 := by decide
  go_enter Tryd.func86, Tryd.ntmps86
  go_wp2
  go_ret
  exact ⟨ret_w (rotr_or x 11 21 _ _ (by decide) (by decide) (by decide) (by decide) (by decide)), rfl⟩
theorem right_11 (x : UInt32) (w : World) :
    Calls Tryd.prog 80 #[.int .u32 (wi x), .int .i64 11] w fun e w' => e = .returned (.int .u32 (wi (rotr x 11))) ∧ w = w' := by
  have hx := wi_lt x
  go_enter Tryd.func80, Tryd.ntmps80
  go_wp2_with fail
  refine (rot_11 x _).mono ?_
  rintro e w' ⟨rfl, rfl⟩
  go_wp2
  go_ret
  exact ⟨rfl, rfl⟩
theorem rot_13 (x : UInt32) (w : World) :
    Calls Tryd.prog 86 #[.int .u32 (wi x), .int .i64 (-13)] w fun e w' => e = .returned (.int .u32 (wi (rotr x 13))) ∧ w = w' := by
  have hx := wi_lt x
  have hk : bits .and .u64 (IntKind.u64.wrap (-13)) 31 = 19 := by decide
  go_enter Tryd.func86, Tryd.ntmps86
  go_wp2
  go_ret
  exact ⟨ret_w (rotr_or x 13 19 _ _ (by decide) (by decide) (by decide) (by decide) (by decide)), rfl⟩
theorem right_13 (x : UInt32) (w : World) :
    Calls Tryd.prog 80 #[.int .u32 (wi x), .int .i64 13] w fun e w' => e = .returned (.int .u32 (wi (rotr x 13))) ∧ w = w' := by
  have hx := wi_lt x
  go_enter Tryd.func80, Tryd.ntmps80
  go_wp2_with fail
  refine (rot_13 x _).mono ?_
  rintro e w' ⟨rfl, rfl⟩
  go_wp2
  go_ret
  exact ⟨rfl, rfl⟩
theorem rot_17 (x : UInt32) (w : World) :
    Calls Tryd.prog 86 #[.int .u32 (wi x), .int .i64 (-17)] w fun e w' => e = .returned (.int .u32 (wi (rotr x 17))) ∧ w = w' := by
  have hx := wi_lt x
  have hk : bits .and .u64 (IntKind.u64.wrap (-17)) 31 = 15 := by decide
  go_enter Tryd.func86, Tryd.ntmps86
  go_wp2
  go_ret
  exact ⟨ret_w (rotr_or x 17 15 _ _ (by decide) (by decide) (by decide) (by decide) (by decide)), rfl⟩
theorem right_17 (x : UInt32) (w : World) :
    Calls Tryd.prog 80 #[.int .u32 (wi x), .int .i64 17] w fun e w' => e = .returned (.int .u32 (wi (rotr x 17))) ∧ w = w' := by
  have hx := wi_lt x
  go_enter Tryd.func80, Tryd.ntmps80
  go_wp2_with fail
  refine (rot_17 x _).mono ?_
  rintro e w' ⟨rfl, rfl⟩
  go_wp2
  go_ret
  exact ⟨rfl, rfl⟩
theorem rot_18 (x : UInt32) (w : World) :
    Calls Tryd.prog 86 #[.int .u32 (wi x), .int .i64 (-18)] w fun e w' => e = .returned (.int .u32 (wi (rotr x 18))) ∧ w = w' := by
  have hx := wi_lt x
  have hk : bits .and .u64 (IntKind.u64.wrap (-18)) 31 = 14 := by decide
  go_enter Tryd.func86, Tryd.ntmps86
  go_wp2
  go_ret
  exact ⟨ret_w (rotr_or x 18 14 _ _ (by decide) (by decide) (by decide) (by decide) (by decide)), rfl⟩
theorem right_18 (x : UInt32) (w : World) :
    Calls Tryd.prog 80 #[.int .u32 (wi x), .int .i64 18] w fun e w' => e = .returned (.int .u32 (wi (rotr x 18))) ∧ w = w' := by
  have hx := wi_lt x
  go_enter Tryd.func80, Tryd.ntmps80
  go_wp2_with fail
  refine (rot_18 x _).mono ?_
  rintro e w' ⟨rfl, rfl⟩
  go_wp2
  go_ret
  exact ⟨rfl, rfl⟩
theorem rot_19 (x : UInt32) (w : World) :
    Calls Tryd.prog 86 #[.int .u32 (wi x), .int .i64 (-19)] w fun e w' => e = .returned (.int .u32 (wi (rotr x 19))) ∧ w = w' := by
  have hx := wi_lt x
  have hk : bits .and .u64 (IntKind.u64.wrap (-19)) 31 = 13 := by decide
  go_enter Tryd.func86, Tryd.ntmps86
  go_wp2
  go_ret
  exact ⟨ret_w (rotr_or x 19 13 _ _ (by decide) (by decide) (by decide) (by decide) (by decide)), rfl⟩
theorem right_19 (x : UInt32) (w : World) :
    Calls Tryd.prog 80 #[.int .u32 (wi x), .int .i64 19] w fun e w' => e = .returned (.int .u32 (wi (rotr x 19))) ∧ w = w' := by
  have hx := wi_lt x
  go_enter Tryd.func80, Tryd.ntmps80
  go_wp2_with fail
  refine (rot_19 x _).mono ?_
  rintro e w' ⟨rfl, rfl⟩
  go_wp2
  go_ret
  exact ⟨rfl, rfl⟩
theorem rot_22 (x : UInt32) (w : World) :
    Calls Tryd.prog 86 #[.int .u32 (wi x), .int .i64 (-22)] w fun e w' => e = .returned (.int .u32 (wi (rotr x 22))) ∧ w = w' := by
  have hx := wi_lt x
  have hk : bits .and .u64 (IntKind.u64.wrap (-22)) 31 = 10 := by decide
  go_enter Tryd.func86, Tryd.ntmps86
  go_wp2
  go_ret
  exact ⟨ret_w (rotr_or x 22 10 _ _ (by decide) (by decide) (by decide) (by decide) (by decide)), rfl⟩
theorem right_22 (x : UInt32) (w : World) :
    Calls Tryd.prog 80 #[.int .u32 (wi x), .int .i64 22] w fun e w' => e = .returned (.int .u32 (wi (rotr x 22))) ∧ w = w' := by
  have hx := wi_lt x
  go_enter Tryd.func80, Tryd.ntmps80
  go_wp2_with fail
  refine (rot_22 x _).mono ?_
  rintro e w' ⟨rfl, rfl⟩
  go_wp2
  go_ret
  exact ⟨rfl, rfl⟩
theorem rot_25 (x : UInt32) (w : World) :
    Calls Tryd.prog 86 #[.int .u32 (wi x), .int .i64 (-25)] w fun e w' => e = .returned (.int .u32 (wi (rotr x 25))) ∧ w = w' := by
  have hx := wi_lt x
  have hk : bits .and .u64 (IntKind.u64.wrap (-25)) 31 = 7 := by decide
  go_enter Tryd.func86, Tryd.ntmps86
  go_wp2
  go_ret
  exact ⟨ret_w (rotr_or x 25 7 _ _ (by decide) (by decide) (by decide) (by decide) (by decide)), rfl⟩
theorem right_25 (x : UInt32) (w : World) :
    Calls Tryd.prog 80 #[.int .u32 (wi x), .int .i64 25] w fun e w' => e = .returned (.int .u32 (wi (rotr x 25))) ∧ w = w' := by
  have hx := wi_lt x
  go_enter Tryd.func80, Tryd.ntmps80
  go_wp2_with fail
  refine (rot_25 x _).mono ?_
  rintro e w' ⟨rfl, rfl⟩
  go_wp2
  go_ret
  exact ⟨rfl, rfl⟩
theorem sm0_any (x : UInt32) (w : World) :
    Calls Tryd.prog 78 #[.int .u32 (wi x)] w fun e w' => e = .returned (.int .u32 (wi (sm0 x))) ∧ w = w' := by
  have hx := wi_lt x
  have hs := w_shr x 3 8 (by decide) (by decide)
  go_enter Tryd.func78, Tryd.ntmps78
  go_wp2_with fail
  refine (right_7 x _).mono ?_
  rintro e w' ⟨rfl, rfl⟩
  go_wp2_with fail
  refine (right_18 x _).mono ?_
  rintro e w' ⟨rfl, rfl⟩
  go_wp2
  go_ret
  exact ⟨rfl, rfl⟩
theorem sm1_any (x : UInt32) (w : World) :
    Calls Tryd.prog 79 #[.int .u32 (wi x)] w fun e w' => e = .returned (.int .u32 (wi (sm1 x))) ∧ w = w' := by
  have hx := wi_lt x
  have hs := w_shr x 10 1024 (by decide) (by decide)
  go_enter Tryd.func79, Tryd.ntmps79
  go_wp2_with fail
  refine (right_17 x _).mono ?_
  rintro e w' ⟨rfl, rfl⟩
  go_wp2_with fail
  refine (right_19 x _).mono ?_
  rintro e w' ⟨rfl, rfl⟩
  go_wp2
  go_ret
  exact ⟨rfl, rfl⟩
theorem la0_any (x : UInt32) (w : World) :
    Calls Tryd.prog 65 #[.int .u32 (wi x)] w fun e w' => e = .returned (.int .u32 (wi (la0 x))) ∧ w = w' := by
  have hx := wi_lt x
  go_enter Tryd.func65, Tryd.ntmps65
  go_wp2_with fail
  refine (right_2 x _).mono ?_
  rintro e w' ⟨rfl, rfl⟩
  go_wp2_with fail
  refine (right_13 x _).mono ?_
  rintro e w' ⟨rfl, rfl⟩
  go_wp2_with fail
  refine (right_22 x _).mono ?_
  rintro e w' ⟨rfl, rfl⟩
  go_wp2
  go_ret
  exact ⟨rfl, rfl⟩
theorem la1_any (x : UInt32) (w : World) :
    Calls Tryd.prog 63 #[.int .u32 (wi x)] w fun e w' => e = .returned (.int .u32 (wi (la1 x))) ∧ w = w' := by
  have hx := wi_lt x
  go_enter Tryd.func63, Tryd.ntmps63
  go_wp2_with fail
  refine (right_6 x _).mono ?_
  rintro e w' ⟨rfl, rfl⟩
  go_wp2_with fail
  refine (right_11 x _).mono ?_
  rintro e w' ⟨rfl, rfl⟩
  go_wp2_with fail
  refine (right_25 x _).mono ?_
  rintro e w' ⟨rfl, rfl⟩
  go_wp2
  go_ret
  exact ⟨rfl, rfl⟩
theorem cho_any (a b c : UInt32) (w : World) :
    Calls Tryd.prog 64 #[.int .u32 (wi a), .int .u32 (wi b), .int .u32 (wi c)] w fun e w' => e = .returned (.int .u32 (wi (cho a b c))) ∧ w = w' := by
  have ha := wi_lt a
  have hb := wi_lt b
  have hc := wi_lt c
  have hsg : IntKind.u32.signed = false := rfl
  go_enter Tryd.func64, Tryd.ntmps64
  go_wp2
  go_ret
  exact ⟨rfl, rfl⟩
theorem mst_any (a b c : UInt32) (w : World) :
    Calls Tryd.prog 66 #[.int .u32 (wi a), .int .u32 (wi b), .int .u32 (wi c)] w fun e w' => e = .returned (.int .u32 (wi (mst a b c))) ∧ w = w' := by
  go_enter Tryd.func66, Tryd.ntmps66
  go_wp2
  go_ret
  exact ⟨rfl, rfl⟩
end Go.Proofs.YtgebdkbbdabomaaDoor.Sha
