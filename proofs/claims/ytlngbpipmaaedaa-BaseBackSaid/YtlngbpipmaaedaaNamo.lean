/-
  name's Letter, Big and stands.
-/
import Derived.Test.YtlngbpipmaaedaaNamp
import Derived.Test.YtlngbpipmaaedaaProg
import Derived.WalkKit
import Derived.BigCall
import Derived.Lib.Hide
import Derived.Lib.OthersKept
namespace Go.Proofs.Ytlngbpipmaaedaa.Nam
open Go.RowKit
set_option linter.unusedVariables false

set_option maxRecDepth 100000 in
set_option maxHeartbeats 2000000 in
theorem letter_any (r : Int) (h0 : -2147483648 ≤ r) (h1 : r ≤ 2147483647) (w : World) : Calls Try.prog 37 #[.int .i32 r] w fun e w' => e = .returned (.bool (letN r)) ∧ w = w' := by
  rcases (by omega : r < 97 ∨ (97 ≤ r ∧ r ≤ 122) ∨ (122 < r ∧ r < 224) ∨ (224 ≤ r ∧ r ≤ 246) ∨ (r = 247) ∨ (248 ≤ r ∧ r ≤ 254) ∨ (254 < r ∧ r < 945) ∨ (945 ≤ r ∧ r ≤ 961) ∨ r = 962 ∨ (963 ≤ r ∧ r ≤ 969) ∨ (969 < r ∧ r < 1072) ∨ (1072 ≤ r ∧ r ≤ 1103) ∨ 1103 < r) with h | h | h | h | h | h | h | h | h | h | h | h | h
  all_goals
    first | have t1 : decide ((97 : Int) ≤ r) = true := decide_eq_true (by omega) | have t1 : decide ((97 : Int) ≤ r) = false := decide_eq_false (by omega)
    first | have t2 : decide (r ≤ (122 : Int)) = true := decide_eq_true (by omega) | have t2 : decide (r ≤ (122 : Int)) = false := decide_eq_false (by omega)
    first | have t3 : decide ((224 : Int) ≤ r) = true := decide_eq_true (by omega) | have t3 : decide ((224 : Int) ≤ r) = false := decide_eq_false (by omega)
    first | have t4 : decide (r ≤ (254 : Int)) = true := decide_eq_true (by omega) | have t4 : decide (r ≤ (254 : Int)) = false := decide_eq_false (by omega)
    first | have t5 : decide ((945 : Int) ≤ r) = true := decide_eq_true (by omega) | have t5 : decide ((945 : Int) ≤ r) = false := decide_eq_false (by omega)
    first | have t6 : decide (r ≤ (969 : Int)) = true := decide_eq_true (by omega) | have t6 : decide (r ≤ (969 : Int)) = false := decide_eq_false (by omega)
    first | have t7 : decide ((1072 : Int) ≤ r) = true := decide_eq_true (by omega) | have t7 : decide ((1072 : Int) ≤ r) = false := decide_eq_false (by omega)
    first | have t8 : decide (r ≤ (1103 : Int)) = true := decide_eq_true (by omega) | have t8 : decide (r ≤ (1103 : Int)) = false := decide_eq_false (by omega)
    have n1 : (r != 247) = decide (r ≠ 247) := by rw [Bool.eq_iff_iff]; simp
    have n2 : (r != 962) = decide (r ≠ 962) := by rw [Bool.eq_iff_iff]; simp
    first | rw [decide_eq_true (show r ≠ 247 by omega)] at n1 | rw [decide_eq_false (show ¬ r ≠ 247 by omega)] at n1
    first | rw [decide_eq_true (show r ≠ 962 by omega)] at n2 | rw [decide_eq_false (show ¬ r ≠ 962 by omega)] at n2
    first | have hv : letN r = true := by (simp [letN]; omega) | have hv : letN r = false := by (simp [letN]; omega)
    rw [hv]
    go_enter Try.func37, Try.ntmps37
    go_wp2
    go_ret
    exact ⟨rfl, rfl⟩
end Go.Proofs.Ytlngbpipmaaedaa.Nam
