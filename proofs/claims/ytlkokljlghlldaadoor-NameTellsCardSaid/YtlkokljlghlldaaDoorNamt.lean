/-
  The walk of NameRunes.
-/
import Derived.Test.YtlkokljlghlldaaDoorNams
namespace Go.Proofs.YtlkokljlghlldaaDoor.Nam
open Go.RowKit
open Go.Proofs.YtlkokljlghlldaaDoor.Kit
set_option linter.unusedVariables false

set_option maxRecDepth 100000 in
set_option maxHeartbeats 2000000 in
/-- the document's Letter -/
theorem refLetter_any (x k : Int) (hx : -2147483648 ≤ x ∧ x ≤ 2000000000) (hk : 0 ≤ k ∧ k ≤ 32) (w : World) : Calls Tryd.prog 16 #[.int .i64 x, .int .i64 k] w fun e w' => e = .returned (.bool (letN (x + k))) ∧ w = w' := by
  obtain ⟨r, hr⟩ : ∃ r, r = x + k := ⟨_, rfl⟩
  rw [← hr]
  rcases (by omega : r < 97 ∨ (97 ≤ r ∧ r ≤ 122) ∨ (122 < r ∧ r < 224) ∨ (224 ≤ r ∧ r ≤ 246) ∨ (r = 247) ∨ (248 ≤ r ∧ r ≤ 254) ∨ (254 < r ∧ r < 945) ∨ (945 ≤ r ∧ r ≤ 961) ∨ r = 962 ∨ (963 ≤ r ∧ r ≤ 969) ∨ (969 < r ∧ r < 1072) ∨ (1072 ≤ r ∧ r ≤ 1103) ∨ 1103 < r) with h | h | h | h | h | h | h | h | h | h | h | h | h
  all_goals
    first | have t1 : decide ((97 : Int) ≤ r) = true := decide_eq_true (by omega) | have t1 : decide ((97 : Int) ≤ r) = false := decide_eq_false (by omega)
    first | have t2 : decide (r ≤ (122 : Int)) = true := decide_eq_true (by omega) | have t2 : decide (r ≤ (122 : Int)) = false := decide_eq_false (by omega)
    first | have t3 : decide ((224 : Int) ≤ r) = true := decide_eq_true (by omega) | have t3 : decide ((224 : Int) ≤ r) = false := decide_eq_false (by omega)
    first | have t4 : decide (r ≤ (246 : Int)) = true := decide_eq_true (by omega) | have t4 : decide (r ≤ (246 : Int)) = false := decide_eq_false (by omega)
    first | have t5 : decide ((248 : Int) ≤ r) = true := decide_eq_true (by omega) | have t5 : decide ((248 : Int) ≤ r) = false := decide_eq_false (by omega)
    first | have t6 : decide (r ≤ (254 : Int)) = true := decide_eq_true (by omega) | have t6 : decide (r ≤ (254 : Int)) = false := decide_eq_false (by omega)
    first | have t7 : decide ((945 : Int) ≤ r) = true := decide_eq_true (by omega) | have t7 : decide ((945 : Int) ≤ r) = false := decide_eq_false (by omega)
    first | have t8 : decide (r ≤ (961 : Int)) = true := decide_eq_true (by omega) | have t8 : decide (r ≤ (961 : Int)) = false := decide_eq_false (by omega)
    first | have t9 : decide ((963 : Int) ≤ r) = true := decide_eq_true (by omega) | have t9 : decide ((963 : Int) ≤ r) = false := decide_eq_false (by omega)
    first | have ta : decide (r ≤ (969 : Int)) = true := decide_eq_true (by omega) | have ta : decide (r ≤ (969 : Int)) = false := decide_eq_false (by omega)
    first | have tb : decide ((1072 : Int) ≤ r) = true := decide_eq_true (by omega) | have tb : decide ((1072 : Int) ≤ r) = false := decide_eq_false (by omega)
    first | have tc : decide (r ≤ (1103 : Int)) = true := decide_eq_true (by omega) | have tc : decide (r ≤ (1103 : Int)) = false := decide_eq_false (by omega)
    first | have hv : letN r = true := by (simp [letN]; omega) | have hv : letN r = false := by (simp [letN]; omega)
    rw [hv]
    have hr2 : x + k = r := hr.symm
    clear hr
    go_enter Tryd.func16, Tryd.ntmps16
    go_wp2
    go_ret
    exact ⟨rfl, rfl⟩
theorem and17 (a : Int) : ∃ t : Nat, t ≤ 131071 ∧ bits .and .i64 a 131071 = t := by
  have hle : (BitVec.ofInt 64 a &&& BitVec.ofInt 64 131071).toNat ≤ 131071 := by
    rw [BitVec.toNat_and]
    exact Nat.le_trans Nat.and_le_right (by decide)
  refine ⟨(BitVec.ofInt 64 a &&& BitVec.ofInt 64 131071).toNat, hle, ?_⟩
  show IntKind.i64.wrap ((BitVec.ofInt 64 a &&& BitVec.ofInt 64 131071).toNat : Int) = _
  rw [IntKind.wrap_i64]
  omega

set_option maxRecDepth 100000 in
set_option maxHeartbeats 4000000 in
theorem runes_walk (r : Int) (w : World) (hr : -9223372036854775808 ≤ r ∧ r ≤ 9223372036854775807) (hM : MaxL w) : Calls Tryd.prog 4 #[.int .i64 r] w fun e w' => e = .returned (.bool true) ∧ Below w.heap.size w w' := by
  obtain ⟨t, ht, hb⟩ := and17 r
  have hwt : wrap32 (t : Int) = (t : Int) := by unfold wrap32; omega
  go_enter Tryd.func4, Tryd.ntmps4
  go_wp2_with fail
  refine (alive9_any w hM).mono ?_
  rintro e w1 ⟨rfl, hb1⟩
  have HB := Lib.hid hb1
  clear hb1
  go_wp2_with fail
  refine (letter_any (t : Int) (by omega) (by omega) w1).mono ?_
  rintro e w2 ⟨rfl, rfl⟩
  go_wp2_with fail
  refine (refLetter_any (t : Int) 0 (by omega) (by omega) w1).mono ?_
  rintro e w2 ⟨rfl, rfl⟩
  rw [Int.add_zero]
  have e1 : (letN (t : Int) == letN (t : Int)) = true := by simp
  have e2 : (bigN (t : Int) == letN ((t : Int) + 32)) = true := by simp [bigN]
  go_wp2_with fail
  refine (big_any (t : Int) (by omega) (by omega) w1).mono ?_
  rintro e w2 ⟨rfl, rfl⟩
  go_wp2_with fail
  refine (refLetter_any (t : Int) 32 (by omega) (by omega) w1).mono ?_
  rintro e w2 ⟨rfl, rfl⟩
  go_wp2_with fail
  go_ret
  exact ⟨rfl, HB.out⟩
end Go.Proofs.YtlkokljlghlldaaDoor.Nam
