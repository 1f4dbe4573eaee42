/-
  WORDS OF THIS SEAT'S PROOFS: the order of numbers by their bytes; noughts ahead.
-/
import Derived.Test.YtijhobnnjepfaaaKit2
namespace Go.Proofs.Ytijhobnnjepfaaa.Kit
open Go.RowKit
set_option linter.unusedVariables false

def sgn (a b : Nat) : Int := if a < b then -1 else if a = b then 0 else 1
theorem sgn_bd (a b : Nat) : -1 ≤ sgn a b ∧ sgn a b ≤ 1 := by unfold sgn; (repeat' split) <;> omega
theorem sgn_zero {a b : Nat} : sgn a b = 0 ↔ a = b := by
  unfold sgn
  (repeat' split) <;> omega
/-- one byte more: what is unlike stays as it is -/
theorem sgn_keep {a b x y : Nat} (h : sgn a b ≠ 0) (hx : x < 256) (hy : y < 256) : sgn (a * 256 + x) (b * 256 + y) = sgn a b := by
  unfold sgn at *
  (repeat' split at h) <;> (repeat' split) <;> omega
theorem sgn_next {a b x y : Nat} (h : sgn a b = 0) : sgn (a * 256 + x) (b * 256 + y) = sgn x y := by
  rw [sgn_zero] at h
  subst h
  unfold sgn
  (repeat' split) <;> omega
theorem div_more (n k : Nat) (h : k < 8) : n / 256 ^ (8 - (k + 1)) = n / 256 ^ (8 - k) * 256 + n / 256 ^ (7 - k) % 256 := by
  have e : n / 256 ^ (8 - k) = n / 256 ^ (7 - k) / 256 := by
    rw [Nat.div_div_eq_div_mul, ← Nat.pow_succ, show (7 - k).succ = 8 - k from by omega]
  rw [e, show 8 - (k + 1) = 7 - k from by omega]
  omega
theorem and7 (a : Int) : ∃ t : Nat, t ≤ 7 ∧ bits .and .i64 a 7 = t := by
  refine ⟨(BitVec.ofInt 64 a &&& BitVec.ofInt 64 7).toNat, ?_, ?_⟩
  · rw [BitVec.toNat_and]
    exact Nat.le_trans Nat.and_le_right (by decide)
  · have hx : (BitVec.ofInt 64 a &&& BitVec.ofInt 64 7).toNat ≤ 7 := by
      rw [BitVec.toNat_and]
      exact Nat.le_trans Nat.and_le_right (by decide)
    show IntKind.i64.wrap ((BitVec.ofInt 64 a &&& BitVec.ofInt 64 7).toNat : Int) = _
    rw [IntKind.wrap_i64]
    omega
theorem num_noughts (k : Nat) (bs : List UInt8) : num (List.replicate k 0 ++ bs) = num bs := by
  have h : ∀ k, num (List.replicate k (0 : UInt8)) = 0 := by
    intro k
    induction k with
    | zero => rfl
    | succ k ih => rw [List.replicate_succ', num_snoc, ih]; rfl
  unfold num
  rw [List.foldl_append]
  have := h k
  unfold num at this
  rw [this]
theorem nought_front (k : Nat) (bs : List UInt8) : #[Value.int .u8 0].toList ++ (List.replicate k 0 ++ bs).map bv = (List.replicate (k + 1) 0 ++ bs).map bv := by
  rw [List.replicate_succ]; rfl
theorem be_cell (n k : Nat) (h : k < (be 8 n).length) : (be 8 n)[k].toNat = n / 256 ^ (7 - k) % 256 := by
  have h8 : k < 8 := by rw [be_len] at h; exact h
  have e := be_at 8 n k h8
  rw [List.getElem?_eq_getElem h] at e
  injection e with e
  rw [e]
  simp
theorem slice_len (A : Option Addr) {m n : Nat} (h : m = n) (c : Nat) : Value.slice A m c = .slice A n c := by rw [h]
end Go.Proofs.Ytijhobnnjepfaaa.Kit
