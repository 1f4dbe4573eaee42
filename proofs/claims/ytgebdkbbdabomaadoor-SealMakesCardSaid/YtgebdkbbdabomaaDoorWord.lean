/-
  WORDS of 32 bits: what Go's operations on uint32 come to. Any program.
-/
import Derived.Test.YtgebdkbbdabomaaDoorKitm
import Derived.Laws.BitsAllLaws
import Derived.Laws.Shifts
import Derived.Laws.ShiftsVar
namespace Go.Proofs.YtgebdkbbdabomaaDoor.Kit
open Go.RowKit
set_option linter.unusedVariables false

/-- a word's number, and its value -/
def wi (x : UInt32) : Int := x.toNat
def wv (x : UInt32) : Value := .int .u32 (wi x)
theorem wlt (x : UInt32) : x.toNat < 4294967296 := x.toNat_lt
theorem wi_lt (x : UInt32) : 0 ≤ wi x ∧ wi x < 4294967296 := by have := wlt x; unfold wi; omega
theorem w_xor (x y : UInt32) : bits .xor .u32 (wi x) (wi y) = wi (x ^^^ y) := by
  unfold wi; rw [u32_xor_nat _ _ (wlt x) (wlt y), UInt32.toNat_xor]
theorem w_and (x y : UInt32) : bits .and .u32 (wi x) (wi y) = wi (x &&& y) := by
  unfold wi; rw [u32_and_nat _ _ (wlt x) (wlt y), UInt32.toNat_and]
theorem w_or (x y : UInt32) : bits .or .u32 (wi x) (wi y) = wi (x ||| y) := by
  unfold wi; rw [u32_or_nat _ _ (wlt x) (wlt y), UInt32.toNat_or]
theorem w_add (x y : UInt32) : IntKind.u32.wrap (wi x + wi y) = wi (x + y) := by
  unfold wi
  rw [IntKind.wrap_u32', UInt32.toNat_add]
  have : (2 : Nat) ^ 32 = 4294967296 := rfl
  omega
theorem w_not (x : UInt32) : bits .xor .u32 IntKind.u32.max (wi x) = wi (~~~x) := by
  have h := u32_xor_nat 4294967295 x.toNat (by omega) (wlt x)
  have hm : IntKind.u32.max = ((4294967295 : Nat) : Int) := by simp [IntKind.max, IntKind.signed, IntKind.bits]
  have hb : (~~~x).toBitVec = BitVec.allOnes 32 ^^^ x.toBitVec := by
    rw [BitVec.allOnes_xor]; rfl
  have h2 := congrArg BitVec.toNat hb
  rw [BitVec.toNat_xor, show (BitVec.allOnes 32).toNat = 4294967295 from by decide] at h2
  unfold wi
  rw [hm, h]
  exact congrArg Nat.cast h2.symm
theorem w_shr (x s : UInt32) (c : Int) (h : s.toNat < 32) (hc : c = 2 ^ s.toNat) : wi x / c = wi (x >>> s) := by
  unfold wi
  rw [UInt32.toNat_shiftRight, Nat.shiftRight_eq_div_pow, Nat.mod_eq_of_lt h, hc, Int.natCast_ediv, Int.natCast_pow]
  rfl
theorem w_shl (x s : UInt32) (c : Int) (h : s.toNat < 32) (hc : c = 2 ^ s.toNat) : wi x * c % 4294967296 = wi (x <<< s) := by
  unfold wi
  rw [UInt32.toNat_shiftLeft, Nat.shiftLeft_eq, Nat.mod_eq_of_lt h, hc, show (2 : Nat) ^ 32 = 4294967296 from rfl, Int.natCast_emod, Int.natCast_mul, Int.natCast_pow]
  rfl
/-- turned to the right -/
def rotr (x n : UInt32) : UInt32 := x >>> n ||| x <<< (32 - n)
def sm0 (x : UInt32) : UInt32 := rotr x 7 ^^^ rotr x 18 ^^^ (x >>> 3)
def sm1 (x : UInt32) : UInt32 := rotr x 17 ^^^ rotr x 19 ^^^ (x >>> 10)
def la0 (x : UInt32) : UInt32 := rotr x 2 ^^^ rotr x 13 ^^^ rotr x 22
def la1 (x : UInt32) : UInt32 := rotr x 6 ^^^ rotr x 11 ^^^ rotr x 25
def cho (e f g : UInt32) : UInt32 := (e &&& f) ^^^ (~~~e &&& g)
def mst (a b c : UInt32) : UInt32 := (a &&& b) ^^^ (a &&& c) ^^^ (b &&& c)
theorem rotr_or (x n m : UInt32) (a b : Int) (hn : n.toNat < 32) (hm : m.toNat < 32) (e : 32 - n = m) (ha : a = 2 ^ m.toNat) (hb : b = 2 ^ n.toNat) : bits .or .u32 (wi x * a % 4294967296) (wi x / b) = wi (rotr x n) := by
  rw [w_shl x m a hm ha, w_shr x n b hn hb, w_or, rotr, e, UInt32.or_comm]
theorem rotr_or' (x n m : UInt32) (a b : Int) (hn : n.toNat < 32) (hm : m.toNat < 32) (e : 32 - n = m) (ha : a = 2 ^ m.toNat) (hb : b = 2 ^ n.toNat) : bits .or .u32 (wi x / b) (wi x * a % 4294967296) = wi (rotr x n) := by
  rw [w_shl x m a hm ha, w_shr x n b hn hb, w_or, rotr, e]
end Go.Proofs.YtgebdkbbdabomaaDoor.Kit
