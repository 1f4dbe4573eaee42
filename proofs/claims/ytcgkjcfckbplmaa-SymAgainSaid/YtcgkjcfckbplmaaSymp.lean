/-
  MARKS of layer 7, plainly. No program.
-/
import Derived.Test.YtcgkjcfckbplmaaKit3
namespace Go.Proofs.Ytcgkjcfckbplmaa.Kit
open Go.RowKit
set_option linter.unusedVariables false

/-- the bytes of a mark -/
def mk (kd : UInt8) (n : Nat) : List UInt8 := [255, 254, kd, 0, 0, 0, 0, 0] ++ be 8 n
theorem mk_len (kd : UInt8) (n : Nat) : (mk kd n).length = 16 := by simp [mk, be_len]
/-- an array of sixteen bytes, as a value -/
def kv (b : List UInt8) : Array Value := (b.map bv).toArray
theorem kv_size (b : List UInt8) : (kv b).size = b.length := by simp [kv]
theorem kv_inj {a b : List UInt8} (h : kv a = kv b) : a = b := by
  have h1 : a.map bv = b.map bv := by simpa [kv] using h
  have hi : ∀ x y : UInt8, bv x = bv y → x = y := fun x y h => by
    simp only [bv, Value.int.injEq, true_and] at h
    exact UInt8.toNat_inj.1 (by omega)
  clear h
  induction a generalizing b with
  | nil => cases b with
    | nil => rfl
    | cons y s => simp at h1
  | cons x r ih => cases b with
    | nil => simp at h1
    | cons y s =>
      simp only [List.map_cons, List.cons.injEq] at h1
      rw [hi _ _ h1.1, ih h1.2]
theorem be8_inj {a b : Nat} (ha : a < 18446744073709551616) (hb : b < 18446744073709551616) (h : be 8 a = be 8 b) : a = b := by
  have h1 := congrArg num h
  rw [num_be, num_be, Nat.mod_eq_of_lt (by simpa using ha), Nat.mod_eq_of_lt (by simpa using hb)] at h1
  exact h1
theorem mk_inj {k l : UInt8} {a b : Nat} (ha : a < 18446744073709551616) (hb : b < 18446744073709551616) (h : mk k a = mk l b) : k = l ∧ a = b := by
  simp only [mk, List.cons_append, List.nil_append, List.cons.injEq, true_and] at h
  exact ⟨h.1, be8_inj ha hb h.2⟩
/-- what sixteen bytes are as a mark -/
def isK (c : UInt8) : Bool := c == 107 || c == 98 || c == 100
def markOf (b : List UInt8) : Option (UInt8 × Nat) :=
  if b.length = 16 ∧ gb b 0 = 255 ∧ gb b 1 = 254 ∧ isK (gb b 2) = true ∧ (gb b 3 = 0 ∧ gb b 4 = 0 ∧ gb b 5 = 0 ∧ gb b 6 = 0 ∧ gb b 7 = 0) ∧ num (b.drop 8) ≤ 1099511627776 then some (gb b 2, num (b.drop 8)) else none
def mkK (b : List UInt8) : UInt8 := match markOf b with | some x => x.1 | none => 0
def mkN (b : List UInt8) : Nat := match markOf b with | some x => x.2 | none => 0
def mkO (b : List UInt8) : Bool := (markOf b).isSome
theorem markOf_mk {kd : UInt8} {n : Nat} (hk : isK kd = true) (hn : n ≤ 1099511627776) : markOf (mk kd n) = some (kd, n) := by
  have h8 : (mk kd n).drop 8 = be 8 n := rfl
  have hnum : num (be 8 n) = n := by rw [num_be]; exact Nat.mod_eq_of_lt (by simp; omega)
  have h2 : gb (mk kd n) 2 = kd := rfl
  rw [markOf, h8, hnum, h2, if_pos]
  exact ⟨mk_len _ _, rfl, rfl, hk, ⟨rfl, rfl, rfl, rfl, rfl⟩, hn⟩
theorem markOf_eq {b : List UInt8} {kd : UInt8} {n : Nat} (h : markOf b = some (kd, n)) : b = mk kd n ∧ isK kd = true ∧ n ≤ 1099511627776 := by
  rw [markOf] at h
  by_cases hc : b.length = 16 ∧ gb b 0 = 255 ∧ gb b 1 = 254 ∧ isK (gb b 2) = true ∧ (gb b 3 = 0 ∧ gb b 4 = 0 ∧ gb b 5 = 0 ∧ gb b 6 = 0 ∧ gb b 7 = 0) ∧ num (b.drop 8) ≤ 1099511627776
  · rw [if_pos hc] at h
    obtain ⟨hl, h0, h1, h2, h3, h4⟩ := hc
    injection h with h
    injection h with e1 e2
    subst e1
    subst e2
    refine ⟨?_, h2, h4⟩
    match b, hl with
    | [b0, b1, b2, b3, b4, b5, b6, b7, b8, b9, b10, b11, b12, b13, b14, b15], _ =>
      obtain ⟨g0, g1, g2, g3, g4⟩ := h3
      simp only [gb, List.getElem?_cons_zero, List.getElem?_cons_succ, Option.getD_some] at h0 h1 g0 g1 g2 g3 g4
      subst h0 h1 g0 g1 g2 g3 g4
      simp only [mk, List.drop_succ_cons, List.drop_zero, List.cons_append, List.nil_append, List.cons.injEq, true_and]
      refine ⟨rfl, ?_⟩
      apply List.ext_getElem?
      intro i
      by_cases hi : i < 8
      · rw [be_at 8 _ _ hi]
        simp only [num, List.foldl_cons, List.foldl_nil]
        have q8 := b8.toNat_lt; have q9 := b9.toNat_lt; have q10 := b10.toNat_lt; have q11 := b11.toNat_lt
        have q12 := b12.toNat_lt; have q13 := b13.toNat_lt; have q14 := b14.toNat_lt; have q15 := b15.toNat_lt
        obtain rfl | rfl | rfl | rfl | rfl | rfl | rfl | rfl : i = 0 ∨ i = 1 ∨ i = 2 ∨ i = 3 ∨ i = 4 ∨ i = 5 ∨ i = 6 ∨ i = 7 := by omega
        all_goals
          simp only [List.getElem?_cons_zero, List.getElem?_cons_succ, Option.some.injEq]
          apply UInt8.toNat_inj.1
          rw [UInt8.toNat_ofNat']
          omega
      · rw [List.getElem?_eq_none (by simp; omega), List.getElem?_eq_none (by rw [be_len]; omega)]
  · rw [if_neg hc] at h; cases h
end Go.Proofs.Ytcgkjcfckbplmaa.Kit
