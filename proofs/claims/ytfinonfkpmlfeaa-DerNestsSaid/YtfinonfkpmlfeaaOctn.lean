/-
  THE CONTRACTS of octet's functions that hand back bytes, said alike.
-/
import Derived.Test.YtfinonfkpmlfeaaOctc
import Derived.Test.YtfinonfkpmlfeaaOctd
import Derived.Test.YtfinonfkpmlfeaaOcte
namespace Go.Proofs.Ytfinonfkpmlfeaa.Oct
open Go.RowKit
open Go.Proofs.Ytfinonfkpmlfeaa.Kit
set_option linter.unusedVariables false

theorem put_new (n : Nat) (w : World) (hn : n < 18446744073709551616) :
    Calls Try.prog 25 #[.int .u64 n] w fun e w' => ∃ A c, e = .returned (.slice A 8 c) ∧ New w w' A 8 c (be 8 n) :=
  (put_any n w hn).mono fun e w' ⟨he, hw⟩ => ⟨_, _, he, hw ▸ new_put w n 5⟩
theorem short_new (n : Nat) (w : World) (hn : n < 18446744073709551616) :
    Calls Try.prog 27 #[.int .u64 n] w fun e w' => ∃ A c, e = .returned (.slice A (nb n) c) ∧ New w w' A (nb n) c (short n) :=
  (short_any n w hn).mono fun e w' ⟨he, hw⟩ => ⟨_, _, he, hw ▸ new_short w n 5⟩
theorem rput_new (n : Nat) (w : World) (hn : n < 18446744073709551616) :
    Calls Try.prog 26 #[.int .u64 n] w fun e w' => ∃ A c, e = .returned (.slice A 8 c) ∧ New w w' A 8 c (be 8 n) :=
  (rput_any n w hn).mono fun e w' ⟨A, c, he, ho, hb⟩ => ⟨A, c, he, .of_own ho hb⟩
theorem rshort_new (n : Nat) (w : World) (hn : n < 18446744073709551616) :
    Calls Try.prog 28 #[.int .u64 n] w fun e w' => ∃ A c, e = .returned (.slice A (nb n) c) ∧ New w w' A (nb n) c (short n) :=
  (rshort_any n w hn).mono fun e w' ⟨A, c, he, ho, hb⟩ => ⟨A, c, he, .of_own ho hb⟩
theorem joined_new (A : Option Addr) (n c B : Nat) (R : List Row) (w : World) (h : Rd w B A n c (R.map Row.v)) (hR : ∀ r ∈ R, RdB w B r.A r.n r.c r.bs) (hB : B ≤ w.heap.size) (hT : (joinL R).length ≤ 70368744177664) :
    Calls Try.prog 41 #[.slice A n c] w fun e w' => ∃ A' c', e = .returned (.slice A' (joinL R).length c') ∧ New w w' A' (joinL R).length c' (joinL R) :=
  (joined_any A n c B R w h hR hB hT).mono fun e w' ⟨A, c, he, ho, hb⟩ => ⟨A, c, he, .of_own ho hb⟩
theorem rsame_new (A A' : Option Addr) (n c n' c' : Nat) (xs ys : List UInt8) (w : World) (ha : RdB w w.heap.size A n c xs) (hb : RdB w w.heap.size A' n' c' ys) :
    Calls Try.prog 14 #[.slice A n c, .slice A' n' c'] w fun e w' => e = .returned (.bool (decide (xs = ys))) ∧ Below w.heap.size w w' :=
  (rsame_any A A' n c n' c' _ _ xs ys w ha hb).mono fun e w' ⟨he, hw⟩ => ⟨he, below_of_drew hw _⟩
theorem equal_new (A A' : Option Addr) (n c n' c' : Nat) (xs ys : List UInt8) (w : World) (ha : RdB w w.heap.size A n c xs) (hb : RdB w w.heap.size A' n' c' ys) :
    Calls Try.prog 29 #[.slice A n c, .slice A' n' c'] w fun e w' => e = .returned (.bool (decide (xs = ys))) ∧ Below w.heap.size w w' :=
  (equal_any A A' n c n' c' _ _ xs ys w ha hb).mono fun e w' ⟨he, hw⟩ => ⟨he, hw ▸ Below.refl _ _⟩
theorem key_yes' (A : Option Addr) (n c B : Nat) (bs : List UInt8) (w : World) (hn : n = 16) (h : RdB w B A n c bs) (hB : B ≤ w.heap.size) :
    Calls Try.prog 40 #[.slice A n c] w fun e w' => e = .returned (.tuple #[.agg (bs.map bv).toArray, .bool true]) ∧ Below w.heap.size w w' := by
  subst hn
  exact key_yes A c B bs w h hB
end Go.Proofs.Ytfinonfkpmlfeaa.Oct
