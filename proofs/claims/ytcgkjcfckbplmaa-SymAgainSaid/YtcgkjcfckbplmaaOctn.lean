/-
  THE CONTRACTS of octet's functions that hand back bytes, said alike.
-/
import Derived.Test.YtcgkjcfckbplmaaOctc
import Derived.Test.YtcgkjcfckbplmaaOctd
import Derived.Test.YtcgkjcfckbplmaaOcte
namespace Go.Proofs.Ytcgkjcfckbplmaa.Oct
open Go.RowKit
open Go.Proofs.Ytcgkjcfckbplmaa.Kit
set_option linter.unusedVariables false

theorem put_new (n : Nat) (w : World) (hn : n < 18446744073709551616) :
    Calls Try.prog 52 #[.int .u64 n] w fun e w' => ∃ A c, e = .returned (.slice A 8 c) ∧ New w w' A 8 c (be 8 n) :=
  (put_any n w hn).mono fun e w' ⟨he, hw⟩ => ⟨_, _, he, hw ▸ new_put w n 5⟩
theorem rput_new (n : Nat) (w : World) (hn : n < 18446744073709551616) :
    Calls Try.prog 40 #[.int .u64 n] w fun e w' => ∃ A c, e = .returned (.slice A 8 c) ∧ New w w' A 8 c (be 8 n) :=
  (rput_any n w hn).mono fun e w' ⟨A, c, he, ho, hb⟩ => ⟨A, c, he, .of_own ho hb⟩
theorem joined_new (A : Option Addr) (n c B : Nat) (R : List Row) (w : World) (h : Rd w B A n c (R.map Row.v)) (hR : ∀ r ∈ R, RdB w B r.A r.n r.c r.bs) (hB : B ≤ w.heap.size) (hT : (joinL R).length ≤ 70368744177664) :
    Calls Try.prog 32 #[.slice A n c] w fun e w' => ∃ A' c', e = .returned (.slice A' (joinL R).length c') ∧ New w w' A' (joinL R).length c' (joinL R) :=
  (joined_any A n c B R w h hR hB hT).mono fun e w' ⟨A, c, he, ho, hb⟩ => ⟨A, c, he, .of_own ho hb⟩
theorem rsame_new (A A' : Option Addr) (n c n' c' : Nat) (xs ys : List UInt8) (w : World) (ha : RdB w w.heap.size A n c xs) (hb : RdB w w.heap.size A' n' c' ys) :
    Calls Try.prog 15 #[.slice A n c, .slice A' n' c'] w fun e w' => e = .returned (.bool (decide (xs = ys))) ∧ Below w.heap.size w w' :=
  (rsame_any A A' n c n' c' _ _ xs ys w ha hb).mono fun e w' ⟨he, hw⟩ => ⟨he, below_of_drew hw _⟩
theorem key_yes' (A : Option Addr) (n c B : Nat) (bs : List UInt8) (w : World) (hn : n = 16) (h : RdB w B A n c bs) (hB : B ≤ w.heap.size) :
    Calls Try.prog 48 #[.slice A n c] w fun e w' => e = .returned (.tuple #[.agg (bs.map bv).toArray, .bool true]) ∧ Below w.heap.size w w' := by
  subst hn
  exact key_yes A c B bs w h hB
end Go.Proofs.Ytcgkjcfckbplmaa.Oct
