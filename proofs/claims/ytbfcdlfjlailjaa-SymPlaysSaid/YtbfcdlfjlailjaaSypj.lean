/-
  SymPlays: the loop's end.
-/
import Derived.Test.YtbfcdlfjlailjaaSypow
namespace Go.Proofs.Ytbfcdlfjlailjaa.Sym
open Go.RowKit
open Go.Proofs.Ytbfcdlfjlailjaa.Kit
open Go.Proofs.Ytbfcdlfjlailjaa.Oct
set_option linter.unusedVariables false

set_option maxRecDepth 1000000 in
set_option maxHeartbeats 8000000 in
theorem plays_out {w0 wr : World} {A : Option Addr} {n c tb : Nat} {x37 x39 x40 x41 : Value} {u : Nat → Value} {T : Tab} {R S : Nat → Prop} {J4 J5 J6 : Option Addr} {c4 c5 c6 : Nat} {K : List Fm} {B : List Sl} {M : List (List UInt8)} {x5 x6 : List Value}
    (hM : Mem w0 wr tb T R S J4 J5 J6 c4 c5 c6 K B M x5 x6) (hP : Pl n K B M T)
    {Q : Exit → Act → World → Prop} (hend : ∀ a', PI w0 A n c tb x37 x39 x40 x41 a' wr → Q (.exit 0) a' wr) :
    Code.wp Try.prog playsBody Q ⟨FR A n c tb x37 x39 x40 x41 u (.slice J4 K.length c4) (.slice J5 B.length c5) (.slice J6 M.length c6) n, []⟩ wr := by
  obtain ⟨n4, hn4⟩ : ∃ q, q = K.length := ⟨_, rfl⟩
  obtain ⟨n5, hn5⟩ : ∃ q, q = B.length := ⟨_, rfl⟩
  obtain ⟨n6, hn6⟩ : ∃ q, q = M.length := ⟨_, rfl⟩
  rw [← hn4, ← hn5, ← hn6]
  have hlt : ¬ (n : Int) < (n : Int) := by omega
  have HM := Lib.hid hM
  have HP := Lib.hid hP
  have HEND := Lib.hid hend
  have HN4 := Lib.hid hn4
  have HN5 := Lib.hid hn5
  have HN6 := Lib.hid hn6
  clear hM hP hend hn4 hn5 hn6
  simp only [FR]
  conv => arg 2; whnf
  go_wp2_with fail
  have e4 := HN4.out
  have e5 := HN5.out
  have e6 := HN6.out
  subst e4 e5 e6
  exact HEND.out _ (PI.mk (k := n) (Nat.le_refl _) HM.out HP.out (by rfl))
end Go.Proofs.Ytbfcdlfjlailjaa.Sym
