/-
  THE CONTRACTS of octet's functions and of the document's own of layer 1.
-/
import Derived.Test.YtammiehklibadaaChecked
import Derived.Test.YtammiehklibadaaKit
import Derived.Deep.LoopGhost
import Derived.Deep.QuietTactic
import Derived.BigQuiet
import Derived.Handy
namespace Go.Proofs.Ytammiehklibadaa.Oct
open Go.RowKit Go.Proofs.Ytammiehklibadaa.Kit
set_option linter.unusedVariables false

theorem rsame_any (A A' : Option Addr) (n c n' c' B B' : Nat) (xs ys : List UInt8) (w : World) (ha : RdB w B A n c xs) (hb : RdB w B' A' n' c' ys) :
    Calls Try.prog 8 #[.slice A n c, .slice A' n' c'] w fun e w' => e = .returned (.bool (decide (xs = ys))) ∧ Drew w w' := by
  obtain ⟨hle, hge⟩ : n ≤ xs.length ∧ xs.length ≤ n := by have := ha.len; omega
  obtain ⟨hle', hge'⟩ : n' ≤ ys.length ∧ ys.length ≤ n' := by have := hb.len; omega
  have hr := ha.room
  have hr' := hb.room
  by_cases hn : n = n'
  · subst hn
    have H1 : ((n : Int) != n) = false := by simp
    go_enter Try.func8, Try.ntmps8
    go_wp2
    go_loopw [5] (fun i wr => ∃ k d : Nat, k ≤ n ∧ i = .int .i64 k ∧ wr = w.drewN d ∧ xs.take k = ys.take k) (fun i _ => n - (intOf i).toNat)
    case atStart => exact ⟨0, 0, Nat.zero_le _, rfl, rfl, rfl⟩
    case round =>
      obtain ⟨k, d, hk, rfl, rfl, ht⟩ := hrel
      have HT := Lib.hid ht
      clear ht
      by_cases hlt : k < n
      · obtain ⟨b, o, rfl, hB, hc⟩ := ha.at_ (k := 0) (by omega)
        obtain ⟨b', o', rfl, hB', hc'⟩ := hb.at_ (k := 0) (by omega)
        clear ha hb
        have c1 := hc k (by omega)
        have c2 := hc' k (by omega)
        clear hc hc'
        by_cases heq : xs[k] = ys[k]
        · have H2 : ((xs[k].toNat : Int) != ys[k].toNat) = false := by simp [heq]
          have HE := Lib.hid heq
          clear heq
          go_wp2
          go_quiet (fail)
          go_wp2
          go_roundw
          case rel => exact ⟨k + 1, _, by omega, by go_num, rfl, take_eq_succ (by omega) (by omega) HT.out HE.out⟩
          case measure => simp [intOf]; omega
        · have H2 : ((xs[k].toNat : Int) != ys[k].toNat) = true := byte_ne heq
          have e : decide (xs = ys) = false := by simp; rintro rfl; exact heq rfl
          have E := Lib.hid e
          clear e heq
          go_wp2
          go_quiet (fail)
          go_wp2
          go_ret
          exact ⟨by rw [E.out]; rfl, by first | exact .refl _ | exact .of _ _ | exact .of2 _ _ _⟩
      · obtain rfl : k = n := by omega
        have e : decide (xs = ys) = true := by
          have h := HT.out
          rw [List.take_of_length_le hge, List.take_of_length_le hge'] at h
          simpa using h
        have E := Lib.hid e
        clear e
        go_wp2
        go_ret
        exact ⟨by rw [E.out]; rfl, by first | exact .refl _ | exact .of _ _ | exact .of2 _ _ _⟩
  · have H1 : ((n : Int) != n') = true := by simp; omega
    have e : decide (xs = ys) = false := by simp; rintro rfl; omega
    have E := Lib.hid e
    clear e
    go_enter Try.func8, Try.ntmps8
    go_wp2
    go_ret
    exact ⟨by rw [E.out]; rfl, by first | exact .refl _ | exact .of _ _ | exact .of2 _ _ _⟩
end Go.Proofs.Ytammiehklibadaa.Oct
