/-
  THE CONTRACTS of octet's functions and of the document's own of layer 1.
-/
import Derived.Test.YtcgkjcfckbplmaaChecked
import Derived.Test.YtcgkjcfckbplmaaKit
import Derived.Deep.LoopGhost
import Derived.Deep.QuietTactic
import Derived.BigQuiet
import Derived.Handy
namespace Go.Proofs.Ytcgkjcfckbplmaa.Oct
open Go.RowKit Go.Proofs.Ytcgkjcfckbplmaa.Kit
set_option linter.unusedVariables false

theorem get_yes (A : Option Addr) (n c B : Nat) (bs : List UInt8) (w : World) (h : RdB w B A n c bs) (h1 : 1 ≤ n) (h8 : n ≤ 8) :
    Calls Try.prog 50 #[.slice A n c] w fun e w' => e = .returned (.tuple #[.int .u64 (num bs), .bool true]) ∧ w = w' := by
  obtain ⟨hle, hge⟩ : n ≤ bs.length ∧ bs.length ≤ n := by have := h.len; omega
  obtain ⟨b, o, rfl, hb, hc⟩ := h.at_ (k := 0) (by omega)
  clear h
  have H1 : ((n : Int) == 0) = false := by rw [beq_eq_false_iff_ne]; omega
  have H2 : decide ((8 : Int) < n) = false := by simp; omega
  go_enter Try.func50, Try.ntmps50
  go_wp2
  go_loop [4, 17] (fun x i => ∃ k : Nat, k ≤ n ∧ i = .int .i64 k ∧ x = .int .u64 (num (bs.take k))) (fun _ i => n - (intOf i).toNat)
  case atStart => exact ⟨0, Nat.zero_le _, rfl, rfl⟩
  case round =>
    obtain ⟨k, hk, rfl, rfl⟩ := hrel
    by_cases hlt : k < n
    · have hb' : bs[k].toNat < 256 := bs[k].toNat_lt
      have hn' := num_take_lt bs k (by omega)
      have hor := or_byte _ _ hn' hb'
      rw [← num_take_succ bs k (by omega)] at hor
      have hcell := hc k (by omega)
      go_wp2
      go_round
      case rel => exact ⟨k + 1, by omega, by go_num, rfl⟩
      case measure => simp [intOf]; omega
    · obtain rfl : k = n := by omega
      go_wp2
      go_ret2
      exact ⟨congrArg (fun x : List UInt8 => Ending.returned (.tuple #[.int .u64 (num x), .bool true])) (List.take_of_length_le (by omega)), rfl⟩
theorem get_no (A : Option Addr) (n c : Nat) (w : World) (h : n = 0 ∨ 8 < n) (hm : n ≤ 9223372036854775807) :
    Calls Try.prog 50 #[.slice A n c] w fun e w' => e = .returned (.tuple #[.int .u64 0, .bool false]) ∧ w = w' := by
  rcases h with rfl | h
  · go_enter Try.func50, Try.ntmps50
    go_wp2
    go_ret2
    exact ⟨rfl, rfl⟩
  · have H1 : ((n : Int) == 0) = false := by rw [beq_eq_false_iff_ne]; omega
    have H2 : decide ((8 : Int) < n) = true := by simp; omega
    go_enter Try.func50, Try.ntmps50
    go_wp2
    go_ret2
    exact ⟨rfl, rfl⟩

theorem rget_yes (A : Option Addr) (n c B : Nat) (bs : List UInt8) (w : World) (h : RdB w B A n c bs) (h1 : 1 ≤ n) (h8 : n ≤ 8) :
    Calls Try.prog 47 #[.slice A n c] w fun e w' => e = .returned (.tuple #[.int .u64 (num bs), .bool true]) ∧ w = w' := by
  obtain ⟨hle, hge⟩ : n ≤ bs.length ∧ bs.length ≤ n := by have := h.len; omega
  obtain ⟨b, o, rfl, hb, hc⟩ := h.at_ (k := 0) (by omega)
  clear h
  have H1 : decide ((n : Int) < 1) = false := by simp; omega
  have H2 : decide ((8 : Int) < n) = false := by simp; omega
  go_enter Try.func47, Try.ntmps47
  go_wp2
  go_loop [4, 5] (fun x i => ∃ k : Nat, k ≤ n ∧ i = .int .i64 k ∧ x = .int .u64 (num (bs.take k))) (fun _ i => n - (intOf i).toNat)
  case atStart => exact ⟨0, Nat.zero_le _, rfl, rfl⟩
  case round =>
    obtain ⟨k, hk, rfl, rfl⟩ := hrel
    by_cases hlt : k < n
    · have hb' : bs[k].toNat < 256 := bs[k].toNat_lt
      have hn' := num_take_lt bs k (by omega)
      have hor := num_take_succ bs k (by omega)
      have hcell := hc k (by omega)
      have HS := Lib.hid hor
      clear hor hc
      go_wp2
      go_round
      case rel => exact ⟨k + 1, by omega, by go_num, by rw [HS.out]; go_num⟩
      case measure => simp [intOf]; omega
    · obtain rfl : k = n := by omega
      go_wp2
      go_ret2
      exact ⟨congrArg (fun x : List UInt8 => Ending.returned (.tuple #[.int .u64 (num x), .bool true])) (List.take_of_length_le (by omega)), rfl⟩

theorem rget_no (A : Option Addr) (n c : Nat) (w : World) (h : n = 0 ∨ 8 < n) (hm : n ≤ 9223372036854775807) :
    Calls Try.prog 47 #[.slice A n c] w fun e w' => e = .returned (.tuple #[.int .u64 0, .bool false]) ∧ w = w' := by
  rcases h with rfl | h
  · go_enter Try.func47, Try.ntmps47
    go_wp2
    go_ret2
    exact ⟨rfl, rfl⟩
  · have H1 : decide ((n : Int) < 1) = false := by simp; omega
    have H2 : decide ((8 : Int) < n) = true := by simp; omega
    go_enter Try.func47, Try.ntmps47
    go_wp2
    go_ret2
    exact ⟨rfl, rfl⟩
theorem put_any (n : Nat) (w : World) (hn : n < 18446744073709551616) :
    Calls Try.prog 52 #[.int .u64 n] w fun e w' => e = .returned (.slice (some ⟨w.heap.size, 0, none⟩) 8 8) ∧ w.alloc (.cells (Cput 0 n) 5) = w' := by
  have hmk : ∀ W : World, (Instr.makeSlice 29 (.int .i64 8) (.int .i64 8)).run Try.prog W = .ok (.slice (some ⟨W.heap.size, 0, none⟩) 8 8) (W.alloc (.cells (Cput 8 n) 5)) := fun _ => by kernel_rfl
  go_enter Try.func52, Try.ntmps52
  go_wp2
  go_loopw [0, 4] (fun x i wr => ∃ m : Nat, m ≤ 8 ∧ i = .int .i64 ((m : Int) - 1) ∧ x = .int .u64 ((n / 256 ^ (8 - m) : Nat) : Int) ∧ wr = w.alloc (.cells (Cput m n) 5)) (fun _ i _ => (intOf i + 1).toNat)
  case atStart => exact ⟨8, Nat.le_refl _, rfl, by simp, rfl⟩
  case round =>
    obtain ⟨m, hm, rfl, rfl, rfl⟩ := hrel
    rcases m with _ | m
    · go_wp2
      go_ret
      exact ⟨rfl, rfl⟩
    · rw [show ((m + 1 : Nat) : Int) - 1 = m from by omega]
      have hat := Cput_at m n
      have hset := Cput_set' m n hm
      go_wp2
      go_roundw
      case rel => exact ⟨m, by omega, by go_num, int_eq (div_step n m hm), rfl⟩
      case measure => simp [intOf]

theorem rsame_any (A A' : Option Addr) (n c n' c' B B' : Nat) (xs ys : List UInt8) (w : World) (ha : RdB w B A n c xs) (hb : RdB w B' A' n' c' ys) :
    Calls Try.prog 15 #[.slice A n c, .slice A' n' c'] w fun e w' => e = .returned (.bool (decide (xs = ys))) ∧ Drew w w' := by
  obtain ⟨hle, hge⟩ : n ≤ xs.length ∧ xs.length ≤ n := by have := ha.len; omega
  obtain ⟨hle', hge'⟩ : n' ≤ ys.length ∧ ys.length ≤ n' := by have := hb.len; omega
  have hr := ha.room
  have hr' := hb.room
  by_cases hn : n = n'
  · subst hn
    have H1 : ((n : Int) != n) = false := by simp
    go_enter Try.func15, Try.ntmps15
    go_wp2
    go_loopw [5] (fun i wr => ∃ k d : Nat, k ≤ n ∧ i = .int .i64 k ∧ wr = w.drewN d ∧ xs.take k = ys.take k) (fun i _ => n - (intOf i).toNat)
    case atStart => exact ⟨0, 0, Nat.zero_le _, rfl, rfl, rfl⟩
    case round =>
      obtain ⟨k, d, hk, rfl, rfl, ht⟩ := hrel
      have HT := Lib.hid ht
      clear ht
      by_cases hlt : k < n
      · obtain ⟨b, o, rfl, hB, hc⟩ := ha.at_ (k := 0) (by omega)
        obtain ⟨b', o', rfl, hB', hc'⟩ := hb.at_ (k := 0) (by omega)
        clear ha hb
        have c1 := hc k (by omega)
        have c2 := hc' k (by omega)
        clear hc hc'
        by_cases heq : xs[k] = ys[k]
        · have H2 : ((xs[k].toNat : Int) != ys[k].toNat) = false := by simp [heq]
          have HE := Lib.hid heq
          clear heq
          go_wp2
          go_quiet (fail)
          go_wp2
          go_roundw
          case rel => exact ⟨k + 1, _, by omega, by go_num, rfl, take_eq_succ (by omega) (by omega) HT.out HE.out⟩
          case measure => simp [intOf]; omega
        · have H2 : ((xs[k].toNat : Int) != ys[k].toNat) = true := byte_ne heq
          have e : decide (xs = ys) = false := by simp; rintro rfl; exact heq rfl
          have E := Lib.hid e
          clear e heq
          go_wp2
          go_quiet (fail)
          go_wp2
          go_ret
          exact ⟨by rw [E.out]; rfl, by first | exact .refl _ | exact .of _ _ | exact .of2 _ _ _⟩
      · obtain rfl : k = n := by omega
        have e : decide (xs = ys) = true := by
          have h := HT.out
          rw [List.take_of_length_le hge, List.take_of_length_le hge'] at h
          simpa using h
        have E := Lib.hid e
        clear e
        go_wp2
        go_ret
        exact ⟨by rw [E.out]; rfl, by first | exact .refl _ | exact .of _ _ | exact .of2 _ _ _⟩
  · have H1 : ((n : Int) != n') = true := by simp; omega
    have e : decide (xs = ys) = false := by simp; rintro rfl; omega
    have E := Lib.hid e
    clear e
    go_enter Try.func15, Try.ntmps15
    go_wp2
    go_ret
    exact ⟨by rw [E.out]; rfl, by first | exact .refl _ | exact .of _ _ | exact .of2 _ _ _⟩
end Go.Proofs.Ytcgkjcfckbplmaa.Oct
