/-
  THE CONTRACTS of aes's double, spread.
-/
import Derived.Test.YtammiehklibadaaDoorAesk
import Derived.Test.YtammiehklibadaaDoorOctm
namespace Go.Proofs.YtammiehklibadaaDoor.Aes
open Go.RowKit
open Go.Proofs.YtammiehklibadaaDoor.Kit
set_option linter.unusedVariables false

theorem all8 {p : UInt8 → Prop} (h : ∀ n : Fin 256, p (UInt8.ofNat n.val)) (b : UInt8) : p b := by
  have := h ⟨b.toNat, b.toNat_lt⟩
  simpa using this
theorem and128 (b : UInt8) : bits .and .u8 (b.toNat : Int) 128 = if 128 ≤ b.toNat then 128 else 0 :=
  all8 (p := fun b => bits .and .u8 (b.toNat : Int) 128 = if 128 ≤ b.toNat then 128 else 0) (by decide +kernel) b
theorem dbl_hi (b : UInt8) : 128 ≤ b.toNat → bits .xor .u8 ((b.toNat : Int) * 2 % 256) 27 = ((dbl b).toNat : Int) :=
  all8 (p := fun b => 128 ≤ b.toNat → bits .xor .u8 ((b.toNat : Int) * 2 % 256) 27 = ((dbl b).toNat : Int)) (by decide +kernel) b
theorem dbl_lo (b : UInt8) : ¬ 128 ≤ b.toNat → (b.toNat : Int) * 2 = ((dbl b).toNat : Int) :=
  all8 (p := fun b => ¬ 128 ≤ b.toNat → (b.toNat : Int) * 2 = ((dbl b).toNat : Int)) (by decide +kernel) b
theorem double_any (b : UInt8) (w : World) : Calls Tryd.prog 73 #[.int .u8 (b.toNat : Int)] w fun e w' => e = .returned (.int .u8 ((dbl b).toNat : Int)) ∧ w = w' := by
  have h1 := and128 b
  by_cases h : 128 ≤ b.toNat
  · rw [if_pos h] at h1
    go_enter Tryd.func73, Tryd.ntmps73
    go_wp2
    go_ret
    exact ⟨congrArg _ (int_eq (dbl_hi b h)), rfl⟩
  · rw [if_neg h] at h1
    go_enter Tryd.func73, Tryd.ntmps73
    go_wp2
    go_ret
    exact ⟨congrArg _ (int_eq (dbl_lo b h)), rfl⟩
theorem rot1 (b : UInt8) : bits .or .u8 ((b.toNat : Int) * 2 % 256) ((b.toNat : Int) / 128) = ((rotl b 1).toNat : Int) :=
  all8 (p := fun b => bits .or .u8 ((b.toNat : Int) * 2 % 256) ((b.toNat : Int) / 128) = ((rotl b 1).toNat : Int)) (by decide +kernel) b
theorem rot2 (b : UInt8) : bits .or .u8 ((b.toNat : Int) * 4 % 256) ((b.toNat : Int) / 64) = ((rotl b 2).toNat : Int) :=
  all8 (p := fun b => bits .or .u8 ((b.toNat : Int) * 4 % 256) ((b.toNat : Int) / 64) = ((rotl b 2).toNat : Int)) (by decide +kernel) b
theorem rot3 (b : UInt8) : bits .or .u8 ((b.toNat : Int) * 8 % 256) ((b.toNat : Int) / 32) = ((rotl b 3).toNat : Int) :=
  all8 (p := fun b => bits .or .u8 ((b.toNat : Int) * 8 % 256) ((b.toNat : Int) / 32) = ((rotl b 3).toNat : Int)) (by decide +kernel) b
theorem rot4 (b : UInt8) : bits .or .u8 ((b.toNat : Int) * 16 % 256) ((b.toNat : Int) / 16) = ((rotl b 4).toNat : Int) :=
  all8 (p := fun b => bits .or .u8 ((b.toNat : Int) * 16 % 256) ((b.toNat : Int) / 16) = ((rotl b 4).toNat : Int)) (by decide +kernel) b
theorem rotl_any (b : UInt8) (k : Nat) (h1 : 1 ≤ k) (h4 : k ≤ 4) (w : World) : Calls Tryd.prog 89 #[.int .u8 (b.toNat : Int), .int .i64 (k : Int)] w fun e w' => e = .returned (.int .u8 ((rotl b k).toNat : Int)) ∧ w = w' := by
  have a1 : bits .and .u64 1 7 = 1 := rfl
  have a2 : bits .and .u64 2 7 = 2 := rfl
  have a3 : bits .and .u64 3 7 = 3 := rfl
  have a4 : bits .and .u64 4 7 = 4 := rfl
  obtain rfl | rfl | rfl | rfl : k = 1 ∨ k = 2 ∨ k = 3 ∨ k = 4 := by omega
  all_goals
    go_enter Tryd.func89, Tryd.ntmps89
    go_wp2
    go_ret
    first
    | exact ⟨congrArg _ (int_eq (rot1 b)), rfl⟩
    | exact ⟨congrArg _ (int_eq (rot2 b)), rfl⟩
    | exact ⟨congrArg _ (int_eq (rot3 b)), rfl⟩
    | exact ⟨congrArg _ (int_eq (rot4 b)), rfl⟩
def sprK (b : UInt8) : Nat → UInt8
  | 0 => b ^^^ 0x63
  | k + 1 => sprK b k ^^^ rotl b (k + 1)
theorem sprK_all (b : UInt8) : sprK b 4 = spr b := rfl
theorem spread_any (b : UInt8) (w : World) : Calls Tryd.prog 83 #[.int .u8 (b.toNat : Int)] w fun e w' => e = .returned (.int .u8 ((spr b).toNat : Int)) ∧ w = w' := by
  have h0 : bits .xor .u8 (b.toNat : Int) 99 = ((sprK b 0).toNat : Int) := xor_u8 b 99
  obtain ⟨s0, hs0⟩ : ∃ q, q = sprK b 0 := ⟨_, rfl⟩
  rw [← hs0] at h0
  have HS0 := Lib.hid hs0
  clear hs0
  go_enter Tryd.func83, Tryd.ntmps83
  go_wp2_with fail
  go_loopw [3, 4] (fun s i wr => ∃ k : Nat, k ≤ 4 ∧ i = .int .i64 ((k + 1 : Nat) : Int) ∧ s = .int .u8 ((sprK b k).toNat : Int) ∧ w = wr) (fun s i _ => 5 - (intOf i).toNat)
  case atStart => exact ⟨0, by omega, rfl, by rw [HS0.out], rfl⟩
  case round =>
    obtain ⟨k, hk, rfl, rfl, rfl⟩ := hrel
    by_cases hlt : k < 4
    · obtain ⟨x, hx⟩ : ∃ x, x = sprK b k := ⟨_, rfl⟩
      rw [← hx]
      have hxor := xor_u8 x (rotl b (k + 1))
      have hn : x ^^^ rotl b (k + 1) = sprK b (k + 1) := by rw [hx]; rfl
      have HN := Lib.hid hn
      clear hn hx
      go_wp2_with fail
      refine (rotl_any b (k + 1) (by omega) (by omega) _).mono ?_
      rintro e w2 ⟨rfl, rfl⟩
      go_wp2
      go_roundw
      case rel => exact ⟨k + 1, by omega, by go_num, by rw [← HN.out, UInt8.toNat_xor], by first | rfl | trivial⟩
      case measure => simp [intOf]; omega
    · obtain rfl : k = 4 := by omega
      go_wp2
      go_ret
      exact ⟨by rw [← sprK_all]; rfl, rfl⟩
end Go.Proofs.YtammiehklibadaaDoor.Aes
