/-
  The document's Rune.
-/
import Derived.Test.YtlkokljlghlldaaDoorNamt
import Derived.Test.YtlkokljlghlldaaDoorNampd
namespace Go.Proofs.YtlkokljlghlldaaDoor.Nam
open Go.RowKit
open Go.Proofs.YtlkokljlghlldaaDoor.Kit
set_option linter.unusedVariables false

theorem get_at (T : ByteArray) (j : Nat) (h : j < T.size) : (T[j]'h) = T.get! j := by
  have h1 := get_list T j h
  have h2 : T.data.toList[j]? = some (T[j]'h) := by
    obtain ⟨⟨l⟩⟩ := T
    have h' : j < l.length := h
    show l[j]? = some l[j]
    simp [h']
  rw [h2] at h1
  exact Option.some.inj h1

set_option maxRecDepth 100000 in
set_option maxHeartbeats 4000000 in
theorem rune_one (T : ByteArray) (b0 b1 b2 b3 : Nat) (h0 : 0 < T.size) (hz : T.size ≤ 1000000) (g0 : (T.get! 0).toNat = b0) (g1 : (T.get! 1).toNat = b1) (g2 : (T.get! 2).toNat = b2) (g3 : (T.get! 3).toNat = b3) (l0 : b0 < 256) (l1 : b1 < 256) (l2 : b2 < 256) (l3 : b3 < 256) (hb : b0 < 128) (w : World) : Calls Tryd.prog 22 #[.string T] w fun e w' => e = .returned (.tuple #[.int .i64 (rrN T.size b0 b1 b2 b3).1, .int .i64 (rrN T.size b0 b1 b2 b3).2]) ∧ w = w' := by
  have gi0 : (T[0]'h0).toNat = b0 := by rw [get_at]; exact g0
  have t1 : decide ((b0 : Int) < 128) = true := decide_eq_true (by omega)
  go_enter Tryd.func22, Tryd.ntmps22
  go_wp2
  go_ret2
  exact ⟨by rw [rr_one _ _ _ _ _ hb]; rfl, rfl⟩
set_option maxRecDepth 100000 in
set_option maxHeartbeats 4000000 in
theorem rune_no (T : ByteArray) (b0 b1 b2 b3 : Nat) (h0 : 0 < T.size) (hz : T.size ≤ 1000000) (g0 : (T.get! 0).toNat = b0) (g1 : (T.get! 1).toNat = b1) (g2 : (T.get! 2).toNat = b2) (g3 : (T.get! 3).toNat = b3) (l0 : b0 < 256) (l1 : b1 < 256) (l2 : b2 < 256) (l3 : b3 < 256) (hb : (128 ≤ b0 ∧ b0 < 194) ∨ 245 ≤ b0) (w : World) : Calls Tryd.prog 22 #[.string T] w fun e w' => e = .returned (.tuple #[.int .i64 (rrN T.size b0 b1 b2 b3).1, .int .i64 (rrN T.size b0 b1 b2 b3).2]) ∧ w = w' := by
  rcases hb with hb | hb
  · have gi0 : (T[0]'h0).toNat = b0 := by rw [get_at]; exact g0
    have t1 : decide ((b0 : Int) < 128) = false := decide_eq_false (by omega)
    have t2 : decide ((194 : Int) ≤ (b0 : Int)) = false := decide_eq_false (by omega)
    have t3 : decide ((b0 : Int) ≤ 223) = true := decide_eq_true (by omega)
    have t4 : decide ((224 : Int) ≤ (b0 : Int)) = false := decide_eq_false (by omega)
    have t5 : decide ((b0 : Int) ≤ 239) = true := decide_eq_true (by omega)
    have t6 : decide ((240 : Int) ≤ (b0 : Int)) = false := decide_eq_false (by omega)
    have t7 : decide ((b0 : Int) ≤ 244) = true := decide_eq_true (by omega)
    go_enter Tryd.func22, Tryd.ntmps22
    go_wp2
    go_ret2
    exact ⟨by rw [dec_bad (bad_of _ _ _ _ _ l0 l1 l2 l3 (by omega))]; rfl, rfl⟩
  · have gi0 : (T[0]'h0).toNat = b0 := by rw [get_at]; exact g0
    have t1 : decide ((b0 : Int) < 128) = false := decide_eq_false (by omega)
    have t2 : decide ((194 : Int) ≤ (b0 : Int)) = true := decide_eq_true (by omega)
    have t3 : decide ((b0 : Int) ≤ 223) = false := decide_eq_false (by omega)
    have t4 : decide ((224 : Int) ≤ (b0 : Int)) = true := decide_eq_true (by omega)
    have t5 : decide ((b0 : Int) ≤ 239) = false := decide_eq_false (by omega)
    have t6 : decide ((240 : Int) ≤ (b0 : Int)) = true := decide_eq_true (by omega)
    have t7 : decide ((b0 : Int) ≤ 244) = false := decide_eq_false (by omega)
    go_enter Tryd.func22, Tryd.ntmps22
    go_wp2
    go_ret2
    exact ⟨by rw [dec_bad (bad_of _ _ _ _ _ l0 l1 l2 l3 (by omega))]; rfl, rfl⟩
set_option maxRecDepth 100000 in
set_option maxHeartbeats 4000000 in
theorem rune_2 (T : ByteArray) (b0 b1 b2 b3 : Nat) (h0 : 0 < T.size) (hz : T.size ≤ 1000000) (g0 : (T.get! 0).toNat = b0) (g1 : (T.get! 1).toNat = b1) (g2 : (T.get! 2).toNat = b2) (g3 : (T.get! 3).toNat = b3) (l0 : b0 < 256) (l1 : b1 < 256) (l2 : b2 < 256) (l3 : b3 < 256) (hb : 194 ≤ b0 ∧ b0 ≤ 223) (w : World) : Calls Tryd.prog 22 #[.string T] w fun e w' => e = .returned (.tuple #[.int .i64 (rrN T.size b0 b1 b2 b3).1, .int .i64 (rrN T.size b0 b1 b2 b3).2]) ∧ w = w' := by
  have t1 : decide ((b0 : Int) < 128) = false := decide_eq_false (by omega)
  have t2 : decide ((194 : Int) ≤ (b0 : Int)) = true := decide_eq_true (by omega)
  have t3 : decide ((b0 : Int) ≤ 223) = true := decide_eq_true (by omega)
  have t4 : decide ((224 : Int) ≤ (b0 : Int)) = false := decide_eq_false (by omega)
  have t5 : decide ((b0 : Int) ≤ 239) = true := decide_eq_true (by omega)
  have t6 : decide ((240 : Int) ≤ (b0 : Int)) = false := decide_eq_false (by omega)
  have t7 : decide ((b0 : Int) ≤ 244) = true := decide_eq_true (by omega)
  by_cases hn : T.size < 2
  · have gi0 : (T[0]'h0).toNat = b0 := by rw [get_at]; exact g0
    have tn : decide ((T.size : Int) < 2) = true := decide_eq_true (by omega)
    go_enter Tryd.func22, Tryd.ntmps22
    go_wp2
    go_ret2
    exact ⟨by rw [dec_bad (bad_of _ _ _ _ _ l0 l1 l2 l3 (by omega))]; rfl, rfl⟩
  · have gi0 : (T[0]'h0).toNat = b0 := by rw [get_at]; exact g0
    have tn : decide ((T.size : Int) < 2) = false := decide_eq_false (by omega)
    have hi1 : 1 < T.size := by omega
    have gi1 : (T[1]'hi1).toNat = b1 := by rw [get_at]; exact g1
    go_enter Tryd.func22, Tryd.ntmps22
    go_wp2
    go_loopw [4, 7] (fun v4 v7 wr => ∃ (k : Nat) (a : Int), v7 = .int .i64 k ∧ v4 = .int .i64 a ∧ w = wr ∧ ((k = 1 ∧ a = (b0 : Int) - 192) ∨ (k = 2 ∧ a = ((b0 : Int) - 192) * 64 + b1 - 128 ∧ (128 ≤ b1 ∧ b1 ≤ 191)))) (fun _ v7 _ => 2 - (intOf v7).toNat)
    case atStart => exact ⟨1, (b0 : Int) - 192, rfl, rfl, rfl, .inl ⟨rfl, rfl⟩⟩
    case round =>
      obtain ⟨k, a, e7, e4, ew, hk⟩ := hrel
      subst e7 e4 ew
      rcases hk with ⟨rfl, ea⟩ | ⟨rfl, ea, o1⟩
      · by_cases c1 : b1 < 128
        · have u1 : decide ((b1 : Int) < 128) = true := decide_eq_true (by omega)
          go_wp2
          go_ret2
          exact ⟨by rw [dec_bad (bad_of _ _ _ _ _ l0 l1 l2 l3 (by omega))]; rfl, rfl⟩
        · have u1 : decide ((b1 : Int) < 128) = false := decide_eq_false (by omega)
          by_cases c2 : 191 < b1
          · have u2 : decide ((191 : Int) < (b1 : Int)) = true := decide_eq_true (by omega)
            go_wp2
            go_ret2
            exact ⟨by rw [dec_bad (bad_of _ _ _ _ _ l0 l1 l2 l3 (by omega))]; rfl, rfl⟩
          · have u2 : decide ((191 : Int) < (b1 : Int)) = false := decide_eq_false (by omega)
            go_wp2
            go_roundw
            case rel => exact ⟨2, ((b0 : Int) - 192) * 64 + b1 - 128, by first | rfl | trivial, by first | rfl | trivial, by first | rfl | trivial, .inr (⟨rfl, by first | omega | trivial, ⟨by omega, by omega⟩⟩)⟩
            case measure => simp [intOf]
      · by_cases c1 : a < 128
        · exact absurd c1 (by omega)
        · have u1 : decide (a < 128) = false := decide_eq_false (by omega)
          have u2 : decide ((1114111 : Int) < a) = false := decide_eq_false (by omega)
          have u3 : decide ((55296 : Int) ≤ a) = false := decide_eq_false (by omega)
          go_wp2
          go_ret2
          exact ⟨by rw [rr_two (by omega) (by omega) o1, ← ea]; rfl, rfl⟩
set_option maxRecDepth 100000 in
set_option maxHeartbeats 4000000 in
theorem rune_3 (T : ByteArray) (b0 b1 b2 b3 : Nat) (h0 : 0 < T.size) (hz : T.size ≤ 1000000) (g0 : (T.get! 0).toNat = b0) (g1 : (T.get! 1).toNat = b1) (g2 : (T.get! 2).toNat = b2) (g3 : (T.get! 3).toNat = b3) (l0 : b0 < 256) (l1 : b1 < 256) (l2 : b2 < 256) (l3 : b3 < 256) (hb : 224 ≤ b0 ∧ b0 ≤ 239) (w : World) : Calls Tryd.prog 22 #[.string T] w fun e w' => e = .returned (.tuple #[.int .i64 (rrN T.size b0 b1 b2 b3).1, .int .i64 (rrN T.size b0 b1 b2 b3).2]) ∧ w = w' := by
  have t1 : decide ((b0 : Int) < 128) = false := decide_eq_false (by omega)
  have t2 : decide ((194 : Int) ≤ (b0 : Int)) = true := decide_eq_true (by omega)
  have t3 : decide ((b0 : Int) ≤ 223) = false := decide_eq_false (by omega)
  have t4 : decide ((224 : Int) ≤ (b0 : Int)) = true := decide_eq_true (by omega)
  have t5 : decide ((b0 : Int) ≤ 239) = true := decide_eq_true (by omega)
  have t6 : decide ((240 : Int) ≤ (b0 : Int)) = false := decide_eq_false (by omega)
  have t7 : decide ((b0 : Int) ≤ 244) = true := decide_eq_true (by omega)
  by_cases hn : T.size < 3
  · have gi0 : (T[0]'h0).toNat = b0 := by rw [get_at]; exact g0
    have tn : decide ((T.size : Int) < 3) = true := decide_eq_true (by omega)
    go_enter Tryd.func22, Tryd.ntmps22
    go_wp2
    go_ret2
    exact ⟨by rw [dec_bad (bad_of _ _ _ _ _ l0 l1 l2 l3 (by omega))]; rfl, rfl⟩
  · have gi0 : (T[0]'h0).toNat = b0 := by rw [get_at]; exact g0
    have tn : decide ((T.size : Int) < 3) = false := decide_eq_false (by omega)
    have hi1 : 1 < T.size := by omega
    have gi1 : (T[1]'hi1).toNat = b1 := by rw [get_at]; exact g1
    have hi2 : 2 < T.size := by omega
    have gi2 : (T[2]'hi2).toNat = b2 := by rw [get_at]; exact g2
    go_enter Tryd.func22, Tryd.ntmps22
    go_wp2
    go_loopw [4, 7] (fun v4 v7 wr => ∃ (k : Nat) (a : Int), v7 = .int .i64 k ∧ v4 = .int .i64 a ∧ w = wr ∧ ((k = 1 ∧ a = (b0 : Int) - 224) ∨ (k = 2 ∧ a = ((b0 : Int) - 224) * 64 + b1 - 128 ∧ (128 ≤ b1 ∧ b1 ≤ 191)) ∨ (k = 3 ∧ a = (((b0 : Int) - 224) * 64 + b1 - 128) * 64 + b2 - 128 ∧ (128 ≤ b1 ∧ b1 ≤ 191) ∧ (128 ≤ b2 ∧ b2 ≤ 191)))) (fun _ v7 _ => 3 - (intOf v7).toNat)
    case atStart => exact ⟨1, (b0 : Int) - 224, rfl, rfl, rfl, .inl ⟨rfl, rfl⟩⟩
    case round =>
      obtain ⟨k, a, e7, e4, ew, hk⟩ := hrel
      subst e7 e4 ew
      rcases hk with ⟨rfl, ea⟩ | ⟨rfl, ea, o1⟩ | ⟨rfl, ea, o1, o2⟩
      · by_cases c1 : b1 < 128
        · have u1 : decide ((b1 : Int) < 128) = true := decide_eq_true (by omega)
          go_wp2
          go_ret2
          exact ⟨by rw [dec_bad (bad_of _ _ _ _ _ l0 l1 l2 l3 (by omega))]; rfl, rfl⟩
        · have u1 : decide ((b1 : Int) < 128) = false := decide_eq_false (by omega)
          by_cases c2 : 191 < b1
          · have u2 : decide ((191 : Int) < (b1 : Int)) = true := decide_eq_true (by omega)
            go_wp2
            go_ret2
            exact ⟨by rw [dec_bad (bad_of _ _ _ _ _ l0 l1 l2 l3 (by omega))]; rfl, rfl⟩
          · have u2 : decide ((191 : Int) < (b1 : Int)) = false := decide_eq_false (by omega)
            go_wp2
            go_roundw
            case rel => exact ⟨2, ((b0 : Int) - 224) * 64 + b1 - 128, by first | rfl | trivial, by first | rfl | trivial, by first | rfl | trivial, .inr (.inl ⟨rfl, by first | omega | trivial, ⟨by omega, by omega⟩⟩)⟩
            case measure => simp [intOf]
      · by_cases c1 : b2 < 128
        · have u1 : decide ((b2 : Int) < 128) = true := decide_eq_true (by omega)
          go_wp2
          go_ret2
          exact ⟨by rw [dec_bad (bad_of _ _ _ _ _ l0 l1 l2 l3 (by omega))]; rfl, rfl⟩
        · have u1 : decide ((b2 : Int) < 128) = false := decide_eq_false (by omega)
          by_cases c2 : 191 < b2
          · have u2 : decide ((191 : Int) < (b2 : Int)) = true := decide_eq_true (by omega)
            go_wp2
            go_ret2
            exact ⟨by rw [dec_bad (bad_of _ _ _ _ _ l0 l1 l2 l3 (by omega))]; rfl, rfl⟩
          · have u2 : decide ((191 : Int) < (b2 : Int)) = false := decide_eq_false (by omega)
            go_wp2
            go_roundw
            case rel => exact ⟨3, (((b0 : Int) - 224) * 64 + b1 - 128) * 64 + b2 - 128, by first | rfl | trivial, by first | rfl | trivial, by first | rfl | trivial, .inr (.inr (⟨rfl, by first | omega | trivial, o1, ⟨by omega, by omega⟩⟩))⟩
            case measure => simp [intOf]
      · by_cases c1 : a < 2048
        · have u1 : decide (a < 2048) = true := decide_eq_true (by omega)
          go_wp2
          go_ret2
          exact ⟨by rw [dec_bad (bad_of _ _ _ _ _ l0 l1 l2 l3 (by omega))]; rfl, rfl⟩
        · have u1 : decide (a < 2048) = false := decide_eq_false (by omega)
          have u2 : decide ((1114111 : Int) < a) = false := decide_eq_false (by omega)
          by_cases c3 : 55296 ≤ a
          · have u3 : decide ((55296 : Int) ≤ a) = true := decide_eq_true (by omega)
            by_cases c4 : a ≤ 57343
            · have u4 : decide (a ≤ 57343) = true := decide_eq_true (by omega)
              go_wp2
              go_ret2
              exact ⟨by rw [dec_bad (bad_of _ _ _ _ _ l0 l1 l2 l3 (by omega))]; rfl, rfl⟩
            · have u4 : decide (a ≤ 57343) = false := decide_eq_false (by omega)
              go_wp2
              go_ret2
              exact ⟨by rw [rr_three (by omega) (by omega) o1 o2 (by omega), ← ea]; rfl, rfl⟩
          · have u3 : decide ((55296 : Int) ≤ a) = false := decide_eq_false (by omega)
            go_wp2
            go_ret2
            exact ⟨by rw [rr_three (by omega) (by omega) o1 o2 (by omega), ← ea]; rfl, rfl⟩
set_option maxRecDepth 100000 in
set_option maxHeartbeats 4000000 in
theorem rune_4 (T : ByteArray) (b0 b1 b2 b3 : Nat) (h0 : 0 < T.size) (hz : T.size ≤ 1000000) (g0 : (T.get! 0).toNat = b0) (g1 : (T.get! 1).toNat = b1) (g2 : (T.get! 2).toNat = b2) (g3 : (T.get! 3).toNat = b3) (l0 : b0 < 256) (l1 : b1 < 256) (l2 : b2 < 256) (l3 : b3 < 256) (hb : 240 ≤ b0 ∧ b0 ≤ 244) (w : World) : Calls Tryd.prog 22 #[.string T] w fun e w' => e = .returned (.tuple #[.int .i64 (rrN T.size b0 b1 b2 b3).1, .int .i64 (rrN T.size b0 b1 b2 b3).2]) ∧ w = w' := by
  have t1 : decide ((b0 : Int) < 128) = false := decide_eq_false (by omega)
  have t2 : decide ((194 : Int) ≤ (b0 : Int)) = true := decide_eq_true (by omega)
  have t3 : decide ((b0 : Int) ≤ 223) = false := decide_eq_false (by omega)
  have t4 : decide ((224 : Int) ≤ (b0 : Int)) = true := decide_eq_true (by omega)
  have t5 : decide ((b0 : Int) ≤ 239) = false := decide_eq_false (by omega)
  have t6 : decide ((240 : Int) ≤ (b0 : Int)) = true := decide_eq_true (by omega)
  have t7 : decide ((b0 : Int) ≤ 244) = true := decide_eq_true (by omega)
  by_cases hn : T.size < 4
  · have gi0 : (T[0]'h0).toNat = b0 := by rw [get_at]; exact g0
    have tn : decide ((T.size : Int) < 4) = true := decide_eq_true (by omega)
    go_enter Tryd.func22, Tryd.ntmps22
    go_wp2
    go_ret2
    exact ⟨by rw [dec_bad (bad_of _ _ _ _ _ l0 l1 l2 l3 (by omega))]; rfl, rfl⟩
  · have gi0 : (T[0]'h0).toNat = b0 := by rw [get_at]; exact g0
    have tn : decide ((T.size : Int) < 4) = false := decide_eq_false (by omega)
    have hi1 : 1 < T.size := by omega
    have gi1 : (T[1]'hi1).toNat = b1 := by rw [get_at]; exact g1
    have hi2 : 2 < T.size := by omega
    have gi2 : (T[2]'hi2).toNat = b2 := by rw [get_at]; exact g2
    have hi3 : 3 < T.size := by omega
    have gi3 : (T[3]'hi3).toNat = b3 := by rw [get_at]; exact g3
    go_enter Tryd.func22, Tryd.ntmps22
    go_wp2
    go_loopw [4, 7] (fun v4 v7 wr => ∃ (k : Nat) (a : Int), v7 = .int .i64 k ∧ v4 = .int .i64 a ∧ w = wr ∧ ((k = 1 ∧ a = (b0 : Int) - 240) ∨ (k = 2 ∧ a = ((b0 : Int) - 240) * 64 + b1 - 128 ∧ (128 ≤ b1 ∧ b1 ≤ 191)) ∨ (k = 3 ∧ a = (((b0 : Int) - 240) * 64 + b1 - 128) * 64 + b2 - 128 ∧ (128 ≤ b1 ∧ b1 ≤ 191) ∧ (128 ≤ b2 ∧ b2 ≤ 191)) ∨ (k = 4 ∧ a = ((((b0 : Int) - 240) * 64 + b1 - 128) * 64 + b2 - 128) * 64 + b3 - 128 ∧ (128 ≤ b1 ∧ b1 ≤ 191) ∧ (128 ≤ b2 ∧ b2 ≤ 191) ∧ (128 ≤ b3 ∧ b3 ≤ 191)))) (fun _ v7 _ => 4 - (intOf v7).toNat)
    case atStart => exact ⟨1, (b0 : Int) - 240, rfl, rfl, rfl, .inl ⟨rfl, rfl⟩⟩
    case round =>
      obtain ⟨k, a, e7, e4, ew, hk⟩ := hrel
      subst e7 e4 ew
      rcases hk with ⟨rfl, ea⟩ | ⟨rfl, ea, o1⟩ | ⟨rfl, ea, o1, o2⟩ | ⟨rfl, ea, o1, o2, o3⟩
      · by_cases c1 : b1 < 128
        · have u1 : decide ((b1 : Int) < 128) = true := decide_eq_true (by omega)
          go_wp2
          go_ret2
          exact ⟨by rw [dec_bad (bad_of _ _ _ _ _ l0 l1 l2 l3 (by omega))]; rfl, rfl⟩
        · have u1 : decide ((b1 : Int) < 128) = false := decide_eq_false (by omega)
          by_cases c2 : 191 < b1
          · have u2 : decide ((191 : Int) < (b1 : Int)) = true := decide_eq_true (by omega)
            go_wp2
            go_ret2
            exact ⟨by rw [dec_bad (bad_of _ _ _ _ _ l0 l1 l2 l3 (by omega))]; rfl, rfl⟩
          · have u2 : decide ((191 : Int) < (b1 : Int)) = false := decide_eq_false (by omega)
            go_wp2
            go_roundw
            case rel => exact ⟨2, ((b0 : Int) - 240) * 64 + b1 - 128, by first | rfl | trivial, by first | rfl | trivial, by first | rfl | trivial, .inr (.inl ⟨rfl, by first | omega | trivial, ⟨by omega, by omega⟩⟩)⟩
            case measure => simp [intOf]
      · by_cases c1 : b2 < 128
        · have u1 : decide ((b2 : Int) < 128) = true := decide_eq_true (by omega)
          go_wp2
          go_ret2
          exact ⟨by rw [dec_bad (bad_of _ _ _ _ _ l0 l1 l2 l3 (by omega))]; rfl, rfl⟩
        · have u1 : decide ((b2 : Int) < 128) = false := decide_eq_false (by omega)
          by_cases c2 : 191 < b2
          · have u2 : decide ((191 : Int) < (b2 : Int)) = true := decide_eq_true (by omega)
            go_wp2
            go_ret2
            exact ⟨by rw [dec_bad (bad_of _ _ _ _ _ l0 l1 l2 l3 (by omega))]; rfl, rfl⟩
          · have u2 : decide ((191 : Int) < (b2 : Int)) = false := decide_eq_false (by omega)
            go_wp2
            go_roundw
            case rel => exact ⟨3, (((b0 : Int) - 240) * 64 + b1 - 128) * 64 + b2 - 128, by first | rfl | trivial, by first | rfl | trivial, by first | rfl | trivial, .inr (.inr (.inl ⟨rfl, by first | omega | trivial, o1, ⟨by omega, by omega⟩⟩))⟩
            case measure => simp [intOf]
      · by_cases c1 : b3 < 128
        · have u1 : decide ((b3 : Int) < 128) = true := decide_eq_true (by omega)
          go_wp2
          go_ret2
          exact ⟨by rw [dec_bad (bad_of _ _ _ _ _ l0 l1 l2 l3 (by omega))]; rfl, rfl⟩
        · have u1 : decide ((b3 : Int) < 128) = false := decide_eq_false (by omega)
          by_cases c2 : 191 < b3
          · have u2 : decide ((191 : Int) < (b3 : Int)) = true := decide_eq_true (by omega)
            go_wp2
            go_ret2
            exact ⟨by rw [dec_bad (bad_of _ _ _ _ _ l0 l1 l2 l3 (by omega))]; rfl, rfl⟩
          · have u2 : decide ((191 : Int) < (b3 : Int)) = false := decide_eq_false (by omega)
            go_wp2
            go_roundw
            case rel => exact ⟨4, ((((b0 : Int) - 240) * 64 + b1 - 128) * 64 + b2 - 128) * 64 + b3 - 128, by first | rfl | trivial, by first | rfl | trivial, by first | rfl | trivial, .inr (.inr (.inr (⟨rfl, by first | omega | trivial, o1, o2, ⟨by omega, by omega⟩⟩)))⟩
            case measure => simp [intOf]
      · by_cases c1 : a < 65536
        · have u1 : decide (a < 65536) = true := decide_eq_true (by omega)
          go_wp2
          go_ret2
          exact ⟨by rw [dec_bad (bad_of _ _ _ _ _ l0 l1 l2 l3 (by omega))]; rfl, rfl⟩
        · have u1 : decide (a < 65536) = false := decide_eq_false (by omega)
          by_cases c2 : 1114111 < a
          · have u2 : decide ((1114111 : Int) < a) = true := decide_eq_true (by omega)
            go_wp2
            go_ret2
            exact ⟨by rw [dec_bad (bad_of _ _ _ _ _ l0 l1 l2 l3 (by omega))]; rfl, rfl⟩
          · have u2 : decide ((1114111 : Int) < a) = false := decide_eq_false (by omega)
            have u3 : decide ((55296 : Int) ≤ a) = true := decide_eq_true (by omega)
            have u4 : decide (a ≤ 57343) = false := decide_eq_false (by omega)
            go_wp2
            go_ret2
            exact ⟨by rw [rr_four (by omega) (by omega) o1 o2 o3 (by omega), ← ea]; rfl, rfl⟩
theorem refRune_any (T : ByteArray) (h0 : 0 < T.size) (hz : T.size ≤ 1000000) (w : World) : Calls Tryd.prog 22 #[.string T] w fun e w' => e = .returned (.tuple #[.int .i64 (rr T 0).1, .int .i64 (rr T 0).2]) ∧ w = w' := by
  rw [rr_at, Nat.sub_zero, Nat.zero_add, Nat.zero_add, Nat.zero_add]
  have l0 := get_lt T 0
  have l1 := get_lt T 1
  have l2 := get_lt T 2
  have l3 := get_lt T 3
  rcases (by omega : (T.get! 0).toNat < 128 ∨ ((128 ≤ (T.get! 0).toNat ∧ (T.get! 0).toNat < 194) ∨ 245 ≤ (T.get! 0).toNat) ∨ (194 ≤ (T.get! 0).toNat ∧ (T.get! 0).toNat ≤ 223) ∨ (224 ≤ (T.get! 0).toNat ∧ (T.get! 0).toNat ≤ 239) ∨ (240 ≤ (T.get! 0).toNat ∧ (T.get! 0).toNat ≤ 244)) with h | h | h | h | h
  · exact rune_one T _ _ _ _ h0 hz rfl rfl rfl rfl l0 l1 l2 l3 h w
  · exact rune_no T _ _ _ _ h0 hz rfl rfl rfl rfl l0 l1 l2 l3 h w
  · exact rune_2 T _ _ _ _ h0 hz rfl rfl rfl rfl l0 l1 l2 l3 h w
  · exact rune_3 T _ _ _ _ h0 hz rfl rfl rfl rfl l0 l1 l2 l3 h w
  · exact rune_4 T _ _ _ _ h0 hz rfl rfl rfl rfl l0 l1 l2 l3 h w
end Go.Proofs.YtlkokljlghlldaaDoor.Nam
