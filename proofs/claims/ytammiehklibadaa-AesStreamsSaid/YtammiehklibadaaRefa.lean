/-
  THE CONTRACT of the document's Product.
-/
import Derived.Test.YtammiehklibadaaRefp
import Derived.Test.YtammiehklibadaaKit3
import Derived.Test.YtammiehklibadaaOct
namespace Go.Proofs.Ytammiehklibadaa.Aes
open Go.RowKit
open Go.Proofs.Ytammiehklibadaa.Kit
set_option linter.unusedVariables false

theorem p1_lt (a b : Nat) (ha : a < 256) : ∀ k, k ≤ 8 → p1 a b k < 2 ^ 16 := by
  intro k
  induction k with
  | zero => intro _; rw [p1]; omega
  | succ k ih =>
    intro hk
    have h := ih (by omega)
    rw [p1]
    split
    · refine Nat.xor_lt_two_pow h ?_
      rw [Nat.shiftLeft_eq]
      have : 2 ^ k ≤ 2 ^ 7 := Nat.pow_le_pow_right (by omega) (by omega)
      calc a * 2 ^ k ≤ 255 * 2 ^ 7 := Nat.mul_le_mul (by omega) this
        _ < 2 ^ 16 := by decide
    · exact h
theorem p2_lt (n : Nat) (hn : n < 2 ^ 16) : ∀ j, j ≤ 7 → p2 n j < 2 ^ 16 := by
  intro j
  induction j with
  | zero => intro _; exact hn
  | succ j ih =>
    intro hj
    have h := ih (by omega)
    rw [p2]
    split
    · refine Nat.xor_lt_two_pow h ?_
      rw [Nat.shiftLeft_eq]
      have : 2 ^ (6 - j) ≤ 2 ^ 6 := Nat.pow_le_pow_right (by omega) (by omega)
      calc 283 * 2 ^ (6 - j) ≤ 283 * 2 ^ 6 := Nat.mul_le_mul (by omega) this
        _ < 2 ^ 16 := by decide
    · exact h
theorem shr_nm {n k s : Nat} (h : s = n >>> k) : (n : Int) / 2 ^ k = (s : Int) := by
  rw [h, Nat.shiftRight_eq_div_pow]; norm_cast
theorem shl_nm {n k s : Nat} (h : s = n <<< k) (hs : s < 9223372036854775808) : IntKind.i64.wrap ((n : Int) * 2 ^ k) = (s : Int) := by
  have e : (n : Int) * 2 ^ k = (s : Int) := by rw [h, Nat.shiftLeft_eq]; norm_cast
  rw [e, IntKind.wrap_i64]; omega
theorem tmod2 {n r : Nat} (h : r = n % 2) : (n : Int).tmod 2 = (r : Int) := by rw [h, Int.tmod_eq_emod_of_nonneg (by omega), Int.natCast_emod]; rfl

set_option maxRecDepth 100000 in
set_option maxHeartbeats 1000000 in
theorem prod_any (a b : UInt8) (w : World) : Calls Try.prog 20 #[.int .u8 (a.toNat : Int), .int .u8 (b.toNat : Int)] w fun e w' => e = .returned (.int .u8 ((prodS a b).toNat : Int)) ∧ w = w' := by
  have ha := a.toNat_lt
  have hb := b.toNat_lt
  obtain ⟨A, hA⟩ : ∃ A, A = a.toNat := ⟨_, rfl⟩
  obtain ⟨B, hB⟩ : ∃ B, B = b.toNat := ⟨_, rfl⟩
  have hP : prodS a b = UInt8.ofNat (p2 (p1 A B 8) 7) := by rw [prodS, hA, hB]
  have HP := Lib.hid hP
  rw [← hA] at ha ⊢
  rw [← hB] at hb ⊢
  clear hA hB hP
  go_enter Try.func20, Try.ntmps20
  go_wp2_with fail
  go_loopw [5, 6] (fun n i wr => ∃ k : Nat, k ≤ 8 ∧ i = .int .i64 (k : Int) ∧ n = .int .i64 ((p1 A B k : Nat) : Int) ∧ w = wr) (fun _ i _ => 8 - (intOf i).toNat)
  case atStart => exact ⟨0, by omega, rfl, rfl, rfl⟩
  case round =>
    obtain ⟨k, hk, rfl, rfl, rfl⟩ := hrel
    by_cases hlt : k < 8
    · obtain ⟨s, hs⟩ : ∃ s, s = B >>> k := ⟨_, rfl⟩
      obtain ⟨r, hr⟩ : ∃ r, r = s % 2 := ⟨_, rfl⟩
      obtain ⟨m, hm⟩ : ∃ m, m = A <<< k := ⟨_, rfl⟩
      obtain ⟨n, hn⟩ : ∃ n, n = p1 A B k := ⟨_, rfl⟩
      have hn16 : n < 65536 := by rw [hn]; exact p1_lt A B (by omega) k (by omega)
      have hm16 : m < 65536 := by
        rw [hm, Nat.shiftLeft_eq]
        have : 2 ^ k ≤ 2 ^ 7 := Nat.pow_le_pow_right (by omega) (by omega)
        calc A * 2 ^ k ≤ 255 * 2 ^ 7 := Nat.mul_le_mul (by omega) this
          _ < 65536 := by decide
      have e1 := shr_nm hs
      have e2 := tmod2 hr
      have e3 := shl_nm hm (by omega)
      have e4 := i64_xor n m (by omega) (by omega)
      have hnx : p1 A B (k + 1) = if r = 1 then n ^^^ m else n := by rw [p1, ← hs, ← hr, ← hm, ← hn]
      rw [← hn]
      have HNX := Lib.hid hnx
      clear hs hr hm hn hnx
      by_cases h1 : r = 1
      · have t1 : ((r : Int) == 1) = true := by rw [h1]; rfl
        go_wp2_with fail
        exact ⟨⟨k + 1, by omega, by go_num, by rw [HNX.out, if_pos h1], trivial⟩, by simp [intOf]; omega⟩
      · have t1 : ((r : Int) == 1) = false := by rw [beq_eq_false_iff_ne]; omega
        go_wp2_with fail
        exact ⟨⟨k + 1, by omega, by go_num, by rw [HNX.out, if_neg h1], trivial⟩, by simp [intOf]; omega⟩
    · obtain rfl : k = 8 := by omega
      obtain ⟨N, hN⟩ : ∃ N, N = p1 A B 8 := ⟨_, rfl⟩
      have hN16 : N < 65536 := by rw [hN]; exact p1_lt A B (by omega) 8 (by omega)
      rw [← hN]
      have HN := Lib.hid hN
      clear hN
      go_wp2_with fail
      go_loopw [5, 7] (fun n i wr => ∃ j : Nat, j ≤ 7 ∧ i = .int .i64 ((14 - j : Nat) : Int) ∧ n = .int .i64 ((p2 N j : Nat) : Int) ∧ w = wr) (fun _ i _ => (intOf i).toNat)
      case atStart => exact ⟨0, by omega, rfl, rfl, by first | rfl | trivial⟩
      case round =>
        obtain ⟨j, hj, rfl, rfl, rfl⟩ := hrel
        obtain ⟨q, hq⟩ : ∃ q, q = 14 - j := ⟨_, rfl⟩
        rw [← hq]
        by_cases hlt : j < 7
        · obtain ⟨n, hn⟩ : ∃ n, n = p2 N j := ⟨_, rfl⟩
          obtain ⟨s, hs⟩ : ∃ s, s = n >>> q := ⟨_, rfl⟩
          obtain ⟨r, hr⟩ : ∃ r, r = s % 2 := ⟨_, rfl⟩
          obtain ⟨q8, hq8⟩ : ∃ q, q = 6 - j := ⟨_, rfl⟩
          obtain ⟨q1, hq1⟩ : ∃ q, q = 14 - (j + 1) := ⟨_, rfl⟩
          obtain ⟨m, hm⟩ : ∃ m, m = 283 <<< q8 := ⟨_, rfl⟩
          have hn16 : n < 65536 := by rw [hn]; exact p2_lt N (by omega) j (by omega)
          have hm16 : m < 65536 := by
            rw [hm, Nat.shiftLeft_eq]
            have : 2 ^ q8 ≤ 2 ^ 6 := Nat.pow_le_pow_right (by omega) (by omega)
            calc 283 * 2 ^ q8 ≤ 283 * 2 ^ 6 := Nat.mul_le_mul (by omega) this
              _ < 65536 := by decide
          have e1 := shr_nm hs
          have e2 := tmod2 hr
          have e3 : IntKind.i64.wrap (283 * 2 ^ q8) = (m : Int) := shl_nm (n := 283) hm (by omega)
          have e4 := i64_xor n m (by omega) (by omega)
          have e5 : (q : Int) - 8 = (q8 : Int) := by omega
          have e6 : (q : Int) - 1 = (q1 : Int) := by omega
          have hnx : p2 N (j + 1) = if r = 1 then n ^^^ m else n := by rw [p2, ← hq, ← hn, ← hs, ← hr, ← hq8, ← hm]
          rw [← hn]
          have HNX := Lib.hid hnx
          have HQ1 := Lib.hid (And.intro hq1 hq)
          have hqb : 8 ≤ q ∧ q ≤ 14 := by omega
          clear hs hr hm hn hnx hq8 hq1 hq
          by_cases h1 : r = 1
          · have t1 : ((r : Int) == 1) = true := by rw [h1]; rfl
            go_wp2_with fail
            have h2 := HQ1.out
            exact ⟨⟨j + 1, by omega, by rw [h2.1], by rw [HNX.out, if_pos h1], by first | rfl | trivial⟩, by simp [intOf]; omega⟩
          · have t1 : ((r : Int) == 1) = false := by rw [beq_eq_false_iff_ne]; omega
            go_wp2_with fail
            have h2 := HQ1.out
            exact ⟨⟨j + 1, by omega, by rw [h2.1], by rw [HNX.out, if_neg h1], by first | rfl | trivial⟩, by simp [intOf]; omega⟩
        · obtain rfl : j = 7 := by omega
          obtain rfl : q = 7 := by omega
          obtain ⟨n, hn⟩ : ∃ n, n = p2 N 7 := ⟨_, rfl⟩
          have hres : ((prodS a b).toNat : Int) = (n : Int) % 256 := by
            rw [HP.out, ← HN.out, ← hn, UInt8.toNat_ofNat']
            omega
          rw [← hn]
          have HRES := Lib.hid hres
          clear hn hq hj hlt hres hN16 ha hb
          go_wp2_with fail
          go_ret
          have hres := HRES.out
          exact ⟨by rw [hres]; rfl, by first | rfl | trivial⟩
end Go.Proofs.Ytammiehklibadaa.Aes
