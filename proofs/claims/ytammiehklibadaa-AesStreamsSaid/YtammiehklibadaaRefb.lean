/-
  THE CONTRACT of the document's Box.
-/
import Derived.Test.YtammiehklibadaaRefa
namespace Go.Proofs.Ytammiehklibadaa.Aes
open Go.RowKit
open Go.Proofs.Ytammiehklibadaa.Kit
set_option linter.unusedVariables false

theorem bitS_le (x k : Nat) : ∀ j, bitS x k j ≤ j := by
  intro j
  induction j with
  | zero => exact Nat.le_refl _
  | succ j ih => rw [bitS]; omega
theorem byte_nm {n : Nat} {y : UInt8} (h : y = UInt8.ofNat n) : IntKind.u8.wrap (n : Int) = (y.toNat : Int) := by
  rw [h, UInt8.toNat_ofNat']; show (n : Int) % 256 = ((n % 2 ^ 8 : Nat) : Int); omega
theorem add_nm {x y v : UInt8} (h : v = x + y) : IntKind.u8.wrap ((x.toNat : Int) + (y.toNat : Int)) = (v.toNat : Int) := by
  rw [h, UInt8.toNat_add]; show ((x.toNat : Int) + (y.toNat : Int)) % 256 = (((x.toNat + y.toNat) % 2 ^ 8 : Nat) : Int); omega

set_option maxRecDepth 100000 in
set_option maxHeartbeats 1000000 in
theorem box_any (b : UInt8) (w : World) : Calls Try.prog 21 #[.int .u8 (b.toNat : Int)] w fun e w' => e = .returned (.int .u8 ((boxS b).toNat : Int)) ∧ w = w' := by
  go_enter Try.func21, Try.ntmps21
  go_wp2_with fail
  go_loopw [3, 4] (fun x i wr => ∃ k : Nat, k ≤ 254 ∧ i = .int .i64 (k : Int) ∧ x = .int .u8 ((powS b k).toNat : Int) ∧ w = wr) (fun _ i _ => 254 - (intOf i).toNat)
  case atStart => exact ⟨0, by omega, rfl, rfl, by first | rfl | trivial⟩
  case round =>
    obtain ⟨k, hk, rfl, rfl, rfl⟩ := hrel
    by_cases hlt : k < 254
    · obtain ⟨x, hx⟩ : ∃ x, x = powS b k := ⟨_, rfl⟩
      obtain ⟨y, hy⟩ : ∃ y, y = powS b (k + 1) := ⟨_, rfl⟩
      have hp : ∀ W, Calls Try.prog 20 #[.int .u8 (x.toNat : Int), .int .u8 (b.toNat : Int)] W fun e w' => e = .returned (.int .u8 (y.toNat : Int)) ∧ W = w' := fun W => by
        rw [hy, hx]; exact prod_any (powS b k) b W
      have HP := Lib.hid hp
      have HY := Lib.hid hy
      rw [← hx]
      clear hx hy hp
      go_wp2_with fail
      refine (HP.out _).mono ?_
      rintro e w2 ⟨rfl, rfl⟩
      go_wp2_with fail
      exact ⟨⟨k + 1, by omega, by go_num, by rw [HY.out], by first | rfl | trivial⟩, by simp [intOf]; omega⟩
    · obtain rfl : k = 254 := by omega
      obtain ⟨x, hx⟩ : ∃ x, x = powS b 254 := ⟨_, rfl⟩
      obtain ⟨X, hX⟩ : ∃ X, X = x.toNat := ⟨_, rfl⟩
      have hb : boxS b = outS X 8 := by rw [boxS, hX, hx]
      have HB := Lib.hid hb
      have hX256 : X < 256 := by have := x.toNat_lt; omega
      rw [← hx, ← hX]
      clear hx hX hb hk hlt
      go_wp2_with fail
      go_loopw [5, 6, 7, 8] (fun o i _ _ wr => ∃ k : Nat, k ≤ 8 ∧ i = .int .i64 (k : Int) ∧ o = .int .u8 ((outS X k).toNat : Int) ∧ w = wr) (fun _ i _ _ _ => 8 - (intOf i).toNat)
      case atStart => exact ⟨0, by omega, rfl, rfl, by first | rfl | trivial⟩
      case round =>
        obtain ⟨k, hk, rfl, rfl, rfl⟩ := hrel
        by_cases hlt : k < 8
        · obtain ⟨o, ho⟩ : ∃ o, o = outS X k := ⟨_, rfl⟩
          rw [← ho]
          have HO := Lib.hid ho
          clear ho
          go_wp2_with fail
          go_loopw [7, 8] (fun t i wr => ∃ j : Nat, j ≤ 5 ∧ i = .int .i64 (j : Int) ∧ t = .int .i64 ((bitS X k j : Nat) : Int) ∧ w = wr) (fun _ i _ => 5 - (intOf i).toNat)
          case atStart => exact ⟨0, by omega, rfl, rfl, by first | rfl | trivial⟩
          case round =>
            obtain ⟨j, hj, rfl, rfl, rfl⟩ := hrel
            by_cases hltj : j < 5
            · obtain ⟨q, hq⟩ : ∃ q, q = k + 8 - j := ⟨_, rfl⟩
              obtain ⟨d, hd⟩ : ∃ d, d = q % 8 := ⟨_, rfl⟩
              obtain ⟨s, hs⟩ : ∃ s, s = X >>> d := ⟨_, rfl⟩
              obtain ⟨r, hr⟩ : ∃ r, r = s % 2 := ⟨_, rfl⟩
              obtain ⟨t, ht⟩ : ∃ t, t = bitS X k j := ⟨_, rfl⟩
              have htj : t ≤ j := by rw [ht]; exact bitS_le _ _ _
              have e1 : (k : Int) + 8 - (j : Int) = (q : Int) := by omega
              have e2 : (q : Int).tmod 8 = (d : Int) := by rw [hd, Int.tmod_eq_emod_of_nonneg (by omega), Int.natCast_emod]; rfl
              have e3 := shr_nm hs
              have e4 := tmod2 hr
              have hd8 : d < 8 := by omega
              have hr2 : r < 2 := by omega
              have hnx : bitS X k (j + 1) = t + r := by rw [bitS, ← hq, ← hd, ← hs, ← hr, ← ht]
              rw [← ht]
              have HNX := Lib.hid hnx
              clear hq hd hs hr ht hnx
              go_wp2_with fail
              exact ⟨⟨j + 1, by omega, by go_num, by rw [HNX.out, Int.natCast_add], by first | rfl | trivial⟩, by simp [intOf]; omega⟩
            · obtain rfl : j = 5 := by omega
              obtain ⟨t, ht⟩ : ∃ t, t = bitS X k 5 := ⟨_, rfl⟩
              have htj : t ≤ 5 := by rw [ht]; exact bitS_le _ _ _
              obtain ⟨s, hs⟩ : ∃ s, s = 99 >>> k := ⟨_, rfl⟩
              obtain ⟨r, hr⟩ : ∃ r, r = s % 2 := ⟨_, rfl⟩
              obtain ⟨u, hu⟩ : ∃ u, u = t + r := ⟨_, rfl⟩
              obtain ⟨p, hp⟩ : ∃ p, p = u % 2 := ⟨_, rfl⟩
              obtain ⟨m, hm⟩ : ∃ m, m = p <<< k := ⟨_, rfl⟩
              obtain ⟨y, hy⟩ : ∃ y, y = UInt8.ofNat m := ⟨_, rfl⟩
              obtain ⟨v, hv⟩ : ∃ v, v = o + y := ⟨_, rfl⟩
              have hm256 : m < 256 := by
                rw [hm, Nat.shiftLeft_eq]
                have : 2 ^ k ≤ 2 ^ 7 := Nat.pow_le_pow_right (by omega) (by omega)
                calc p * 2 ^ k ≤ 1 * 2 ^ 7 := Nat.mul_le_mul (by omega) this
                  _ < 256 := by decide
              have e1 : (99 : Int) / 2 ^ k = (s : Int) := shr_nm (n := 99) hs
              have e2 := tmod2 hr
              have e3 : (t : Int) + (r : Int) = (u : Int) := by omega
              have e4 := tmod2 hp
              have e5 := shl_nm hm (by omega)
              have e6 := byte_nm hy
              have e7 := add_nm hv
              have hr2 : r < 2 := by omega
              have hp2 : p < 2 := by omega
              have hnx : outS X (k + 1) = v := by rw [outS, ← HO.out, ← ht, ← hs, ← hr, ← hu, ← hp, ← hm, ← hy, ← hv]
              rw [← ht]
              have HNX := Lib.hid hnx
              clear hs hr ht hu hp hm hy hv hnx
              go_wp2_with fail
              exact ⟨⟨k + 1, by omega, by go_num, by rw [HNX.out], by first | rfl | trivial⟩, by simp [intOf]; omega⟩
        · obtain rfl : k = 8 := by omega
          clear hk hlt
          have hb := HB.out
          rw [← hb]
          go_wp2_with fail
          go_ret
          exact ⟨rfl, by first | rfl | trivial⟩
end Go.Proofs.Ytammiehklibadaa.Aes
