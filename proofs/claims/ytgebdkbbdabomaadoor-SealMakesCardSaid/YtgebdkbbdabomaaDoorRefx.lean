/-
  THE CONTRACT of the document's Product.
-/
import Derived.Test.YtgebdkbbdabomaaDoorRefp
import Derived.Test.YtgebdkbbdabomaaDoorKitm
import Derived.Test.YtgebdkbbdabomaaDoorOctm
namespace Go.Proofs.YtgebdkbbdabomaaDoor.Aes
open Go.RowKit
open Go.Proofs.YtgebdkbbdabomaaDoor.Kit
set_option linter.unusedVariables false

theorem p1_lt (a b : Nat) (ha : a < 256) : ∀ k, k ≤ 8 → p1 a b k < 2 ^ 16 := by
  intro k
  induction k with
  | zero => intro _; rw [p1]; omega
  | succ k ih =>
    intro hk
    have h := ih (by omega)
    rw [p1]
    split
    · refine Nat.xor_lt_two_pow h ?_
      rw [Nat.shiftLeft_eq]
      have : 2 ^ k ≤ 2 ^ 7 := Nat.pow_le_pow_right (by omega) (by omega)
      calc a * 2 ^ k ≤ 255 * 2 ^ 7 := Nat.mul_le_mul (by omega) this
        _ < 2 ^ 16 := by decide
    · exact h
theorem p2_lt (n : Nat) (hn : n < 2 ^ 16) : ∀ j, j ≤ 7 → p2 n j < 2 ^ 16 := by
  intro j
  induction j with
  | zero => intro _; exact hn
  | succ j ih =>
    intro hj
    have h := ih (by omega)
    rw [p2]
    split
    · refine Nat.xor_lt_two_pow h ?_
      rw [Nat.shiftLeft_eq]
      have : 2 ^ (6 - j) ≤ 2 ^ 6 := Nat.pow_le_pow_right (by omega) (by omega)
      calc 283 * 2 ^ (6 - j) ≤ 283 * 2 ^ 6 := Nat.mul_le_mul (by omega) this
        _ < 2 ^ 16 := by decide
    · exact h
theorem shr_nm {n k s : Nat} (h : s = n >>> k) : (n : Int) / 2 ^ k = (s : Int) := by
  rw [h, Nat.shiftRight_eq_div_pow]; norm_cast
theorem shl_nm {n k s : Nat} (h : s = n <<< k) (hs : s < 9223372036854775808) : IntKind.i64.wrap ((n : Int) * 2 ^ k) = (s : Int) := by
  have e : (n : Int) * 2 ^ k = (s : Int) := by rw [h, Nat.shiftLeft_eq]; norm_cast
  rw [e, IntKind.wrap_i64]; omega
theorem tmod2 {n r : Nat} (h : r = n % 2) : (n : Int).tmod 2 = (r : Int) := by rw [h, Int.tmod_eq_emod_of_nonneg (by omega), Int.natCast_emod]; rfl

set_option maxRecDepth 100000 in
set_option maxHeartbeats 1000000 in
theorem prod_any (a b : UInt8) (w : World) : Calls Tryd.prog 76 #[.int .u8 (a.toNat : Int), .int .u8 (b.toNat : Int)] w fun e w' => e = .returned (.int .u8 ((prodS a b).toNat : Int)) ∧ w = w' := by
  have ha := a.toNat_lt
  have hb := b.toNat_lt
  obtain ⟨A, hA⟩ : ∃ A, A = a.toNat := ⟨_, rfl⟩
  obtain ⟨B, hB⟩ : ∃ B, B = b.toNat := ⟨_, rfl⟩
  have hP : prodS a b = UInt8.ofNat (p2 (p1 A B 8) 7) := by rw [prodS, hA, hB]
  have HP := Lib.hid hP
  rw [← hA] at ha ⊢
  rw [← hB] at hb ⊢
  clear hA hB hP
  go_enter Tryd.func76, Tryd.ntmps76
  go_wp2_with fail
  go_loopw [5, 6] (fun n i wr => ∃ k : Nat, k ≤ 8 ∧ i = .int .i64 (k : Int) ∧ n = .int .i64 ((p1 A B k : Nat) : Int) ∧ w = wr) (fun _ i _ => 8 - (intOf i).toNat)
  case atStart => exact ⟨0, by omega, rfl, rfl, rfl⟩
  case round =>
    obtain ⟨k, hk, rfl, rfl, rfl⟩ := hrel
    by_cases hlt : k < 8
    · obtain ⟨s, hs⟩ : ∃ s, s = B >>> k := ⟨_, rfl⟩
      obtain ⟨r, hr⟩ : ∃ r, r = s % 2 := ⟨_, rfl⟩
      obtain ⟨m, hm⟩ : ∃ m, m = A <<< k := ⟨_, rfl⟩
      obtain ⟨n, hn⟩ : ∃ n, n = p1 A B k := ⟨_, rfl⟩
      have hn16 : n < 65536 := by rw [hn]; exact p1_lt A B (by omega) k (by omega)
      have hm16 : m < 65536 := by
        rw [hm, Nat.shiftLeft_eq]
        have : 2 ^ k ≤ 2 ^ 7 := Nat.pow_le_pow_right (by omega) (by omega)
        calc A * 2 ^ k ≤ 255 * 2 ^ 7 := Nat.mul_le_mul (by omega) this
          _ < 65536 := by decide
      have e1 := shr_nm hs
      have e2 := tmod2 hr
      have e3 := shl_nm hm (by omega)
      have e4 := i64_xor n m (by omega) (by omega)
      have hnx : p1 A B (k + 1) = if r = 1 then n ^^^ m else n := by rw [p1, ← hs, ← hr, ← hm, ← hn]
      rw [← hn]
      have HNX := Lib.hid hnx
      clear hs hr hm hn hnx
      by_cases h1 : r = 1
      · have t1 : ((r : Int) == 1) = true := by rw [h1]; rfl
        go_wp2_with fail
        exact ⟨⟨k + 1, by omega, by go_num, by rw [HNX.out, if_pos h1], trivial⟩, by simp [intOf]; omega⟩
      · have t1 : ((r : Int) == 1) = false := by rw [beq_eq_false_iff_ne]; omega
        go_wp2_with fail
        exact ⟨⟨k + 1, by omega, by go_num, by rw [HNX.out, if_neg h1], trivial⟩, by simp [intOf]; omega⟩
    · obtain rfl : k = 8 := by omega
      obtain ⟨N, hN⟩ : ∃ N, N = p1 A B 8 := ⟨_, rfl⟩
      have hN16 : N < 65536 := by rw [hN]; exact p1_lt A B (by omega) 8 (by omega)
      rw [← hN]
      have HN := Lib.hid hN
      clear hN
      go_wp2_with fail
      go_loopw [5, 7] (fun n i wr => ∃ j : Nat, j ≤ 7 ∧ i = .int .i64 ((14 - j : Nat) : Int) ∧ n = .int .i64 ((p2 N j : Nat) : Int) ∧ w = wr) (fun _ i _ => (intOf i).toNat)
      case atStart => exact ⟨0, by omega, rfl, rfl, by first | rfl | trivial⟩
      case round =>
        obtain ⟨j, hj, rfl, rfl, rfl⟩ := hrel
        obtain ⟨q, hq⟩ : ∃ q, q = 14 - j := ⟨_, rfl⟩
        rw [← hq]
        by_cases hlt : j < 7
        · obtain ⟨n, hn⟩ : ∃ n, n = p2 N j := ⟨_, rfl⟩
          obtain ⟨s, hs⟩ : ∃ s, s = n >>> q := ⟨_, rfl⟩
          obtain ⟨r, hr⟩ : ∃ r, r = s % 2 := ⟨_, rfl⟩
          obtain ⟨q8, hq8⟩ : ∃ q, q = 6 - j := ⟨_, rfl⟩
          obtain ⟨q1, hq1⟩ : ∃ q, q = 14 - (j + 1) := ⟨_, rfl⟩
          obtain ⟨m, hm⟩ : ∃ m, m = 283 <<< q8 := ⟨_, rfl⟩
          have hn16 : n < 65536 := by rw [hn]; exact p2_lt N (by omega) j (by omega)
          have hm16 : m < 65536 := by
            rw [hm, Nat.shiftLeft_eq]
            have : 2 ^ q8 ≤ 2 ^ 6 := Nat.pow_le_pow_right (by omega) (by omega)
            calc 283 * 2 ^ q8 ≤ 283 * 2 ^ 6 := Nat.mul_le_mul (by omega) this
              _ < 65536 := by decide
          have e1 := shr_nm hs
          have e2 := tmod2 hr
          have e3 : IntKind.i64.wrap (283 * 2 ^ q8) = (m : Int) := shl_nm (n := 283) hm (by omega)
          have e4 := i64_xor n m (by omega) (by omega)
          have e5 : (q : Int) - 8 = (q8 : Int) := by omega
          have e6 : (q : Int) - 1 = (q1 : Int) := by omega
          have hnx : p2 N (j + 1) = if r = 1 then n ^^^ m else n := by rw [p2, ← hq, ← hn, ← hs, ← hr, ← hq8, ← hm]
          rw [← hn]
          have HNX := Lib.hid hnx
          have HQ1 := Lib.hid (And.intro hq1 hq)
          have hqb : 8 ≤ q ∧ q ≤ 14 := by omega
          clear hs hr hm hn hnx hq8 hq1 hq
          by_cases h1 : r = 1
          · have t1 : ((r : Int) == 1) = true := by rw [h1]; rfl
            go_wp2_with fail
            have h2 := HQ1.out
            exact ⟨⟨j + 1, by omega, by rw [h2.1], by rw [HNX.out, if_pos h1], by first | rfl | trivial⟩, by simp [intOf]; omega⟩
          · have t1 : ((r : Int) == 1) = false := by rw [beq_eq_false_iff_ne]; omega
            go_wp2_with fail
            have h2 := HQ1.out
            exact ⟨⟨j + 1, by omega, by rw [h2.1], by rw [HNX.out, if_neg h1], by first | rfl | trivial⟩, by simp [intOf]; omega⟩
        · obtain rfl : j = 7 := by omega
          obtain rfl : q = 7 := by omega
          obtain ⟨n, hn⟩ : ∃ n, n = p2 N 7 := ⟨_, rfl⟩
          have hres : ((prodS a b).toNat : Int) = (n : Int) % 256 := by
            rw [HP.out, ← HN.out, ← hn, UInt8.toNat_ofNat']
            omega
          rw [← hn]
          have HRES := Lib.hid hres
          clear hn hq hj hlt hres hN16 ha hb
          go_wp2_with fail
          go_ret
          have hres := HRES.out
          exact ⟨by rw [hres]; rfl, by first | rfl | trivial⟩
end Go.Proofs.YtgebdkbbdabomaaDoor.Aes

/-
  THE CONTRACT of the document's Box.
-/
namespace Go.Proofs.YtgebdkbbdabomaaDoor.Aes
open Go.RowKit
open Go.Proofs.YtgebdkbbdabomaaDoor.Kit
set_option linter.unusedVariables false

theorem bitS_le (x k : Nat) : ∀ j, bitS x k j ≤ j := by
  intro j
  induction j with
  | zero => exact Nat.le_refl _
  | succ j ih => rw [bitS]; omega
theorem byte_nm {n : Nat} {y : UInt8} (h : y = UInt8.ofNat n) : IntKind.u8.wrap (n : Int) = (y.toNat : Int) := by
  rw [h, UInt8.toNat_ofNat']; show (n : Int) % 256 = ((n % 2 ^ 8 : Nat) : Int); omega
theorem add_nm {x y v : UInt8} (h : v = x + y) : IntKind.u8.wrap ((x.toNat : Int) + (y.toNat : Int)) = (v.toNat : Int) := by
  rw [h, UInt8.toNat_add]; show ((x.toNat : Int) + (y.toNat : Int)) % 256 = (((x.toNat + y.toNat) % 2 ^ 8 : Nat) : Int); omega

set_option maxRecDepth 100000 in
set_option maxHeartbeats 1000000 in
theorem box_any (b : UInt8) (w : World) : Calls Tryd.prog 60 #[.int .u8 (b.toNat : Int)] w fun e w' => e = .returned (.int .u8 ((boxS b).toNat : Int)) ∧ w = w' := by
  go_enter Tryd.func60, Tryd.ntmps60
  go_wp2_with fail
  go_loopw [3, 4] (fun x i wr => ∃ k : Nat, k ≤ 254 ∧ i = .int .i64 (k : Int) ∧ x = .int .u8 ((powS b k).toNat : Int) ∧ w = wr) (fun _ i _ => 254 - (intOf i).toNat)
  case atStart => exact ⟨0, by omega, rfl, rfl, by first | rfl | trivial⟩
  case round =>
    obtain ⟨k, hk, rfl, rfl, rfl⟩ := hrel
    by_cases hlt : k < 254
    · obtain ⟨x, hx⟩ : ∃ x, x = powS b k := ⟨_, rfl⟩
      obtain ⟨y, hy⟩ : ∃ y, y = powS b (k + 1) := ⟨_, rfl⟩
      have hp : ∀ W, Calls Tryd.prog 76 #[.int .u8 (x.toNat : Int), .int .u8 (b.toNat : Int)] W fun e w' => e = .returned (.int .u8 (y.toNat : Int)) ∧ W = w' := fun W => by
        rw [hy, hx]; exact prod_any (powS b k) b W
      have HP := Lib.hid hp
      have HY := Lib.hid hy
      rw [← hx]
      clear hx hy hp
      go_wp2_with fail
      refine (HP.out _).mono ?_
      rintro e w2 ⟨rfl, rfl⟩
      go_wp2_with fail
      exact ⟨⟨k + 1, by omega, by go_num, by rw [HY.out], by first | rfl | trivial⟩, by simp [intOf]; omega⟩
    · obtain rfl : k = 254 := by omega
      obtain ⟨x, hx⟩ : ∃ x, x = powS b 254 := ⟨_, rfl⟩
      obtain ⟨X, hX⟩ : ∃ X, X = x.toNat := ⟨_, rfl⟩
      have hb : boxS b = outS X 8 := by rw [boxS, hX, hx]
      have HB := Lib.hid hb
      have hX256 : X < 256 := by have := x.toNat_lt; omega
      rw [← hx, ← hX]
      clear hx hX hb hk hlt
      go_wp2_with fail
      go_loopw [5, 6, 7, 8] (fun o i _ _ wr => ∃ k : Nat, k ≤ 8 ∧ i = .int .i64 (k : Int) ∧ o = .int .u8 ((outS X k).toNat : Int) ∧ w = wr) (fun _ i _ _ _ => 8 - (intOf i).toNat)
      case atStart => exact ⟨0, by omega, rfl, rfl, by first | rfl | trivial⟩
      case round =>
        obtain ⟨k, hk, rfl, rfl, rfl⟩ := hrel
        by_cases hlt : k < 8
        · obtain ⟨o, ho⟩ : ∃ o, o = outS X k := ⟨_, rfl⟩
          rw [← ho]
          have HO := Lib.hid ho
          clear ho
          go_wp2_with fail
          go_loopw [7, 8] (fun t i wr => ∃ j : Nat, j ≤ 5 ∧ i = .int .i64 (j : Int) ∧ t = .int .i64 ((bitS X k j : Nat) : Int) ∧ w = wr) (fun _ i _ => 5 - (intOf i).toNat)
          case atStart => exact ⟨0, by omega, rfl, rfl, by first | rfl | trivial⟩
          case round =>
            obtain ⟨j, hj, rfl, rfl, rfl⟩ := hrel
            by_cases hltj : j < 5
            · obtain ⟨q, hq⟩ : ∃ q, q = k + 8 - j := ⟨_, rfl⟩
              obtain ⟨d, hd⟩ : ∃ d, d = q % 8 := ⟨_, rfl⟩
              obtain ⟨s, hs⟩ : ∃ s, s = X >>> d := ⟨_, rfl⟩
              obtain ⟨r, hr⟩ : ∃ r, r = s % 2 := ⟨_, rfl⟩
              obtain ⟨t, ht⟩ : ∃ t, t = bitS X k j := ⟨_, rfl⟩
              have htj : t ≤ j := by rw [ht]; exact bitS_le _ _ _
              have e1 : (k : Int) + 8 - (j : Int) = (q : Int) := by omega
              have e2 : (q : Int).tmod 8 = (d : Int) := by rw [hd, Int.tmod_eq_emod_of_nonneg (by omega), Int.natCast_emod]; rfl
              have e3 := shr_nm hs
              have e4 := tmod2 hr
              have hd8 : d < 8 := by omega
              have hr2 : r < 2 := by omega
              have hnx : bitS X k (j + 1) = t + r := by rw [bitS, ← hq, ← hd, ← hs, ← hr, ← ht]
              rw [← ht]
              have HNX := Lib.hid hnx
              clear hq hd hs hr ht hnx
              go_wp2_with fail
              exact ⟨⟨j + 1, by omega, by go_num, by rw [HNX.out, Int.natCast_add], by first | rfl | trivial⟩, by simp [intOf]; omega⟩
            · obtain rfl : j = 5 := by omega
              obtain ⟨t, ht⟩ : ∃ t, t = bitS X k 5 := ⟨_, rfl⟩
              have htj : t ≤ 5 := by rw [ht]; exact bitS_le _ _ _
              obtain ⟨s, hs⟩ : ∃ s, s = 99 >>> k := ⟨_, rfl⟩
              obtain ⟨r, hr⟩ : ∃ r, r = s % 2 := ⟨_, rfl⟩
              obtain ⟨u, hu⟩ : ∃ u, u = t + r := ⟨_, rfl⟩
              obtain ⟨p, hp⟩ : ∃ p, p = u % 2 := ⟨_, rfl⟩
              obtain ⟨m, hm⟩ : ∃ m, m = p <<< k := ⟨_, rfl⟩
              obtain ⟨y, hy⟩ : ∃ y, y = UInt8.ofNat m := ⟨_, rfl⟩
              obtain ⟨v, hv⟩ : ∃ v, v = o + y := ⟨_, rfl⟩
              have hm256 : m < 256 := by
                rw [hm, Nat.shiftLeft_eq]
                have : 2 ^ k ≤ 2 ^ 7 := Nat.pow_le_pow_right (by omega) (by omega)
                calc p * 2 ^ k ≤ 1 * 2 ^ 7 := Nat.mul_le_mul (by omega) this
                  _ < 256 := by decide
              have e1 : (99 : Int) / 2 ^ k = (s : Int) := shr_nm (n := 99) hs
              have e2 := tmod2 hr
              have e3 : (t : Int) + (r : Int) = (u : Int) := by omega
              have e4 := tmod2 hp
              have e5 := shl_nm hm (by omega)
              have e6 := byte_nm hy
              have e7 := add_nm hv
              have hr2 : r < 2 := by omega
              have hp2 : p < 2 := by omega
              have hnx : outS X (k + 1) = v := by rw [outS, ← HO.out, ← ht, ← hs, ← hr, ← hu, ← hp, ← hm, ← hy, ← hv]
              rw [← ht]
              have HNX := Lib.hid hnx
              clear hs hr ht hu hp hm hy hv hnx
              go_wp2_with fail
              exact ⟨⟨k + 1, by omega, by go_num, by rw [HNX.out], by first | rfl | trivial⟩, by simp [intOf]; omega⟩
        · obtain rfl : k = 8 := by omega
          clear hk hlt
          have hb := HB.out
          rw [← hb]
          go_wp2_with fail
          go_ret
          exact ⟨rfl, by first | rfl | trivial⟩
end Go.Proofs.YtgebdkbbdabomaaDoor.Aes

/-
  THE CONTRACT of the document's Boxes.
-/
namespace Go.Proofs.YtgebdkbbdabomaaDoor.Aes
open Go.RowKit
open Go.Proofs.YtgebdkbbdabomaaDoor.Kit
set_option linter.unusedVariables false

theorem sb_at (x : UInt8) : sb x = sbN x.toNat := rfl
attribute [local irreducible] sbN boxS sb
theorem info5c : (Tryd.prog.info? 5).map (fun i => (i.zero, i.size, i.bytes)) = some (some (.int .u8 0), 1, 1) := by kernel_rfl
theorem row_snoc (f : Nat → UInt8) (k : Nat) : row f (k + 1) = row f k ++ [f k] := by
  rw [row, row, List.range_succ, List.map_append]; rfl
theorem below_own {w wr w' : World} {o : Obj} {base k c : Nat} {A : Option Addr} {e : TypeId} {xs : List Value} (hb : Below w.heap.size w wr) (ho : wr.ownsRow base e 1 (.slice A k c) k xs) (hB : w.heap.size ≤ base) (hg : (wr.alloc o).grownBy w' (Value.slice A k c).ownBlock) : Below w.heap.size w w' :=
  (below_alloc hb o).grown hg (by have := hb.size; simp; omega) (fun j hj => by have := (ho.lt j hj).1; omega)

set_option maxRecDepth 100000 in
set_option maxHeartbeats 1000000 in
theorem boxes_own (w : World) : Calls Tryd.prog 47 #[] w fun e w' => ∃ A c, e = .returned (.slice A 256 c) ∧ w'.ownsRow w.heap.size 5 1 (.slice A 256 c) 256 ((row sbN 256).map bv) ∧ Below w.heap.size w w' := by
  obtain ⟨i0, hi, hz0, hz1, hz2⟩ := info_parts info5c
  go_enter Tryd.func47, Tryd.ntmps47
  go_wp2_with fail
  go_loopw [1, 2] (fun s i wr => ∃ (k : Nat) (A : Option Addr) (c : Nat), k ≤ 256 ∧ i = .int .i64 (k : Int) ∧ s = .slice A k c ∧ wr.ownsRow w.heap.size 5 1 (.slice A k c) k ((row sbN k).map bv) ∧ Below w.heap.size w wr) (fun _ i _ => 256 - (intOf i).toNat)
  case atStart => exact ⟨0, _, _, by omega, rfl, rfl, own_new w (Nat.le_refl _) rfl (by omega), below_of_new w _⟩
  case round =>
    obtain ⟨k, A, c, hk, rfl, rfl, hown, hbw⟩ := hrel
    by_cases hlt : k < 256
    · obtain ⟨x, hx⟩ : ∃ x, x = UInt8.ofNat k := ⟨_, rfl⟩
      obtain ⟨y, hy⟩ : ∃ y, y = sbN k := ⟨_, rfl⟩
      have e1 := byte_nm hx
      have hxk : x.toNat = k := by rw [hx, UInt8.toNat_ofNat']; omega
      have hbx : ∀ W, Calls Tryd.prog 60 #[.int .u8 (x.toNat : Int)] W fun e w' => e = .returned (.int .u8 (y.toNat : Int)) ∧ W = w' := fun W => by
        have e : boxS x = y := (box_eq x).trans ((sb_at x).trans (by rw [hxk, hy]))
        have := box_any x W
        rw [e] at this
        exact this
      have hrow : (row sbN k).map bv ++ [bv y] = (row sbN (k + 1)).map bv := by rw [row_snoc, List.map_append, hy]; rfl
      have HBX := Lib.hid hbx
      have HROW := Lib.hid hrow
      have HOWN := Lib.hid hown
      have HBW := Lib.hid hbw
      clear hx hy hxk hbx hrow hown hbw
      go_wp2_with fail
      refine (HBX.out _).mono ?_
      rintro e w2 ⟨rfl, rfl⟩
      go_wp2_with (at_builtin; refine wpList_app _ rfl (.tmp 8) (.tmp 12) 22 rfl w.heap.size 5 i0 _ 1 Tryd.underlying22 hi hz0 hz1 hz2 rfl _ k _ rfl (HOWN.out.alloc _) _ (some ⟨wr.heap.size, 0, none⟩) 1 1 [bv y] rfl (rd_lit' wr (n := 1) (bs := [y]) rfl rfl rfl (by omega)) (bv_one [y]) (by omega) (by omega) (by have := HBW.out.size; simp; omega) ?_; intro A2 c2 w3 hown3 hg3 hat3)
      have hown3' := hown3
      rw [HROW.out] at hown3'
      have hb3 := below_own HBW.out HOWN.out (Nat.le_refl _) hg3
      clear hown3 hg3 hat3
      go_wp2_with fail
      exact ⟨⟨k + 1, A2, c2, by omega, by go_num, rfl, hown3', hb3⟩, by simp [intOf]; omega⟩
    · obtain rfl : k = 256 := by omega
      go_wp2_with fail
      go_ret
      exact ⟨A, c, rfl, hown, hbw⟩
end Go.Proofs.YtgebdkbbdabomaaDoor.Aes
