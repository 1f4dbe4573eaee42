/-
  THE CONTRACTS of octet's other functions, and of the document's own.
-/
import Derived.Test.YtfinonfkpmlfeaaOct
namespace Go.Proofs.Ytfinonfkpmlfeaa.Oct
open Go.RowKit
open Go.Proofs.Ytfinonfkpmlfeaa.Kit
set_option linter.unusedVariables false

theorem at_any (A : Option Addr) (n c B i : Nat) (xs : List UInt8) (w : World) (h : RdB w B A n c xs) (hi : i ≤ 9223372036854775807) :
    Calls Try.prog 42 #[.slice A n c, .int .i64 i] w fun e w' => e = .returned (.int .u8 ((gb xs i).toNat : Int)) ∧ w = w' := by
  obtain ⟨hle, hge⟩ : n ≤ xs.length ∧ xs.length ≤ n := by have := h.len; omega
  have hr := h.room
  by_cases hlt : i < n
  · obtain ⟨b, o, rfl, hb, hc⟩ := h.at_ (k := 0) (by omega)
    have hcell := hc i (by omega)
    rw [← gb_lt] at hcell
    clear h hc
    go_enter Try.func42, Try.ntmps42
    go_wp2
    go_ret
    exact ⟨rfl, rfl⟩
  · have E := Lib.hid (gb_ge (xs := xs) (k := i) (by omega))
    go_enter Try.func42, Try.ntmps42
    go_wp2
    go_ret
    exact ⟨by rw [E.out]; rfl, rfl⟩

theorem equal_any (A A' : Option Addr) (n c n' c' B B' : Nat) (xs ys : List UInt8) (w : World) (ha : RdB w B A n c xs) (hb : RdB w B' A' n' c' ys) :
    Calls Try.prog 29 #[.slice A n c, .slice A' n' c'] w fun e w' => e = .returned (.bool (decide (xs = ys))) ∧ w = w' := by
  have hl := Lib.hid ha.len
  have hl' := Lib.hid hb.len
  have hr := ha.room
  have hr' := hb.room
  have hx := i64_xor n n' (by omega) (by omega)
  have hs := AlikeB.start (xs := xs) (ys := ys) (n := n) (n' := n') (by omega) (by omega)
  rcases Nat.lt_trichotomy n n' with hn | hn | hn
  case' inr.inl =>
    obtain ⟨hn1, hn2⟩ : n ≤ n' ∧ n' ≤ n := by omega
    clear hn
  all_goals
    go_enter Try.func29, Try.ntmps29
    go_wp2
    clear hx
    go_loop [5, 17] (fun x i => ∃ k D : Nat, k ≤ max n n' ∧ i = .int .i64 k ∧ x = .int .i64 D ∧ AlikeB n n' xs ys k D) (fun _ i => max n n' - (intOf i).toNat)
    case atStart => exact ⟨0, _, by omega, rfl, rfl, hs⟩
    case round =>
      obtain ⟨k, D, hk, rfl, rfl, hD⟩ := hrel
      by_cases hlt : k < max n n'
      · have h1 := u8_xor_nat _ _ (gb xs k).toNat_lt (gb ys k).toNat_lt
        have hb1 : (gb xs k).toNat ^^^ (gb ys k).toNat < 256 := by have := (gb xs k ^^^ gb ys k).toNat_lt; rwa [UInt8.toNat_xor] at this
        have h2 := i64_or D _ hD.1 (Nat.lt_trans hb1 (by omega))
        have hm : k ≤ 9223372036854775807 := by omega
        go_wp2_with (first | ((with_reducible refine (at_any A n c B k xs _ ha hm).mono ?_); rintro e w' ⟨rfl, rfl⟩) | ((with_reducible refine (at_any A' n' c' B' k ys _ hb hm).mono ?_); rintro e w' ⟨rfl, rfl⟩))
        go_round
        case rel => exact ⟨k + 1, _, by omega, by go_num, rfl, hD.step⟩
        case measure => simp [intOf]; omega
      · have hle : n ≤ k := by omega
        have e := Lib.hid (hD.done hl.out hl'.out hle)
        go_wp2
        go_ret
        exact ⟨by rw [← e.out]; rfl, rfl⟩
theorem short_any (n : Nat) (w : World) (hn : n < 18446744073709551616) :
    Calls Try.prog 27 #[.int .u64 n] w fun e w' => e = .returned (.slice (some ⟨w.heap.size, 8 - nb n, none⟩) (nb n) (nb n)) ∧ w.alloc (.cells (Cput 0 n) 5) = w' := by
  go_enter Try.func27, Try.ntmps27
  go_wp2_with (refine (put_any n _ hn).mono ?_; rintro e w' ⟨rfl, rfl⟩)
  go_loop [3] (fun v => ∃ k : Nat, k ≤ 7 ∧ v = .slice (some ⟨w.heap.size, k, none⟩) (8 - k) (8 - k) ∧ n < 256 ^ (8 - k)) (fun v => match v with | .slice _ l _ => l | _ => 0)
  case atStart => exact ⟨0, by omega, rfl, by simpa using hn⟩
  case round =>
    obtain ⟨k, hk, rfl, hlt⟩ := hrel
    have hcell := Cput_cell n k (by omega)
    obtain ⟨b, hb⟩ : ∃ b, b = n / 256 ^ (7 - k) := ⟨_, rfl⟩
    have hb8 : b < 256 := by
      rw [hb, Nat.div_lt_iff_lt_mul (Nat.pow_pos (by omega)), ← Nat.pow_succ', show (7 - k).succ = 8 - k from by omega]; exact hlt
    rw [← hb, Nat.mod_eq_of_lt hb8] at hcell
    have HB := Lib.hid hb
    have HL := Lib.hid hlt
    clear hb hlt
    by_cases h7 : k = 7
    · subst h7
      have e := nb_is hn (k := 1) (by omega) (by omega) (by simpa using HL.out) (.inl rfl)
      have E := Lib.hid e
      clear e
      go_wp2
      go_ret
      exact ⟨by rw [E.out]; rfl, rfl⟩
    · have h1 : decide ((1 : Int) < ((8 - k : Nat) : Int)) = true := by simp; omega
      by_cases h0 : b = 0
      · subst h0
        have hlt := Lib.hid (pow_lt_of_div (by omega) HB.out.symm)
        go_wp2
        go_round
        case rel => exact ⟨k + 1, by omega, slice_eq (by omega) (by omega) (by omega), hlt.out⟩
        case measure => simp; omega
      · have h2 : ((b : Int) == 0) = false := by simpa using h0
        have e := nb_is hn (k := 8 - k) (by omega) (by omega) HL.out (.inr (by rw [show 8 - k - 1 = 7 - k from by omega]; exact pow_ge_of_div (by rw [← HB.out]; exact h0)))
        have E := Lib.hid e
        clear e
        go_wp2
        go_ret
        exact ⟨by rw [E.out]; exact congrArg Ending.returned (slice_eq (by omega) (by omega) (by omega)), rfl⟩
theorem info5 : (Try.prog.info? 5).map (fun i => (i.zero, i.size, i.bytes)) = some (some (.int .u8 0), 1, 1) := by kernel_rfl

set_option maxRecDepth 100000 in
theorem rput_any (n : Nat) (w : World) (hn : n < 18446744073709551616) :
    Calls Try.prog 26 #[.int .u64 n] w fun e w' => ∃ A c, e = .returned (.slice A 8 c) ∧ w'.ownsRow w.heap.size 5 1 (.slice A 8 c) 8 ((be 8 n).map bv) ∧ Below w.heap.size w w' := by
  obtain ⟨i0, hi, hz0, hz1, hz2⟩ := info_parts info5
  go_enter Try.func26, Try.ntmps26
  go_wp2
  go_loopw [0, 3, 4] (fun x v i wr => ∃ k A c, k ≤ 8 ∧ i = .int .i64 (k : Nat) ∧ x = .int .u64 ((n / 256 ^ k : Nat) : Int) ∧ v = .slice A k c ∧ wr.ownsRow w.heap.size 5 1 (.slice A k c) k ((be k n).map bv) ∧ Below w.heap.size w wr)
    (fun _ _ i _ => 8 - (intOf i).toNat)
  case atStart => exact ⟨0, _, _, by omega, rfl, by simp, rfl, own_new w (Nat.le_refl _) rfl (by omega), (Below.refl _ _).alloc (Nat.le_refl _) _⟩
  case round =>
    obtain ⟨k, A, c, hk, rfl, rfl, rfl, hown, hbw⟩ := hrel
    by_cases hlt : k < 8
    · obtain ⟨x, hx⟩ : ∃ x, x = n / 256 ^ k := ⟨_, rfl⟩
      rw [← hx]
      have hx64 : x < 18446744073709551616 := by rw [hx]; exact Nat.lt_of_le_of_lt (Nat.div_le_self _ _) hn
      have HX := Lib.hid hx
      clear hx
      go_wp2_with (at_builtin; refine wpList_app _ rfl (.tmp 13) (.tmp 14) 23 rfl w.heap.size 5 i0 _ 1 Try.underlying23 hi hz0 hz1 hz2 rfl _ 1 _ rfl (own_new wr hbw.size rfl (by omega)) wr.heap.size A k c _ rfl ((Rd.of_own hown).alloc (Nat.le_refl _) _) (bv_one _) (by omega) (by omega) (Nat.le_trans hbw.size (by simp)) ?_; intro A' c' w' hown' hg hat)
      have hb' := below_lit hbw hg
      rw [be_front n k x HX.out, slice_comm, Nat.add_comm 1 k] at hown'
      clear hg hat hown
      go_wp2
      go_roundw
      case rel => exact ⟨k + 1, A', c', by omega, by go_num, int_eq (div_next n k x HX.out), slice_comm _ _ _, hown', hb'⟩
      case measure => simp [intOf]; omega
    · obtain rfl : k = 8 := by omega
      go_wp2
      go_ret
      exact ⟨A, c, rfl, hown, hbw⟩
set_option maxRecDepth 100000 in
theorem rshort_any (n : Nat) (w : World) (hn : n < 18446744073709551616) :
    Calls Try.prog 28 #[.int .u64 n] w fun e w' => ∃ A c, e = .returned (.slice A (nb n) c) ∧ w'.ownsRow w.heap.size 5 1 (.slice A (nb n) c) (nb n) ((short n).map bv) ∧ Below w.heap.size w w' := by
  obtain ⟨i0, hi, hz0, hz1, hz2⟩ := info_parts info5
  have hown0 := own_new w (n := 1) (e := 5) (Nat.le_refl _) (arr := #[Value.int .u8 ((n : Int) % 256)]) rfl (by omega)
  rw [be_one] at hown0
  go_enter Try.func28, Try.ntmps28
  go_wp2
  go_loopw [0, 3] (fun x v wr => ∃ k A c, k ≤ 7 ∧ x = .int .u64 ((n / 256 ^ k : Nat) : Int) ∧ v = .slice A (k + 1) c ∧ wr.ownsRow w.heap.size 5 1 (.slice A (k + 1) c) (k + 1) ((be (k + 1) n).map bv) ∧ Below w.heap.size w wr ∧ (k = 0 ∨ 256 ^ k ≤ n))
    (fun x _ _ => (intOf x).toNat)
  case atStart => exact ⟨0, _, _, by omega, by simp, rfl, hown0, (Below.refl _ _).alloc (Nat.le_refl _) _, .inl rfl⟩
  case round =>
    obtain ⟨k, A, c, hk, rfl, rfl, hown, hbw, hge⟩ := hrel
    have HG := Lib.hid hge
    clear hge hown0
    obtain ⟨x, hx⟩ : ∃ x, x = n / 256 ^ k := ⟨_, rfl⟩
    rw [← hx]
    have hx64 : x < 18446744073709551616 := by rw [hx]; exact Nat.lt_of_le_of_lt (Nat.div_le_self _ _) hn
    have HX := Lib.hid hx
    clear hx
    by_cases hlt : 256 ≤ x
    · have hm := nb_more hn hk (by rw [← HX.out]; exact hlt)
      have hk1 : k + 1 ≤ 7 := hm.1
      have hx' := Lib.hid (div_next n k x HX.out)
      have H2 := Lib.hid hm.2
      have HN := Lib.hid hn
      clear hm hn
      go_wp2_with (at_builtin; refine wpList_app _ rfl (.tmp 15) (.tmp 16) 23 rfl w.heap.size 5 i0 _ 1 Try.underlying23 hi hz0 hz1 hz2 rfl _ 1 _ rfl (own_new wr hbw.size rfl (by omega)) wr.heap.size A (k + 1) c _ rfl ((Rd.of_own hown).alloc (Nat.le_refl _) _) (bv_one _) (by omega) (by omega) (Nat.le_trans hbw.size (by simp)) ?_; intro A' c' w' hown' hg hat)
      have hb' := below_lit hbw hg
      rw [be_front' n (k + 1) x (by rw [HX.out, Nat.pow_succ, Nat.div_div_eq_div_mul]), slice_comm, Nat.add_comm 1 (k + 1)] at hown'
      clear hg hat hown
      go_wp2
      go_roundw
      case rel => exact ⟨k + 1, A', c', by omega, int_eq hx'.out, slice_comm _ _ _, hown', hb', .inr H2.out⟩
      case measure => simp [intOf]; omega
    · have e := Lib.hid (nb_small hn hk (by rw [← HX.out]; exact hlt) HG.out)
      go_wp2
      go_ret
      refine ⟨A, c, by rw [e.out]; rfl, ?_, hbw⟩
      rw [short, e.out]
      exact hown
end Go.Proofs.Ytfinonfkpmlfeaa.Oct
