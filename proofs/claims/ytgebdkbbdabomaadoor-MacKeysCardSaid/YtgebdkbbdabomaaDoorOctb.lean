/-
  THE CONTRACTS of octet's other functions, and of the document's own.
-/
import Derived.Test.YtgebdkbbdabomaaDoorOct
namespace Go.Proofs.YtgebdkbbdabomaaDoor.Oct
open Go.RowKit
open Go.Proofs.YtgebdkbbdabomaaDoor.Kit
set_option linter.unusedVariables false

theorem at_any (A : Option Addr) (n c B i : Nat) (xs : List UInt8) (w : World) (h : RdB w B A n c xs) (hi : i ≤ 9223372036854775807) :
    Calls Tryd.prog 58 #[.slice A n c, .int .i64 i] w fun e w' => e = .returned (.int .u8 ((gb xs i).toNat : Int)) ∧ w = w' := by
  obtain ⟨hle, hge⟩ : n ≤ xs.length ∧ xs.length ≤ n := by have := h.len; omega
  have hr := h.room
  by_cases hlt : i < n
  · obtain ⟨b, o, rfl, hb, hc⟩ := h.at_ (k := 0) (by omega)
    have hcell := hc i (by omega)
    rw [← gb_lt] at hcell
    clear h hc
    go_enter Tryd.func58, Tryd.ntmps58
    go_wp2
    go_ret
    exact ⟨rfl, rfl⟩
  · have E := Lib.hid (gb_ge (xs := xs) (k := i) (by omega))
    go_enter Tryd.func58, Tryd.ntmps58
    go_wp2
    go_ret
    exact ⟨by rw [E.out]; rfl, rfl⟩

theorem equal_any (A A' : Option Addr) (n c n' c' B B' : Nat) (xs ys : List UInt8) (w : World) (ha : RdB w B A n c xs) (hb : RdB w B' A' n' c' ys) :
    Calls Tryd.prog 43 #[.slice A n c, .slice A' n' c'] w fun e w' => e = .returned (.bool (decide (xs = ys))) ∧ w = w' := by
  have hl := Lib.hid ha.len
  have hl' := Lib.hid hb.len
  have hr := ha.room
  have hr' := hb.room
  have hx := i64_xor n n' (by omega) (by omega)
  have hs := AlikeB.start (xs := xs) (ys := ys) (n := n) (n' := n') (by omega) (by omega)
  rcases Nat.lt_trichotomy n n' with hn | hn | hn
  case' inr.inl =>
    obtain ⟨hn1, hn2⟩ : n ≤ n' ∧ n' ≤ n := by omega
    clear hn
  all_goals
    go_enter Tryd.func43, Tryd.ntmps43
    go_wp2
    clear hx
    go_loop [5, 17] (fun x i => ∃ k D : Nat, k ≤ max n n' ∧ i = .int .i64 k ∧ x = .int .i64 D ∧ AlikeB n n' xs ys k D) (fun _ i => max n n' - (intOf i).toNat)
    case atStart => exact ⟨0, _, by omega, rfl, rfl, hs⟩
    case round =>
      obtain ⟨k, D, hk, rfl, rfl, hD⟩ := hrel
      by_cases hlt : k < max n n'
      · have h1 := u8_xor_nat _ _ (gb xs k).toNat_lt (gb ys k).toNat_lt
        have hb1 : (gb xs k).toNat ^^^ (gb ys k).toNat < 256 := by have := (gb xs k ^^^ gb ys k).toNat_lt; rwa [UInt8.toNat_xor] at this
        have h2 := i64_or D _ hD.1 (Nat.lt_trans hb1 (by omega))
        have hm : k ≤ 9223372036854775807 := by omega
        go_wp2_with (first | ((with_reducible refine (at_any A n c B k xs _ ha hm).mono ?_); rintro e w' ⟨rfl, rfl⟩) | ((with_reducible refine (at_any A' n' c' B' k ys _ hb hm).mono ?_); rintro e w' ⟨rfl, rfl⟩))
        go_round
        case rel => exact ⟨k + 1, _, by omega, by go_num, rfl, hD.step⟩
        case measure => simp [intOf]; omega
      · have hle : n ≤ k := by omega
        have e := Lib.hid (hD.done hl.out hl'.out hle)
        go_wp2
        go_ret
        exact ⟨by rw [← e.out]; rfl, rfl⟩
theorem info5 : (Tryd.prog.info? 5).map (fun i => (i.zero, i.size, i.bytes)) = some (some (.int .u8 0), 1, 1) := by kernel_rfl

set_option maxRecDepth 100000 in
theorem rput_any (n : Nat) (w : World) (hn : n < 18446744073709551616) :
    Calls Tryd.prog 44 #[.int .u64 n] w fun e w' => ∃ A c, e = .returned (.slice A 8 c) ∧ w'.ownsRow w.heap.size 5 1 (.slice A 8 c) 8 ((be 8 n).map bv) ∧ Below w.heap.size w w' := by
  obtain ⟨i0, hi, hz0, hz1, hz2⟩ := info_parts info5
  go_enter Tryd.func44, Tryd.ntmps44
  go_wp2
  go_loopw [0, 3, 4] (fun x v i wr => ∃ k A c, k ≤ 8 ∧ i = .int .i64 (k : Nat) ∧ x = .int .u64 ((n / 256 ^ k : Nat) : Int) ∧ v = .slice A k c ∧ wr.ownsRow w.heap.size 5 1 (.slice A k c) k ((be k n).map bv) ∧ Below w.heap.size w wr)
    (fun _ _ i _ => 8 - (intOf i).toNat)
  case atStart => exact ⟨0, _, _, by omega, rfl, by simp, rfl, own_new w (Nat.le_refl _) rfl (by omega), (Below.refl _ _).alloc (Nat.le_refl _) _⟩
  case round =>
    obtain ⟨k, A, c, hk, rfl, rfl, rfl, hown, hbw⟩ := hrel
    by_cases hlt : k < 8
    · obtain ⟨x, hx⟩ : ∃ x, x = n / 256 ^ k := ⟨_, rfl⟩
      rw [← hx]
      have hx64 : x < 18446744073709551616 := by rw [hx]; exact Nat.lt_of_le_of_lt (Nat.div_le_self _ _) hn
      have HX := Lib.hid hx
      clear hx
      go_wp2_with (at_builtin; refine wpList_app _ rfl (.tmp 13) (.tmp 14) 22 rfl w.heap.size 5 i0 _ 1 Tryd.underlying22 hi hz0 hz1 hz2 rfl _ 1 _ rfl (own_new wr hbw.size rfl (by omega)) wr.heap.size A k c _ rfl ((Rd.of_own hown).alloc (Nat.le_refl _) _) (bv_one _) (by omega) (by omega) (Nat.le_trans hbw.size (by simp)) ?_; intro A' c' w' hown' hg hat)
      have hb' := below_lit hbw hg
      rw [be_front n k x HX.out, slice_comm, Nat.add_comm 1 k] at hown'
      clear hg hat hown
      go_wp2
      go_roundw
      case rel => exact ⟨k + 1, A', c', by omega, by go_num, int_eq (div_next n k x HX.out), slice_comm _ _ _, hown', hb'⟩
      case measure => simp [intOf]; omega
    · obtain rfl : k = 8 := by omega
      go_wp2
      go_ret
      exact ⟨A, c, rfl, hown, hbw⟩
end Go.Proofs.YtgebdkbbdabomaaDoor.Oct
