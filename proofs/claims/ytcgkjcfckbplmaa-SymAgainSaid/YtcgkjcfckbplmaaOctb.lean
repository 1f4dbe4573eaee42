/-
  THE CONTRACTS of octet's other functions, and of the document's own.
-/
import Derived.Test.YtcgkjcfckbplmaaOct
namespace Go.Proofs.Ytcgkjcfckbplmaa.Oct
open Go.RowKit
open Go.Proofs.Ytcgkjcfckbplmaa.Kit
set_option linter.unusedVariables false

theorem info5 : (Try.prog.info? 5).map (fun i => (i.zero, i.size, i.bytes)) = some (some (.int .u8 0), 1, 1) := by kernel_rfl

set_option maxRecDepth 100000 in
theorem rput_any (n : Nat) (w : World) (hn : n < 18446744073709551616) :
    Calls Try.prog 40 #[.int .u64 n] w fun e w' => ∃ A c, e = .returned (.slice A 8 c) ∧ w'.ownsRow w.heap.size 5 1 (.slice A 8 c) 8 ((be 8 n).map bv) ∧ Below w.heap.size w w' := by
  obtain ⟨i0, hi, hz0, hz1, hz2⟩ := info_parts info5
  go_enter Try.func40, Try.ntmps40
  go_wp2
  go_loopw [0, 3, 4] (fun x v i wr => ∃ k A c, k ≤ 8 ∧ i = .int .i64 (k : Nat) ∧ x = .int .u64 ((n / 256 ^ k : Nat) : Int) ∧ v = .slice A k c ∧ wr.ownsRow w.heap.size 5 1 (.slice A k c) k ((be k n).map bv) ∧ Below w.heap.size w wr)
    (fun _ _ i _ => 8 - (intOf i).toNat)
  case atStart => exact ⟨0, _, _, by omega, rfl, by simp, rfl, own_new w (Nat.le_refl _) rfl (by omega), (Below.refl _ _).alloc (Nat.le_refl _) _⟩
  case round =>
    obtain ⟨k, A, c, hk, rfl, rfl, rfl, hown, hbw⟩ := hrel
    by_cases hlt : k < 8
    · obtain ⟨x, hx⟩ : ∃ x, x = n / 256 ^ k := ⟨_, rfl⟩
      rw [← hx]
      have hx64 : x < 18446744073709551616 := by rw [hx]; exact Nat.lt_of_le_of_lt (Nat.div_le_self _ _) hn
      have HX := Lib.hid hx
      clear hx
      go_wp2_with (at_builtin; refine wpList_app _ rfl (.tmp 13) (.tmp 14) 29 rfl w.heap.size 5 i0 _ 1 Try.underlying29 hi hz0 hz1 hz2 rfl _ 1 _ rfl (own_new wr hbw.size rfl (by omega)) wr.heap.size A k c _ rfl ((Rd.of_own hown).alloc (Nat.le_refl _) _) (bv_one _) (by omega) (by omega) (Nat.le_trans hbw.size (by simp)) ?_; intro A' c' w' hown' hg hat)
      have hb' := below_lit hbw hg
      rw [be_front n k x HX.out, slice_comm, Nat.add_comm 1 k] at hown'
      clear hg hat hown
      go_wp2
      go_roundw
      case rel => exact ⟨k + 1, A', c', by omega, by go_num, int_eq (div_next n k x HX.out), slice_comm _ _ _, hown', hb'⟩
      case measure => simp [intOf]; omega
    · obtain rfl : k = 8 := by omega
      go_wp2
      go_ret
      exact ⟨A, c, rfl, hown, hbw⟩
end Go.Proofs.Ytcgkjcfckbplmaa.Oct
