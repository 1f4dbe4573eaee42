/-
  name's stands, Right and Text.
-/
import Derived.Test.YtlngbpipmaaedaaNamo
import Derived.Test.YtlngbpipmaaedaaNampb
namespace Go.Proofs.Ytlngbpipmaaedaa.Nam
open Go.RowKit
set_option linter.unusedVariables false

set_option maxRecDepth 100000 in
set_option maxHeartbeats 2000000 in
theorem stands_any (r : Int) (c : Nat) (h0 : -2147483648 ≤ r) (h1 : r ≤ 2147483647) (hc : c ≤ 1000000) (w : World) : Calls Try.prog 32 #[.int .i32 r, .int .i64 c] w fun e w' => e = .returned (.bool (stN r c)) ∧ w = w' := by
  have hl := letter_any r h0 h1 w
  unfold stN
  cases hlet : letN r
  · rw [hlet] at hl
    by_cases hc0 : 0 < c
    · have t1 : decide ((0 : Int) < (c : Int)) = true := decide_eq_true (by omega)
      have u1 : decide (0 < c) = true := decide_eq_true hc0
      by_cases hr : r = 45
      · subst hr
        have e1 : ((45 : Int) == 45) = true := rfl
        rw [u1]
        go_enter Try.func32, Try.ntmps32
        go_wp2_with (go_at_call 37; refine hl.mono ?_; rintro e w' ⟨rfl, rfl⟩)
        go_ret
        exact ⟨rfl, rfl⟩
      · have e1 : (r == 45) = false := by simpa using hr
        have u2 : decide (r = 45) = false := decide_eq_false hr
        by_cases h48 : 48 ≤ r
        · have t2 : decide ((48 : Int) ≤ r) = true := decide_eq_true h48
          by_cases h57 : r ≤ 57
          · have t3 : decide (r ≤ (57 : Int)) = true := decide_eq_true h57
            have u3 : decide (48 ≤ r ∧ r ≤ 57) = true := decide_eq_true ⟨h48, h57⟩
            rw [u1, u2, u3]
            go_enter Try.func32, Try.ntmps32
            go_wp2_with (go_at_call 37; refine hl.mono ?_; rintro e w' ⟨rfl, rfl⟩)
            go_ret
            exact ⟨rfl, rfl⟩
          · have t3 : decide (r ≤ (57 : Int)) = false := decide_eq_false h57
            have u3 : decide (48 ≤ r ∧ r ≤ 57) = false := decide_eq_false (by omega)
            rw [u1, u2, u3]
            go_enter Try.func32, Try.ntmps32
            go_wp2_with (go_at_call 37; refine hl.mono ?_; rintro e w' ⟨rfl, rfl⟩)
            go_ret
            exact ⟨rfl, rfl⟩
        · have t2 : decide ((48 : Int) ≤ r) = false := decide_eq_false h48
          have u3 : decide (48 ≤ r ∧ r ≤ 57) = false := decide_eq_false (by omega)
          rw [u1, u2, u3]
          go_enter Try.func32, Try.ntmps32
          go_wp2_with (go_at_call 37; refine hl.mono ?_; rintro e w' ⟨rfl, rfl⟩)
          go_ret
          exact ⟨rfl, rfl⟩
    · have t1 : decide ((0 : Int) < (c : Int)) = false := decide_eq_false (by omega)
      have u1 : decide (0 < c) = false := decide_eq_false hc0
      rw [u1]
      go_enter Try.func32, Try.ntmps32
      go_wp2_with (go_at_call 37; refine hl.mono ?_; rintro e w' ⟨rfl, rfl⟩)
      go_ret
      exact ⟨rfl, rfl⟩
  · rw [hlet] at hl
    go_enter Try.func32, Try.ntmps32
    go_wp2_with (go_at_call 37; refine hl.mono ?_; rintro e w' ⟨rfl, rfl⟩)
    go_ret
    exact ⟨rfl, rfl⟩

set_option maxRecDepth 100000 in
set_option maxHeartbeats 4000000 in
theorem right_any (s : ByteArray) (hs : s.size ≤ 1000000000) (w : World) : Calls Try.prog 23 #[.string s] w fun e w' => e = .returned (.bool (rightS s)) ∧ Below w.heap.size w w' := by
  go_enter Try.func23, Try.ntmps23
  go_wp2
  go_loopw [3] (fun c wr => ∃ (pos fuel cnt : Nat), c = .int .i64 cnt ∧ wr.heap[w.heap.size]? = some (.stringIter s pos) ∧ Below w.heap.size w wr ∧ rightL (runs s fuel pos) cnt = rightS s ∧ s.size ≤ pos + fuel ∧ cnt ≤ 16) (fun _ wr => s.size - wr.iterPos w.heap.size)
  case atStart =>
    refine ⟨0, s.size, 0, rfl, World.iter_heap w s 0, (Below.refl _ w).alloc (Nat.le_refl _) _, rfl, by omega, by omega⟩
  case round =>
    obtain ⟨pos, fuel, cnt, hcv, hit, hbw, hacc, hfu, hcl⟩ := hrel
    subst hcv
    by_cases hp : pos < s.size
    · have hnx : ∀ ty, (Instr.next (.pointer (some ⟨w.heap.size, 0, none⟩)) true ty).run Try.prog wr = _ := fun ty => Lib.run_next_any_at wr w.heap.size s pos ty hit hp
      have hwd := width_at s pos
      have hin := width_in s pos hp
      have hru := rune_at s pos
      unfold Rune at hru
      have hit2 := Lib.iterAt_heap wr w.heap.size s pos (pos + (Utf8.decode s pos).2) hit
      have hbw2 := Lib.below_iterAt hbw (k := w.heap.size) (by omega) s (pos + (Utf8.decode s pos).2)
      obtain ⟨f, rfl⟩ : ∃ f, fuel = f + 1 := ⟨fuel - 1, by omega⟩
      rw [runs_step s f pos hp, rightL] at hacc
      by_cases h16 : cnt = 16
      · rw [if_pos h16] at hacc
        have e1 : ((cnt : Int) == 16) = true := by subst h16; rfl
        go_wp2
        go_ret
        exact ⟨by rw [← hacc]; rfl, hbw2⟩
      · rw [if_neg h16] at hacc
        have e1 : ((cnt : Int) == 16) = false := by simp; omega
        have hst := stands_any ((Utf8.decode s pos).1 : Int) cnt (by omega) (by omega) (by omega) (wr.iterAt w.heap.size s (pos + (Utf8.decode s pos).2))
        cases hb : stN ((Utf8.decode s pos).1 : Int) cnt
        · rw [hb] at hst hacc
          go_wp2_with (go_at_call 32; refine hst.mono ?_; rintro e w' ⟨rfl, rfl⟩)
          go_ret
          exact ⟨by rw [← hacc]; rfl, hbw2⟩
        · rw [hb] at hst hacc
          go_wp2_with (go_at_call 32; refine hst.mono ?_; rintro e w' ⟨rfl, rfl⟩)
          go_roundw
          case rel => exact ⟨pos + (Utf8.decode s pos).2, f, cnt + 1, by go_num, hit2, hbw2, hacc, by omega, by omega⟩
          case measure =>
            simp only [World.iterPos, hit2, hit]
            omega
    · have hnx : ∀ ty, (Instr.next (.pointer (some ⟨w.heap.size, 0, none⟩)) true ty).run Try.prog wr = _ := fun ty => Lib.run_next_end_at wr w.heap.size s pos ty hit hp
      rw [runs_end s fuel pos hp, rightL] at hacc
      by_cases h0 : 0 < cnt
      · have t1 : decide ((0 : Int) < (cnt : Int)) = true := decide_eq_true (by omega)
        rw [decide_eq_true h0] at hacc
        have HA := Lib.hid hacc
        clear hacc
        go_wp2
        go_ret
        exact ⟨by rw [← HA.out]; rfl, hbw⟩
      · have t1 : decide ((0 : Int) < (cnt : Int)) = false := decide_eq_false (by omega)
        rw [decide_eq_false h0] at hacc
        have HA := Lib.hid hacc
        clear hacc
        go_wp2
        go_ret
        exact ⟨by rw [← HA.out]; rfl, hbw⟩

end Go.Proofs.Ytlngbpipmaaedaa.Nam
