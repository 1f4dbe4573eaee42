/-
  The document's Right and Text.
-/
import Derived.Test.YtlkokljlghlldaaDoorNamx
namespace Go.Proofs.YtlkokljlghlldaaDoor.Nam
open Go.RowKit
open Go.Proofs.YtlkokljlghlldaaDoor.Kit
set_option linter.unusedVariables false

theorem get_none (s : ByteArray) (p : Nat) (h : ¬ p < s.size) : s.get! p = 0 := by
  obtain ⟨⟨l⟩⟩ := s
  have h' : ¬ p < l.length := h
  show (Array.mk l)[p]! = 0
  simp [h']
  rfl
theorem ext_list (s : ByteArray) (p : Nat) : (s.extract p s.size).data.toList = s.data.toList.drop p := Lib.extract_to_end s p
theorem ext_size (s : ByteArray) (p : Nat) : (s.extract p s.size).size = s.size - p := by
  rw [ByteArray.size_extract, Nat.min_self]
theorem ext_get (s : ByteArray) (p j : Nat) : (s.extract p s.size).get! j = s.get! (p + j) := by
  by_cases h : p + j < s.size
  · have h1 := get_list (s.extract p s.size) j (by rw [ext_size]; omega)
    rw [ext_list, List.getElem?_drop, get_list s _ h] at h1
    exact (Option.some.inj h1).symm
  · rw [get_none _ _ h, get_none _ _ (by rw [ext_size]; omega)]
theorem ext_rr (s : ByteArray) (p : Nat) : rr (s.extract p s.size) 0 = rr s p := by
  rw [rr_at, rr_at, ext_size, ext_get, ext_get, ext_get, ext_get, Nat.sub_zero]
  rfl
theorem rune_from (s : ByteArray) (p : Nat) (hp : p < s.size) (hz : s.size ≤ 1000000) (w : World) : Calls Tryd.prog 22 #[.string (s.extract p s.size)] w fun e w' => e = .returned (.tuple #[.int .i64 (rr s p).1, .int .i64 (Utf8.decode s p).2]) ∧ w = w' := by
  have h := refRune_any (s.extract p s.size) (by rw [ext_size]; omega) (by rw [ext_size]; omega) w
  rw [ext_rr, rr_width] at h
  exact h

set_option maxRecDepth 100000 in
set_option maxHeartbeats 4000000 in
theorem refRight_any (s : ByteArray) (hz : s.size ≤ 1000000) (w : World) : Calls Tryd.prog 11 #[.string s] w fun e w' => e = .returned (.bool (rightS s)) ∧ w = w' := by
  have hR : rgo (runs s s.size 0) 0 = rightS s := rgo_eq _ _ (by omega)
  go_enter Tryd.func11, Tryd.ntmps11
  go_wp2
  go_loopw [3, 4] (fun v3 v4 wr => ∃ (pos fuel cnt : Nat), v3 = .int .i64 cnt ∧ v4 = .int .i64 pos ∧ w = wr ∧ rgo (runs s fuel pos) cnt = rightS s ∧ s.size ≤ pos + fuel ∧ pos ≤ s.size ∧ (pos = 0 ↔ cnt = 0) ∧ cnt ≤ pos) (fun _ v4 _ => s.size - (intOf v4).toNat)
  case atStart => exact ⟨0, s.size, 0, rfl, rfl, rfl, hR, by omega, by omega, by omega, by omega⟩
  case round =>
    clear hR
    obtain ⟨pos, fuel, cnt, e3, e4, ew, hacc, hfu, hpl, hpc, hcp⟩ := hrel
    subst e3 e4 ew
    by_cases hp : pos < s.size
    · have hd : decide ((pos : Int) < (s.size : Int)) = true := decide_eq_true (by omega)
      have hrc := rune_from s pos hp hz w
      have hcs := rr_cases s pos
      have hwd := width_at s pos
      have hin := width_in s pos hp
      have hru := rune_at s pos
      unfold Rune at hru
      obtain ⟨f, rfl⟩ : ∃ f, fuel = f + 1 := ⟨fuel - 1, by omega⟩
      rw [runs_step s f pos hp, rgo] at hacc
      obtain ⟨x, hx⟩ : ∃ x, x = (rr s pos).1 := ⟨_, rfl⟩
      obtain ⟨k, hk⟩ : ∃ k, k = (Utf8.decode s pos).2 := ⟨_, rfl⟩
      obtain ⟨r, hr⟩ : ∃ r, r = (Utf8.decode s pos).1 := ⟨_, rfl⟩
      rw [← hx, ← hk] at hrc
      rw [← hx, ← hk, ← hr] at hcs
      rw [← hr, ← hk] at hacc
      rw [← hk] at hwd hin
      rw [← hr] at hru
      have hxb : -1 ≤ x ∧ x ≤ 1114111 := by omega
      have hle := refLetter_any x 0 (by omega) (by omega) w
      rw [Int.add_zero] at hle
      have hst : stN (r : Int) cnt = (letN x || (decide (0 < cnt) && (decide (x = 45) || decide (48 ≤ x ∧ x ≤ 57)))) := by
        rcases hcs with ⟨h1, h2, h3⟩ | ⟨h1, h2⟩
        · subst h1 h2
          rw [show ((65533 : Nat) : Int) = 65533 from rfl, (stN_bad cnt).1, (stN_bad cnt).2.2]
          simp
        · rw [h1]; rfl
      rw [hst] at hacc
      clear hst hcs hx hk hr
      cases hl : letN x
      · rw [hl] at hle hacc
        by_cases h0 : pos = 0
        · have c0 : cnt = 0 := by omega
          have z0 : ((pos : Int) == 0) = true := by rw [h0]; rfl
          subst c0
          have HA := Lib.hid hacc
          clear hacc h0 hpc hcp
          go_wp2_with fail
          refine hrc.mono ?_
          rintro e w' ⟨rfl, rfl⟩
          go_wp2_with fail
          refine hle.mono ?_
          rintro e w' ⟨rfl, rfl⟩
          go_wp2_with fail
          go_ret
          exact ⟨by rw [← HA.out]; rfl, rfl⟩
        · have c0 : 0 < cnt := by omega
          have z0 : ((pos : Int) == 0) = false := by simp; omega
          rw [decide_eq_true c0] at hacc
          by_cases h45 : x = 45
          · have z1 : (x != 45) = false := by rw [h45]; rfl
            rw [decide_eq_true h45] at hacc
            have HA := Lib.hid hacc
            clear hacc h45
            go_wp2_with fail
            refine hrc.mono ?_
            rintro e w' ⟨rfl, rfl⟩
            go_wp2_with fail
            refine hle.mono ?_
            rintro e w' ⟨rfl, rfl⟩
            go_wp2_with fail
            go_roundw
            case rel => exact ⟨pos + k, f, cnt + 1, by go_num, by go_num, by first | rfl | trivial, HA.out, by omega, by omega, by omega, by omega⟩
            case measure => simp [intOf]; omega
          · have z1 : (x != 45) = true := by simpa using h45
            rw [decide_eq_false h45] at hacc
            by_cases h48 : x < 48
            · have z2 : decide (x < 48) = true := decide_eq_true h48
              rw [decide_eq_false (show ¬ (48 ≤ x ∧ x ≤ 57) by omega)] at hacc
              have HA := Lib.hid hacc
              clear hacc
              go_wp2_with fail
              refine hrc.mono ?_
              rintro e w' ⟨rfl, rfl⟩
              go_wp2_with fail
              refine hle.mono ?_
              rintro e w' ⟨rfl, rfl⟩
              go_wp2_with fail
              go_ret
              exact ⟨by rw [← HA.out]; rfl, rfl⟩
            · have z2 : decide (x < 48) = false := decide_eq_false h48
              by_cases h57 : 57 < x
              · have z3 : decide ((57 : Int) < x) = true := decide_eq_true h57
                rw [decide_eq_false (show ¬ (48 ≤ x ∧ x ≤ 57) by omega)] at hacc
                have HA := Lib.hid hacc
                clear hacc
                go_wp2_with fail
                refine hrc.mono ?_
                rintro e w' ⟨rfl, rfl⟩
                go_wp2_with fail
                refine hle.mono ?_
                rintro e w' ⟨rfl, rfl⟩
                go_wp2_with fail
                go_ret
                exact ⟨by rw [← HA.out]; rfl, rfl⟩
              · have z3 : decide ((57 : Int) < x) = false := decide_eq_false h57
                rw [decide_eq_true (show (48 ≤ x ∧ x ≤ 57) by omega)] at hacc
                have HA := Lib.hid hacc
                clear hacc
                go_wp2_with fail
                refine hrc.mono ?_
                rintro e w' ⟨rfl, rfl⟩
                go_wp2_with fail
                refine hle.mono ?_
                rintro e w' ⟨rfl, rfl⟩
                go_wp2_with fail
                go_roundw
                case rel => exact ⟨pos + k, f, cnt + 1, by go_num, by go_num, by first | rfl | trivial, HA.out, by omega, by omega, by omega, by omega⟩
                case measure => simp [intOf]; omega
      · rw [hl] at hle hacc
        have HA := Lib.hid hacc
        clear hacc
        go_wp2_with fail
        refine hrc.mono ?_
        rintro e w' ⟨rfl, rfl⟩
        go_wp2_with fail
        refine hle.mono ?_
        rintro e w' ⟨rfl, rfl⟩
        go_wp2_with fail
        go_roundw
        case rel => exact ⟨pos + k, f, cnt + 1, by go_num, by go_num, by first | rfl | trivial, HA.out, by omega, by omega, by omega, by omega⟩
        case measure => simp [intOf]; omega
    · have hd : decide ((pos : Int) < (s.size : Int)) = false := decide_eq_false (by omega)
      rw [runs_end s fuel pos hp, rgo] at hacc
      have HA := Lib.hid hacc
      clear hacc
      by_cases c1 : 1 ≤ cnt
      · have z1 : decide ((1 : Int) ≤ (cnt : Int)) = true := decide_eq_true (by omega)
        by_cases c2 : cnt ≤ 16
        · have z2 : decide ((cnt : Int) ≤ 16) = true := decide_eq_true (by omega)
          have ha := HA.out
          rw [decide_eq_true c1, decide_eq_true c2] at ha
          have HB := Lib.hid ha
          clear ha HA
          go_wp2
          go_ret
          exact ⟨by rw [← HB.out]; rfl, rfl⟩
        · have z2 : decide ((cnt : Int) ≤ 16) = false := decide_eq_false (by omega)
          have ha := HA.out
          rw [decide_eq_true c1, decide_eq_false c2] at ha
          have HB := Lib.hid ha
          clear ha HA
          go_wp2
          go_ret
          exact ⟨by rw [← HB.out]; rfl, rfl⟩
      · have z1 : decide ((1 : Int) ≤ (cnt : Int)) = false := decide_eq_false (by omega)
        have ha := HA.out
        rw [decide_eq_false c1] at ha
        have HB := Lib.hid ha
        clear ha HA
        go_wp2
        go_ret
        exact ⟨by rw [← HB.out]; rfl, rfl⟩

set_option maxRecDepth 100000 in
set_option maxHeartbeats 4000000 in
theorem refText_any (s : ByteArray) (hz : s.size ≤ 1000000) (most : Int) (w : World) : Calls Tryd.prog 13 #[.string s, .int .i64 most] w fun e w' => e = .returned (.bool (textS s most)) ∧ w = w' := by
  have hR : textL most (runs s s.size 0) 0 = textS s most := rfl
  go_enter Tryd.func13, Tryd.ntmps13
  go_wp2
  go_loopw [5, 6] (fun v5 v6 wr => ∃ (pos fuel cnt : Nat), v5 = .int .i64 cnt ∧ v6 = .int .i64 pos ∧ w = wr ∧ textL most (runs s fuel pos) cnt = textS s most ∧ s.size ≤ pos + fuel ∧ pos ≤ s.size ∧ cnt ≤ pos) (fun _ v6 _ => s.size - (intOf v6).toNat)
  case atStart => exact ⟨0, s.size, 0, rfl, rfl, rfl, hR, by omega, by omega, by omega⟩
  case round =>
    clear hR
    obtain ⟨pos, fuel, cnt, e3, e4, ew, hacc, hfu, hpl, hcp⟩ := hrel
    subst e3 e4 ew
    by_cases hp : pos < s.size
    · have hd : decide ((pos : Int) < (s.size : Int)) = true := decide_eq_true (by omega)
      have hrc := rune_from s pos hp hz w
      have hcs := rr_cases s pos
      have hwd := width_at s pos
      have hin := width_in s pos hp
      obtain ⟨f, rfl⟩ : ∃ f, fuel = f + 1 := ⟨fuel - 1, by omega⟩
      rw [runs_step s f pos hp, textL] at hacc
      obtain ⟨x, hx⟩ : ∃ x, x = (rr s pos).1 := ⟨_, rfl⟩
      obtain ⟨k, hk⟩ : ∃ k, k = (Utf8.decode s pos).2 := ⟨_, rfl⟩
      obtain ⟨r, hr⟩ : ∃ r, r = (Utf8.decode s pos).1 := ⟨_, rfl⟩
      rw [← hx, ← hk] at hrc
      rw [← hx, ← hk, ← hr] at hcs
      rw [← hr, ← hk] at hacc
      rw [← hk] at hwd hin
      clear hx hk hr
      by_cases b1 : x < 32
      · have t1 : decide (x < 32) = true := decide_eq_true b1
        rw [if_pos (by omega)] at hacc
        have HA := Lib.hid hacc
        clear hacc hcs
        go_wp2_with fail
        refine hrc.mono ?_
        rintro e w' ⟨rfl, rfl⟩
        go_wp2_with fail
        go_ret
        exact ⟨by rw [← HA.out]; rfl, rfl⟩
      · have t1 : decide (x < 32) = false := decide_eq_false b1
        by_cases b2 : x = 127
        · have t2 : (x == 127) = true := by rw [b2]; rfl
          rw [if_pos (by omega)] at hacc
          have HA := Lib.hid hacc
          clear hacc hcs b2
          go_wp2_with fail
          refine hrc.mono ?_
          rintro e w' ⟨rfl, rfl⟩
          go_wp2_with fail
          go_ret
          exact ⟨by rw [← HA.out]; rfl, rfl⟩
        · have t2 : (x == 127) = false := by simpa using b2
          by_cases b3 : x = 65533
          · have t3 : (x == 65533) = true := by rw [b3]; rfl
            rw [if_pos (by omega)] at hacc
            have HA := Lib.hid hacc
            clear hacc hcs b3
            go_wp2_with fail
            refine hrc.mono ?_
            rintro e w' ⟨rfl, rfl⟩
            go_wp2_with fail
            go_ret
            exact ⟨by rw [← HA.out]; rfl, rfl⟩
          · have t3 : (x == 65533) = false := by simpa using b3
            rw [if_neg (by omega)] at hacc
            have HA := Lib.hid hacc
            clear hacc hcs
            go_wp2_with fail
            refine hrc.mono ?_
            rintro e w' ⟨rfl, rfl⟩
            go_wp2_with fail
            go_roundw
            case rel => exact ⟨pos + k, f, cnt + 1, by go_num, by go_num, by first | rfl | trivial, HA.out, by omega, by omega, by omega⟩
            case measure => simp [intOf]; omega
    · have hd : decide ((pos : Int) < (s.size : Int)) = false := decide_eq_false (by omega)
      rw [runs_end s fuel pos hp, textL] at hacc
      by_cases h0 : (cnt : Int) ≤ most
      · have t1 : decide ((cnt : Int) ≤ most) = true := decide_eq_true (by omega)
        rw [decide_eq_true h0] at hacc
        have HA := Lib.hid hacc
        clear hacc
        go_wp2
        go_ret
        exact ⟨by rw [← HA.out]; rfl, rfl⟩
      · have t1 : decide ((cnt : Int) ≤ most) = false := decide_eq_false (by omega)
        rw [decide_eq_false h0] at hacc
        have HA := Lib.hid hacc
        clear hacc
        go_wp2
        go_ret
        exact ⟨by rw [← HA.out]; rfl, rfl⟩
end Go.Proofs.YtlkokljlghlldaaDoor.Nam
