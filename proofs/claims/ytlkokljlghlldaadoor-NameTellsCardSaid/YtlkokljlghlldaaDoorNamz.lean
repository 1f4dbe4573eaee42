/-
  The document's Fold.
-/
import Derived.Test.YtlkokljlghlldaaDoorNamy
import Derived.Laws.Runes
namespace Go.Proofs.YtlkokljlghlldaaDoor.Nam
open Go.RowKit
open Go.Proofs.YtlkokljlghlldaaDoor.Kit
set_option linter.unusedVariables false

theorem app_list (a b : ByteArray) : (a ++ b).data.toList = a.data.toList ++ b.data.toList := by rw [ByteArray.data_append, Array.toList_append]
theorem enc_two (r : Nat) (h : r ≤ 2047) : (Utf8.encode (r : Int)).data.toList = Lib.encodeRune (r : Int) := by
  have hv : Utf8.valid (r : Int) = true := by simp [Utf8.valid]; omega
  unfold Utf8.encode
  simp only [hv, if_true, Int.toNat_natCast]
  by_cases h1 : r < 128
  · rw [if_pos h1, encZ (Lib.encodeRuneZ_one (r := (r : Int)) (by omega) (by omega))]
    rfl
  · rw [if_neg h1, if_pos (by omega), encZ (Lib.encodeRuneZ_two (r := (r : Int)) (by omega) (by omega))]
    have e1 : (192 + (r : Int) / 64).toNat = 192 + r / 64 := by omega
    have e2 : (128 + (r : Int) % 64).toNat = 128 + r % 64 := by omega
    simp only [List.map_cons, List.map_nil]
    rw [e1, e2]
theorem enc_bad : Lib.encodeRune ((65533 : Nat) : Int) = [239, 191, 189] := by decide
theorem fold_bad : foldR 65533 = 65533 := by decide

set_option maxRecDepth 100000 in
set_option maxHeartbeats 4000000 in
theorem refFold_any (s : ByteArray) (hz : s.size ≤ 1000000) (w : World) : Calls Tryd.prog 14 #[.string s] w fun e w' => e = .returned (.string (foldS s)) ∧ w = w' := by
  have kc : ∀ (n : Int) (w : World), (convert 21 9 (.int .i32 n)).run Tryd.prog w = .ok (.string (Utf8.encode n)) w := fun n w => run_convert_int_string w _ _ _ n (by rw [Tryd.underlying21]; rfl) Tryd.underlying9
  go_enter Tryd.func14, Tryd.ntmps14
  go_wp2
  go_loopw [3, 4] (fun v3 v4 wr => ∃ (pos fuel : Nat) (acc : ByteArray), v3 = .string acc ∧ v4 = .int .i64 pos ∧ w = wr ∧ acc.data.toList ++ foldL (runs s fuel pos) = foldL (runesS s) ∧ s.size ≤ pos + fuel ∧ pos ≤ s.size ∧ acc.size ≤ 4 * pos) (fun _ v4 _ => s.size - (intOf v4).toNat)
  case atStart => exact ⟨0, s.size, ⟨#[]⟩, rfl, rfl, rfl, rfl, by omega, by omega, Nat.le_refl _⟩
  case round =>
    obtain ⟨pos, fuel, acc, e3, e4, ew, hacc, hfu, hpl, hal⟩ := hrel
    subst e3 e4 ew
    by_cases hp : pos < s.size
    · have hd : decide ((pos : Int) < (s.size : Int)) = true := decide_eq_true (by omega)
      have hrc := rune_from s pos hp hz w
      have hcs := rr_cases s pos
      have hwd := width_at s pos
      have hin := width_in s pos hp
      have hru := rune_at s pos
      have hed := enc_dec s pos hp
      unfold Rune at hru
      obtain ⟨f, rfl⟩ : ∃ f, fuel = f + 1 := ⟨fuel - 1, by omega⟩
      rw [runs_step s f pos hp] at hacc
      obtain ⟨x, hx⟩ : ∃ x, x = (rr s pos).1 := ⟨_, rfl⟩
      obtain ⟨k, hk⟩ : ∃ k, k = (Utf8.decode s pos).2 := ⟨_, rfl⟩
      obtain ⟨r, hr⟩ : ∃ r, r = (Utf8.decode s pos).1 := ⟨_, rfl⟩
      rw [← hx, ← hk] at hrc
      rw [← hx, ← hk, ← hr] at hcs
      rw [← hr, ← hk] at hacc hed
      rw [← hk] at hwd hin
      rw [← hr] at hru
      clear hx hk hr
      have hS : ∀ b : ByteArray, b.data.toList = Lib.encodeRune ((foldR r : Nat) : Int) → (acc ++ b).size ≤ 4 * (pos + k) ∧ b.size ≤ 4 := fun b hb => by
        have h1 := congrArg List.length (app_list acc b)
        have h2 := enc_le (foldR r)
        rw [hb, List.length_append, ← Lib.size_eq, ← Lib.size_eq] at h1
        have h3 := congrArg List.length hb
        rw [← Lib.size_eq] at h3
        omega
      have hE : ∀ b : ByteArray, b.data.toList = Lib.encodeRune ((foldR r : Nat) : Int) → (acc ++ b).data.toList ++ foldL (runs s f (pos + k)) = foldL (runesS s) := fun b hb => by
        rw [← hacc, app_list, hb, List.append_assoc]
        rfl
      have hxb : -1 ≤ x ∧ x ≤ 1114111 := by omega
      have hle := refLetter_any x 32 (by omega) (by omega) w
      cases hl : letN (x + 32)
      · rw [hl] at hle
        by_cases hneg : x < 0
        · have t1 : decide (x < 0) = true := decide_eq_true hneg
          have hr3 : r = 65533 := by omega
          have hE2 := hE ⟨#[239, 191, 189]⟩ (by rw [hr3, fold_bad, enc_bad])
          have hS2 := hS ⟨#[239, 191, 189]⟩ (by rw [hr3, fold_bad, enc_bad])
          have HE := Lib.hid hE2
          clear hS hE hE2 hed hcs hacc
          go_wp2_with fail
          refine hrc.mono ?_
          rintro e w' ⟨rfl, rfl⟩
          go_wp2_with fail
          refine hle.mono ?_
          rintro e w' ⟨rfl, rfl⟩
          go_wp2_with fail
          go_roundw
          case rel => exact ⟨pos + k, f, acc ++ ⟨#[239, 191, 189]⟩, by first | rfl | trivial, by go_num, by first | rfl | trivial, HE.out, by omega, by omega, hS2.1⟩
          case measure => simp [intOf]; omega
        · have t1 : decide (x < 0) = false := decide_eq_false hneg
          obtain ⟨hxr, hgood⟩ : x = (r : Int) ∧ ¬ (r = 65533 ∧ k = 1) := by
            rcases hcs with h | h
            · omega
            · exact h
          have hfr : foldR r = r := by
            unfold foldR
            rw [if_neg]
            intro hb
            rw [hxr] at hl
            unfold bigN at hb
            rw [hl] at hb
            cases hb
          have hE2 := hE (s.extract pos (pos + k)) (by rw [hfr, hed hgood, Lib.extract_data, Nat.add_sub_cancel_left])
          have hS2 := hS (s.extract pos (pos + k)) (by rw [hfr, hed hgood, Lib.extract_data, Nat.add_sub_cancel_left])
          have HE := Lib.hid hE2
          clear hS hE hE2 hed hcs hacc hxr
          go_wp2_with fail
          refine hrc.mono ?_
          rintro e w' ⟨rfl, rfl⟩
          go_wp2_with fail
          refine hle.mono ?_
          rintro e w' ⟨rfl, rfl⟩
          go_wp2_with fail
          go_roundw
          case rel => exact ⟨pos + k, f, acc ++ s.extract pos (pos + k), by first | rfl | trivial, by go_num, by first | rfl | trivial, HE.out, by omega, by omega, hS2.1⟩
          case measure => simp [intOf]; omega
      · rw [hl] at hle
        have hx0 : 0 ≤ x := by
          rcases (by omega : x = -1 ∨ 0 ≤ x) with h | h
          · rw [h] at hl
            exact absurd hl (by decide)
          · exact h
        have t1 : decide ((0 : Int) ≤ x) = true := decide_eq_true hx0
        have hxr : x = (r : Int) := by
          rcases hcs with h | h
          · omega
          · exact h.1
        have hb : bigN (r : Int) = true := by unfold bigN; rw [← hxr]; exact hl
        have hbi := (bigN_iff r).1 hb
        have hfr : foldR r = r + 32 := by unfold foldR; rw [if_pos hb]
        have hcast : x + 32 = ((r + 32 : Nat) : Int) := by omega
        have hE2 := hE (Utf8.encode (x + 32)) (by rw [hfr, hcast]; exact enc_two _ (by omega))
        have hS2 := hS (Utf8.encode (x + 32)) (by rw [hfr, hcast]; exact enc_two _ (by omega))
        have HE := Lib.hid hE2
        have hxb2 : x ≤ 2000 := by omega
        clear hS hE hE2 hed hcs hacc hxr hcast hb hbi
        go_wp2_with fail
        refine hrc.mono ?_
        rintro e w' ⟨rfl, rfl⟩
        go_wp2_with fail
        refine hle.mono ?_
        rintro e w' ⟨rfl, rfl⟩
        go_wp2_with fail
        go_roundw
        case rel => exact ⟨pos + k, f, acc ++ Utf8.encode (x + 32), by first | rfl | trivial, by go_num, by first | rfl | trivial, HE.out, by omega, by omega, hS2.1⟩
        case measure => simp [intOf]; omega
    · have hd : decide ((pos : Int) < (s.size : Int)) = false := decide_eq_false (by omega)
      rw [runs_end s fuel pos hp, show foldL [] = [] from rfl, List.append_nil] at hacc
      have hfs : acc = foldS s := by
        apply ba_ext
        rw [hacc]
        simp [foldS]
      have HF := Lib.hid hfs
      clear hfs hacc
      go_wp2
      go_ret
      exact ⟨by rw [← HF.out]; rfl, rfl⟩
end Go.Proofs.YtlkokljlghlldaaDoor.Nam
