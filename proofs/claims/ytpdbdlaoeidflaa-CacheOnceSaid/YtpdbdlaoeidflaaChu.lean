/-
  cache: the example; CacheNear's walk.
-/
import Derived.Test.YtpdbdlaoeidflaaCht
namespace Go.Proofs.Ytpdbdlaoeidflaa.Ch
open Go.RowKit
open Go.Proofs.Ytpdbdlaoeidflaa.Kit
set_option linter.unusedVariables false

def sA : ByteArray := ⟨#[97]⟩
theorem a1_show : showS 1 [] 100 ⟨sA, 100, 1⟩ = ([⟨sA, 100, 1⟩], 0) := by simp [showS, nearS, isT, keepS]
theorem a2_show : showS 1 [⟨sA, 100, 1⟩] 101 ⟨sA, 100, 1⟩ = ([⟨sA, 100, 1⟩], 14) := by
  have h : It.eq ⟨sA, 100, 1⟩ ⟨sA, 100, 1⟩ = true := It.eq_iff.2 rfl
  simp [showS, nearS, isT, h]
theorem a3_show : showS 1 [⟨sA, 100, 1⟩] 101 ⟨sA, 100, 2⟩ = ([⟨sA, 100, 1⟩], 8) := by
  have h : It.eq ⟨sA, 100, 2⟩ ⟨sA, 100, 1⟩ = false := by simp [It.eq]
  simp [showS, nearS, isT, h, keepS, old]
theorem a4_show : showS 1 [⟨sA, 100, 1⟩] 131 ⟨sA, 100, 2⟩ = ([⟨sA, 100, 1⟩], 11) := by
  have h : nearS 131 100 = false := by decide
  simp [showS, h]
theorem a5_show : showS 1 [⟨sA, 100, 1⟩] 131 ⟨sA, 130, 2⟩ = ([⟨sA, 130, 2⟩], 0) := by
  have h : It.eq ⟨sA, 130, 2⟩ ⟨sA, 100, 1⟩ = false := by simp [It.eq]
  simp [showS, nearS, isT, h, keepS, old]
set_option maxRecDepth 100000 in
theorem alive12_any (w : World) : Calls Try.prog 6 #[] w fun e w' => e = .returned (.bool true) ∧ Below w.heap.size w w' := by
  have hnew := new_any 1 w
  rw [show most 1 = 1 from rfl] at hnew
  have HC0 := Lib.hid (made_at (w := w) (B := w.heap.size) (M := 1) (Nat.le_refl _) (Nat.le_refl _) (by omega))
  have HB0 := Lib.hid (below_of_new w (.cells #[.int .i64 (1 : Nat), .slice none 0 0] 41))
  go_enter Try.func6, Try.ntmps6
  go_wp2_with fail
  refine hnew.mono ?_
  rintro e w0 ⟨rfl, hw0⟩
  rw [← hw0] at HC0 HB0
  clear hw0 hnew
  have h1 := show_any HC0.out HB0.out.size 100 ⟨sA, 100, 1⟩
  rw [a1_show] at h1
  go_wp2_with fail
  refine h1.mono ?_
  rintro e w1 ⟨rfl, A1, c1, hc1, hs1⟩
  have HC1 := Lib.hid hc1
  have HB1 := Lib.hid (HB0.out.trans (hs1.below HC0.out HB0.out.size))
  have h2 := show_any HC1.out HB1.out.size 101 ⟨sA, 100, 1⟩
  rw [a2_show] at h2
  clear h1 hc1 hs1
  go_wp2_with fail
  refine h2.mono ?_
  rintro e w2 ⟨rfl, A2, c2, hc2, hs2⟩
  have HC2 := Lib.hid hc2
  have HB2 := Lib.hid (HB1.out.trans (hs2.below HC1.out HB1.out.size))
  have h3 := show_any HC2.out HB2.out.size 101 ⟨sA, 100, 2⟩
  rw [a3_show] at h3
  clear h2 hc2 hs2
  go_wp2_with fail
  refine h3.mono ?_
  rintro e w3 ⟨rfl, A3, c3, hc3, hs3⟩
  have HC3 := Lib.hid hc3
  have HB3 := Lib.hid (HB2.out.trans (hs3.below HC2.out HB2.out.size))
  have h4 := show_any HC3.out HB3.out.size 131 ⟨sA, 100, 2⟩
  rw [a4_show] at h4
  clear h3 hc3 hs3
  go_wp2_with fail
  refine h4.mono ?_
  rintro e w4 ⟨rfl, A4, c4, hc4, hs4⟩
  have HC4 := Lib.hid hc4
  have HB4 := Lib.hid (HB3.out.trans (hs4.below HC3.out HB3.out.size))
  have h5 := show_any HC4.out HB4.out.size 131 ⟨sA, 130, 2⟩
  rw [a5_show] at h5
  clear h4 hc4 hs4
  go_wp2_with fail
  refine h5.mono ?_
  rintro e w5 ⟨rfl, A5, c5, hc5, hs5⟩
  have HC5 := Lib.hid hc5
  have HB5 := Lib.hid (HB4.out.trans (hs5.below HC4.out HB4.out.size))
  have h6 := len_any HC5.out
  clear h5 hc5 hs5
  go_wp2_with fail
  refine h6.mono ?_
  rintro e w6 ⟨rfl, rfl⟩
  go_wp2
  go_ret
  exact ⟨rfl, HB5.out⟩
theorem near_walk (a b : Int) (w : World) : Calls Try.prog 5 #[.int .i64 a, .int .i64 b] w fun e w' => e = .returned (.bool true) ∧ Below w.heap.size w w' := by
  have k1 : ∀ w, Calls Try.prog 12 #[.int .i64 a, .int .i64 b] w fun e w' => e = .returned (.bool (nearS a b)) ∧ w = w' := near_any a b
  have k2 : ∀ w, Calls Try.prog 13 #[.int .i64 a, .int .i64 b] w fun e w' => e = .returned (.bool (nearS a b)) ∧ w = w' := refnear_any a b
  have k3 : ∀ w, Calls Try.prog 12 #[.int .i64 b, .int .i64 a] w fun e w' => e = .returned (.bool (nearS a b)) ∧ w = w' := by rw [nearS_comm a b]; exact near_any b a
  obtain ⟨X, hX⟩ : ∃ x, x = nearS a b := ⟨_, rfl⟩
  rw [← hX] at k1 k2 k3
  clear hX
  go_enter Try.func5, Try.ntmps5
  go_wp2_with fail
  refine (alive12_any w).mono ?_
  rintro e w1 ⟨rfl, hb1⟩
  have HB1 := Lib.hid hb1
  clear hb1
  go_wp2_with fail
  refine (k1 _).mono ?_
  rintro e w2 ⟨rfl, rfl⟩
  go_wp2_with fail
  refine (k2 _).mono ?_
  rintro e w2 ⟨rfl, rfl⟩
  cases X
  all_goals
    go_wp2_with fail
    refine (k1 _).mono ?_
    rintro e w2 ⟨rfl, rfl⟩
    go_wp2_with fail
    refine (k3 _).mono ?_
    rintro e w2 ⟨rfl, rfl⟩
    go_wp2
    go_ret
    exact ⟨rfl, HB1.out⟩
end Go.Proofs.Ytpdbdlaoeidflaa.Ch
