/-
  The law's plain.
-/
import Derived.Test.YtajkghdjfbgimaaSymb
namespace Go.Proofs.Ytajkghdjfbgimaa.Sym
open Go.RowKit
open Go.Proofs.Ytajkghdjfbgimaa.Kit
open Go.Proofs.Ytajkghdjfbgimaa.Oct
set_option linter.unusedVariables false

set_option maxRecDepth 100000 in
set_option maxHeartbeats 2000000 in
theorem plain_any (A : Option Addr) (n c B : Nat) (bs : List UInt8) (w : World) (h : RdB w B A n c bs) :
    Calls Try.prog 24 #[.slice A n c] w fun e w' => e = .returned (.tuple #[.int .u8 (mkK bs).toNat, .int .i64 (mkN bs)]) ∧ w = w' := by
  have hl := h.len
  have hr := h.room
  by_cases hn : n = 16
  · subst hn
    obtain ⟨b, o, rfl, hb, hc⟩ := h.at_ (k := 0) (by omega)
    have c0 := hc 0 (by omega)
    have c1 := hc 1 (by omega)
    have c2 := hc 2 (by omega)
    have hcut := RdB.cut h (k := 8) (by omega) (by omega)
    rw [Nat.add_zero] at c0
    obtain ⟨x0, hx0⟩ : ∃ q, q = bs[0] := ⟨_, rfl⟩
    obtain ⟨x1, hx1⟩ : ∃ q, q = bs[1] := ⟨_, rfl⟩
    obtain ⟨x2, hx2⟩ : ∃ q, q = bs[2] := ⟨_, rfl⟩
    have hg0 : gb bs 0 = x0 := by rw [gb_lt (by omega), hx0]
    have hg1 : gb bs 1 = x1 := by rw [gb_lt (by omega), hx1]
    have hg2 : gb bs 2 = x2 := by rw [gb_lt (by omega), hx2]
    rw [← hx0] at c0
    rw [← hx1] at c1
    rw [← hx2] at c2
    have HC := Lib.hid hc
    have HL := Lib.hid hl
    have HCUT := Lib.hid hcut
    have HG0 := Lib.hid hg0
    have HG1 := Lib.hid hg1
    have HG2 := Lib.hid hg2
    clear hx0 hx1 hx2 hg0 hg1 hg2 hc hl hcut h
    by_cases t0 : x0 = 255
    · by_cases t1 : x1 = 254
      · cases t2 : isK x2
        · obtain ⟨e1, e2, e3⟩ := mark_no (b := bs) (by
            rcases hm : markOf bs with _ | x
            · rfl
            · have := (markOf_cond (by rw [hm]; simp)).2.2.2.1
              rw [HG2.out, t2] at this
              cases this)
          rw [e1, e2]
          have g0 : ((x0.toNat : Int) != 255) = false := by rw [t0]; rfl
          have g1 : ((x1.toNat : Int) != 254) = false := by rw [t1]; rfl
          rw [isK_int, Bool.or_eq_false_iff, Bool.or_eq_false_iff] at t2
          obtain ⟨⟨k1, k2⟩, k3⟩ := t2
          have n1 : ((x2.toNat : Int) != 107) = true := by rw [bne, k1]; rfl
          have n2 : ((x2.toNat : Int) != 98) = true := by rw [bne, k2]; rfl
          have n3 : ((x2.toNat : Int) != 100) = true := by rw [bne, k3]; rfl
          clear e1 e2 e3 t0 t1 k1 k2 k3
          go_enter Try.func24, Try.ntmps24
          go_wp2
          go_ret2
          exact ⟨rfl, rfl⟩
        · have g0 : ((x0.toNat : Int) != 255) = false := by rw [t0]; rfl
          have g1 : ((x1.toNat : Int) != 254) = false := by rw [t1]; rfl
          have HT0 := Lib.hid t0
          have HT1 := Lib.hid t1
          have HT2 := Lib.hid t2
          have hc16 : 16 ≤ c := hr.1
          have hcm : c ≤ 9223372036854775807 := hr.2
          clear t0 t1
          have hk3 : ((x2.toNat : Int) != 107) = false ∨ (((x2.toNat : Int) != 107) = true ∧ ((x2.toNat : Int) != 98) = false) ∨ (((x2.toNat : Int) != 107) = true ∧ ((x2.toNat : Int) != 98) = true ∧ ((x2.toNat : Int) != 100) = false) := by
            rw [isK_int] at t2
            simp only [bne]
            cases h1 : ((x2.toNat : Int) == 107) <;> cases h2 : ((x2.toNat : Int) == 98) <;> cases h3 : ((x2.toNat : Int) == 100) <;> simp [h1, h2, h3] at t2 ⊢
          clear t2
          rcases hk3 with n1 | ⟨n1, n2⟩ | ⟨n1, n2, n3⟩
          all_goals
            go_enter Try.func24, Try.ntmps24
            go_wp2_with fail
            clear c0 c1 g0 g1
            first | clear n3 | skip
            first | clear n2 | skip
            clear n1
            go_loop [4] (fun i => ∃ k : Nat, 3 ≤ k ∧ k ≤ 8 ∧ i = .int .i64 k ∧ ∀ j, 3 ≤ j → j < k → gb bs j = 0) (fun i => 8 - (intOf i).toNat)
            case atStart => exact ⟨3, by omega, by omega, rfl, fun j hj hj2 => absurd hj2 (by omega)⟩
            case round =>
              obtain ⟨k, hk3, hk, rfl, hz⟩ := hrel
              have HZ := Lib.hid hz
              clear hz
              by_cases hlt : k < 8
              · have hcc := HC.out k (by have := HL.out; omega)
                have hgk : gb bs k = bs[k]'(by have := HL.out; omega) := gb_lt _
                obtain ⟨x, hx⟩ : ∃ q, q = bs[k]'(by have := HL.out; omega) := ⟨_, rfl⟩
                rw [← hx] at hcc hgk
                have HGK := Lib.hid hgk
                clear hx hgk
                by_cases hx0 : x = 0
                · subst hx0
                  have hcc' : w.cell? ⟨b, o + k, none⟩ = some (.int .u8 0) := hcc
                  clear hcc
                  go_wp2
                  go_round
                  case rel => exact ⟨k + 1, by omega, by omega, by go_num, fun j hj3 hj => by
                    by_cases hjk : j = k
                    · rw [hjk]; exact HGK.out
                    · exact HZ.out j hj3 (by omega)⟩
                  case measure => simp [intOf]; omega
                · obtain ⟨e1, e2, e3⟩ := mark_no (b := bs) (by
                    rcases hm : markOf bs with _ | y
                    · rfl
                    · obtain ⟨g3, g4, g5, g6, g7⟩ := (markOf_cond (b := bs) (by rw [hm]; simp)).2.2.2.2.1
                      exfalso
                      apply hx0
                      rw [← HGK.out]
                      obtain rfl | rfl | rfl | rfl | rfl : k = 3 ∨ k = 4 ∨ k = 5 ∨ k = 6 ∨ k = 7 := by omega
                      · exact g3
                      · exact g4
                      · exact g5
                      · exact g6
                      · exact g7)
                  have HE1 := Lib.hid e1
                  have HE2 := Lib.hid e2
                  have HE3 := Lib.hid e3
                  have gx : ((x.toNat : Int) != 0) = true := by
                    rw [bne_iff_ne]
                    intro e
                    exact hx0 (UInt8.toNat_inj.1 (by show x.toNat = 0; omega))
                  clear e1 e2 e3 hx0
                  go_wp2
                  go_ret2
                  exact ⟨by rw [HE1.out, HE2.out]; rfl, rfl⟩
              · obtain rfl : k = 8 := by omega
                have hcut := HCUT.out
                obtain ⟨N, hN⟩ : ∃ q, q = num (bs.drop 8) := ⟨_, rfl⟩
                have hlt8 := num_lt (bs.drop 8)
                rw [← hN] at hlt8
                have HN := Lib.hid hN
                have hget := rget_yes (some ⟨b, o + 8, none⟩) 8 (c - 8) B (bs.drop 8) w hcut (by omega) (by omega)
                rw [← hN] at hget
                have HGET := Lib.hid hget
                clear hcut hN hlt8 hget
                by_cases hbig : N ≤ 1099511627776
                · have hm : markOf bs = some (x2, N) := by
                    rw [HN.out, ← HG2.out, markOf, if_pos]
                    refine ⟨HL.out, by rw [HG0.out, HT0.out], by rw [HG1.out, HT1.out], by rw [HG2.out, HT2.out], ⟨HZ.out 3 (by omega) (by omega), HZ.out 4 (by omega) (by omega), HZ.out 5 (by omega) (by omega), HZ.out 6 (by omega) (by omega), HZ.out 7 (by omega) (by omega)⟩, by rw [← HN.out]; exact hbig⟩
                  have e1 : mkK bs = x2 := by rw [mkK, hm]
                  have e2 : mkN bs = N := by rw [mkN, hm]
                  have e3 : mkO bs = true := by rw [mkO, hm]; rfl
                  have HE1 := Lib.hid e1
                  have HE2 := Lib.hid e2
                  have HE3 := Lib.hid e3
                  have gb1 : decide ((1099511627776 : Int) < (N : Int)) = false := by simp; omega
                  clear e1 e2 e3 hm
                  go_wp2_with fail
                  refine HGET.out.mono ?_
                  rintro e w1 ⟨rfl, rfl⟩
                  go_wp2
                  go_ret2
                  exact ⟨by rw [HE1.out, HE2.out]; rfl, rfl⟩
                · obtain ⟨e1, e2, e3⟩ := mark_no (b := bs) (by
                    rcases hm : markOf bs with _ | y
                    · rfl
                    · have := (markOf_cond (b := bs) (by rw [hm]; simp)).2.2.2.2.2
                      rw [← HN.out] at this
                      exact absurd this hbig)
                  have HE1 := Lib.hid e1
                  have HE2 := Lib.hid e2
                  have HE3 := Lib.hid e3
                  have gb1 : decide ((1099511627776 : Int) < (N : Int)) = true := by simp; omega
                  have pb1 : (1099511627776 : Int) < (N : Int) := by omega
                  clear e1 e2 e3
                  go_wp2_with fail
                  refine HGET.out.mono ?_
                  rintro e w1 ⟨rfl, rfl⟩
                  go_wp2
                  go_ret2
                  exact ⟨by rw [HE1.out, HE2.out]; rfl, rfl⟩
      · obtain ⟨e1, e2, e3⟩ := mark_no (b := bs) (by
          rcases hm : markOf bs with _ | x
          · rfl
          · have := (markOf_cond (b := bs) (by rw [hm]; simp)).2.2.1
            rw [HG1.out] at this
            exact absurd this t1)
        rw [e1, e2]
        have g0 : ((x0.toNat : Int) != 255) = false := by rw [t0]; rfl
        have g1 : ((x1.toNat : Int) != 254) = true := by rw [bne_iff_ne]; intro e; exact t1 (UInt8.toNat_inj.1 (by show x1.toNat = 254; omega))
        clear e1 e2 e3 t0 t1
        go_enter Try.func24, Try.ntmps24
        go_wp2
        go_ret2
        exact ⟨rfl, rfl⟩
    · obtain ⟨e1, e2, e3⟩ := mark_no (b := bs) (by
        rcases hm : markOf bs with _ | x
        · rfl
        · have := (markOf_cond (b := bs) (by rw [hm]; simp)).2.1
          rw [HG0.out] at this
          exact absurd this t0)
      rw [e1, e2]
      have g0 : ((x0.toNat : Int) != 255) = true := by rw [bne_iff_ne]; intro e; exact t0 (UInt8.toNat_inj.1 (by show x0.toNat = 255; omega))
      clear e1 e2 e3 t0
      go_enter Try.func24, Try.ntmps24
      go_wp2
      go_ret2
      exact ⟨rfl, rfl⟩
  · have hm : markOf bs = none := by rw [markOf, if_neg (by rintro ⟨h1, _⟩; omega)]
    obtain ⟨e1, e2, e3⟩ := mark_no hm
    rw [e1, e2]
    have g0 : ((n : Int) != 16) = true := by rw [bne_iff_ne]; omega
    clear e1 e2 e3 hm
    go_enter Try.func24, Try.ntmps24
    go_wp2
    go_ret2
    exact ⟨rfl, rfl⟩
end Go.Proofs.Ytajkghdjfbgimaa.Sym
