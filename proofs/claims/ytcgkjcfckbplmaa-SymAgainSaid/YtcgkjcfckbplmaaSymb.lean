/-
  sym's Mark and isKind.
-/
import Derived.Test.YtcgkjcfckbplmaaSyma
namespace Go.Proofs.Ytcgkjcfckbplmaa.Sym
open Go.RowKit
open Go.Proofs.Ytcgkjcfckbplmaa.Kit
open Go.Proofs.Ytcgkjcfckbplmaa.Oct
set_option linter.unusedVariables false

theorem isK_int (c : UInt8) : isK c = (((c.toNat : Int) == 107) || ((c.toNat : Int) == 98) || ((c.toNat : Int) == 100)) := by
  have h : ∀ k : UInt8, (c == k) = ((c.toNat : Int) == (k.toNat : Int)) := fun k => by
    rw [Bool.eq_iff_iff, beq_iff_eq, beq_iff_eq]
    constructor
    · rintro rfl; rfl
    · intro e; exact UInt8.toNat_inj.1 (by omega)
  rw [isK, h, h, h]; rfl
theorem isKind_any (c : UInt8) (w : World) : Calls Try.prog 49 #[.int .u8 c.toNat] w fun e w' => e = .returned (.bool (isK c)) ∧ w = w' := by
  rw [isK_int]
  cases g1 : ((c.toNat : Int) == 107) <;> cases g2 : ((c.toNat : Int) == 98) <;> cases g3 : ((c.toNat : Int) == 100)
  all_goals
    go_enter Try.func49, Try.ntmps49
    go_wp2
    go_ret
    first | exact ⟨rfl, rfl⟩ | (refine ⟨?_, rfl⟩; simp_all)

theorem mark_no {b : List UInt8} (h : markOf b = none) : mkK b = 0 ∧ mkN b = 0 ∧ mkO b = false := by
  unfold mkK mkN mkO
  rw [h]
  exact ⟨rfl, rfl, rfl⟩

theorem markOf_cond {b : List UInt8} (h : markOf b ≠ none) : b.length = 16 ∧ gb b 0 = 255 ∧ gb b 1 = 254 ∧ isK (gb b 2) = true ∧ (gb b 3 = 0 ∧ gb b 4 = 0 ∧ gb b 5 = 0 ∧ gb b 6 = 0 ∧ gb b 7 = 0) ∧ num (b.drop 8) ≤ 1099511627776 := by
  unfold markOf at h
  split at h
  · assumption
  · exact absurd rfl h
set_option maxRecDepth 100000 in
set_option maxHeartbeats 2000000 in
theorem mark_any (A : Option Addr) (n c B : Nat) (bs : List UInt8) (w : World) (h : RdB w B A n c bs) :
    Calls Try.prog 26 #[.slice A n c] w fun e w' => e = .returned (.tuple #[.int .u8 (mkK bs).toNat, .int .i64 (mkN bs), .bool (mkO bs)]) ∧ w = w' := by
  have hl := h.len
  have hr := h.room
  by_cases hn : n = 16
  · subst hn
    obtain ⟨b, o, rfl, hb, hc⟩ := h.at_ (k := 0) (by omega)
    have c0 := hc 0 (by omega)
    have c1 := hc 1 (by omega)
    have c2 := hc 2 (by omega)
    have hcut := RdB.cut h (k := 8) (by omega) (by omega)
    rw [Nat.add_zero] at c0
    obtain ⟨x0, hx0⟩ : ∃ q, q = bs[0] := ⟨_, rfl⟩
    obtain ⟨x1, hx1⟩ : ∃ q, q = bs[1] := ⟨_, rfl⟩
    obtain ⟨x2, hx2⟩ : ∃ q, q = bs[2] := ⟨_, rfl⟩
    have hg0 : gb bs 0 = x0 := by rw [gb_lt (by omega), hx0]
    have hg1 : gb bs 1 = x1 := by rw [gb_lt (by omega), hx1]
    have hg2 : gb bs 2 = x2 := by rw [gb_lt (by omega), hx2]
    rw [← hx0] at c0
    rw [← hx1] at c1
    rw [← hx2] at c2
    have HC := Lib.hid hc
    have HL := Lib.hid hl
    have HCUT := Lib.hid hcut
    have HG0 := Lib.hid hg0
    have HG1 := Lib.hid hg1
    have HG2 := Lib.hid hg2
    clear hx0 hx1 hx2 hg0 hg1 hg2 hc hl hcut h
    by_cases t0 : x0 = 255
    · by_cases t1 : x1 = 254
      · cases t2 : isK x2
        · obtain ⟨e1, e2, e3⟩ := mark_no (b := bs) (by
            rcases hm : markOf bs with _ | x
            · rfl
            · have := (markOf_cond (by rw [hm]; simp)).2.2.2.1
              rw [HG2.out, t2] at this
              cases this)
          rw [e1, e2, e3]
          have g0 : ((x0.toNat : Int) != 255) = false := by rw [t0]; rfl
          have g1 : ((x1.toNat : Int) != 254) = false := by rw [t1]; rfl
          have HT2 := Lib.hid t2
          clear e1 e2 e3 t0 t1 t2
          go_enter Try.func26, Try.ntmps26
          go_wp2_with fail
          refine (isKind_any x2 w).mono ?_
          rintro e w1 ⟨rfl, rfl⟩
          rw [HT2.out]
          go_wp2
          go_ret3
          exact ⟨rfl, rfl⟩
        · have g0 : ((x0.toNat : Int) != 255) = false := by rw [t0]; rfl
          have g1 : ((x1.toNat : Int) != 254) = false := by rw [t1]; rfl
          have HT0 := Lib.hid t0
          have HT1 := Lib.hid t1
          have HT2 := Lib.hid t2
          have hc16 : 16 ≤ c := hr.1
          have hcm : c ≤ 9223372036854775807 := hr.2
          clear t0 t1 t2
          go_enter Try.func26, Try.ntmps26
          go_wp2_with fail
          refine (isKind_any x2 w).mono ?_
          rintro e w1 ⟨rfl, rfl⟩
          rw [HT2.out]
          go_wp2_with fail
          clear c0 c1 g0 g1
          go_loop [34] (fun i => ∃ k : Nat, k ≤ 5 ∧ i = .int .i64 k ∧ ∀ j, j < k → gb bs (3 + j) = 0) (fun i => 5 - (intOf i).toNat)
          case atStart => exact ⟨0, by omega, rfl, fun j hj => absurd hj (by omega)⟩
          case round =>
            obtain ⟨k, hk, rfl, hz⟩ := hrel
            have HZ := Lib.hid hz
            clear hz
            by_cases hlt : k < 5
            · have hcc := HC.out (3 + k) (by have := HL.out; omega)
              rw [show o + (3 + k) = o + 3 + k from by omega] at hcc
              have hgk : gb bs (3 + k) = bs[3 + k]'(by have := HL.out; omega) := gb_lt _
              obtain ⟨x, hx⟩ : ∃ q, q = bs[3 + k]'(by have := HL.out; omega) := ⟨_, rfl⟩
              rw [← hx] at hcc hgk
              have HGK := Lib.hid hgk
              clear hx hgk
              by_cases hx0 : x = 0
              · subst hx0
                have hcc' : w.cell? ⟨b, o + 3 + k, none⟩ = some (.int .u8 0) := hcc
                clear hcc
                go_wp2
                go_round
                case rel => exact ⟨k + 1, by omega, by go_num, fun j hj => by
                  by_cases hjk : j = k
                  · rw [hjk]; exact HGK.out
                  · exact HZ.out j (by omega)⟩
                case measure => simp [intOf]; omega
              · obtain ⟨e1, e2, e3⟩ := mark_no (b := bs) (by
                  rcases hm : markOf bs with _ | y
                  · rfl
                  · obtain ⟨g3, g4, g5, g6, g7⟩ := (markOf_cond (b := bs) (by rw [hm]; simp)).2.2.2.2.1
                    exfalso
                    apply hx0
                    rw [← HGK.out]
                    obtain rfl | rfl | rfl | rfl | rfl : k = 0 ∨ k = 1 ∨ k = 2 ∨ k = 3 ∨ k = 4 := by omega
                    · exact g3
                    · exact g4
                    · exact g5
                    · exact g6
                    · exact g7)
                have HE1 := Lib.hid e1
                have HE2 := Lib.hid e2
                have HE3 := Lib.hid e3
                have gx : ((x.toNat : Int) != 0) = true := by
                  rw [bne_iff_ne]
                  intro e
                  exact hx0 (UInt8.toNat_inj.1 (by show x.toNat = 0; omega))
                clear e1 e2 e3 hx0
                go_wp2
                go_ret3
                exact ⟨by rw [HE1.out, HE2.out, HE3.out]; rfl, rfl⟩
            · obtain rfl : k = 5 := by omega
              have hcut := HCUT.out
              obtain ⟨N, hN⟩ : ∃ q, q = num (bs.drop 8) := ⟨_, rfl⟩
              have hlt8 := num_lt (bs.drop 8)
              rw [← hN] at hlt8
              have HN := Lib.hid hN
              have hget := get_yes (some ⟨b, o + 8, none⟩) 8 (c - 8) B (bs.drop 8) w hcut (by omega) (by omega)
              rw [← hN] at hget
              have HGET := Lib.hid hget
              clear hcut hN hlt8 hget
              by_cases hbig : N ≤ 1099511627776
              · have hm : markOf bs = some (x2, N) := by
                  rw [HN.out, ← HG2.out, markOf, if_pos]
                  refine ⟨HL.out, by rw [HG0.out, HT0.out], by rw [HG1.out, HT1.out], by rw [HG2.out, HT2.out], ⟨HZ.out 0 (by omega), HZ.out 1 (by omega), HZ.out 2 (by omega), HZ.out 3 (by omega), HZ.out 4 (by omega)⟩, by rw [← HN.out]; exact hbig⟩
                have e1 : mkK bs = x2 := by rw [mkK, hm]
                have e2 : mkN bs = N := by rw [mkN, hm]
                have e3 : mkO bs = true := by rw [mkO, hm]; rfl
                have HE1 := Lib.hid e1
                have HE2 := Lib.hid e2
                have HE3 := Lib.hid e3
                have gb1 : decide ((1099511627776 : Int) < (N : Int)) = false := by simp; omega
                clear e1 e2 e3 hm
                go_wp2_with fail
                refine HGET.out.mono ?_
                rintro e w1 ⟨rfl, rfl⟩
                go_wp2
                go_ret3
                exact ⟨by rw [HE1.out, HE2.out, HE3.out]; rfl, rfl⟩
              · obtain ⟨e1, e2, e3⟩ := mark_no (b := bs) (by
                  rcases hm : markOf bs with _ | y
                  · rfl
                  · have := (markOf_cond (b := bs) (by rw [hm]; simp)).2.2.2.2.2
                    rw [← HN.out] at this
                    exact absurd this hbig)
                have HE1 := Lib.hid e1
                have HE2 := Lib.hid e2
                have HE3 := Lib.hid e3
                have gb1 : decide ((1099511627776 : Int) < (N : Int)) = true := by simp; omega
                have pb1 : (1099511627776 : Int) < (N : Int) := by omega
                clear e1 e2 e3
                go_wp2_with fail
                refine HGET.out.mono ?_
                rintro e w1 ⟨rfl, rfl⟩
                go_wp2
                go_ret3
                exact ⟨by rw [HE1.out, HE2.out, HE3.out]; rfl, rfl⟩
      · obtain ⟨e1, e2, e3⟩ := mark_no (b := bs) (by
          rcases hm : markOf bs with _ | x
          · rfl
          · have := (markOf_cond (b := bs) (by rw [hm]; simp)).2.2.1
            rw [HG1.out] at this
            exact absurd this t1)
        rw [e1, e2, e3]
        have g0 : ((x0.toNat : Int) != 255) = false := by rw [t0]; rfl
        have g1 : ((x1.toNat : Int) != 254) = true := by rw [bne_iff_ne]; intro e; exact t1 (UInt8.toNat_inj.1 (by show x1.toNat = 254; omega))
        clear e1 e2 e3 t0 t1
        go_enter Try.func26, Try.ntmps26
        go_wp2
        go_ret3
        exact ⟨rfl, rfl⟩
    · obtain ⟨e1, e2, e3⟩ := mark_no (b := bs) (by
        rcases hm : markOf bs with _ | x
        · rfl
        · have := (markOf_cond (b := bs) (by rw [hm]; simp)).2.1
          rw [HG0.out] at this
          exact absurd this t0)
      rw [e1, e2, e3]
      have g0 : ((x0.toNat : Int) != 255) = true := by rw [bne_iff_ne]; intro e; exact t0 (UInt8.toNat_inj.1 (by show x0.toNat = 255; omega))
      clear e1 e2 e3 t0
      go_enter Try.func26, Try.ntmps26
      go_wp2
      go_ret3
      exact ⟨rfl, rfl⟩
  · have hm : markOf bs = none := by rw [markOf, if_neg (by rintro ⟨h1, _⟩; omega)]
    obtain ⟨e1, e2, e3⟩ := mark_no hm
    rw [e1, e2, e3]
    have g0 : ((n : Int) != 16) = true := by rw [bne_iff_ne]; omega
    clear e1 e2 e3 hm
    go_enter Try.func26, Try.ntmps26
    go_wp2
    go_ret3
    exact ⟨rfl, rfl⟩
end Go.Proofs.Ytcgkjcfckbplmaa.Sym
