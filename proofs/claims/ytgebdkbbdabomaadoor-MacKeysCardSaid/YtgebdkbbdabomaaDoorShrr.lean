/-
  THE CONTRACTS of the document's above and cube, of layer 3.
-/
import Derived.Test.YtgebdkbbdabomaaDoorShrq
namespace Go.Proofs.YtgebdkbbdabomaaDoor.Sha
open Go.RowKit
open Go.Proofs.YtgebdkbbdabomaaDoor.Kit
set_option linter.unusedVariables false

theorem m64_lt (x : Nat) : m64 x < 18446744073709551616 := Nat.mod_lt _ (by omega)
theorem aboveK_succ (P Q : List Nat) (k : Nat) : aboveK P Q (k + 1) = if at0 P k = at0 Q k then aboveK P Q k else decide (at0 Q k < at0 P k) := rfl
theorem u64_keep {z : Nat} (h : z < 18446744073709551616) : IntKind.u64.wrap (z : Int) = (z : Int) := by
  show (z : Int) % 18446744073709551616 = _; omega

set_option maxRecDepth 100000 in
set_option maxHeartbeats 1000000 in
theorem above_any (y n : Nat) (w : World) (hy : y < 18446744073709551616) (hn : n < 18446744073709551616) :
    Calls Tryd.prog 53 #[.int .u64 (y : Int), .int .u64 (n : Int)] w fun e w' => e = .returned (.bool (aboveS y n)) ∧ Below w.heap.size w w' := by
  obtain ⟨a, ha⟩ : ∃ a, a = y % 262144 := ⟨_, rfl⟩
  obtain ⟨b, hb⟩ : ∃ b, b = y / 262144 := ⟨_, rfl⟩
  obtain ⟨m, hm⟩ : ∃ m, m = m64 (n * 64) := ⟨_, rfl⟩
  obtain ⟨p, hp⟩ : ∃ p, p = m % 262144 := ⟨_, rfl⟩
  obtain ⟨q, hq⟩ : ∃ q, q = m / 262144 := ⟨_, rfl⟩
  have hml := m64_lt (n * 64)
  rw [← hm] at hml
  have e1 : (y : Int).tmod 262144 = (a : Int) := by rw [ha, Int.tmod_eq_emod_of_nonneg (by omega)]; omega
  have e2 : (y : Int) / 262144 = (b : Int) := by rw [hb]; omega
  have e3 : IntKind.u64.wrap (b : Int) = (b : Int) := u64_keep (by omega)
  have e4 : IntKind.u64.wrap ((n : Int) * 64) = (m : Int) := u64_mul (y := 64) hm
  have e5 : (m : Int).tmod 262144 = (p : Int) := by rw [hp, Int.tmod_eq_emod_of_nonneg (by omega)]; omega
  have e6 : (m : Int) / 262144 = (q : Int) := by rw [hq]; omega
  have e7 : IntKind.u64.wrap (q : Int) = (q : Int) := u64_keep (by omega)
  have hres : aboveS y n = aboveK (timesS (timesS [a, b] [a, b]) [a, b]) [0, 0, 0, 0, 0, p, q] 9 := by
    unfold aboveS
    rw [limbL, wantL, ← ha, ← hb, ← hm, ← hp, ← hq]
  have HRES := Lib.hid hres
  clear ha hb hm hp hq hml hres
  go_enter Tryd.func53, Tryd.ntmps53
  go_wp2_with fail
  have hlim : Rd (w.alloc (.cells #[.int .u64 (a : Int), .int .u64 (b : Int)] 43)) (w.alloc (.cells #[.int .u64 (a : Int), .int .u64 (b : Int)] 43)).heap.size (some ⟨w.heap.size, 0, none⟩) 2 2 ([a, b].map uv) := rd_cells w rfl rfl rfl (by omega)
  have HLIM := Lib.hid hlim
  refine (times_own _ _ 2 2 2 2 [a, b] [a, b] _ hlim hlim (by omega) (by omega) (by omega) (by omega)).mono ?_
  rintro e w1 ⟨A1, c1, rfl, ho1, hb1⟩
  have HO1 := Lib.hid ho1
  have HB1 := Lib.hid hb1
  clear hlim ho1 hb1
  go_wp2_with fail
  refine (times_own _ _ 4 c1 2 2 _ [a, b] _ (Rd.of_own HO1.out) ((HLIM.out.below HB1.out).more HB1.out.size) (by omega) (by omega) (by omega) (by omega)).mono ?_
  rintro e w2 ⟨A2, c2, rfl, ho2, hb2⟩
  obtain ⟨P, hP⟩ : ∃ P, P = timesS (timesS [a, b] [a, b]) [a, b] := ⟨_, rfl⟩
  have hres := HRES.out
  rw [← hP] at ho2 hres
  have HP := Lib.hid (Rd.of_own ho2)
  have HR2 := Lib.hid hres
  have HB2 := Lib.hid (below_seq (below_of_new w _) (below_seq HB1.out hb2))
  clear ho2 hb2 hP hres HRES HO1 HB1 HLIM
  go_wp2_with fail
  obtain ⟨Q, hQ⟩ : ∃ Q, Q = [0, 0, 0, 0, 0, p, q] := ⟨_, rfl⟩
  obtain ⟨W3, hW3⟩ : ∃ W, W = w2.alloc (.cells #[.int .u64 0, .int .u64 0, .int .u64 0, .int .u64 0, .int .u64 0, .int .u64 (p : Int), .int .u64 (q : Int)] 43) := ⟨_, rfl⟩
  have hq3 : Rd W3 W3.heap.size (some ⟨w2.heap.size, 0, none⟩) 7 7 (Q.map uv) := by rw [hW3, hQ]; exact rd_cells w2 rfl rfl rfl (by omega)
  have hp3 : Rd W3 W3.heap.size A2 6 c2 (P.map uv) := by rw [hW3]; exact (HP.out.below (below_of_new w2 _)).more (below_of_new w2 _).size
  have hb3 : Below w.heap.size w W3 := by rw [hW3]; exact below_alloc HB2.out _
  have hres := HR2.out
  rw [← hQ] at hres
  rw [← hW3]
  have HQ3 := Lib.hid hq3
  have HP3 := Lib.hid hp3
  have HB3 := Lib.hid hb3
  have HR3 := Lib.hid hres
  clear hQ hW3 hq3 hp3 hb3 hres HP HR2 HB2
  go_loopw [9, 10, 11] (fun i _ _ wr => ∃ k : Nat, k ≤ 9 ∧ i = .int .i64 ((k : Int) - 1) ∧ aboveS y n = aboveK P Q k ∧ W3 = wr) (fun i _ _ _ => (intOf i + 1).toNat)
  case atStart => exact ⟨9, by omega, congrArg (Value.int .i64) (show (8 : Int) = ((9 : Nat) : Int) - 1 by decide), HR3.out, by first | rfl | trivial⟩
  case round =>
    obtain ⟨k, hk, rfl, hrs, rfl⟩ := hrel
    cases k with
    | zero =>
      have hrs' : aboveS y n = false := hrs
      rw [show ((0 : Nat) : Int) - 1 = -1 from by decide]
      have HRS := Lib.hid hrs'
      clear hrs hrs' HR3
      go_wp2_with fail
      go_ret
      exact ⟨by rw [HRS.out]; rfl, HB3.out⟩
    | succ k =>
      rw [show ((k + 1 : Nat) : Int) - 1 = (k : Int) from by omega]
      rw [aboveK_succ] at hrs
      have ca := at_any3 A2 6 c2 P k W3 HP3.out (by omega)
      have cb := at_any3 (some ⟨w2.heap.size, 0, none⟩) 7 7 Q k W3 HQ3.out (by omega)
      obtain ⟨x, hx⟩ : ∃ x, x = at0 P k := ⟨_, rfl⟩
      obtain ⟨z, hz⟩ : ∃ z, z = at0 Q k := ⟨_, rfl⟩
      rw [← hx] at ca hrs
      rw [← hz] at cb hrs
      have CA := Lib.hid ca
      have CB := Lib.hid cb
      clear ca cb hx hz HR3
      by_cases hxz : x = z
      · subst hxz
        rw [if_pos rfl] at hrs
        have HRS := Lib.hid hrs
        clear hrs
        go_wp2_with fail
        refine CA.out.mono ?_
        rintro e w' ⟨rfl, rfl⟩
        go_wp2_with fail
        refine CB.out.mono ?_
        rintro e w' ⟨rfl, rfl⟩
        go_wp2_with fail
        exact ⟨⟨k, by omega, by go_num, HRS.out, by first | rfl | trivial⟩, by simp [intOf] <;> omega⟩
      · rw [if_neg hxz] at hrs
        have HRS := Lib.hid hrs
        have t1 : ((x : Int) == (z : Int)) = false := by rw [beq_eq_false_iff_ne]; omega
        have t2 : decide ((z : Int) < (x : Int)) = decide (z < x) := by
          by_cases h : z < x
          · rw [decide_eq_true h, decide_eq_true (by omega)]
          · rw [decide_eq_false h, decide_eq_false (by omega)]
        clear hrs
        go_wp2_with fail
        refine CA.out.mono ?_
        rintro e w' ⟨rfl, rfl⟩
        go_wp2_with fail
        refine CB.out.mono ?_
        rintro e w' ⟨rfl, rfl⟩
        go_wp2_with fail
        go_ret
        exact ⟨by rw [HRS.out]; rfl, HB3.out⟩

def cubeY (n j : Nat) : Nat := m64 (cubeS n j + 2 ^ (35 - j))
theorem cubeS_succ (n j : Nat) : cubeS n (j + 1) = if aboveS (cubeY n j) n then cubeS n j else cubeY n j := by rw [cubeS, cubeY]
theorem cubeS_lt (n : Nat) : ∀ j, cubeS n j < 18446744073709551616 := by
  intro j
  induction j with
  | zero => rw [cubeS]; omega
  | succ j ih =>
    rw [cubeS_succ]
    split
    · exact ih
    · exact m64_lt _

set_option maxRecDepth 100000 in
set_option maxHeartbeats 1000000 in
theorem cube_any (n : Nat) (w : World) (hn : n < 18446744073709551616) :
    Calls Tryd.prog 37 #[.int .u64 (n : Int)] w fun e w' => e = .returned (.int .u32 ((cubeS n 36 % 4294967296 : Nat) : Int)) ∧ Below w.heap.size w w' := by
  go_enter Tryd.func37, Tryd.ntmps37
  go_wp2_with fail
  go_loopw [3, 4, 5] (fun x i _ wr => ∃ k : Nat, k ≤ 36 ∧ i = .int .i64 ((k : Int) - 1) ∧ x = .int .u64 ((cubeS n (36 - k) : Nat) : Int) ∧ Below w.heap.size w wr) (fun _ i _ _ => (intOf i + 1).toNat)
  case atStart => exact ⟨36, by omega, congrArg (Value.int .i64) (show (35 : Int) = ((36 : Nat) : Int) - 1 by decide), by rw [Nat.sub_self, cubeS]; rfl, Below.refl _ _⟩
  case round =>
    obtain ⟨k, hk, rfl, rfl, hbw⟩ := hrel
    cases k with
    | zero =>
      rw [show ((0 : Nat) : Int) - 1 = -1 from by decide, Nat.sub_zero]
      have hl := cubeS_lt n 36
      obtain ⟨x, hx⟩ : ∃ x, x = cubeS n 36 := ⟨_, rfl⟩
      obtain ⟨r, hr⟩ : ∃ r, r = x % 4294967296 := ⟨_, rfl⟩
      rw [← hx] at hl ⊢
      have e1 : (x : Int).tmod 4294967296 = (r : Int) := by rw [hr, Int.tmod_eq_emod_of_nonneg (by omega)]; omega
      have hr32 : r < 4294967296 := by omega
      have e2 : IntKind.u32.wrap (r : Int) = (r : Int) := by rw [IntKind.wrap_u32']; omega
      have HBW := Lib.hid hbw
      have HX := Lib.hid hx
      have HR := Lib.hid hr
      clear hx hr hl hbw
      go_wp2_with fail
      go_ret
      exact ⟨by rw [← HX.out, ← HR.out]; rfl, HBW.out⟩
    | succ k =>
      rw [show ((k + 1 : Nat) : Int) - 1 = (k : Int) from by omega]
      obtain ⟨j, hj⟩ : ∃ j, j = 36 - (k + 1) := ⟨_, rfl⟩
      have hy := m64_lt (cubeS n j + 2 ^ (35 - j))
      have hnx := cubeS_succ n j
      obtain ⟨x, hx⟩ : ∃ x, x = cubeS n j := ⟨_, rfl⟩
      obtain ⟨s, hs⟩ : ∃ s, s = 2 ^ k := ⟨_, rfl⟩
      obtain ⟨y, hy2⟩ : ∃ y, y = m64 (x + s) := ⟨_, rfl⟩
      have hyd : cubeY n j = y := by rw [cubeY, hy2, ← hx, hs, show 35 - j = k from by omega]
      rw [← hj, ← hx]
      rw [hyd, ← hx] at hnx
      have hyl : y < 18446744073709551616 := by rw [hy2]; exact m64_lt _
      have e1 : IntKind.u64.wrap ((x : Int) + (s : Int)) = (y : Int) := u64_add hy2
      have e2 : IntKind.u64.wrap (2 ^ k) = (s : Int) := by
        have hs2 : s < 18446744073709551616 := by
          rw [hs]
          have : 2 ^ k ≤ 2 ^ 35 := Nat.pow_le_pow_right (by omega) (by omega)
          omega
        have e : ((2 : Int) ^ k) = (s : Int) := by rw [hs]; norm_cast
        rw [e]; exact u64_keep hs2
      have hjk : j + 1 = 36 - k := by omega
      rw [hjk] at hnx
      have HAB := Lib.hid (above_any y n wr hyl hn)
      have HNX := Lib.hid hnx
      have HBW := Lib.hid hbw
      clear hj hx hs hy hy2 hyd hnx hjk hbw
      obtain ⟨B, hB⟩ : ∃ B, B = aboveS y n := ⟨_, rfl⟩
      have hab := HAB.out
      have hnx := HNX.out
      rw [← hB] at hab hnx
      have HAB2 := Lib.hid hab
      have HNX2 := Lib.hid hnx
      clear hab hnx hB HAB HNX
      cases B
      · go_wp2_with fail
        refine HAB2.out.mono ?_
        rintro e w1 ⟨rfl, hb1⟩
        have hb2 := below_seq HBW.out hb1
        go_wp2_with fail
        exact ⟨⟨k, by omega, by go_num, by rw [HNX2.out]; rfl, hb2⟩, by simp [intOf] <;> omega⟩
      · go_wp2_with fail
        refine HAB2.out.mono ?_
        rintro e w1 ⟨rfl, hb1⟩
        have hb2 := below_seq HBW.out hb1
        go_wp2_with fail
        exact ⟨⟨k, by omega, by go_num, by rw [HNX2.out]; rfl, hb2⟩, by simp [intOf] <;> omega⟩
end Go.Proofs.YtgebdkbbdabomaaDoor.Sha
