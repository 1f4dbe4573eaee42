/-
  OctetOrders holds: bytes stand in the order of the numbers that they are; noughts ahead turn nothing. No condition.
-/
import Derived.Test.YtijhobnnjepfaaaRows
import Derived.Test.YtijhobnnjepfaaaAlive
import Derived.Test.YtijhobnnjepfaaaFin
import Derived.Test.YtijhobnnjepfaaaKit3
namespace Go.Proofs.Ytijhobnnjepfaaa.Orders
open Go.ChangeShapes Go.WideShapes Go.ChangeAt Go.RowKit
open Go.Proofs.Ytijhobnnjepfaaa.Kit
open Go.Proofs.Ytijhobnnjepfaaa.Oct
set_option linter.unusedVariables false

set_option maxHeartbeats 1000000 in
theorem walk (n m : Nat) (a : Int) (w : World) (hn : n < 18446744073709551616) (hm : m < 18446744073709551616) (ha : -9223372036854775808 ≤ a ∧ a ≤ 9223372036854775807) :
    Calls Try.prog 6 #[.int .u64 n, .int .u64 m, .int .i64 a] w fun e w' => e = .returned (.bool true) ∧ Below w.heap.size w w' := by
  have hbd := nb_bd n
  obtain ⟨i0, hi, hz0, hz1, hz2⟩ := info_parts info5
  obtain ⟨t, ht7, ht⟩ := and7 a
  go_enter Try.func6, Try.ntmps6
  go_wp2_with fail
  refine (alive_any _).mono ?_
  rintro e w1 ⟨rfl, hb1⟩
  go_wp2_with fail
  refine (put_new n _ hn).mono ?_
  rintro e w2 ⟨A2, c2, rfl, hn2⟩
  have hB2 := below_seq hb1 hn2.bl
  obtain ⟨b2, o2, rfl⟩ := hn2.rd.addr (by omega)
  have hr2 := hn2.rd
  clear hn2 hb1
  go_wp2_with fail
  refine (put_new m _ hm).mono ?_
  rintro e w3 ⟨A3, c3, rfl, hn3⟩
  have hB3 := below_seq hB2 hn3.bl
  obtain ⟨b3, o3, rfl⟩ := hn3.rd.addr (by omega)
  have ra := hr2.on hn3.bl
  have rb := hn3.rd
  have rma := ra.room
  have rmb := rb.room
  clear hn3 hr2 hB2
  go_wp2_with fail
  go_loopw [9, 22] (fun l i wr => ∃ (k d : Nat) (L : Int), k ≤ 8 ∧ i = .int .i64 k ∧ l = .int .i64 L ∧ L = sgn (n / 256 ^ (8 - k)) (m / 256 ^ (8 - k)) ∧ wr = w3.drewN d) (fun _ i _ => 8 - (intOf i).toNat)
  case atStart =>
    refine ⟨0, 0, 0, by omega, rfl, rfl, ?_, rfl⟩
    rw [Nat.div_eq_of_lt (by simpa using hn), Nat.div_eq_of_lt (by simpa using hm)]; rfl
  case round =>
    obtain ⟨k, d, L, hk, rfl, rfl, hL, rfl⟩ := hrel
    by_cases hlt : k < 8
    · have ca := ra.cell0 (j := k) (by rw [be_len]; exact hlt)
      have cb := rb.cell0 (j := k) (by rw [be_len]; exact hlt)
      rw [be_cell] at ca cb
      have hx : n / 256 ^ (7 - k) % 256 < 256 := Nat.mod_lt _ (by omega)
      have hy : m / 256 ^ (7 - k) % 256 < 256 := Nat.mod_lt _ (by omega)
      have e1 := div_more n k hlt
      have e2 := div_more m k hlt
      obtain ⟨x, hxx⟩ : ∃ x, x = n / 256 ^ (7 - k) % 256 := ⟨_, rfl⟩
      obtain ⟨y, hyy⟩ : ∃ y, y = m / 256 ^ (7 - k) % 256 := ⟨_, rfl⟩
      rw [← hxx] at ca hx e1
      rw [← hyy] at cb hy e2
      clear hxx hyy ra rb
      by_cases h0 : L = 0
      · have g0 : ((L : Int) == 0) = true := by simpa using h0
        have hnext := sgn_next (x := x) (y := y) (hL ▸ h0)
        rw [← e1, ← e2] at hnext
        have HN := Lib.hid hnext
        clear hnext e1 e2 hL h0
        rcases Nat.lt_trichotomy x y with hxy | hxy | hxy
        · have g1 : ((x : Int) != y) = true := by simp; omega
          have g2 : decide ((x : Int) < y) = true := by simp; omega
          have hs : sgn x y = -1 := by simp [sgn, hxy]
          have HS := Lib.hid hs
          clear hs
          go_wp2
          go_quiet (fail)
          go_wp2
          go_quiet (fail)
          go_wp2
          go_roundw
          case rel => exact ⟨k + 1, _, -1, by omega, by go_num, rfl, by rw [HN.out, HS.out], rfl⟩
          case measure => simp [intOf]; omega
        · have g1 : ((x : Int) != y) = false := by simp; omega
          have hs : sgn x y = 0 := by simp [sgn, hxy]
          have HS := Lib.hid hs
          have HX := Lib.hid hxy
          clear hs hxy
          go_wp2
          go_quiet (fail)
          go_wp2
          go_roundw
          case rel => exact ⟨k + 1, _, L, by omega, by go_num, rfl, by rw [HN.out, HS.out]; simpa using g0, rfl⟩
          case measure => simp [intOf]; omega
        · have g1 : ((x : Int) != y) = true := by simp; omega
          have g2 : decide ((x : Int) < y) = false := by simp; omega
          have hs : sgn x y = 1 := by rw [sgn, if_neg (by omega), if_neg (by omega)]
          have HS := Lib.hid hs
          clear hs
          go_wp2
          go_quiet (fail)
          go_wp2
          go_quiet (fail)
          go_wp2
          go_roundw
          case rel => exact ⟨k + 1, _, 1, by omega, by go_num, rfl, by rw [HN.out, HS.out], rfl⟩
          case measure => simp [intOf]; omega
      · have g0 : ((L : Int) == 0) = false := by simpa using h0
        have hnext := sgn_keep (x := x) (y := y) (hL ▸ h0) hx hy
        rw [← e1, ← e2, ← hL] at hnext
        have HN := Lib.hid hnext
        clear hnext e1 e2 hL h0
        go_wp2
        go_quiet (fail)
        go_wp2
        go_roundw
        case rel => exact ⟨k + 1, _, L, by omega, by go_num, rfl, HN.out.symm, rfl⟩
        case measure => simp [intOf]; omega
    · obtain rfl : k = 8 := by omega
      rw [Nat.sub_self, Nat.pow_zero, Nat.div_one, Nat.div_one] at hL
      have HL := Lib.hid hL
      clear hL ra rb
      have hB4 : Below w.heap.size w (w3.drewN d) := below_seq hB3 (below_of_drew ⟨d, rfl⟩ _)
      clear hB3
      go_wp2_with fail
      refine (short_new n _ hn).mono ?_
      rintro e w5 ⟨A5, c5, rfl, hn5⟩
      have hB5 := below_seq hB4 hn5.bl
      have hr5 := hn5.rd
      clear hn5 hB4
      rcases Nat.lt_trichotomy t (8 - nb n) with hT | hT | hT
      case' inr.inl =>
        obtain ⟨hT1, hT2⟩ : t ≤ 8 - nb n ∧ 8 - nb n ≤ t := by omega
        clear hT
      all_goals
        go_wp2_with fail
        go_loopw [11, 56] (fun v i wr => ∃ (k : Nat) (A' : Option Addr) (c' : Nat), k ≤ min t (8 - nb n) ∧ i = .int .i64 k ∧ v = .slice A' (nb n + k) c' ∧ RdB wr wr.heap.size A' (nb n + k) c' (List.replicate k 0 ++ short n) ∧ Below w.heap.size w wr) (fun _ i _ => 8 - (intOf i).toNat)
        case atStart => exact ⟨0, _, _, by omega, rfl, rfl, hr5, hB5⟩
        case round =>
          obtain ⟨k, A', c', hk, rfl, rfl, hrd, hbw⟩ := hrel
          by_cases hlt : k < min t (8 - nb n)
          · go_wp2_with (at_builtin; refine wpList_app _ rfl (.tmp 58) (.tmp 59) 23 rfl w.heap.size 5 i0 _ 1 Try.underlying23 hi hz0 hz1 hz2 rfl _ 1 _ rfl (own_new _ hbw.size rfl (by omega)) _ A' (nb n + k) c' _ rfl (RdB.lit hrd _) (bv_one _) (by omega) (by omega) (Nat.le_trans hbw.size (by simp)) ?_; intro A2 c2' w' hown' hg hat)
            have hb' := below_lit hbw hg
            rw [nought_front] at hown'
            have hrd' := Rd.of_own hown'
            rw [show 1 + (nb n + k) = nb n + (k + 1) from by omega] at hrd'
            clear hg hat hown' hrd
            go_wp2
            go_roundw
            case rel => exact ⟨k + 1, A2, c2', by omega, by go_num, slice_len _ (by omega) _, hrd', hb'⟩
            case measure => simp [intOf]; omega
          · go_wp2_with fail
            refine (get_yes _ _ _ _ _ _ hrd (by omega) (by omega)).mono ?_
            rintro e w6 ⟨rfl, rfl⟩
            rw [num_noughts, num_short hn]
            rcases Nat.lt_trichotomy n m with hnm | hnm | hnm
            · obtain rfl : L = -1 := by rw [HL.out, sgn, if_pos hnm]
              have g1 : decide (n < m) = true := by simp; omega
              have g2 : ((n : Int) == m) = false := by rw [beq_eq_false_iff_ne]; omega
              go_wp2
              go_ret
              exact ⟨rfl, hbw⟩
            · obtain rfl : L = 0 := by rw [HL.out, sgn_zero]; exact hnm
              have g1 : decide (n < m) = false := by simp; omega
              have g2 : ((n : Int) == m) = true := by rw [beq_iff_eq]; omega
              have HNM := Lib.hid hnm
              clear hnm
              go_wp2
              go_ret
              exact ⟨rfl, hbw⟩
            · obtain rfl : L = 1 := by rw [HL.out, sgn, if_neg (by omega), if_neg (by omega)]
              have g1 : decide (n < m) = false := by simp; omega
              have g2 : ((n : Int) == m) = false := by rw [beq_eq_false_iff_ne]; omega
              go_wp2
              go_ret
              exact ⟨rfl, hbw⟩

theorem own : ownKnob Try.prog.godebug = none := by kernel_rfl
theorem laidOut : laidOutB Try.prog = true := by kernel_rfl

set_option maxRecDepth 100000 in
theorem lifted (os : Os) (started : os.Started) (H : Type) (enc : TypeId × Value → H) :
    ReturnsInHanded {} Try.checked os 6 .any (Rows.octetOrdersSpec.pre6 enc Try.prog Try.f6 Rows.octetOrdersRow.domain false) (Rows.octetOrdersSpec.post enc Try.prog Try.f6 false true false false) := by
  refine returnsInHanded_of_change (C := Try.checked) own started (by kernel_rfl) Try.func6
    (ChangeSpec.witness6 (enc := enc) (C := Try.checked) false ⟨#[], #[.int .u64 0, .int .u64 0, .int .i64 0], []⟩ 8 (by kernel_rfl) (by kernel_rfl) (by kernel_rfl) (by kernel_rfl)) ?_
  intro W base args ds gs before hval0 hW hcnd _
  have hval : ∀ (j : Nat) t v, Try.f6.params[j]? = some t → args[j]? = some v → Value.okWide Try.prog W .any base t v := hval0
  have hW' := hW
  obtain ⟨p, q, hA0, hV, rfl, hfz, hnd⟩ := hW
  have hA : DataW.TrodAll enc Try.prog W 0 (fun _ => true) true Try.f6.params.toList args.toList ds p := hA0
  rw [Try.params6] at hA hval
  obtain ⟨v0, vs0, d0, ds0, p0, q0, hargs, rfl, rfl, h0, r0⟩ := trodAll_cons hA
  obtain ⟨v1, vs1, d1, ds1, p1, q1, rfl, rfl, rfl, h1, r1⟩ := trodAll_cons r0
  obtain ⟨v2, vs2, d2, ds2, p2, q2, rfl, rfl, rfl, h2, r2⟩ := trodAll_cons r1
  obtain ⟨rfl, rfl, rfl⟩ := trodAll_nil r2
  obtain rfl : args = #[v0, v1, v2] := by cases args; simp_all
  obtain ⟨rfl, rfl⟩ := trodVars_none hV
  obtain ⟨a0, rfl, rfl, rfl, w0⟩ := open_int Try.underlying22 (hval 0 22 v0 rfl rfl) h0
  obtain ⟨n0, rfl, hn0⟩ := nat_u64 w0
  obtain ⟨a1, rfl, rfl, rfl, w1⟩ := open_int Try.underlying22 (hval 1 22 v1 rfl rfl) h1
  obtain ⟨n1, rfl, hn1⟩ := nat_u64 w1
  obtain ⟨a2, rfl, rfl, rfl, w2⟩ := open_int Try.underlying3 (hval 2 3 v2 rfl rfl) h2
  have hn2 := int_i64 w2
  clear hA0 hval0
  refine (walk n0 n1 a2 W hn0 hn1 hn2).mono fun e W' ⟨he, bel⟩ => ?_
  subst he
  exact ⟨_, rfl, _, _, _, [], _, [], hW', trodAll_mk1 (shut_bool Try.underlying4 _), (trodAll_cons_mk (shut_int Try.underlying22 w0) (trodAll_cons_mk (shut_int Try.underlying22 w1) (trodAll_cons_mk (shut_int Try.underlying3 w2) trodAll_mk0))), rfl, bel.frame _, fun h => by cases h⟩

theorem over : Rows.octetOrdersRow.holds Try.pinned (OpenSpec.ofChange Rows.octetOrdersSpec) :=
  OpenClaim.holds_of_wide 6 Try.f6 rfl rfl rfl rfl rfl rfl rfl ⟨rfl, rfl, rfl, rfl, rfl⟩ rfl rfl rfl rfl rfl (by kernel_rfl) Try.func6 (by kernel_rfl)
    (of_decide_eq_true (by kernel_rfl)) (by unfold Func.isWrapper; first | (rw [if_pos (by decide +kernel)]; kernel_rfl) | (rw [if_neg (by decide +kernel)]; exact ⟨rfl, rfl⟩))
    (fun os started H enc _ => lifted os started H enc)

theorem proved : Rows.OctetOrdersSaid := over
end Go.Proofs.Ytijhobnnjepfaaa.Orders
