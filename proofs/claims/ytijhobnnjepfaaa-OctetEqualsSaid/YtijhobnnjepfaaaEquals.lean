/-
  OctetEquals holds: bytes are the same just if each is; those that are joined are as long as all; of sixteen there is a key that has them. No condition.
-/
import Derived.Test.YtijhobnnjepfaaaRows
import Derived.Test.YtijhobnnjepfaaaAlive
import Derived.Test.YtijhobnnjepfaaaFin
import Derived.Test.YtijhobnnjepfaaaKit3
namespace Go.Proofs.Ytijhobnnjepfaaa.Equals
open Go.ChangeShapes Go.WideShapes Go.ChangeAt Go.RowKit
open Go.Proofs.Ytijhobnnjepfaaa.Kit
open Go.Proofs.Ytijhobnnjepfaaa.Oct
set_option linter.unusedVariables false

set_option maxHeartbeats 2000000 in
theorem walk (A : Option Addr) (n c : Nat) (xs : List UInt8) (A' : Option Addr) (n' c' : Nat) (ys : List UInt8) (a : Int) (y : UInt8) (w : World) (hx : RdB w w.heap.size A n c xs) (hy : RdB w w.heap.size A' n' c' ys) (ha : -9223372036854775808 ≤ a ∧ a ≤ 9223372036854775807) :
    Calls Try.prog 4 #[.slice A n c, .slice A' n' c', .int .i64 a, .int .u8 (y.toNat : Int)] w fun e w' => e = .returned (.bool true) ∧ Below w.heap.size w w' := by
  have hrx := hx.room
  have hry := hy.room
  have hlx := Lib.hid hx.len
  have hly := Lib.hid hy.len
  obtain ⟨i0, hi, hz0, hz1, hz2⟩ := info_parts info5
  obtain ⟨t, ht1023, ht⟩ := and1023 a
  by_cases h400 : n ≤ 400 ∧ n' ≤ 400
  · obtain ⟨h1, h2⟩ := h400
    have t1 : decide ((400 : Int) < n) = false := by simp; omega
    have t2 : decide ((400 : Int) < n') = false := by simp; omega
    go_enter Try.func4, Try.ntmps4
    go_wp2_with fail
    refine (alive_any _).mono ?_
    rintro e w1 ⟨rfl, hB1⟩
    have hx1 := hx.on hB1
    have hy1 := hy.on hB1
    clear hx hy
    go_wp2_with fail
    refine (equal_new _ _ _ _ _ _ _ _ _ hx1 hy1).mono ?_
    rintro e w2 ⟨rfl, hb2⟩
    have hB2 := below_seq hB1 hb2
    have hx2 := hx1.on hb2
    have hy2 := hy1.on hb2
    clear hx1 hy1 hb2 hB1
    go_wp2_with fail
    refine (rsame_new _ _ _ _ _ _ _ _ _ hx2 hy2).mono ?_
    rintro e w3 ⟨rfl, hb3⟩
    have hB3 := below_seq hB2 hb3
    have hx3 := hx2.on hb3
    have hy3 := hy2.on hb3
    clear hx2 hy2 hb3 hB2
    have t3 : ∀ q : Bool, (q != q) = false := by intro q; cases q <;> rfl
    have g3 := t3 (decide (xs = ys))
    go_wp2_with (at_builtin; refine wpList_app_g _ rfl (.tmp 34) (.tmp 35) 23 rfl w3.heap.size 5 i0 _ 1 Try.underlying23 hi hz0 hz1 hz2 rfl _ 0 _ rfl (own_new _ (Nat.le_refl _) rfl (by omega)) _ A n c _ rfl (RdB.lit hx3 _) (bv_one _) (by omega) (by omega) (by simp) ?_; intro A2 c2' w' hown' hg hat)
    simp only [Nat.zero_add, List.nil_append] at hown'
    have hB4 := below_lit hB3 hg
    have hbw4 : Below w3.heap.size w3 w' := below_lit (Below.refl _ _) hg
    have hx4 := hx3.on hbw4
    have hy4 := hy3.on hbw4
    have hcp : RdB w' w'.heap.size A2 n c2' xs := Rd.of_own hown'
    clear hx3 hy3 hg hat hown' hbw4 hB3 g3
    refine (equal_new _ _ _ _ _ _ _ _ _ hx4 hcp).mono ?_
    rintro e w5 ⟨rfl, hb5⟩
    rw [show decide (xs = xs) = true from by simp]
    have hB5 := below_seq hB4 hb5
    have hx5 := hx4.on hb5
    have hy5 := hy4.on hb5
    clear hx4 hy4 hcp hB4 hb5
    have hxs400 : xs.length ≤ 400 ∧ ys.length ≤ 400 := by rw [hlx.out, hly.out]; exact ⟨h1, h2⟩
    go_wp2_with fail
    refine (joined_any _ _ _ _ [⟨A, n, c, xs⟩, ⟨A', n', c', ys⟩] _ ?h1 ?h2 (Nat.le_refl _) ?h3).mono ?_
    case h1 => exact rd_cells _ rfl rfl rfl (by simp)
    case h2 =>
      intro r hr
      simp only [List.mem_cons, List.not_mem_nil, or_false] at hr
      rcases hr with rfl | rfl
      · exact hx5.lit _
      · exact hy5.lit _
    case h3 => rw [joinL_two, List.length_append]; omega
    rintro e w6 ⟨A6, c6, rfl, ho6, hb6⟩
    rw [joinL_two, List.length_append, hlx.out, hly.out] at ho6 ⊢
    have hB6 := below_seq (below_alloc hB5 _) hb6
    have hx6 := (hx5.lit _).on hb6
    have hy6 := (hy5.lit _).on hb6
    clear hx5 hy5 hB5 hb6
    rcases own_cases ho6 with ⟨rfl, rfl, h0⟩ | ⟨g, rfl⟩
    · have hn0 : 0 = n := by omega
      have hn1 : 0 = n' := by omega
      subst hn0
      subst hn1
      have e1 := hlx.out
      have e2 := hly.out
      obtain rfl : xs = [] := List.eq_nil_of_length_eq_zero e1
      obtain rfl : ys = [] := List.eq_nil_of_length_eq_zero e2
      clear e1 e2 ho6 h0 hxs400
      go_wp2_with fail
      refine (key_no _ _ _ _ (by omega) (by omega)).mono ?_
      rintro e w7 ⟨rfl, hb7⟩
      rw [show zero16 = .agg #[Value.int .u8 0, Value.int .u8 0, Value.int .u8 0, Value.int .u8 0, Value.int .u8 0, Value.int .u8 0, Value.int .u8 0, Value.int .u8 0, Value.int .u8 0, Value.int .u8 0, Value.int .u8 0, Value.int .u8 0, Value.int .u8 0, Value.int .u8 0, Value.int .u8 0, Value.int .u8 0] from rfl]
      have hB7 := below_seq hB6 hb7
      clear hB6 hb7
      go_wp2_with fail
      refine (rsame_new _ _ _ _ _ _ [] [] _ (rd_none rfl (by omega)) (rd_none rfl (by omega))).mono ?_
      rintro e w8 ⟨rfl, hb8⟩
      rw [show decide (([] : List UInt8) = []) = true from rfl]
      have hB8 := below_seq (below_alloc hB7 _) hb8
      clear hB7 hb8
      go_wp2_with fail
      refine (rsame_new _ _ _ _ _ _ [] [] _ (rd_none rfl (by omega)) (rd_none rfl (by omega))).mono ?_
      rintro e w9 ⟨rfl, hb9⟩
      rw [show decide (([] : List UInt8) = []) = true from rfl]
      have hB9 := below_seq hB8 hb9
      clear hB8 hb9
      go_wp2
      go_ret
      exact ⟨rfl, hB9⟩
    · have hrm6 := (Rd.of_own ho6).room
      have ho6' : RdB w6 w6.heap.size (some ⟨g, 0, none⟩) (n + n') c6 (xs ++ ys) := Rd.of_own ho6
      clear ho6
      rcases Nat.lt_or_ge n c6 with hc6 | hc6
      case' inr =>
        have hc7 : n = c6 := by omega
        subst hc7
        have hc8 := Lib.hid (show n' = 0 by omega)
      all_goals
        by_cases h16 : n = 16
        · have t16 : ((n : Int) == 16) = true := by rw [beq_iff_eq]; omega
          have H16 := Lib.hid h16
          clear h16
          go_wp2_with fail
          refine (key_yes' _ _ _ _ _ _ H16.out hx6 (Nat.le_refl _)).mono ?_
          rintro e w7 ⟨rfl, hb7⟩
          have hst := store_whole Try.prog w7 32 #[Value.int .u8 0, Value.int .u8 0, Value.int .u8 0, Value.int .u8 0, Value.int .u8 0, Value.int .u8 0, Value.int .u8 0, Value.int .u8 0, Value.int .u8 0, Value.int .u8 0, Value.int .u8 0, Value.int .u8 0, Value.int .u8 0, Value.int .u8 0, Value.int .u8 0, Value.int .u8 0] (xs.map bv) (by rw [List.length_map, hlx.out, H16.out]; rfl) (bv_one _)
          have hB7 := below_seq hB6 hb7
          have hx7 := hx6.on hb7
          have hy7 := hy6.on hb7
          have ho7 := ho6'.on hb7
          clear hx6 hy6 hB6 hb7 ho6'
          have hx16 : xs.length = 16 := by rw [hlx.out, H16.out]
          have hfr : RdB w7 w7.heap.size (some ⟨g, 0, none⟩) n _ xs := rd_front_app ho7 hlx.out
          go_wp2_with fail
          refine (rsame_new _ _ _ _ _ _ _ _ _ (hfr.lit _) (hx7.lit _)).mono ?_
          rintro e w8 ⟨rfl, hb8⟩
          rw [show decide (xs = xs) = true from by simp]
          have hbk8 : Below w7.heap.size w7 w8 := below_seq (below_of_new w7 _) hb8
          have hB8 := below_seq hB7 hbk8
          have hx8 := hx7.on hbk8
          have hy8 := hy7.on hbk8
          have ho8 := ho7.on hbk8
          have hk8 : w8.heap[w7.heap.size]? = some (.cells (xs.map bv).toArray 32 (0, 0)) := (hb8.block _ (by simp)).trans (heap_alloc_new w7 _)
          clear hfr hx7 hy7 ho7 hb8 hbk8 hB7 hst
          clear hx16
          go_wp2_with fail
          refine (rsame_new _ _ _ _ _ _ ys _ _ ?hcut hy8).mono ?_
          case hcut => first | (have h := rd_back_app ho8 hlx.out hc6; rw [Nat.zero_add] at h; exact h) | exact rd_none' (by have := hc8.out; omega) (by rw [hly.out]; omega) (by omega)
          rintro e w9 ⟨rfl, hb9⟩
          rw [show decide (ys = ys) = true from by simp]
          have hB9 := below_seq hB8 hb9
          have hx9 := hx8.on hb9
          have ho9 := ho8.on hb9
          have hk9 : w9.heap[w7.heap.size]? = some (.cells (xs.map bv).toArray 32 (0, 0)) := (hb9.block _ (by have := (block_lt_of_heap hk8); omega)).trans hk8
          have hkr : RdB w9 w9.heap.size (some ⟨w7.heap.size, 0, none⟩) 16 16 xs := rd_block hk9 (by rw [hlx.out, H16.out]) (by omega)
          clear hx8 hy8 ho8 hb9 hk8 hk9 hB8
          go_wp2_with fail
          refine (rsame_new _ _ _ _ _ _ _ _ _ hkr hx9).mono ?_
          rintro e w10 ⟨rfl, hb10⟩
          rw [show decide (xs = xs) = true from by simp]
          have hB10 := below_seq hB9 hb10
          have ho10 := ho9.on hb10
          clear hx9 ho9 hb10 hkr hB9
          have hBw10 := hB10
          have tN : ((n : Int) + n' == 0) = false := by rw [beq_eq_false_iff_ne]; have := H16.out; omega
          have hpos : 0 < n + n' := by have := H16.out; omega
          go_wp2_with (at_builtin; refine wpList_app _ rfl (.tmp 94) (.tmp 95) 23 rfl w10.heap.size 5 i0 _ 1 Try.underlying23 hi hz0 hz1 hz2 rfl _ 0 _ rfl (own_new _ (Nat.le_refl _) rfl (by omega)) _ _ (n + n') _ _ rfl (RdB.lit ho10 _) (bv_one _) (by omega) (by omega) (by simp) ?_; intro A11 c11 w11 hown11 hg11 hat11)
          simp only [Nat.zero_add, List.nil_append] at hown11
          have hB11 := below_lit hB10 hg11
          have hbw11 : Below w10.heap.size w10 w11 := below_lit (Below.refl _ _) hg11
          rcases own_cases hown11 with ⟨_, _, h0⟩ | ⟨g11, rfl⟩
          · omega
          obtain ⟨idx, hidx, hlt⟩ := mod_idx t (n + n') hpos
          have hlen : (xs ++ ys).length = n + n' := by rw [List.length_append, hlx.out, hly.out]
          have hLt : idx < (xs ++ ys).length := by omega
          obtain ⟨x, hxv⟩ : ∃ x, x = (xs ++ ys)[idx] := ⟨_, rfl⟩
          obtain ⟨hcells, hfz⟩ := own_cells hown11
          have hcell := hcells idx (.int .u8 (x.toNat : Int)) (by rw [List.getElem?_map, List.getElem?_eq_getElem hLt, ← hxv]; rfl)
          have hfz' := hfz idx
          have hxor := u8_xor_nat _ _ x.toNat_lt y.toNat_lt
          have hst := hown11.stored idx (.int .u8 ((x.toNat ^^^ y.toNat : Nat) : Int))
          rw [set_bv] at hst
          have hge : w10.heap.size ≤ g11 := (hown11.lt g11 rfl).1
          have HX := Lib.hid hxv
          have HI := Lib.hid hlen
          clear hxv hcells hfz hown11 hg11 hat11 hlen
          simp only [Int.natCast_add] at hidx
          rw [hidx]
          clear hidx
          go_simp
          go_wp2_with fail
          have hb12 : Below w10.heap.size w10 (w11.setCell ⟨g11, idx, none⟩ (.int .u8 ((x.toNat ^^^ y.toNat : Nat) : Int))) := hbw11.setCell hge _
          have hB12 := below_seq hB10 hb12
          have ho12 := ho10.on hb12
          have hown12 := hst.1
          clear hst hB10 ho10 hb12 hB11 hbw11 hcell hfz'
          refine (equal_new _ _ _ _ _ _ _ _ _ ho12 (Rd.of_own hown12)).mono ?_
          rintro e w13 ⟨rfl, hb13⟩
          rw [set_same (xs ++ ys) idx hLt x y HX.out]
          have hB13 := below_seq hB12 hb13
          have hown13 := own_on hown12 hb13
          clear ho12 hown12 hb13 hB12
          go_wp2_with fail
          refine (zero_own _ _ _ _ _ _ hown13 hpos).mono ?_
          rintro e w14 ⟨rfl, hown14, hg14⟩
          have hB14 : Below w.heap.size w w14 := hB13.grown hg14 hB13.size (fun k hk => by
            injection hk with hk
            have := hBw10.size
            omega)
          obtain ⟨hc14, _⟩ := own_cells hown14
          clear hown14 hg14 hown13 hB13
          go_wp2_with fail
          go_loop [118] (fun i => ∃ k : Nat, k ≤ n + n' ∧ i = .int .i64 k) (fun i => n + n' - (intOf i).toNat)
          case atStart => exact ⟨0, Nat.zero_le _, rfl⟩
          case round =>
            obtain ⟨k, hk, rfl⟩ := hrel
            by_cases hkl : k < n + n'
            · have hck := hc14 k (.int .u8 0) (by rw [List.getElem?_replicate, if_pos hkl])
              go_wp2
              go_round
              case rel => exact ⟨k + 1, by omega, by go_num⟩
              case measure => simp [intOf]; omega
            · go_wp2
              go_ret
              exact ⟨rfl, hB14⟩
        · have t16 : ((n : Int) == 16) = false := by rw [beq_eq_false_iff_ne]; omega
          go_wp2_with fail
          refine (key_no _ _ _ _ h16 (by omega)).mono ?_
          rintro e w7 ⟨rfl, hb7⟩
          rw [show zero16 = .agg #[Value.int .u8 0, Value.int .u8 0, Value.int .u8 0, Value.int .u8 0, Value.int .u8 0, Value.int .u8 0, Value.int .u8 0, Value.int .u8 0, Value.int .u8 0, Value.int .u8 0, Value.int .u8 0, Value.int .u8 0, Value.int .u8 0, Value.int .u8 0, Value.int .u8 0, Value.int .u8 0] from rfl]
          have hB7 := below_seq hB6 hb7
          have hx7 := hx6.on hb7
          have hy7 := hy6.on hb7
          have ho7 := ho6'.on hb7
          clear hx6 hy6 hB6 hb7 ho6'
          have hfr : RdB w7 w7.heap.size (some ⟨g, 0, none⟩) n _ xs := rd_front_app ho7 hlx.out
          go_wp2_with fail
          refine (rsame_new _ _ _ _ _ _ _ _ _ (hfr.lit _) (hx7.lit _)).mono ?_
          rintro e w8 ⟨rfl, hb8⟩
          rw [show decide (xs = xs) = true from by simp]
          have hbk8 : Below w7.heap.size w7 w8 := below_seq (below_of_new w7 _) hb8
          have hB8 := below_seq hB7 hbk8
          have hx8 := hx7.on hbk8
          have hy8 := hy7.on hbk8
          have ho8 := ho7.on hbk8
          clear hfr hx7 hy7 ho7 hb8 hbk8 hB7
          go_wp2_with fail
          refine (rsame_new _ _ _ _ _ _ ys _ _ ?hcut2 hy8).mono ?_
          case hcut2 => first | (have h := rd_back_app ho8 hlx.out hc6; rw [Nat.zero_add] at h; exact h) | exact rd_none' (by have := hc8.out; omega) (by rw [hly.out]; omega) (by omega)
          rintro e w10 ⟨rfl, hb10⟩
          rw [show decide (ys = ys) = true from by simp]
          have hB10 := below_seq hB8 hb10
          have ho10 := ho8.on hb10
          clear hx8 hy8 ho8 hb10 hB8
          by_cases hN : n + n' = 0
          · have tN : ((n : Int) + n' == 0) = true := by rw [beq_iff_eq]; omega
            have HN := Lib.hid hN
            clear hN
            go_wp2
            go_ret
            exact ⟨rfl, hB10⟩
          · clear h16
            have hBw10 := hB10
            have tN : ((n : Int) + n' == 0) = false := by rw [beq_eq_false_iff_ne]; omega
            have hpos : 0 < n + n' := by omega
            go_wp2_with (at_builtin; refine wpList_app _ rfl (.tmp 94) (.tmp 95) 23 rfl w10.heap.size 5 i0 _ 1 Try.underlying23 hi hz0 hz1 hz2 rfl _ 0 _ rfl (own_new _ (Nat.le_refl _) rfl (by omega)) _ _ (n + n') _ _ rfl (RdB.lit ho10 _) (bv_one _) (by omega) (by omega) (by simp) ?_; intro A11 c11 w11 hown11 hg11 hat11)
            simp only [Nat.zero_add, List.nil_append] at hown11
            have hB11 := below_lit hB10 hg11
            have hbw11 : Below w10.heap.size w10 w11 := below_lit (Below.refl _ _) hg11
            rcases own_cases hown11 with ⟨_, _, h0⟩ | ⟨g11, rfl⟩
            · omega
            obtain ⟨idx, hidx, hlt⟩ := mod_idx t (n + n') hpos
            have hlen : (xs ++ ys).length = n + n' := by rw [List.length_append, hlx.out, hly.out]
            have hLt : idx < (xs ++ ys).length := by omega
            obtain ⟨x, hxv⟩ : ∃ x, x = (xs ++ ys)[idx] := ⟨_, rfl⟩
            obtain ⟨hcells, hfz⟩ := own_cells hown11
            have hcell := hcells idx (.int .u8 (x.toNat : Int)) (by rw [List.getElem?_map, List.getElem?_eq_getElem hLt, ← hxv]; rfl)
            have hfz' := hfz idx
            have hxor := u8_xor_nat _ _ x.toNat_lt y.toNat_lt
            have hst := hown11.stored idx (.int .u8 ((x.toNat ^^^ y.toNat : Nat) : Int))
            rw [set_bv] at hst
            have hge : w10.heap.size ≤ g11 := (hown11.lt g11 rfl).1
            have HX := Lib.hid hxv
            have HI := Lib.hid hlen
            clear hxv hcells hfz hown11 hg11 hat11 hlen
            simp only [Int.natCast_add] at hidx
            rw [hidx]
            clear hidx
            go_simp
            go_wp2_with fail
            have hb12 : Below w10.heap.size w10 (w11.setCell ⟨g11, idx, none⟩ (.int .u8 ((x.toNat ^^^ y.toNat : Nat) : Int))) := hbw11.setCell hge _
            have hB12 := below_seq hB10 hb12
            have ho12 := ho10.on hb12
            have hown12 := hst.1
            clear hst hB10 ho10 hb12 hB11 hbw11 hcell hfz'
            refine (equal_new _ _ _ _ _ _ _ _ _ ho12 (Rd.of_own hown12)).mono ?_
            rintro e w13 ⟨rfl, hb13⟩
            rw [set_same (xs ++ ys) idx hLt x y HX.out]
            have hB13 := below_seq hB12 hb13
            have hown13 := own_on hown12 hb13
            clear ho12 hown12 hb13 hB12
            go_wp2_with fail
            refine (zero_own _ _ _ _ _ _ hown13 hpos).mono ?_
            rintro e w14 ⟨rfl, hown14, hg14⟩
            have hB14 : Below w.heap.size w w14 := hB13.grown hg14 hB13.size (fun k hk => by
              injection hk with hk
              have := hBw10.size
              omega)
            obtain ⟨hc14, _⟩ := own_cells hown14
            clear hown14 hg14 hown13 hB13
            go_wp2_with fail
            go_loop [118] (fun i => ∃ k : Nat, k ≤ n + n' ∧ i = .int .i64 k) (fun i => n + n' - (intOf i).toNat)
            case atStart => exact ⟨0, Nat.zero_le _, rfl⟩
            case round =>
              obtain ⟨k, hk, rfl⟩ := hrel
              by_cases hkl : k < n + n'
              · have hck := hc14 k (.int .u8 0) (by rw [List.getElem?_replicate, if_pos hkl])
                go_wp2
                go_round
                case rel => exact ⟨k + 1, by omega, by go_num⟩
                case measure => simp [intOf]; omega
              · go_wp2
                go_ret
                exact ⟨rfl, hB14⟩
  · go_enter Try.func4, Try.ntmps4
    rcases Nat.lt_or_ge 400 n with hh | hh
    · have u1 : decide ((400 : Int) < n) = true := by simp; omega
      go_wp2_with fail
      refine (alive_any _).mono ?_
      rintro e w1 ⟨rfl, hB1⟩
      go_wp2
      go_ret
      exact ⟨rfl, hB1⟩
    · have u1 : decide ((400 : Int) < n) = false := by simp; omega
      have u2 : decide ((400 : Int) < n') = true := by simp; omega
      go_wp2_with fail
      refine (alive_any _).mono ?_
      rintro e w1 ⟨rfl, hB1⟩
      go_wp2
      go_ret
      exact ⟨rfl, hB1⟩

theorem own : ownKnob Try.prog.godebug = none := by kernel_rfl
theorem laidOut : laidOutB Try.prog = true := by kernel_rfl

set_option maxRecDepth 100000 in
theorem lifted (os : Os) (started : os.Started) (H : Type) (enc : TypeId × Value → H) :
    ReturnsInHanded {} Try.checked os 4 .any (Rows.octetEqualsSpec.pre6 enc Try.prog Try.f4 Rows.octetEqualsRow.domain false) (Rows.octetEqualsSpec.post enc Try.prog Try.f4 false true false false) := by
  refine returnsInHanded_of_change (C := Try.checked) own started (by kernel_rfl) Try.func4
    (ChangeSpec.witness6 (enc := enc) (C := Try.checked) false ⟨#[], #[.slice none 0 0, .slice none 0 0, .int .i64 0, .int .u8 0], []⟩ 8 (by kernel_rfl) (by kernel_rfl) (by kernel_rfl) (by kernel_rfl)) ?_
  intro W base args ds gs before hval0 hW hcnd _
  have hval : ∀ (j : Nat) t v, Try.f4.params[j]? = some t → args[j]? = some v → Value.okWide Try.prog W .any base t v := hval0
  have hW' := hW
  obtain ⟨p, q, hA0, hV, rfl, hfz, hnd⟩ := hW
  have hA : DataW.TrodAll enc Try.prog W 0 (fun _ => true) true Try.f4.params.toList args.toList ds p := hA0
  rw [Try.params4] at hA hval
  obtain ⟨v0, vs0, d0, ds0, p0, q0, hargs, rfl, rfl, h0, r0⟩ := trodAll_cons hA
  obtain ⟨v1, vs1, d1, ds1, p1, q1, rfl, rfl, rfl, h1, r1⟩ := trodAll_cons r0
  obtain ⟨v2, vs2, d2, ds2, p2, q2, rfl, rfl, rfl, h2, r2⟩ := trodAll_cons r1
  obtain ⟨v3, vs3, d3, ds3, p3, q3, rfl, rfl, rfl, h3, r3⟩ := trodAll_cons r2
  obtain ⟨rfl, rfl, rfl⟩ := trodAll_nil r3
  obtain rfl : args = #[v0, v1, v2, v3] := by cases args; simp_all
  obtain ⟨rfl, rfl⟩ := trodVars_none hV
  obtain ⟨a0, len0, cap0, rfl⟩ := okWide_slice Try.underlying23 (hval 0 23 v0 rfl rfl)
  have lt0 : ∀ x ∈ p0, x.block < W.heap.size := by obtain ⟨m, hm⟩ := h0; exact DataW.trod_lt m _ _ _ hm
  obtain ⟨bs0, hb0⟩ := rd_in Try.underlying23 Try.underlying5 (by kernel_rfl) rfl h0
  obtain ⟨a1, len1, cap1, rfl⟩ := okWide_slice Try.underlying23 (hval 1 23 v1 rfl rfl)
  have lt1 : ∀ x ∈ p1, x.block < W.heap.size := by obtain ⟨m, hm⟩ := h1; exact DataW.trod_lt m _ _ _ hm
  obtain ⟨bs1, hb1⟩ := rd_in Try.underlying23 Try.underlying5 (by kernel_rfl) rfl h1
  obtain ⟨a2, rfl, rfl, rfl, w2⟩ := open_int Try.underlying3 (hval 2 3 v2 rfl rfl) h2
  have hn2 := int_i64 w2
  obtain ⟨a3, rfl, rfl, rfl, w3⟩ := open_int Try.underlying5 (hval 3 5 v3 rfl rfl) h3
  obtain ⟨n3, rfl⟩ := nat_u8 w3
  clear hA0 hval0
  refine (walk a0 len0 cap0 bs0 a1 len1 cap1 bs1 a2 n3 W hb0 hb1 hn2).mono fun e W' ⟨he, bel⟩ => ?_
  subst he
  exact ⟨_, rfl, _, _, _, [], _, [], hW', trodAll_mk1 (shut_bool Try.underlying4 _), (trodAll_cons_mk (Below.trod laidOut (by kernel_rfl) (of_decide_eq_true (by kernel_rfl)) h0 bel lt0) (trodAll_cons_mk (Below.trod laidOut (by kernel_rfl) (of_decide_eq_true (by kernel_rfl)) h1 bel lt1) (trodAll_cons_mk (shut_int Try.underlying3 w2) (trodAll_cons_mk (shut_int Try.underlying5 w3) trodAll_mk0)))), rfl, bel.frame _, fun h => by cases h⟩

theorem over : Rows.octetEqualsRow.holds Try.pinned (OpenSpec.ofChange Rows.octetEqualsSpec) :=
  OpenClaim.holds_of_wide 4 Try.f4 rfl rfl rfl rfl rfl rfl rfl ⟨rfl, rfl, rfl, rfl, rfl⟩ rfl rfl rfl rfl rfl (by kernel_rfl) Try.func4 (by kernel_rfl)
    (of_decide_eq_true (by kernel_rfl)) (by unfold Func.isWrapper; first | (rw [if_pos (by decide +kernel)]; kernel_rfl) | (rw [if_neg (by decide +kernel)]; exact ⟨rfl, rfl⟩))
    (fun os started H enc _ => lifted os started H enc)

theorem proved : Rows.OctetEqualsSaid := over
end Go.Proofs.Ytijhobnnjepfaaa.Equals
