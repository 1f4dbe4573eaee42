/-
  THE CONTRACT of the document's Keys.
-/
import Derived.Test.YtgebdkbbdabomaaDoorRefx
import Derived.Test.YtgebdkbbdabomaaDoorAesm
import Derived.StillTailTactics
import Derived.Orders
import Derived.Deep.DeepCutAuto
namespace Go.Proofs.YtgebdkbbdabomaaDoor.Aes
open Go.RowKit
open Go.Proofs.YtgebdkbbdabomaaDoor.Kit
set_option linter.unusedVariables false

/-- the bytes of all rounds' keys -/
def kf (key : Nat → UInt8) : Nat → UInt8 := fun j => rk key (j / 16) (j % 16)
/-- what the four bytes before a word become ahead of the next word -/
def tw (key : Nat → UInt8) (p : Nat) : Nat → UInt8 := fun k =>
  if p % 16 = 0 then (if k = 0 then sb (kf key (p - 4 + (k + 1) % 4)) ^^^ fst ((p - 1) / 16) else sb (kf key (p - 4 + (k + 1) % 4))) else kf key (p - 4 + k)
theorem kf_next (key : Nat → UInt8) (p k : Nat) (hp : 16 ≤ p) (h4 : p % 4 = 0) (hk : k < 4) : kf key (p + k) = kf key (p + k - 16) ^^^ tw key p k := by
  obtain ⟨R, hR⟩ : ∃ R, p / 16 = R + 1 := ⟨p / 16 - 1, by omega⟩
  by_cases hm : p % 16 = 0
  · rw [tw, if_pos hm, kf, kf, show (p + k) / 16 = R + 1 from by omega, show (p + k) % 16 = k from by omega, show (p + k - 16) / 16 = R from by omega, show (p + k - 16) % 16 = k from by omega, rk, nx_low _ _ hk, nx0, show (p - 1) / 16 = R from by omega]
    have e : kf key (p - 4 + (k + 1) % 4) = rk key R (12 + (k + 1) % 4) := by
      rw [kf, show (p - 4 + (k + 1) % 4) / 16 = R from by omega, show (p - 4 + (k + 1) % 4) % 16 = 12 + (k + 1) % 4 from by omega]
    rw [e]
    by_cases h0 : k = 0
    · rw [if_pos h0, if_pos h0, UInt8.xor_assoc]
    · rw [if_neg h0, if_neg h0]
  · rw [tw, if_neg hm, kf, kf, kf, show (p + k) / 16 = R + 1 from by omega, show (p + k - 16) / 16 = R from by omega, show (p - 4 + k) / 16 = R + 1 from by omega, rk, nx_step _ _ (show 4 ≤ (p + k) % 16 by omega), show (p + k - 16) % 16 = (p + k) % 16 from by omega, show (p - 4 + k) % 16 = (p + k) % 16 - 4 from by omega]
theorem fst_next (p : Nat) (hp : 16 ≤ p) (h4 : p % 4 = 0) : fst ((p + 3) / 16) = if p % 16 = 0 then dbl (fst ((p - 1) / 16)) else fst ((p - 1) / 16) := by
  by_cases hm : p % 16 = 0
  · rw [if_pos hm, show (p + 3) / 16 = (p - 1) / 16 + 1 from by omega]; rfl
  · rw [if_neg hm, show (p + 3) / 16 = (p - 1) / 16 from by omega]
attribute [local irreducible] sbN boxS sb rk fst kf tw
set_option maxRecDepth 100000 in
set_option maxHeartbeats 4000000 in
theorem keys_own (Ab Ak : Option Addr) (cb ck : Nat) (key : Nat → UInt8) (w : World) (hb : RdB w w.heap.size Ab 256 cb (row sbN 256)) (hk : RdB w w.heap.size Ak 16 ck (row key 16)) :
    Calls Tryd.prog 75 #[.slice Ab 256 cb, .slice Ak 16 ck] w fun e w' => ∃ A c, e = .returned (.slice A 176 c) ∧ w'.ownsRow w.heap.size 5 1 (.slice A 176 c) 176 ((row (kf key) 176).map bv) ∧ Below w.heap.size w w' := by
  obtain ⟨i0, hi, hz0, hz1, hz2⟩ := info_parts info5c
  have hrb := hb.room
  have hrk := hk.room
  have h0 : (row key 16).map bv = (row (kf key) 16).map bv := by
    congr 1
    refine row_congr fun i hi => ?_
    rw [kf, show i / 16 = 0 from by omega, show i % 16 = i from by omega, rk]
  have H0 := Lib.hid h0
  have HB := Lib.hid hb
  have HK := Lib.hid hk
  clear h0 hb hk
  obtain ⟨bb, ob, rfl⟩ := HB.out.addr (by omega)
  have hf0 : fst 0 = 1 := by rw [fst]
  have HF0 := Lib.hid hf0
  clear hf0
  go_enter Tryd.func75, Tryd.ntmps75
  go_wp2_with (at_builtin; refine wpList_app _ rfl (.tmp 10) (.tmp 11) 22 rfl w.heap.size 5 i0 _ 1 Tryd.underlying22 hi hz0 hz1 hz2 rfl _ 0 _ rfl (own_new _ (Nat.le_refl _) rfl (by omega)) _ Ak 16 ck _ rfl (RdB.lit HK.out _) (bv_one _) (by omega) (by omega) (by simp) ?_; intro A4 c4 w4 hown4 hg4 hat4)
  simp only [Nat.zero_add, List.nil_append] at hown4
  have hbw4 := below_lit (Below.refl _ _) hg4
  rw [H0.out] at hown4
  have HO4 := Lib.hid hown4
  have HB4 := Lib.hid hbw4
  clear hown4 hg4 hat4 hbw4
  go_loopw [5, 6, 7, 8, 9] (fun s r i _ _ wr => ∃ (p : Nat) (A : Option Addr) (c : Nat), 16 ≤ p ∧ p ≤ 176 ∧ p % 4 = 0 ∧ i = .int .i64 (p : Int) ∧ r = .int .u8 ((fst ((p - 1) / 16)).toNat : Int) ∧ s = .slice A p c ∧ wr.ownsRow w.heap.size 5 1 (.slice A p c) p ((row (kf key) p).map bv) ∧ Below w.heap.size w wr) (fun _ _ i _ _ _ => 176 - (intOf i).toNat)
  case atStart => exact ⟨16, A4, c4, by omega, by omega, by omega, rfl, by rw [show (16 - 1) / 16 = 0 from rfl, HF0.out]; rfl, rfl, HO4.out, HB4.out⟩
  case round =>
    clear HO4 HB4
    obtain ⟨p, A, c, hp16, hp, hp4, rfl, rfl, rfl, hown, hbw⟩ := hrel
    obtain ⟨fr, hfr⟩ : ∃ f, f = fst ((p - 1) / 16) := ⟨_, rfl⟩
    rw [← hfr]
    by_cases hlt : p < 176
    · obtain ⟨g, rfl⟩ : ∃ g, A = some ⟨g, 0, none⟩ := by
        rcases own_cases hown with ⟨_, _, h0⟩ | h
        · omega
        · exact h
      obtain ⟨hcell, hfz⟩ := own_cells hown
      obtain ⟨q0, hq0⟩ : ∃ q, q = p - 4 := ⟨_, rfl⟩
      obtain ⟨q1, hq1⟩ : ∃ q, q = p - 3 := ⟨_, rfl⟩
      obtain ⟨q2, hq2⟩ : ∃ q, q = p - 2 := ⟨_, rfl⟩
      obtain ⟨q3, hq3⟩ : ∃ q, q = p - 1 := ⟨_, rfl⟩
      have e0 : IntKind.i64.wrap ((p : Int) - 4) = (q0 : Int) := by rw [IntKind.wrap_i64]; omega
      have e1 : IntKind.i64.wrap ((p : Int) - 3) = (q1 : Int) := by rw [IntKind.wrap_i64]; omega
      have e2 : IntKind.i64.wrap ((p : Int) - 2) = (q2 : Int) := by rw [IntKind.wrap_i64]; omega
      have e3 : IntKind.i64.wrap ((p : Int) - 1) = (q3 : Int) := by rw [IntKind.wrap_i64]; omega
      have l0 : (q0 : Int) < (p : Int) := by omega
      have l1 : (q1 : Int) < (p : Int) := by omega
      have l2 : (q2 : Int) < (p : Int) := by omega
      have l3 : (q3 : Int) < (p : Int) := by omega
      obtain ⟨x0, hx0⟩ : ∃ x, x = kf key q0 := ⟨_, rfl⟩
      obtain ⟨x1, hx1⟩ : ∃ x, x = kf key q1 := ⟨_, rfl⟩
      obtain ⟨x2, hx2⟩ : ∃ x, x = kf key q2 := ⟨_, rfl⟩
      obtain ⟨x3, hx3⟩ : ∃ x, x = kf key q3 := ⟨_, rfl⟩
      have c0 := hcell q0 (bv x0) (by rw [List.getElem?_map, row_at _ (show q0 < p by omega), ← hx0]; rfl)
      have c1 := hcell q1 (bv x1) (by rw [List.getElem?_map, row_at _ (show q1 < p by omega), ← hx1]; rfl)
      have c2 := hcell q2 (bv x2) (by rw [List.getElem?_map, row_at _ (show q2 < p by omega), ← hx2]; rfl)
      have c3 := hcell q3 (bv x3) (by rw [List.getElem?_map, row_at _ (show q3 < p by omega), ← hx3]; rfl)
      have HX := Lib.hid (show x0 = kf key (p - 4) ∧ x1 = kf key (p - 4 + 1) ∧ x2 = kf key (p - 4 + 2) ∧ x3 = kf key (p - 4 + 3) from ⟨by rw [hx0, hq0], by rw [hx1, hq1]; congr 1; omega, by rw [hx2, hq2]; congr 1; omega, by rw [hx3, hq3]; congr 1; omega⟩)
      have HOWN := Lib.hid hown
      have HBW := Lib.hid hbw
      have HFR := Lib.hid hfr
      unfold bv at c0 c1 c2 c3
      clear hq0 hq1 hq2 hq3 hx0 hx1 hx2 hx3 hcell hfz hown hbw hfr
      go_wp2_with fail
      refine wp_region_still_tail 20 (by kernel_rfl) (by kernel_rfl) ?_
      simp only [List.take_succ_cons, List.take_zero, List.drop_succ_cons, List.drop_zero]
      repeat still_step
      refine wpStill_nil ?_
      clear e0 e1 e2 e3 l0 l1 l2 l3 c0 c1 c2 c3
      obtain ⟨rm, hrm⟩ : ∃ r, r = p % 16 := ⟨_, rfl⟩
      have e5 : (p : Int).tmod 16 = (rm : Int) := by rw [hrm, Int.tmod_eq_emod_of_nonneg (by omega), Int.natCast_emod]; rfl
      have HRM := Lib.hid hrm
      clear hrm
      go_upto_if 40 with fail
      obtain ⟨T0, hT0⟩ : ∃ T, T = wr.heap.size := ⟨_, rfl⟩
      obtain ⟨W0, hW0⟩ : ∃ W, W = (wr.alloc (.cells #[.int .u8 (x0.toNat : Int), .int .u8 (x1.toNat : Int), .int .u8 (x2.toNat : Int), .int .u8 (x3.toNat : Int)] 5)).drew := ⟨_, rfl⟩
      rw [← hW0, ← hT0]
      have hb0 : Below wr.heap.size wr W0 := by rw [hW0]; exact below_drew' (below_of_new _ _)
      have ha0 : Arr W0 T0 5 (fun k => kf key (p - 4 + k)) 4 := by
        have h : W0.heap[T0]? = some (.cells #[.int .u8 (x0.toNat : Int), .int .u8 (x1.toNat : Int), .int .u8 (x2.toNat : Int), .int .u8 (x3.toNat : Int)] 5 (0, 0)) := by rw [hW0, hT0]; exact heap_alloc_new wr _
        rw [Arr, h, HX.out.1, HX.out.2.1, HX.out.2.2.1, HX.out.2.2.2]; rfl
      have hgT : g < T0 := by rw [hT0]; exact (HOWN.out.lt g rfl).2
      have hbw0 := below_seq HBW.out hb0
      have ho0 : W0.ownsRow w.heap.size 5 1 (.slice (some ⟨g, 0, none⟩) p c) p ((row (kf key) p).map bv) := own_on HOWN.out hb0
      have HA0 := Lib.hid ha0
      have HO0 := Lib.hid ho0
      have HBW0 := Lib.hid hbw0
      clear hW0 hT0 hb0 ha0 hbw0 ho0 HOWN HBW
      go_cut [6, 8] (fun r t wx => r = .int .u8 ((fst ((p + 3) / 16)).toNat : Int) ∧ ∃ T, t = .slice (some ⟨T, 0, none⟩) 4 4 ∧ g < T ∧ Arr wx T 5 (tw key p) 4 ∧ wx.ownsRow w.heap.size 5 1 (.slice (some ⟨g, 0, none⟩) p c) p ((row (kf key) p).map bv) ∧ Below w.heap.size w wx)
      case first =>
        by_cases hm : rm = 0
        · have t1 : ((rm : Int) == 0) = true := by rw [hm]; rfl
          have hp0 : p % 16 = 0 := by rw [← HRM.out]; exact hm
          have a0 := HA0.out.cell (show 0 < 4 by omega)
          have a1 := HA0.out.cell (show 1 < 4 by omega)
          have a2 := HA0.out.cell (show 2 < 4 by omega)
          have a3 := HA0.out.cell (show 3 < 4 by omega)
          rw [show kf key (p - 4 + 0) = x0 from HX.out.1.symm] at a0
          rw [← HX.out.2.1] at a1
          rw [← HX.out.2.2.1] at a2
          rw [← HX.out.2.2.2] at a3
          have hbx : ∀ x : UInt8, W0.cell? ⟨bb, ob + x.toNat, none⟩ = some (.int .u8 ((sb x).toNat : Int)) := fun x => by
            have hx := x.toNat_lt
            have h := (HB.out.on HBW0.out).cell0 (j := x.toNat) (by rw [row_len]; omega)
            rw [row_get, ← sb_at] at h
            exact h
          obtain ⟨y0, hy0⟩ : ∃ y, y = sb x0 := ⟨_, rfl⟩
          obtain ⟨y1, hy1⟩ : ∃ y, y = sb x1 := ⟨_, rfl⟩
          obtain ⟨y2, hy2⟩ : ∃ y, y = sb x2 := ⟨_, rfl⟩
          obtain ⟨y3, hy3⟩ : ∃ y, y = sb x3 := ⟨_, rfl⟩
          have b0 := hbx x0
          have b1 := hbx x1
          have b2 := hbx x2
          have b3 := hbx x3
          rw [← hy0] at b0
          rw [← hy1] at b1
          rw [← hy2] at b2
          rw [← hy3] at b3
          have m0 : (x0.toNat : Int) < 256 := by have := x0.toNat_lt; omega
          have m1 : (x1.toNat : Int) < 256 := by have := x1.toNat_lt; omega
          have m2 : (x2.toNat : Int) < 256 := by have := x2.toNat_lt; omega
          have m3 : (x3.toNat : Int) < 256 := by have := x3.toNat_lt; omega
          obtain ⟨v, hv⟩ : ∃ u, u = y1 ^^^ fr := ⟨_, rfl⟩
          have ev := xor_nm hv
          obtain ⟨d, hd⟩ : ∃ d, d = dbl fr := ⟨_, rfl⟩
          have hpr : ∀ W, Calls Tryd.prog 76 #[.int .u8 (fr.toNat : Int), .int .u8 2] W fun e w' => e = .returned (.int .u8 (d.toNat : Int)) ∧ W = w' := fun W => by
            have := prod_any fr 2 W
            rw [prodr_eq, ← hd] at this
            exact this
          have hdf : d = fst ((p + 3) / 16) := by rw [hd, HFR.out, fst_next p hp16 hp4, if_pos hp0]
          have htw : ∀ W, Arr (W : World).drew W.heap.size 5 (tw key p) 4 = Arr W.drew W.heap.size 5 (tw key p) 4 := fun _ => rfl
          have hrow : ((row (tw key p) 4).map bv).toArray = #[.int .u8 (v.toNat : Int), .int .u8 (y2.toNat : Int), .int .u8 (y3.toNat : Int), .int .u8 (y0.toNat : Int)] := by
            have h0 : tw key p 0 = v := by rw [tw, if_pos hp0, if_pos rfl, hv, hy1, HX.out.2.1, HFR.out]
            have h1 : tw key p 1 = y2 := by rw [tw, if_pos hp0, if_neg (by omega), hy2, HX.out.2.2.1]
            have h2 : tw key p 2 = y3 := by rw [tw, if_pos hp0, if_neg (by omega), hy3, HX.out.2.2.2]
            have h3 : tw key p 3 = y0 := by rw [tw, if_pos hp0, if_neg (by omega), hy0, HX.out.1, show (3 + 1) % 4 = 0 from rfl, Nat.add_zero]
            have : row (tw key p) 4 = [tw key p 0, tw key p 1, tw key p 2, tw key p 3] := rfl
            rw [this, h0, h1, h2, h3]; rfl
          have HPR := Lib.hid hpr
          have HDF := Lib.hid hdf
          have HROW := Lib.hid hrow
          clear hbx hy0 hy1 hy2 hy3 hv hd hpr hdf htw hrow hm hp0
          go_wp2_with fail
          refine wp_region_still_tail 26 (by kernel_rfl) (by kernel_rfl) ?_
          simp only [List.take_succ_cons, List.take_zero, List.drop_succ_cons, List.drop_zero]
          repeat still_step
          refine wpStill_nil ?_
          clear a0 a1 a2 a3 b0 b1 b2 b3 m0 m1 m2 m3 ev t1
          go_wp2_with fail
          refine (HPR.out _).mono ?_
          rintro e w2 ⟨rfl, rfl⟩
          go_wp2_with fail
          go_meet
          case rel =>
            refine ⟨by rw [HDF.out], W0.heap.size, rfl, (HO0.out.lt g rfl).2, ?_, own_on HO0.out (below_drew' (below_of_new _ _)), below_drew' (below_alloc HBW0.out _)⟩
            rw [Arr, HROW.out]
            exact heap_alloc_new W0 _
        · have t1 : ((rm : Int) == 0) = false := by rw [beq_eq_false_iff_ne]; omega
          have hp0 : ¬ p % 16 = 0 := by rw [← HRM.out]; exact hm
          have hdf : fr = fst ((p + 3) / 16) := by rw [HFR.out, fst_next p hp16 hp4, if_neg hp0]
          have htw : Arr W0 T0 5 (tw key p) 4 := HA0.out.congr fun i _ => by rw [tw, if_neg hp0]
          have HDF := Lib.hid hdf
          have HTW := Lib.hid htw
          clear hdf htw hm hp0
          go_wp2_with fail
          go_meet
          case rel => exact ⟨by rw [HDF.out], T0, rfl, hgT, HTW.out, HO0.out, HBW0.out⟩
      case rest =>
        obtain ⟨rfl, T, rfl, hgT2, hat, hown, hbw⟩ := hcut
        have HAT := Lib.hid hat
        have HOWN := Lib.hid hown
        have HBW := Lib.hid hbw
        obtain ⟨fn, hfn⟩ : ∃ f, f = fst ((p + 3) / 16) := ⟨_, rfl⟩
        rw [← hfn]
        have HFN := Lib.hid hfn
        clear hat hown hbw hfn HA0 HO0 HBW0 HX HFR HRM e5 hgT
        go_wp2_with fail
        go_loopw [5, 9] (fun s i wr => ∃ (k : Nat) (A : Option Addr) (c : Nat), k ≤ 4 ∧ i = .int .i64 (k : Int) ∧ s = .slice A (p + k) c ∧ wr.ownsRow w.heap.size 5 1 (.slice A (p + k) c) (p + k) ((row (kf key) (p + k)).map bv) ∧ (Value.slice A (p + k) c).ownBlock ≠ some T ∧ Arr wr T 5 (tw key p) 4 ∧ Below w.heap.size w wr) (fun _ i _ => 4 - (intOf i).toNat)
        case atStart => exact ⟨0, _, _, by omega, rfl, rfl, HOWN.out, (by simp only [Value.ownBlock]; intro e; injection e with e; omega), HAT.out, HBW.out⟩
        case round =>
          clear HOWN HBW HAT
          obtain ⟨k, A, c, hk, rfl, rfl, hown, hneT, hat, hbw⟩ := hrel
          obtain ⟨pk, hpk⟩ : ∃ q, q = p + k := ⟨_, rfl⟩
          rw [← hpk] at hown hneT ⊢
          by_cases hltk : k < 4
          · obtain ⟨g2, rfl⟩ : ∃ g, A = some ⟨g, 0, none⟩ := by
              rcases own_cases hown with ⟨_, _, h0⟩ | h
              · omega
              · exact h
            obtain ⟨j, hj⟩ : ∃ j, j = pk - 16 := ⟨_, rfl⟩
            have e1 : IntKind.i64.wrap ((p : Int) + (k : Int)) = (pk : Int) := by rw [IntKind.wrap_i64]; omega
            have e2 : IntKind.i64.wrap ((pk : Int) - 16) = (j : Int) := by rw [IntKind.wrap_i64]; omega
            have l1 : (j : Int) < (pk : Int) := by omega
            have l2 : (k : Int) < 4 := by omega
            obtain ⟨x, hx⟩ : ∃ x, x = kf key j := ⟨_, rfl⟩
            obtain ⟨y, hy⟩ : ∃ x, x = tw key p k := ⟨_, rfl⟩
            obtain ⟨v, hv⟩ : ∃ u, u = x ^^^ y := ⟨_, rfl⟩
            have ev := xor_nm hv
            have c1 := (own_cells hown).1 j (.int .u8 (x.toNat : Int)) (by rw [List.getElem?_map, row_at _ (show j < pk by omega), ← hx]; rfl)
            have c2 := hat.cell hltk
            rw [← hy] at c2
            have hvk : v = kf key pk := by rw [hv, hx, hy, hj, hpk, kf_next key p k hp16 hp4 hltk]
            have hrow : (row (kf key) pk).map bv ++ [bv v] = (row (kf key) (pk + 1)).map bv := by rw [row_snoc, List.map_append, hvk]; rfl
            have hTlt := hat.lt
            have HROW := Lib.hid hrow
            have HOWN := Lib.hid hown
            have HBW := Lib.hid hbw
            have HAT := Lib.hid hat
            have HNE := Lib.hid hneT
            have HPK := Lib.hid hpk
            have hpk176 : pk ≤ 176 := by omega
            clear hj hx hy hv hvk hrow hown hbw hat hneT hpk
            go_wp2_with fail
            refine wp_region_any (by kernel_rfl) ?_
            change wpAny _ _ _ _ _ _ _ (World.drew _)
            refine wpAny_take (i := 0) (v := .slice (some ⟨g2, 0, none⟩) pk c) rfl (by kernel_rfl) (by kernel_rfl) (by kernel_rfl) (fun _ _ _ h => h) (Or.inl ⟨by rfl, fun w => by go_simp⟩) ?_
            go_simp
            refine wpAny_take (i := 1) (v := .slice (some ⟨g2, 0, none⟩) pk c) rfl (by kernel_rfl) (by kernel_rfl) (by kernel_rfl) (fun _ _ _ h => h) (Or.inl ⟨by rfl, fun w => by go_simp⟩) ?_
            go_simp
            refine wpAny_take (i := 2) (v := .int .i64 (p : Int)) rfl (by kernel_rfl) (by kernel_rfl) (by kernel_rfl) (fun _ _ _ h => h) (Or.inl ⟨by rfl, fun w => by go_simp⟩) ?_
            go_simp
            refine wpAny_take (i := 3) (v := .int .i64 (k : Int)) rfl (by kernel_rfl) (by kernel_rfl) (by kernel_rfl) (fun _ _ _ h => h) (Or.inl ⟨by rfl, fun w => by go_simp⟩) ?_
            go_simp
            refine wpAny_take (i := 4) (v := .int .i64 (pk : Int)) rfl (by kernel_rfl) (by kernel_rfl) (by kernel_rfl) (fun _ _ _ h => h) (Or.inl ⟨by rfl, fun w => by go_simp⟩) ?_
            go_simp
            refine wpAny_take (i := 5) (v := .int .i64 (j : Int)) rfl (by kernel_rfl) (by kernel_rfl) (by kernel_rfl) (fun _ _ _ h => h) (Or.inl ⟨by rfl, fun w => by go_simp⟩) ?_
            go_simp
            refine wpAny_take (i := 6) (v := .pointer (some ⟨g2, j, none⟩)) rfl (by kernel_rfl) (by kernel_rfl) (by kernel_rfl) (fun _ _ _ h => h) (Or.inl ⟨by rfl, fun w => by go_simp⟩) ?_
            go_simp
            refine wpAny_take (i := 8) (v := .slice (some ⟨T, 0, none⟩) 4 4) rfl (by kernel_rfl) (by kernel_rfl) (by kernel_rfl) (fun _ _ _ h => h) (Or.inl ⟨by rfl, fun w => by go_simp⟩) ?_
            go_simp
            refine wpAny_take (i := 9) (v := .int .i64 (k : Int)) rfl (by kernel_rfl) (by kernel_rfl) (by kernel_rfl) (fun _ _ _ h => h) (Or.inl ⟨by rfl, fun w => by go_simp⟩) ?_
            go_simp
            refine wpAny_take (i := 10) (v := .pointer (some ⟨T, k, none⟩)) rfl (by kernel_rfl) (by kernel_rfl) (by kernel_rfl) (fun _ _ _ h => h) (Or.inl ⟨by rfl, fun w => by go_simp⟩) ?_
            go_simp
            refine wpAny_ready (rs := [7, 11]) (by kernel_rfl) (by simp) ?_
            refine AllReady.cons rfl (fun K hK => ?_) (AllReady.cons rfl (fun K hK => ?_) AllReady.nil)
            · go_simp
              refine hK _ _ ?_
              clear hK K
              refine wpAny_ready (rs := [11]) (by kernel_rfl) (by simp) ?_
              refine AllReady.cons rfl (fun K hK => ?_) AllReady.nil
              go_simp
              refine hK _ _ ?_
              clear hK K
              refine wpAny_take (i := 12) (v := .int .u8 (v.toNat : Int)) rfl (by kernel_rfl) (by kernel_rfl) (by kernel_rfl) (fun _ _ _ h => h) (Or.inl ⟨by rfl, fun w => by go_simp⟩) ?_
              go_simp
              refine wpAny_ready (rs := [13]) (by kernel_rfl) (by simp) ?_
              refine AllReady.cons rfl (fun K hK => ?_) AllReady.nil
              go_simp
              refine hK _ _ ?_
              clear hK K
              refine wpAny_ready (rs := [14]) (by kernel_rfl) (by simp) ?_
              refine AllReady.cons rfl (fun K hK => ?_) AllReady.nil
              rw [if_pos (by rfl)]
              refine wp_app _ (.tmp 74) (.tmp 87) 22 rfl w.heap.size 5 i0 _ 1 Tryd.underlying22 hi hz0 hz1 hz2 rfl _ pk _ rfl (own_on HOWN.out (below_drew' (below_of_new _ _))) _ (some ⟨wr.heap.size, 0, none⟩) 1 1 [bv v] rfl (RdB.on (rd_lit' wr (n := 1) (bs := [v]) rfl rfl rfl (by omega)) (below_of_drew ⟨1, rfl⟩ _)) (bv_one [v]) (by omega) (by omega) (by have := HBW.out.size; simp; omega) ?_
              intro v3 w3 hown3 hg3 hat3
              obtain ⟨A2, c2, rfl⟩ := own_form hown3
              try go_simp
              refine hK _ _ ?_
              clear hK K
              refine wpAny_ready (rs := [15]) (by kernel_rfl) (by simp) ?_
              refine AllReady.cons rfl (fun K hK => ?_) AllReady.nil
              go_simp
              refine hK _ _ ?_
              clear hK K
              refine wpAny_done (by kernel_rfl) ?_ _
              go_wp2_with fail
              have hown3' := hown3
              rw [HROW.out] at hown3'
              have hne3 : (Value.slice A2 (pk + 1) c2).ownBlock ≠ some T := by
                rcases hat3 with h | h
                · rw [h]; exact HNE.out
                · rw [h]; intro e; injection e with e; simp at e; omega
              have hat' : Arr w3 T 5 (tw key p) 4 := HAT.out.block ((hg3.block T (by simp; omega) (fun e => HNE.out e.symm)).trans (heap_alloc_old wr _ hTlt))
              have hb3 : Below w.heap.size w w3 := (below_drew' (below_alloc HBW.out _)).grown hg3 (by have := HBW.out.size; simp; omega) (fun j hj => by have := (HOWN.out.lt j hj).1; omega)
              have epk : p + (k + 1) = pk + 1 := by have := HPK.out; omega
              exact ⟨⟨k + 1, A2, c2, by omega, by go_num, by rw [epk], by rw [epk]; exact hown3', by rw [epk]; exact hne3, hat', hb3⟩, by simp [intOf]; omega⟩
            · go_simp
              refine hK _ _ ?_
              clear hK K
              refine wpAny_ready (rs := [7]) (by kernel_rfl) (by simp) ?_
              refine AllReady.cons rfl (fun K hK => ?_) AllReady.nil
              go_simp
              refine hK _ _ ?_
              clear hK K
              refine wpAny_take (i := 12) (v := .int .u8 (v.toNat : Int)) rfl (by kernel_rfl) (by kernel_rfl) (by kernel_rfl) (fun _ _ _ h => h) (Or.inl ⟨by rfl, fun w => by go_simp⟩) ?_
              go_simp
              refine wpAny_ready (rs := [13]) (by kernel_rfl) (by simp) ?_
              refine AllReady.cons rfl (fun K hK => ?_) AllReady.nil
              go_simp
              refine hK _ _ ?_
              clear hK K
              refine wpAny_ready (rs := [14]) (by kernel_rfl) (by simp) ?_
              refine AllReady.cons rfl (fun K hK => ?_) AllReady.nil
              rw [if_pos (by rfl)]
              refine wp_app _ (.tmp 74) (.tmp 87) 22 rfl w.heap.size 5 i0 _ 1 Tryd.underlying22 hi hz0 hz1 hz2 rfl _ pk _ rfl (own_on HOWN.out (below_drew' (below_of_new _ _))) _ (some ⟨wr.heap.size, 0, none⟩) 1 1 [bv v] rfl (RdB.on (rd_lit' wr (n := 1) (bs := [v]) rfl rfl rfl (by omega)) (below_of_drew ⟨1, rfl⟩ _)) (bv_one [v]) (by omega) (by omega) (by have := HBW.out.size; simp; omega) ?_
              intro v3 w3 hown3 hg3 hat3
              obtain ⟨A2, c2, rfl⟩ := own_form hown3
              try go_simp
              refine hK _ _ ?_
              clear hK K
              refine wpAny_ready (rs := [15]) (by kernel_rfl) (by simp) ?_
              refine AllReady.cons rfl (fun K hK => ?_) AllReady.nil
              go_simp
              refine hK _ _ ?_
              clear hK K
              refine wpAny_done (by kernel_rfl) ?_ _
              go_wp2_with fail
              have hown3' := hown3
              rw [HROW.out] at hown3'
              have hne3 : (Value.slice A2 (pk + 1) c2).ownBlock ≠ some T := by
                rcases hat3 with h | h
                · rw [h]; exact HNE.out
                · rw [h]; intro e; injection e with e; simp at e; omega
              have hat' : Arr w3 T 5 (tw key p) 4 := HAT.out.block ((hg3.block T (by simp; omega) (fun e => HNE.out e.symm)).trans (heap_alloc_old wr _ hTlt))
              have hb3 : Below w.heap.size w w3 := (below_drew' (below_alloc HBW.out _)).grown hg3 (by have := HBW.out.size; simp; omega) (fun j hj => by have := (HOWN.out.lt j hj).1; omega)
              have epk : p + (k + 1) = pk + 1 := by have := HPK.out; omega
              exact ⟨⟨k + 1, A2, c2, by omega, by go_num, by rw [epk], by rw [epk]; exact hown3', by rw [epk]; exact hne3, hat', hb3⟩, by simp [intOf]; omega⟩
          · obtain rfl : k = 4 := by omega
            have HOWN := Lib.hid hown
            have HBW := Lib.hid hbw
            have HPK := Lib.hid hpk
            clear hown hbw hat hneT hpk
            go_wp2_with fail
            have hpk := HPK.out
            exact ⟨⟨pk, A, c, by omega, by omega, by omega, by rw [hpk]; rfl, by rw [HFN.out, show (pk - 1) / 16 = (p + 3) / 16 from by omega], rfl, HOWN.out, HBW.out⟩, by simp [intOf]; omega⟩
    · obtain rfl : p = 176 := by omega
      go_wp2_with fail
      go_ret
      exact ⟨A, c, rfl, hown, hbw⟩
end Go.Proofs.YtgebdkbbdabomaaDoor.Aes
