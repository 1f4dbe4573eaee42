/-
  THE CONTRACT of the document's Stream.
-/
import Derived.Test.YtgebdkbbdabomaaDoorRefe
import Derived.Test.YtgebdkbbdabomaaDoorAesy
namespace Go.Proofs.YtgebdkbbdabomaaDoor.Aes
open Go.RowKit
open Go.Proofs.YtgebdkbbdabomaaDoor.Kit
set_option linter.unusedVariables false

/-- a number that is carried: what stands from place q on is that of the next number, or there is still one to carry -/
def Cy (N : Nat → UInt8) (q cy : Nat) (f : Nat → UInt8) : Prop :=
  (cy = 1 ∧ (∀ j, q ≤ j → j < 16 → N j + 1 = 0) ∧ ∀ j, j < 16 → f j = if j < q then N j else 0) ∨ (cy = 0 ∧ ∀ j, j < 16 → f j = aft N j)
theorem cy_first (N : Nat → UInt8) : Cy N 16 1 N := .inl ⟨rfl, fun j h1 h2 => by omega, fun j hj => by rw [if_pos hj]⟩
theorem u8_one (x : UInt8) : (x.toNat + 1) % 256 = (x + 1).toNat := by
  rw [UInt8.toNat_add]; rfl
theorem cy_le {N : Nat → UInt8} {q cy : Nat} {f : Nat → UInt8} (h : Cy N q cy f) : cy ≤ 1 := by
  rcases h with ⟨h, _⟩ | ⟨h, _⟩ <;> omega
theorem cy_next {N : Nat → UInt8} {q cy : Nat} {f : Nat → UInt8} (hq : q < 16) (h : Cy N (q + 1) cy f) :
    ∃ (v : UInt8) (c2 : Nat), ((f q).toNat + cy) % 256 = v.toNat ∧ ((f q).toNat + cy) / 256 = c2 ∧ Cy N q c2 (fun j => if j = q then v else f j) := by
  rcases h with ⟨rfl, hall, hf⟩ | ⟨rfl, hf⟩
  · have hfq : f q = N q := by rw [hf q hq, if_pos (by omega)]
    refine ⟨N q + 1, ((f q).toNat + 1) / 256, by rw [hfq, u8_one], rfl, ?_⟩
    by_cases hv : N q + 1 = 0
    · left
      refine ⟨?_, fun j h1 h2 => ?_, fun j hj => ?_⟩
      · have h1 := u8_one (N q)
        rw [hv] at h1
        have h2 := (N q).toNat_lt
        rw [hfq]
        have h3 : (0 : UInt8).toNat = 0 := rfl
        omega
      · by_cases e : j = q
        · rw [e, hv]
        · exact hall j (by omega) h2
      · show (if j = q then N q + 1 else f j) = _
        by_cases e : j = q
        · rw [if_pos e, if_neg (by omega), hv]
        · rw [if_neg e, hf j hj]
          by_cases h2 : j < q
          · rw [if_pos h2, if_pos (by omega)]
          · rw [if_neg h2, if_neg (by omega)]
    · right
      refine ⟨?_, fun j hj => ?_⟩
      · have h1 := u8_one (N q)
        have h2 := (N q).toNat_lt
        rw [hfq]
        have h4 : (N q + 1).toNat ≠ 0 := fun h => hv (by rw [← UInt8.toNat_inj]; exact h)
        omega
      · rw [show aft N = aftK N 16 from rfl, aft_low N (q + 1) 16 (by omega) hall j hj]
        show (if j = q then N q + 1 else f j) = _
        by_cases e : j = q
        · rw [if_pos e, if_pos (by omega), aftK_succ, if_pos e]
        · rw [if_neg e, hf j hj]
          by_cases h2 : j < q + 1
          · rw [if_pos h2, if_pos h2, aftK_succ, if_neg e, if_neg hv]
          · rw [if_neg h2, if_neg h2]
  · have hx := (f q).toNat_lt
    refine ⟨f q, 0, by rw [Nat.add_zero]; omega, by rw [Nat.add_zero]; omega, .inr ⟨rfl, fun j hj => ?_⟩⟩
    show (if j = q then f q else f j) = _
    by_cases e : j = q
    · rw [if_pos e, e, hf q hq]
    · rw [if_neg e, hf j hj]
theorem cy_end {N : Nat → UInt8} {cy : Nat} {f : Nat → UInt8} (h : Cy N 0 cy f) : row f 16 = row (aft N) 16 := by
  refine row_congr fun j hj => ?_
  rcases h with ⟨rfl, hall, hf⟩ | ⟨rfl, hf⟩
  · rw [hf j hj, if_neg (by omega), show aft N = aftK N 16 from rfl, aft_low N 0 16 (by omega) hall j hj, if_neg (by omega)]
  · exact hf j hj

theorem wrap_byte (v : UInt8) : IntKind.u8.wrap (v.toNat : Int) = (v.toNat : Int) := by
  have := v.toNat_lt
  show (v.toNat : Int) % 256 = _
  omega
/-- sixteen bytes at a block's beginning -/
def PadAt (w : World) (p : Nat) (f : Nat → UInt8) : Prop := p < w.heap.size ∧ ∀ j, j < 16 → w.cell? ⟨p, j, none⟩ = some (.int .u8 ((f j).toNat : Int))
theorem PadAt.grown {w w' : World} {p : Nat} {f : Nat → UInt8} {r : Option Nat} (h : PadAt w p f) (hg : w.grownBy w' r) (hne : some p ≠ r) : PadAt w' p f :=
  ⟨by have := hg.size; have := h.1; omega, fun j hj => hg.cell (h.2 j hj) hne⟩
theorem PadAt.below {w w' : World} {p : Nat} {f : Nat → UInt8} (h : PadAt w p f) (hb : Below w.heap.size w w') : PadAt w' p f :=
  ⟨by have := hb.size; have := h.1; omega, fun j hj => (hb.cell (p := ⟨p, j, none⟩) h.1).trans (h.2 j hj)⟩
theorem pad_own {w : World} {base g c : Nat} {e : TypeId} {f : Nat → UInt8} (h : w.ownsRow base e 1 (.slice (some ⟨g, 0, none⟩) 16 c) 16 ((row f 16).map bv)) : PadAt w g f :=
  ⟨(h.lt g rfl).2, fun j hj => (own_cells h).1 j (bv (f j)) (by rw [List.getElem?_map, row_at _ hj]; rfl)⟩
theorem PadAt.cell {w : World} {p : Nat} {f : Nat → UInt8} (h : PadAt w p f) {j : Nat} (hj : j < 16) : w.cell? ⟨p, j, none⟩ = some (.int .u8 ((f j).toNat : Int)) := h.2 j hj
theorem PadAt.lt {w : World} {p : Nat} {f : Nat → UInt8} (h : PadAt w p f) : p < w.heap.size := h.1
attribute [local irreducible] sbN boxS sb rk fst kf tw stB shB mixB sumB preB blk aft ctr strT Cy PadAt
set_option maxRecDepth 100000 in
set_option maxHeartbeats 4000000 in
theorem refstream_new (Ab Ak Af Ai : Option Addr) (cb ck cf n ci : Nat) (key F : Nat → UInt8) (xs : List UInt8) (w : World) (hb : RdB w w.heap.size Ab 256 cb (row sbN 256)) (hk : RdB w w.heap.size Ak 16 ck (row key 16)) (hf : RdB w w.heap.size Af 16 cf (row F 16)) (hx : RdB w w.heap.size Ai n ci xs) (hn : n ≤ 1000000000) :
    Calls Tryd.prog 46 #[.slice Ab 256 cb, .slice Ak 16 ck, .slice Af 16 cf, .slice Ai n ci] w fun e w' => ∃ A c, e = .returned (.slice A n c) ∧ New w w' A n c (strF key F xs) := by
  obtain ⟨i0, hi, hz0, hz1, hz2⟩ := info_parts info5c
  have hrf := hf.room
  have hlen := hx.len
  have hctr0 : ctr F 0 = F := by rw [ctr]
  have hctr : ∀ k, ctr F (k + 1) = aft (ctr F k) := fun k => by rw [ctr]
  have hstr : ∀ k, strT key F xs k = at_ xs k ^^^ blk key (ctr F (k / 16)) (k % 16) := fun k => by rw [strT]
  have hres : strF key F xs = row (strT key F xs) n := by rw [strF_row, hlen]
  have HC0 := Lib.hid hctr0
  have HCS := Lib.hid hctr
  have HSTR := Lib.hid hstr
  have HRES := Lib.hid hres
  have HB := Lib.hid hb
  have HK := Lib.hid hk
  have HF := Lib.hid hf
  have HX := Lib.hid hx
  clear hctr0 hctr hstr hres hb hk hf hx
  go_enter Tryd.func46, Tryd.ntmps46
  go_wp2_with (at_builtin; refine wpList_app _ rfl (.tmp 16) (.tmp 17) 22 rfl w.heap.size 5 i0 _ 1 Tryd.underlying22 hi hz0 hz1 hz2 rfl _ 0 _ rfl (own_new _ (Nat.le_refl _) rfl (by omega)) _ Af 16 cf _ rfl (RdB.lit HF.out _) (bv_one _) (by omega) (by omega) (by simp) ?_; intro A4 c4 w4 hown4 hg4 hat4)
  simp only [Nat.zero_add, List.nil_append] at hown4
  have hbw4 := below_lit (Below.refl _ _) hg4
  obtain ⟨ga, rfl⟩ : ∃ g, A4 = some ⟨g, 0, none⟩ := by
    rcases own_cases hown4 with ⟨_, _, h0⟩ | h
    · omega
    · exact h
  obtain ⟨B1, hB1⟩ : ∃ B, B = w4.heap.size := ⟨_, rfl⟩
  have hga : ga < B1 := by rw [hB1]; exact (hown4.lt ga rfl).2
  have hwB : w.heap.size ≤ B1 := by rw [hB1]; exact hbw4.size
  rw [← HC0.out] at hown4
  have HO4 := Lib.hid hown4
  have HB4 := Lib.hid hbw4
  have HB1 := Lib.hid hB1
  clear hown4 hg4 hat4 hbw4 hB1
  go_loopw [10, 11, 12, 13, 14, 15] (fun s P i _ _ _ wr => ∃ (k : Nat) (A : Option Addr) (c : Nat), k ≤ n ∧ i = .int .i64 (k : Int) ∧ s = .slice A k c ∧ wr.ownsRow B1 5 1 (.slice A k c) k ((row (strT key F xs) k).map bv) ∧ wr.ownsRow w.heap.size 5 1 (.slice (some ⟨ga, 0, none⟩) 16 c4) 16 ((row (ctr F ((k + 15) / 16)) 16).map bv) ∧ (k % 16 ≠ 0 → ∃ p cp, P = .slice (some ⟨p, 0, none⟩) 16 cp ∧ B1 ≤ p ∧ (Value.slice A k c).ownBlock ≠ some p ∧ PadAt wr p (blk key (ctr F (k / 16)))) ∧ B1 ≤ wr.heap.size ∧ Below w.heap.size w wr) (fun _ _ i _ _ _ _ => n - (intOf i).toNat)
  case atStart =>
    have hB1 := HB1.out
    refine ⟨0, _, _, by omega, rfl, rfl, World.ownsRow.alloc (own_new w4 (n := 0) (by omega) rfl (by omega)) _, own_on HO4.out (below2 w4 _ _), fun h => absurd rfl h, by have := (below2 w4 (.cells #[] 5) (.cells #[] 5)).size; omega, below_seq HB4.out (below2 w4 _ _)⟩
  case round =>
    clear HO4 HB4
    obtain ⟨k, A, c, hkn, rfl, rfl, hown, hat, hpad, hBW, hbw⟩ := hrel
    rename World => W0
    by_cases hlt : k < n
    · obtain ⟨rm, hrm⟩ : ∃ r, r = k % 16 := ⟨_, rfl⟩
      obtain ⟨qt, hqt⟩ : ∃ r, r = k / 16 := ⟨_, rfl⟩
      have e5 : (k : Int).tmod 16 = (rm : Int) := tmod_nm (m := 16) hrm
      have HOWN := Lib.hid hown
      have HAT := Lib.hid hat
      have HPAD := Lib.hid hpad
      have HBW := Lib.hid hbw
      have HRM := Lib.hid hrm
      have HQT := Lib.hid hqt
      have hrm16 : rm < 16 := by omega
      clear hown hat hpad hbw hrm hqt
      go_upto_if 29 with fail
      go_cut [11, 13, 14, 15] (fun P _ _ _ wx => ∃ p cp, P = .slice (some ⟨p, 0, none⟩) 16 cp ∧ B1 ≤ p ∧ (Value.slice A k c).ownBlock ≠ some p ∧ PadAt wx p (blk key (ctr F qt)) ∧ wx.ownsRow B1 5 1 (.slice A k c) k ((row (strT key F xs) k).map bv) ∧ wx.ownsRow w.heap.size 5 1 (.slice (some ⟨ga, 0, none⟩) 16 c4) 16 ((row (ctr F (qt + 1)) 16).map bv) ∧ B1 ≤ wx.heap.size ∧ Below w.heap.size w wx)
      case first => as_aux_lemma =>
        by_cases hm : rm = 0
        · have t1 : ((rm : Int) == 0) = true := by rw [hm]; rfl
          have hq15 : (k + 15) / 16 = qt := by have := HRM.out; have := HQT.out; omega
          have hat := HAT.out
          rw [hq15] at hat
          have HAT' := Lib.hid hat
          clear hat hq15 HPAD HAT
          go_wp2_with fail
          refine (refblock_new Ab Ak (some ⟨ga, 0, none⟩) cb ck c4 key (ctr F qt) W0 (HB.out.on HBW.out) (HK.out.on HBW.out) (Rd.of_own HAT'.out)).mono ?_
          rintro e w5 ⟨Ap, cp, rfl, hp, hb5⟩
          obtain ⟨p, rfl⟩ : ∃ g, Ap = some ⟨g, 0, none⟩ := by
            rcases own_cases hp with ⟨_, _, h0⟩ | h
            · omega
            · exact h
          have hpp := pad_own hp
          have hpge := (hp.lt p rfl).1
          have ho5 := own_on HOWN.out hb5
          have ha5 := own_on HAT'.out hb5
          have hB5 : B1 ≤ w5.heap.size := by have := hb5.size; omega
          have hnep : (Value.slice A k c).ownBlock ≠ some p := by
            intro e
            have := (HOWN.out.lt p e).2
            omega
          have HPP := Lib.hid hpp
          have HO5 := Lib.hid ho5
          have HA5 := Lib.hid ha5
          have HB5 := Lib.hid (below_seq HBW.out hb5)
          have hgap : ga < p := by omega
          have hBp : B1 ≤ p := by omega
          have HNEP := Lib.hid hnep
          clear hp hpp ho5 ha5 hb5 hnep hpge HAT' HOWN HBW
          obtain ⟨N, hN⟩ : ∃ N, N = ctr F qt := ⟨_, rfl⟩
          have hcy0 : ∃ N, N = ctr F qt := ⟨_, rfl⟩
          go_wp2_with fail
          go_loopw [13, 14, 15] (fun cv i _ wx => ∃ (q cy : Nat) (f : Nat → UInt8), q ≤ 16 ∧ i = .int .i64 ((q : Int) - 1) ∧ cv = .int .i64 (cy : Int) ∧ Cy N q cy f ∧ wx.ownsRow w.heap.size 5 1 (.slice (some ⟨ga, 0, none⟩) 16 c4) 16 ((row f 16).map bv) ∧ wx.ownsRow B1 5 1 (.slice A k c) k ((row (strT key F xs) k).map bv) ∧ PadAt wx p (blk key (ctr F qt)) ∧ B1 ≤ wx.heap.size ∧ Below w.heap.size w wx) (fun _ i _ _ => (intOf i + 1).toNat)
          case atStart =>
            exact ⟨16, 1, N, by omega, rfl, rfl, cy_first N, by rw [hN]; exact HA5.out, HO5.out, HPP.out, hB5, HB5.out⟩
          case round =>
            obtain ⟨q, cy, f, hq, rfl, rfl, hcy, ha, ho, hpa, hBX, hbw⟩ := hrel
            rcases q with _ | q
            · have he := cy_end hcy
              rw [he, hN, ← HCS.out] at ha
              have HA := Lib.hid ha
              have HO := Lib.hid ho
              have HPA := Lib.hid hpa
              have HBW := Lib.hid hbw
              clear ha ho hpa hbw he hcy
              go_wp2_with fail
              go_meet
              case rel => exact ⟨p, cp, rfl, hBp, HNEP.out, HPA.out, HO.out, HA.out, hBX, HBW.out⟩
            · rw [show (((q + 1 : Nat) : Int) - 1) = (q : Int) from by omega]
              obtain ⟨v, c2, hv, hc2, hcn⟩ := cy_next (show q < 16 by omega) hcy
              have hcl := cy_le hcy
              have hcl2 := cy_le hcn
              obtain ⟨x, hx⟩ : ∃ x, x = f q := ⟨_, rfl⟩
              rw [← hx] at hv hc2
              obtain ⟨m, hm'⟩ : ∃ m, m = x.toNat + cy := ⟨_, rfl⟩
              rw [← hm'] at hv hc2
              have hxl := x.toNat_lt
              have hvl := v.toNat_lt
              have l1 : (q : Int) < 16 := by omega
              have e0 : IntKind.i64.wrap (x.toNat : Int) = (x.toNat : Int) := by rw [IntKind.wrap_i64]; omega
              have e1 : IntKind.i64.wrap ((x.toNat : Int) + (cy : Int)) = (m : Int) := by rw [IntKind.wrap_i64]; omega
              have e2 : (m : Int).tmod 256 = (v.toNat : Int) := tmod_nm (m := 256) hv.symm
              have e3 : IntKind.u8.wrap (v.toNat : Int) = (v.toNat : Int) := wrap_byte v
              have e4 : (m : Int).tdiv 256 = (c2 : Int) := by rw [Int.tdiv_eq_ediv_of_nonneg (by omega)]; omega
              have e6 : IntKind.i64.wrap (c2 : Int) = (c2 : Int) := by rw [IntKind.wrap_i64]; omega
              have c1 := (own_cells ha).1 q (bv x) (by rw [List.getElem?_map, row_at _ (show q < 16 by omega), ← hx]; rfl)
              unfold bv at c1
              have f1 := ha.frozenAt q
              have hst := ha.stored q (.int .u8 (v.toNat : Int))
              have hse : ((row f 16).map bv).set q (.int .u8 (v.toNat : Int)) = (row (fun j => if j = q then v else f j) 16).map bv := by
                rw [← row_set f (show q < 16 by omega) v, List.map_set]; rfl
              rw [hse] at hst
              have ho' := ho.kept hst.2 (.inr fun e => by have := (ho.lt ga e).1; omega)
              have hpa' := hpa.grown hst.2 (fun e => by injection e with e; omega)
              have hbs : Below w.heap.size w (wr.setCell ⟨ga, q, none⟩ (.int .u8 (v.toNat : Int))) := hbw.setCell (ha.lt ga rfl).1 _
              have HBZ := Lib.hid (show B1 ≤ (wr.setCell ⟨ga, q, none⟩ (.int .u8 (v.toNat : Int))).heap.size by have := hst.2.size; omega)
              have HST := Lib.hid hst.1
              have HO := Lib.hid ho'
              have HPA := Lib.hid hpa'
              have HBS := Lib.hid hbs
              have HCN := Lib.hid hcn
              clear hcy hv hc2 hcn hx hm' hst hse ho' hpa' hbs ha ho hpa hbw hxl hvl
              go_wp2_with fail
              go_roundw
              case rel => exact ⟨q, c2, _, by omega, by first | rfl | go_num, rfl, HCN.out, HST.out, HO.out, HPA.out, HBZ.out, HBS.out⟩
              case measure => first | (simp [intOf]; done) | (simp [intOf]; omega)
        · have t1 : ((rm : Int) == 0) = false := by rw [beq_eq_false_iff_ne]; omega
          obtain ⟨p, cp, rfl, hBp, hnep, hpp⟩ := HPAD.out (by have := HRM.out; omega)
          have hq15 : (k + 15) / 16 = qt + 1 := by have := HRM.out; have := HQT.out; omega
          have hat := HAT.out
          rw [hq15] at hat
          rw [← HQT.out] at hpp
          have HAT' := Lib.hid hat
          have HPP := Lib.hid hpp
          have HNEP := Lib.hid hnep
          clear hat hq15 hpp hnep HPAD HAT
          go_wp2_with fail
          go_meet
          case rel => exact ⟨p, cp, rfl, hBp, HNEP.out, HPP.out, HOWN.out, HAT'.out, hBW, HBW.out⟩
      case rest => as_aux_lemma =>
        obtain ⟨p, cp, rfl, hBp, hnep, hpp, hown, hat, hBX, hbw⟩ := hcut
        rename World => wr
        have hxw := HX.out.on hbw
        obtain ⟨bi, oi, rfl⟩ := hxw.addr (by omega)
        obtain ⟨x, hx⟩ : ∃ x, x = at_ xs k := ⟨_, rfl⟩
        obtain ⟨y, hy⟩ : ∃ y, y = blk key (ctr F qt) rm := ⟨_, rfl⟩
        obtain ⟨v, hv⟩ : ∃ u, u = x ^^^ y := ⟨_, rfl⟩
        have ev := xor_nm hv
        have l1 : (k : Int) < (n : Int) := by omega
        have l2 : (rm : Int) < 16 := by omega
        have c1 := hxw.cell0 (j := k) (by rw [hlen]; exact hlt)
        have hxk : xs[k]'(by rw [hlen]; exact hlt) = x := by rw [hx, at_, List.getD_eq_getElem?_getD, List.getElem?_eq_getElem (by rw [hlen]; exact hlt)]; rfl
        rw [hxk] at c1
        have c2 : wr.cell? ⟨p, rm, none⟩ = some (.int .u8 (y.toNat : Int)) := by
          rw [hy]
          exact (show PadAt wr p (blk key (ctr F qt)) from hpp).cell hrm16
        have hrow : (row (strT key F xs) k).map bv ++ [bv v] = (row (strT key F xs) (k + 1)).map bv := by
          rw [row_snoc, List.map_append, HSTR.out k, ← HQT.out, ← HRM.out, hv, hx, hy]; rfl
        have HROW := Lib.hid hrow
        have HOWN' := Lib.hid hown
        have HAT' := Lib.hid hat
        have HBW' := Lib.hid hbw
        have HPP := Lib.hid hpp
        have HNEP := Lib.hid hnep
        clear hx hy hv hrow hown hbw hat hpp hnep hxw hxk HOWN HAT HPAD HBW
        have HOWN := HOWN'
        have HBW := HBW'
        clear HOWN' HBW'
        go_wp2_with fail
        refine wp_region_any (by kernel_rfl) ?_
        change wpAny _ _ _ _ _ _ _ (World.drew _)
        refine wpAny_take (i := 0) (v := .slice A k c) rfl (by kernel_rfl) (by kernel_rfl) (by kernel_rfl) (fun _ _ _ h => h) (Or.inl ⟨by rfl, fun w => by go_simp⟩) ?_
        go_simp
        refine wpAny_take (i := 1) (v := .slice (some ⟨bi, oi, none⟩) n ci) rfl (by kernel_rfl) (by kernel_rfl) (by kernel_rfl) (fun _ _ _ h => h) (Or.inl ⟨by rfl, fun w => by go_simp⟩) ?_
        go_simp
        refine wpAny_take (i := 2) (v := .int .i64 (k : Int)) rfl (by kernel_rfl) (by kernel_rfl) (by kernel_rfl) (fun _ _ _ h => h) (Or.inl ⟨by rfl, fun w => by go_simp⟩) ?_
        go_simp
        refine wpAny_take (i := 3) (v := .pointer (some ⟨bi, oi + k, none⟩)) rfl (by kernel_rfl) (by kernel_rfl) (by kernel_rfl) (fun _ _ _ h => h) (Or.inl ⟨by rfl, fun w => by go_simp⟩) ?_
        go_simp
        refine wpAny_take (i := 5) (v := .slice (some ⟨p, 0, none⟩) 16 cp) rfl (by kernel_rfl) (by kernel_rfl) (by kernel_rfl) (fun _ _ _ h => h) (Or.inl ⟨by rfl, fun w => by go_simp⟩) ?_
        go_simp
        refine wpAny_take (i := 6) (v := .int .i64 (k : Int)) rfl (by kernel_rfl) (by kernel_rfl) (by kernel_rfl) (fun _ _ _ h => h) (Or.inl ⟨by rfl, fun w => by go_simp⟩) ?_
        go_simp
        refine wpAny_take (i := 7) (v := .int .i64 (rm : Int)) rfl (by kernel_rfl) (by kernel_rfl) (by kernel_rfl) (fun _ _ _ h => h) (Or.inl ⟨by rfl, fun w => by go_simp⟩) ?_
        go_simp
        refine wpAny_take (i := 8) (v := .pointer (some ⟨p, rm, none⟩)) rfl (by kernel_rfl) (by kernel_rfl) (by kernel_rfl) (fun _ _ _ h => h) (Or.inl ⟨by rfl, fun w => by go_simp⟩) ?_
        go_simp
        apply two_way
        · intro hboth
          refine wpAny_ready (rs := [4, 9]) (by kernel_rfl) (by simp) ?_
          refine AllReady.cons rfl (fun K hK => ?_) (AllReady.cons rfl (fun K hK => ?_) AllReady.nil)
          · go_simp
            refine hK _ _ ?_
            clear hK K
            refine wpAny_ready (rs := [9]) (by kernel_rfl) (by simp) ?_
            refine AllReady.cons rfl (fun K hK => ?_) AllReady.nil
            go_simp
            refine hK _ _ ?_
            clear hK K
            exact hboth
          · go_simp
            refine hK _ _ ?_
            clear hK K
            refine wpAny_ready (rs := [4]) (by kernel_rfl) (by simp) ?_
            refine AllReady.cons rfl (fun K hK => ?_) AllReady.nil
            go_simp
            refine hK _ _ ?_
            clear hK K
            exact hboth
        refine wpAny_take (i := 10) (v := .int .u8 (v.toNat : Int)) rfl (by kernel_rfl) (by kernel_rfl) (by kernel_rfl) (fun _ _ _ h => h) (Or.inl ⟨by rfl, fun w => by go_simp⟩) ?_
        go_simp
        refine wpAny_ready (rs := [11]) (by kernel_rfl) (by simp) ?_
        refine AllReady.cons rfl (fun K hK => ?_) AllReady.nil
        go_simp
        refine hK _ _ ?_
        clear hK K
        refine wpAny_ready (rs := [12]) (by kernel_rfl) (by simp) ?_
        refine AllReady.cons rfl (fun K hK => ?_) AllReady.nil
        rw [if_pos (by rfl)]
        refine wp_app _ (.tmp 53) (.tmp 64) 22 rfl B1 5 i0 _ 1 Tryd.underlying22 hi hz0 hz1 hz2 rfl _ k _ rfl (own_on HOWN.out (below_drew' (below_of_new _ _))) _ (some ⟨wr.heap.size, 0, none⟩) 1 1 [bv v] rfl (RdB.on (rd_lit' wr (n := 1) (bs := [v]) rfl rfl rfl (by omega)) (below_of_drew ⟨1, rfl⟩ _)) (bv_one [v]) (by omega) (by omega) (by have := HBW.out.size; simp; omega) ?_
        intro v3 w3 hown3 hg3 hat3
        obtain ⟨A2, c2, rfl⟩ := own_form hown3
        try go_simp
        refine hK _ _ ?_
        clear hK K
        refine wpAny_ready (rs := [13]) (by kernel_rfl) (by simp) ?_
        refine AllReady.cons rfl (fun K hK => ?_) AllReady.nil
        go_simp
        refine hK _ _ ?_
        clear hK K
        refine wpAny_done (by kernel_rfl) ?_ _
        go_wp2_with fail
        have hown3' := hown3
        rw [HROW.out] at hown3'
        have hal : Below wr.heap.size wr (wr.alloc (.cells #[.int .u8 (v.toNat : Int)] 5)).drew := below_drew' (below_of_new _ _)
        have hne3 : (Value.slice A2 (k + 1) c2).ownBlock ≠ some p := by
          rcases hat3 with h | h
          · rw [h]; exact HNEP.out
          · rw [h]; intro e; injection e with e; have := HPP.out.lt; simp at e; omega
        have hat' := (own_on HAT'.out hal).kept hg3 (.inr fun e => by have := (HOWN.out.lt ga e.symm).1; omega)
        have hpp' := (HPP.out.below hal).grown hg3 (fun e => HNEP.out e.symm)
        have hb3 : Below w.heap.size w w3 := (below_drew' (below_alloc HBW.out _)).grown hg3 (by have := HBW.out.size; simp; omega) (fun j hj => by have := (HOWN.out.lt j hj).1; omega)
        have hq1 : (k + 1 + 15) / 16 = qt + 1 := by have := HQT.out; omega
        clear hown3 hat3
        refine ⟨⟨k + 1, A2, c2, by omega, by go_num, rfl, hown3', by rw [hq1]; exact hat', fun h => ⟨p, cp, rfl, hBp, hne3, ?_⟩, by have h1 := hal.size; have h2 := hg3.size; omega, hb3⟩, by simp [intOf]; omega⟩
        rw [show (k + 1) / 16 = qt from by have := HQT.out; omega]
        exact hpp'
    · obtain rfl : k = n := by omega
      go_wp2_with fail
      go_ret
      exact ⟨A, c, rfl, by rw [HRES.out]; exact Rd.of_own hown, hbw⟩
end Go.Proofs.YtgebdkbbdabomaaDoor.Aes
