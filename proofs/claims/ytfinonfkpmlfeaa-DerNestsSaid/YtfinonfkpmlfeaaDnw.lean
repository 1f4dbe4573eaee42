/-
  DerNests: the walk.
-/
import Derived.Test.YtfinonfkpmlfeaaDnp
import Derived.Deep.RegionHeld3
namespace Go.Proofs.Ytfinonfkpmlfeaa.Der
open Go.RowKit
open Go.Proofs.Ytfinonfkpmlfeaa.Kit
open Go.Proofs.Ytfinonfkpmlfeaa.Oct
set_option linter.unusedVariables false
attribute [local go_sem ↓] Go.wp_at_zero Go.wp_at_succ

set_option maxRecDepth 100000 in
set_option maxHeartbeats 8000000 in
theorem nests_walk (x : V) (A : Option Addr) (m c : Nat) (A' : Option Addr) (m' c' : Nat) (y : V) (D : Option Addr) (p q : Nat) (D' : Option Addr) (p' q' : Nat) (tag : Int) (w : World)
    (hfx : x.fit) (hlx : lim x) (hx : RdV w w.heap.size x A m c A' m' c') (hfy : y.fit) (hly : lim y) (hy : RdV w w.heap.size y D p q D' p' q') (htag : -9223372036854775808 ≤ tag ∧ tag ≤ 9223372036854775807) :
    Calls Try.prog 6 #[.agg #[.int .i64 x.k, .int .i64 x.t, .int .u64 x.n, .slice A m c, .slice A' m' c'], .agg #[.int .i64 y.k, .int .i64 y.t, .int .u64 y.n, .slice D p q, .slice D' p' q'], .int .i64 tag] w fun e w' => e = .returned (.bool true) ∧ Below w.heap.size w w' := by
  have hb0 : Below w.heap.size w ((w.alloc (.cells #[.int .i64 x.k, .int .i64 x.t, .int .u64 x.n, .slice A m c, .slice A' m' c'] 26)).alloc (.cells #[.int .i64 y.k, .int .i64 y.t, .int .u64 y.n, .slice D p q, .slice D' p' q'] 26)) := (below_of_new _ _).alloc (by simp) _
  have HX0 := Lib.hid (hx.on hb0)
  have HY0 := Lib.hid (hy.on hb0)
  have HFX := Lib.hid hfx
  have HFY := Lib.hid hfy
  have HLX := Lib.hid hlx
  have HLY := Lib.hid hly
  have HB0 := Lib.hid hb0
  clear hfx hlx hx hfy hly hy hb0
  obtain ⟨t, ht, hta⟩ := and15 tag
  go_enter Try.func6, Try.ntmps6
  go_wp2_with fail
  refine (alive2_any _).mono ?_
  rintro e w1 ⟨rfl, hb1⟩
  obtain ⟨hx0, hx1⟩ := boxes hb1
  have hs1 : w.heap.size + 1 < w1.heap.size := by have := hb1.size; simp at this; omega
  have hB1 := below_seq HB0.out hb1
  have HXA := Lib.hid (fun W (h : Below w1.heap.size w1 W) => (h.block w.heap.size (by omega)).trans hx0)
  have HXB := Lib.hid (fun W (h : Below w1.heap.size w1 W) => (h.block (w.heap.size + 1) (by omega)).trans hx1)
  have HVX := Lib.hid (fun W (h : Below w1.heap.size w1 W) => (HX0.out.on hb1).on h)
  have HVY := Lib.hid (fun W (h : Below w1.heap.size w1 W) => (HY0.out.on hb1).on h)
  have hdr1 : Below w1.heap.size w1 w1.drew := below_of_drew ⟨1, rfl⟩ _
  have HTA := Lib.hid hta
  clear hb1 hx0 hx1 HX0 HY0 HB0 hta
  go_wp2_with fail
  refine wp_region_held_drew (S := fun w' => Below w1.heap.size w1 w') (by kernel_rfl) hdr1 (fun hHeld => ?_)
  refine wpAnyH_take (i := 0) (v := .agg #[.int .i64 x.k, .int .i64 x.t, .int .u64 x.n, .slice A m c, .slice A' m' c']) rfl (by kernel_rfl) (by kernel_rfl) (by kernel_rfl) (fun _ _ _ h => h) (Or.inl ⟨by rfl, fun wq hSw => by (obtain ⟨⟨d0, d1, d2, d3, d4⟩, _⟩ := cells5 (HXA.out wq hSw); go_simp)⟩) (by assumption) ?_
  go_simp
  refine wpAnyH_take (i := 3) (v := .agg #[.int .i64 y.k, .int .i64 y.t, .int .u64 y.n, .slice D p q, .slice D' p' q']) rfl (by kernel_rfl) (by kernel_rfl) (by kernel_rfl) (fun _ _ _ h => h) (Or.inl ⟨by rfl, fun wq hSw => by (obtain ⟨⟨d0, d1, d2, d3, d4⟩, _⟩ := cells5 (HXB.out wq hSw); go_simp)⟩) (by assumption) ?_
  go_simp
  refine wpAnyH_ready (rs := [1]) (by kernel_rfl) (by simp) ?_
  refine AllReadyH.cons rfl (fun K hK => ?_) AllReadyH.nil
  (go_simp; go_at_call 10; refine (Plain_new x _ _ _ _ _ _ _ (HVX.out _ hdr1)).mono ?_; rintro r w2 ⟨A2, m2, c2, rfl, hp2, hb2'⟩; have hb2 : Below w1.heap.size w1 w2 := below_seq hdr1 hb2')
  try go_simp
  refine hK.out _ _ hb2 (fun hHeld => ?_)
  clear hK K
  refine wpAnyH_ready (rs := [2]) (by kernel_rfl) (by simp) ?_
  refine AllReadyH.cons rfl (fun K hK => ?_) AllReadyH.nil
  (go_simp; go_at_call 11; refine (Count_new x 2000 _ _ _ _ _ _ _ HLX.out hp2 (by omega) (by omega)).mono ?_; rintro r w3 ⟨r1, rfl, hr1, hrs1, hb3'⟩; have HRS1 := Lib.hid hrs1; have hb3 : Below w1.heap.size w1 w3 := below_seq hb2 hb3'; clear hrs1 hp2 hb2')
  try go_simp
  refine hK.out _ _ hb3 (fun hHeld => ?_)
  clear hK K
  refine wpAnyH_ready (rs := [4]) (by kernel_rfl) (by simp) ?_
  refine AllReadyH.cons rfl (fun K hK => ?_) AllReadyH.nil
  (go_simp; go_at_call 10; refine (Plain_new y _ _ _ _ _ _ _ (HVY.out _ hb3)).mono ?_; rintro r w4 ⟨A4, m4, c4, rfl, hp4, hb4'⟩; have hb4 : Below w1.heap.size w1 w4 := below_seq hb3 hb4')
  try go_simp
  refine hK.out _ _ hb4 (fun hHeld => ?_)
  clear hK K
  refine wpAnyH_ready (rs := [5]) (by kernel_rfl) (by simp) ?_
  refine AllReadyH.cons rfl (fun K hK => ?_) AllReadyH.nil
  (go_simp; go_at_call 11; refine (Count_new y 2000 _ _ _ _ _ _ _ HLY.out hp4 (by omega) (by omega)).mono ?_; rintro r w5 ⟨r2, rfl, hr2, hrs2, hb5'⟩; have HRS2 := Lib.hid hrs2; have hb5 : Below w1.heap.size w1 w5 := below_seq hb4 hb5'; have HADD := Lib.hid (show IntKind.i64.wrap (r1 + r2) = r1 + r2 from IntWalk.i64_in _ (by omega)); clear hrs2 hp4 hb4')
  try go_simp
  refine hK.out _ _ hb5 (fun hHeld => ?_)
  clear hK K
  refine wpAnyH_take (i := 6) (v := .int .i64 (r1 + r2)) rfl (by kernel_rfl) (by kernel_rfl) (by kernel_rfl) (fun _ _ _ h => h) (Or.inl ⟨by rfl, fun wq hSw => by (go_simp; exact HADD.out)⟩) (by assumption) ?_
  go_simp
  refine wpAnyH_take (i := 7) (v := .bool (decide (2000 < r1 + r2))) rfl (by kernel_rfl) (by kernel_rfl) (by kernel_rfl) (fun _ _ _ h => h) (Or.inl ⟨by rfl, fun wq hSw => by go_simp⟩) (by assumption) ?_
  go_simp
  refine wpAnyH_done (by kernel_rfl) ?_ _
  have hB5 := below_seq hB1 hb5
  clear hB1 hb2 hb3 hb4 hb5' hb3'
  by_cases hsum : r1 + r2 ≤ 2000
  · have hszx : x.size ≤ 2000 := by have := HRS1.out (by omega); omega
    have hszy : y.size ≤ 2000 := by have := HRS2.out (by omega); omega
    have hsxy : x.size + y.size < 131072 := by omega
    have g1 : decide (2000 < r1 + r2) = false := by simp; omega
    have hta := HTA.out
    obtain ⟨T, hT⟩ : ∃ T : Int, T = 1 + (t : Int) := ⟨_, rfl⟩
    have hT0 : 0 ≤ T ∧ T ≤ 30 := by omega
    have HT := Lib.hid hT
    clear hT
    obtain ⟨⟨d0, d1, d2, d3, d4⟩, _⟩ := cells5 (HXA.out _ hb5)
    go_wp2_with fail
    rw [← HT.out]
    clear hta
    refine (Write_new x _ _ _ _ _ _ _ HFX.out (HVX.out _ hb5)).mono ?_
    rintro e w6 ⟨B6, c6, rfl, hn6⟩
    have hb16 := below_seq hb5 hn6.bl
    have HR6 := Lib.hid hn6.rd
    have hB6 := below_seq hB5 hn6.bl
    clear d0 d1 d2 d3 d4 hB5 hn6 hb5 g1
    obtain ⟨⟨d0, d1, d2, d3, d4⟩, _⟩ := cells5 (HXB.out _ hb16)
    go_wp2_with fail
    refine (Write_new y _ _ _ _ _ _ _ HFY.out (HVY.out _ hb16)).mono ?_
    rintro e w7 ⟨B7, c7, rfl, hn7⟩
    have hb17 := below_seq hb16 hn7.bl
    have hB7 := below_seq hB6 hn7.bl
    have HR67 := Lib.hid (HR6.out.on hn7.bl)
    have HR7 := Lib.hid hn7.rd
    clear d0 d1 d2 d3 d4 hb16 hB6 hn7 HR6
    obtain ⟨⟨d0, d1, d2, d3, d4⟩, _⟩ := cells5 (HXA.out _ hb17)
    obtain ⟨⟨f0, f1, f2, f3, f4⟩, _⟩ := cells5 (HXB.out _ hb17)
    go_wp2_with fail
    refine (Seq_N T x y _ _ (two_rd (HVX.out _ hb17) (HVY.out _ hb17) 26) hsxy).mono ?_
    rintro e w8 ⟨A8, c8, rfl, hv8, hb8⟩
    have hb78 : Below w7.heap.size w7 w8 := below_seq (below_of_new _ _) hb8
    clear d0 d1 d2 d3 d4 f0 f1 f2 f3 f4 hb8
    go_wp2_with fail
    refine (Write_N T x y A8 c8 _ (nst_fit hT0.1 hT0.2 HFX.out HFY.out) hv8).mono ?_
    rintro e w9 ⟨B9, c9, rfl, hn9⟩
    have hb79 := below_seq hb78 hn9.bl
    have hb19 := below_seq hb17 hb79
    have hB9 := below_seq hB7 hb79
    have HR9 := Lib.hid hn9.rd
    have HR69 := Lib.hid (HR67.out.on hb79)
    have HR79 := Lib.hid (HR7.out.on hb79)
    clear hv8 hb78 hn9 hb79 hb17 hB7 HR67 HR7
    obtain ⟨⟨d0, d1, d2, d3, d4⟩, _⟩ := cells5 (HXA.out _ hb19)
    obtain ⟨⟨f0, f1, f2, f3, f4⟩, _⟩ := cells5 (HXB.out _ hb19)
    go_wp2_with fail
    refine (Seq_N 0 x y _ _ (two_rd (HVX.out _ hb19) (HVY.out _ hb19) 26) hsxy).mono ?_
    rintro e w10 ⟨A10, c10, rfl, hv10, hb10⟩
    have hb910 : Below w9.heap.size w9 w10 := below_seq (below_of_new _ _) hb10
    clear d0 d1 d2 d3 d4 f0 f1 f2 f3 f4 hb10
    go_wp2_with fail
    refine (Write_N 0 x y A10 c10 _ (nst_fit (by omega) (by omega) HFX.out HFY.out) hv10).mono ?_
    rintro e w11 ⟨B11, c11, rfl, hn11⟩
    have hb911 := below_seq hb910 hn11.bl
    have hb1_11 := below_seq hb19 hb911
    have hB11 := below_seq hB9 hb911
    have HR11 := Lib.hid hn11.rd
    have HR9_11 := Lib.hid (HR9.out.on hb911)
    have HR6_11 := Lib.hid (HR69.out.on hb911)
    have HR7_11 := Lib.hid (HR79.out.on hb911)
    rw [← nst_wrE (x := x) (y := y) hT0.1 hT0.2 (by omega) (by omega)]
    clear hv10 hb910 hn11 hb911 hb19 hB9 HR9 HR69 HR79
    by_cases hE : wrE (nst T x y) = 0
    · obtain ⟨E1, E2⟩ := nst_parts hT0.1 hT0.2 hE
      have hE0 : wrE (nst 0 x y) = 0 := by rw [nst_wrE (by omega) (by omega) hT0.1 hT0.2]; exact hE
      have hRN := Read_N hT0.1 hT0.2 HFX.out HFY.out hE B9 c9 w11 HR9_11.out
      have hbz := (wr_ok hE).2.2
      have hlz := (wr_ok hE).2.1
      have hbw := (wr_ok hE0).2.2
      have hbx := (wr_ok E1).2.2
      have hby := (wr_ok E2).2.2
      obtain ⟨tl, htl⟩ : ∃ v, v = lenB (x.enc ++ y.enc).length ++ (x.enc ++ y.enc) := ⟨_, rfl⟩
      have hz := nst_enc T x y
      have hw := nst_enc 0 x y
      rw [← htl] at hz hw
      rw [hz] at hbz
      rw [hw] at hbw
      rw [hE, E1, E2]
      obtain ⟨zb, hzb⟩ : ∃ v, v = wrB (nst T x y) := ⟨_, rfl⟩
      obtain ⟨wb, hwb⟩ : ∃ v, v = wrB (nst 0 x y) := ⟨_, rfl⟩
      obtain ⟨ea, hea⟩ : ∃ v, v = wrB x := ⟨_, rfl⟩
      obtain ⟨eb, heb⟩ : ∃ v, v = wrB y := ⟨_, rfl⟩
      rw [← hzb] at HR9_11 hRN hbz
      rw [← hwb] at HR11 hbw
      rw [← hea] at HR6_11 hbx
      rw [← heb] at HR7_11 hby
      rw [← hzb, ← hwb, ← hea, ← heb]
      obtain ⟨n, hn⟩ : ∃ v, v = zb.length := ⟨_, rfl⟩
      obtain ⟨la, hla⟩ : ∃ v, v = ea.length := ⟨_, rfl⟩
      obtain ⟨lb, hlb⟩ : ∃ v, v = eb.length := ⟨_, rfl⟩
      have hnw : wb.length = n := by rw [hn, hbz, hbw]; rfl
      have htle : tl = lenB (la + lb) ++ (ea ++ eb) := by rw [htl, ← hbx, ← hby, List.length_append, hla, hlb]
      have hlenb := lenB_pos (la + lb)
      have h2x : 2 ≤ la := by have := x.enc_two; rw [hla, hbx]; omega
      have hnn : n = (lenB (la + lb)).length + 1 + la + lb := by
        rw [hn, hbz, htle]; simp [hla, hlb]; omega
      have hn4 : n ≤ 4096 := by
        have e : n = (nst T x y).enc.length := by rw [hn, hbz, hz]
        omega
      rw [← hn] at HR9_11 hRN
      rw [hnw] at HR11
      rw [← hla] at HR6_11
      rw [← hlb] at HR7_11
      rw [hnw, ← hn, ← hla, ← hlb, show ((0 : Nat) : Int) = 0 from rfl]
      obtain ⟨b9, o9, rfl⟩ := HR9_11.out.addr (by omega)
      obtain ⟨b11, o11, rfl⟩ := HR11.out.addr (by omega)
      have hr9 := HR9_11.out.room
      have hr11 := HR11.out.room
      obtain ⟨K0, hK0⟩ : ∃ v, v = n - (la + lb) := ⟨_, rfl⟩
      have hK0' : K0 + (la + lb) = n ∧ 1 ≤ K0 := by omega
      have hdz : zb.drop K0 = ea ++ eb := by
        have e : K0 = (lenB (la + lb)).length + 1 := by omega
        rw [hbz, htle, e, List.drop_succ_cons, List.drop_left]
      have hd1 : zb.drop 1 = tl := by rw [hbz]; rfl
      have hdw : wb.drop 1 = tl := by rw [hbw]; rfl
      have hz0 : ∀ (hi : 0 < zb.length), zb[0] = headB 2 T := fun hi => by simp only [hbz, List.getElem_cons_zero]
      have hw0 : ∀ (hi : 0 < wb.length), wb[0] = headB 2 0 := fun hi => by simp only [hbw, List.getElem_cons_zero]
      have HRN := Lib.hid hRN
      have HDZ := Lib.hid hdz
      have HD1 := Lib.hid hd1
      have HDW := Lib.hid hdw
      have HZ0 := Lib.hid hz0
      have HW0 := Lib.hid hw0
      have HN := Lib.hid hn
      have HNW := Lib.hid hnw
      have HK0 := Lib.hid hK0
      have hT0a := hT0.1
      have hT0b := hT0.2
      have HLA := Lib.hid hla
      have HLB := Lib.hid hlb
      obtain ⟨i0, hi, hiz0, hiz1, hiz2⟩ := info_parts info5
      clear hE E1 E2 hE0 hRN hbz hlz hbw hbx hby htl hz hw hzb hwb hea heb hn hla hlb hnw htle hlenb hnn hdz hd1 hdw hz0 hw0 hK0
      go_wp2_with fail
      refine HRN.out.mono ?_
      rintro e w12 ⟨Av, mv, cv, bb, ov, lc, rfl, hbb, hlc, ⟨A1, m1, c1, A1', m1', c1', x0, x1, x2, x3, x4, hvx⟩, ⟨A3, m3, c3, A3', m3', c3', y0, y1, y2, y3, y4, hvy⟩, hb12⟩
      obtain ⟨W, hW⟩ : ∃ W, W = w12.alloc (.cells #[.int .i64 2, .int .i64 T, .int .u64 0, .slice Av mv cv, .slice (some ⟨bb, ov, none⟩) 2 lc] 26) := ⟨_, rfl⟩
      have hbxW : Below w12.heap.size w12 W := by rw [hW]; exact below_of_new _ _
      have hxv : W.heap[w12.heap.size]? = _ := (congrArg (fun W : World => W.heap[w12.heap.size]?) hW).trans (heap_alloc_new w12 _)
      have hsv : w12.heap.size < W.heap.size := by rw [hW]; simp
      have hb11W := below_seq hb12 hbxW
      have hb1W := below_seq hb1_11 hb11W
      have HBW := Lib.hid (below_seq hB11 hb11W)
      have HXV := Lib.hid (fun Z (h : Below W.heap.size W Z) => (h.block _ hsv).trans hxv)
      have HEX := Lib.hid (show ∀ Z, Below W.heap.size W Z → Z.cell? ⟨bb, ov, none⟩ = some (.int .i64 x.k) ∧ Z.cell? ⟨bb, ov + 1, none⟩ = some (.int .i64 x.t) ∧ Z.cell? ⟨bb, ov + 2, none⟩ = some (.int .u64 x.n) ∧ Z.cell? ⟨bb, ov + 3, none⟩ = some (.slice A1 m1 c1) ∧ Z.cell? ⟨bb, ov + 4, none⟩ = some (.slice A1' m1' c1') from fun Z h => by
        have hh := below_seq hbxW h
        exact ⟨(hh.cell (p := ⟨bb, ov, none⟩) hbb).trans x0, (hh.cell (p := ⟨bb, ov + 1, none⟩) hbb).trans x1, (hh.cell (p := ⟨bb, ov + 2, none⟩) hbb).trans x2, (hh.cell (p := ⟨bb, ov + 3, none⟩) hbb).trans x3, (hh.cell (p := ⟨bb, ov + 4, none⟩) hbb).trans x4⟩)
      have HEY := Lib.hid (show ∀ Z, Below W.heap.size W Z → Z.cell? ⟨bb, ov + 5, none⟩ = some (.int .i64 y.k) ∧ Z.cell? ⟨bb, ov + 5 + 1, none⟩ = some (.int .i64 y.t) ∧ Z.cell? ⟨bb, ov + 5 + 2, none⟩ = some (.int .u64 y.n) ∧ Z.cell? ⟨bb, ov + 5 + 3, none⟩ = some (.slice A3 m3 c3) ∧ Z.cell? ⟨bb, ov + 5 + 4, none⟩ = some (.slice A3' m3' c3') from fun Z h => by
        have hh := below_seq hbxW h
        exact ⟨(hh.cell (p := ⟨bb, ov + 5, none⟩) hbb).trans y0, (hh.cell (p := ⟨bb, ov + 6, none⟩) hbb).trans y1, (hh.cell (p := ⟨bb, ov + 7, none⟩) hbb).trans y2, (hh.cell (p := ⟨bb, ov + 8, none⟩) hbb).trans y3, (hh.cell (p := ⟨bb, ov + 9, none⟩) hbb).trans y4⟩)
      have HV1 := Lib.hid (fun Z (h : Below W.heap.size W Z) => hvx.on (below_seq hbxW h))
      have HV3 := Lib.hid (fun Z (h : Below W.heap.size W Z) => hvy.on (below_seq hbxW h))
      have HXAW := Lib.hid (fun Z (h : Below W.heap.size W Z) => HXA.out Z (below_seq hb1W h))
      have HXBW := Lib.hid (fun Z (h : Below W.heap.size W Z) => HXB.out Z (below_seq hb1W h))
      have HVXW := Lib.hid (fun Z (h : Below W.heap.size W Z) => HVX.out Z (below_seq hb1W h))
      have HVYW := Lib.hid (fun Z (h : Below W.heap.size W Z) => HVY.out Z (below_seq hb1W h))
      have HRZ := Lib.hid (fun Z (h : Below W.heap.size W Z) => HR9_11.out.on (below_seq hb11W h))
      have HRW := Lib.hid (fun Z (h : Below W.heap.size W Z) => HR11.out.on (below_seq hb11W h))
      have HRA := Lib.hid (fun Z (h : Below W.heap.size W Z) => HR6_11.out.on (below_seq hb11W h))
      have HRB := Lib.hid (fun Z (h : Below W.heap.size W Z) => HR7_11.out.on (below_seq hb11W h))
      have hdrW : Below W.heap.size W W.drew := below_of_drew ⟨1, rfl⟩ _
      have HW := Lib.hid hW
      have hszx' : x.size ≤ 100000 := by omega
      have hszy' : y.size ≤ 100000 := by omega
      clear x0 x1 x2 x3 x4 y0 y1 y2 y3 y4 hvx hvy hb12 hbxW hxv hsv hb11W hb1W hbb hW HRN HR9_11 HR11 HR6_11 HR7_11
      go_wp2_with fail
      rw [← HW.out]
      refine wp_region_held_drew (S := fun w' => Below W.heap.size W w') (by kernel_rfl) hdrW (fun hHeld => ?_)
      refine wpAnyH_take (i := 0) (v := .int .i64 0) rfl (by kernel_rfl) (by kernel_rfl) (by kernel_rfl) (fun _ _ _ h => h) (Or.inl ⟨by rfl, fun wq hSw => by go_simp⟩) (by assumption) ?_
      go_simp
      refine wpAnyH_take (i := 1) (v := .bool false) rfl (by kernel_rfl) (by kernel_rfl) (by kernel_rfl) (fun _ _ _ h => h) (Or.inl ⟨by rfl, fun wq hSw => by go_simp⟩) (by assumption) ?_
      go_simp
      refine wpAnyH_take (i := 2) (v := .bool false) rfl (by kernel_rfl) (by kernel_rfl) (by kernel_rfl) (fun _ _ _ h => h) (Or.inl ⟨by rfl, fun wq hSw => by go_simp⟩) (by assumption) ?_
      go_simp
      refine wpAnyH_take (i := 3) (v := .int .i64 0) rfl (by kernel_rfl) (by kernel_rfl) (by kernel_rfl) (fun _ _ _ h => h) (Or.inl ⟨by rfl, fun wq hSw => by go_simp⟩) (by assumption) ?_
      go_simp
      refine wpAnyH_take (i := 4) (v := .bool false) rfl (by kernel_rfl) (by kernel_rfl) (by kernel_rfl) (fun _ _ _ h => h) (Or.inl ⟨by rfl, fun wq hSw => by go_simp⟩) (by assumption) ?_
      go_simp
      refine wpAnyH_take (i := 5) (v := .bool false) rfl (by kernel_rfl) (by kernel_rfl) (by kernel_rfl) (fun _ _ _ h => h) (Or.inl ⟨by rfl, fun wq hSw => by go_simp⟩) (by assumption) ?_
      go_simp
      refine wpAnyH_take (i := 6) (v := .bool false) rfl (by kernel_rfl) (by kernel_rfl) (by kernel_rfl) (fun _ _ _ h => h) (Or.inl ⟨by rfl, fun wq hSw => by go_simp⟩) (by assumption) ?_
      go_simp
      refine wpAnyH_take (i := 7) (v := .int .i64 0) rfl (by kernel_rfl) (by kernel_rfl) (by kernel_rfl) (fun _ _ _ h => h) (Or.inl ⟨by rfl, fun wq hSw => by go_simp⟩) (by assumption) ?_
      go_simp
      refine wpAnyH_take (i := 8) (v := .bool false) rfl (by kernel_rfl) (by kernel_rfl) (by kernel_rfl) (fun _ _ _ h => h) (Or.inl ⟨by rfl, fun wq hSw => by go_simp⟩) (by assumption) ?_
      go_simp
      refine wpAnyH_take (i := 9) (v := .bool false) rfl (by kernel_rfl) (by kernel_rfl) (by kernel_rfl) (fun _ _ _ h => h) (Or.inl ⟨by rfl, fun wq hSw => by go_simp⟩) (by assumption) ?_
      go_simp
      refine wpAnyH_take (i := 10) (v := .bool false) rfl (by kernel_rfl) (by kernel_rfl) (by kernel_rfl) (fun _ _ _ h => h) (Or.inl ⟨by rfl, fun wq hSw => by go_simp⟩) (by assumption) ?_
      go_simp
      refine wpAnyH_take (i := 11) (v := .int .i64 0) rfl (by kernel_rfl) (by kernel_rfl) (by kernel_rfl) (fun _ _ _ h => h) (Or.inl ⟨by rfl, fun wq hSw => by go_simp⟩) (by assumption) ?_
      go_simp
      refine wpAnyH_take (i := 12) (v := .bool false) rfl (by kernel_rfl) (by kernel_rfl) (by kernel_rfl) (fun _ _ _ h => h) (Or.inl ⟨by rfl, fun wq hSw => by go_simp⟩) (by assumption) ?_
      go_simp
      refine wpAnyH_take (i := 13) (v := .bool false) rfl (by kernel_rfl) (by kernel_rfl) (by kernel_rfl) (fun _ _ _ h => h) (Or.inl ⟨by rfl, fun wq hSw => by go_simp⟩) (by assumption) ?_
      go_simp
      refine wpAnyH_take (i := 14) (v := .bool false) rfl (by kernel_rfl) (by kernel_rfl) (by kernel_rfl) (fun _ _ _ h => h) (Or.inl ⟨by rfl, fun wq hSw => by go_simp⟩) (by assumption) ?_
      go_simp
      refine wpAnyH_take (i := 15) (v := .pointer (some ⟨w12.heap.size, 4, none⟩)) rfl (by kernel_rfl) (by kernel_rfl) (by kernel_rfl) (fun _ _ _ h => h) (Or.inl ⟨by rfl, fun wq hSw => by go_simp⟩) (by assumption) ?_
      go_simp
      refine wpAnyH_take (i := 16) (v := .slice (some ⟨bb, ov, none⟩) 2 lc) rfl (by kernel_rfl) (by kernel_rfl) (by kernel_rfl) (fun _ _ _ h => h) (Or.inl ⟨by rfl, fun wq hSw => by (obtain ⟨⟨d0, d1, d2, d3, d4⟩, _⟩ := cells5 (HXV.out wq hSw); go_simp)⟩) (by assumption) ?_
      go_simp
      refine wpAnyH_take (i := 17) (v := .int .i64 2) rfl (by kernel_rfl) (by kernel_rfl) (by kernel_rfl) (fun _ _ _ h => h) (Or.inl ⟨by rfl, fun wq hSw => by go_simp⟩) (by assumption) ?_
      go_simp
      refine wpAnyH_take (i := 18) (v := .bool false) rfl (by kernel_rfl) (by kernel_rfl) (by kernel_rfl) (fun _ _ _ h => h) (Or.inl ⟨by rfl, fun wq hSw => by go_simp⟩) (by assumption) ?_
      go_simp
      refine wpAnyH_take (i := 19) (v := .bool false) rfl (by kernel_rfl) (by kernel_rfl) (by kernel_rfl) (fun _ _ _ h => h) (Or.inl ⟨by rfl, fun wq hSw => by go_simp⟩) (by assumption) ?_
      go_simp
      refine wpAnyH_take (i := 20) (v := .bool false) rfl (by kernel_rfl) (by kernel_rfl) (by kernel_rfl) (fun _ _ _ h => h) (Or.inl ⟨by rfl, fun wq hSw => by go_simp⟩) (by assumption) ?_
      go_simp
      refine wpAnyH_take (i := 21) (v := .pointer (some ⟨w12.heap.size, 4, none⟩)) rfl (by kernel_rfl) (by kernel_rfl) (by kernel_rfl) (fun _ _ _ h => h) (Or.inl ⟨by rfl, fun wq hSw => by go_simp⟩) (by assumption) ?_
      go_simp
      refine wpAnyH_take (i := 22) (v := .slice (some ⟨bb, ov, none⟩) 2 lc) rfl (by kernel_rfl) (by kernel_rfl) (by kernel_rfl) (fun _ _ _ h => h) (Or.inl ⟨by rfl, fun wq hSw => by (obtain ⟨⟨d0, d1, d2, d3, d4⟩, _⟩ := cells5 (HXV.out wq hSw); go_simp)⟩) (by assumption) ?_
      go_simp
      refine wpAnyH_take (i := 23) (v := .pointer (some ⟨bb, ov, none⟩)) rfl (by kernel_rfl) (by kernel_rfl) (by kernel_rfl) (fun _ _ _ h => h) (Or.inl ⟨by rfl, fun wq hSw => by go_simp⟩) (by assumption) ?_
      go_simp
      refine wpAnyH_take (i := 24) (v := .agg #[.int .i64 x.k, .int .i64 x.t, .int .u64 x.n, .slice A1 m1 c1, .slice A1' m1' c1']) rfl (by kernel_rfl) (by kernel_rfl) (by kernel_rfl) (fun _ _ _ h => h) (Or.inl ⟨by rfl, fun wq hSw => by (obtain ⟨d0, d1, d2, d3, d4⟩ := HEX.out wq hSw; go_simp)⟩) (by assumption) ?_
      go_simp
      refine wpAnyH_take (i := 25) (v := .agg #[.int .i64 x.k, .int .i64 x.t, .int .u64 x.n, .slice A m c, .slice A' m' c']) rfl (by kernel_rfl) (by kernel_rfl) (by kernel_rfl) (fun _ _ _ h => h) (Or.inl ⟨by rfl, fun wq hSw => by (obtain ⟨⟨d0, d1, d2, d3, d4⟩, _⟩ := cells5 (HXAW.out wq hSw); go_simp)⟩) (by assumption) ?_
      go_simp
      refine wpAnyH_ready (rs := [26]) (by kernel_rfl) (by simp) ?_
      refine AllReadyH.cons rfl (fun K hK => ?_) AllReadyH.nil
      (go_simp; go_at_call 18; refine (Same_new x x _ _ _ _ _ _ _ _ _ _ _ _ _ hszx' (HV1.out _ hdrW) (HVXW.out _ hdrW)).mono ?_; rintro r3 w20 ⟨rfl, hb20'⟩; rw [show x.same x = true from V.same_self x]; have hb20 : Below W.heap.size W w20 := below_seq hdrW hb20')
      try go_simp
      refine hK.out _ _ hb20 (fun hHeld => ?_)
      clear hK K
      refine wpAnyH_take (i := 27) (v := .bool false) rfl (by kernel_rfl) (by kernel_rfl) (by kernel_rfl) (fun _ _ _ h => h) (Or.inl ⟨by rfl, fun wq hSw => by go_simp⟩) (by assumption) ?_
      go_simp
      refine wpAnyH_take (i := 28) (v := .bool false) rfl (by kernel_rfl) (by kernel_rfl) (by kernel_rfl) (fun _ _ _ h => h) (Or.inl ⟨by rfl, fun wq hSw => by go_simp⟩) (by assumption) ?_
      go_simp
      refine wpAnyH_take (i := 29) (v := .bool false) rfl (by kernel_rfl) (by kernel_rfl) (by kernel_rfl) (fun _ _ _ h => h) (Or.inl ⟨by rfl, fun wq hSw => by go_simp⟩) (by assumption) ?_
      go_simp
      refine wpAnyH_take (i := 30) (v := .pointer (some ⟨w12.heap.size, 4, none⟩)) rfl (by kernel_rfl) (by kernel_rfl) (by kernel_rfl) (fun _ _ _ h => h) (Or.inl ⟨by rfl, fun wq hSw => by go_simp⟩) (by assumption) ?_
      go_simp
      refine wpAnyH_take (i := 31) (v := .slice (some ⟨bb, ov, none⟩) 2 lc) rfl (by kernel_rfl) (by kernel_rfl) (by kernel_rfl) (fun _ _ _ h => h) (Or.inl ⟨by rfl, fun wq hSw => by (obtain ⟨⟨d0, d1, d2, d3, d4⟩, _⟩ := cells5 (HXV.out wq hSw); go_simp)⟩) (by assumption) ?_
      go_simp
      refine wpAnyH_take (i := 32) (v := .pointer (some ⟨bb, ov + 5, none⟩)) rfl (by kernel_rfl) (by kernel_rfl) (by kernel_rfl) (fun _ _ _ h => h) (Or.inl ⟨by rfl, fun wq hSw => by go_simp⟩) (by assumption) ?_
      go_simp
      refine wpAnyH_take (i := 33) (v := .agg #[.int .i64 y.k, .int .i64 y.t, .int .u64 y.n, .slice A3 m3 c3, .slice A3' m3' c3']) rfl (by kernel_rfl) (by kernel_rfl) (by kernel_rfl) (fun _ _ _ h => h) (Or.inl ⟨by rfl, fun wq hSw => by (obtain ⟨d0, d1, d2, d3, d4⟩ := HEY.out wq hSw; go_simp)⟩) (by assumption) ?_
      go_simp
      refine wpAnyH_take (i := 34) (v := .agg #[.int .i64 y.k, .int .i64 y.t, .int .u64 y.n, .slice D p q, .slice D' p' q']) rfl (by kernel_rfl) (by kernel_rfl) (by kernel_rfl) (fun _ _ _ h => h) (Or.inl ⟨by rfl, fun wq hSw => by (obtain ⟨⟨d0, d1, d2, d3, d4⟩, _⟩ := cells5 (HXBW.out wq hSw); go_simp)⟩) (by assumption) ?_
      go_simp
      refine wpAnyH_ready (rs := [35]) (by kernel_rfl) (by simp) ?_
      refine AllReadyH.cons rfl (fun K hK => ?_) AllReadyH.nil
      (go_simp; go_at_call 18; refine (Same_new y y _ _ _ _ _ _ _ _ _ _ _ _ _ hszy' (HV3.out _ hb20) (HVYW.out _ hb20)).mono ?_; rintro r4 w21 ⟨rfl, hb21'⟩; rw [show y.same y = true from V.same_self y]; have hb21 : Below W.heap.size W w21 := below_seq hb20 hb21')
      try go_simp
      refine hK.out _ _ hb21 (fun hHeld => ?_)
      clear hK K
      refine wpAnyH_take (i := 36) (v := .bool false) rfl (by kernel_rfl) (by kernel_rfl) (by kernel_rfl) (fun _ _ _ h => h) (Or.inl ⟨by rfl, fun wq hSw => by go_simp⟩) (by assumption) ?_
      go_simp
      refine wpAnyH_take (i := 37) (v := .bool false) rfl (by kernel_rfl) (by kernel_rfl) (by kernel_rfl) (fun _ _ _ h => h) (Or.inl ⟨by rfl, fun wq hSw => by go_simp⟩) (by assumption) ?_
      go_simp
      refine wpAnyH_take (i := 38) (v := .bool false) rfl (by kernel_rfl) (by kernel_rfl) (by kernel_rfl) (fun _ _ _ h => h) (Or.inl ⟨by rfl, fun wq hSw => by go_simp⟩) (by assumption) ?_
      go_simp
      refine wpAnyH_take (i := 39) (v := .pointer (some ⟨w12.heap.size, 1, none⟩)) rfl (by kernel_rfl) (by kernel_rfl) (by kernel_rfl) (fun _ _ _ h => h) (Or.inl ⟨by rfl, fun wq hSw => by go_simp⟩) (by assumption) ?_
      go_simp
      refine wpAnyH_take (i := 40) (v := .int .i64 T) rfl (by kernel_rfl) (by kernel_rfl) (by kernel_rfl) (fun _ _ _ h => h) (Or.inl ⟨by rfl, fun wq hSw => by (obtain ⟨⟨d0, d1, d2, d3, d4⟩, _⟩ := cells5 (HXV.out wq hSw); go_simp)⟩) (by assumption) ?_
      go_simp
      refine wpAnyH_take (i := 41) (v := .int .i64 T) rfl (by kernel_rfl) (by kernel_rfl) (by kernel_rfl) (fun _ _ _ h => h) (Or.inl ⟨by rfl, fun wq hSw => by go_simp⟩) (by assumption) ?_
      go_simp
      refine wpAnyH_take (i := 42) (v := .bool false) rfl (by kernel_rfl) (by kernel_rfl) (by kernel_rfl) (fun _ _ _ h => h) (Or.inl ⟨by rfl, fun wq hSw => by go_simp⟩) (by assumption) ?_
      go_simp
      refine wpAnyH_take (i := 43) (v := .bool false) rfl (by kernel_rfl) (by kernel_rfl) (by kernel_rfl) (fun _ _ _ h => h) (Or.inl ⟨by rfl, fun wq hSw => by go_simp⟩) (by assumption) ?_
      go_simp
      refine wpAnyH_take (i := 44) (v := .bool false) rfl (by kernel_rfl) (by kernel_rfl) (by kernel_rfl) (fun _ _ _ h => h) (Or.inl ⟨by rfl, fun wq hSw => by go_simp⟩) (by assumption) ?_
      go_simp
      refine wpAnyH_take (i := 45) (v := .slice (some ⟨b9, o9, none⟩) n c9) rfl (by kernel_rfl) (by kernel_rfl) (by kernel_rfl) (fun _ _ _ h => h) (Or.inl ⟨by rfl, fun wq hSw => by go_simp⟩) (by assumption) ?_
      go_simp
      refine wpAnyH_take (i := 46) (v := .int .i64 n) rfl (by kernel_rfl) (by kernel_rfl) (by kernel_rfl) (fun _ _ _ h => h) (Or.inl ⟨by rfl, fun wq hSw => by go_simp⟩) (by assumption) ?_
      go_simp
      refine wpAnyH_take (i := 47) (v := .slice (some ⟨b11, o11, none⟩) n c11) rfl (by kernel_rfl) (by kernel_rfl) (by kernel_rfl) (fun _ _ _ h => h) (Or.inl ⟨by rfl, fun wq hSw => by go_simp⟩) (by assumption) ?_
      go_simp
      refine wpAnyH_take (i := 48) (v := .int .i64 n) rfl (by kernel_rfl) (by kernel_rfl) (by kernel_rfl) (fun _ _ _ h => h) (Or.inl ⟨by rfl, fun wq hSw => by go_simp⟩) (by assumption) ?_
      go_simp
      refine wpAnyH_take (i := 49) (v := .bool false) rfl (by kernel_rfl) (by kernel_rfl) (by kernel_rfl) (fun _ _ _ h => h) (Or.inl ⟨by rfl, fun wq hSw => by go_simp⟩) (by assumption) ?_
      go_simp
      refine wpAnyH_take (i := 50) (v := .bool false) rfl (by kernel_rfl) (by kernel_rfl) (by kernel_rfl) (fun _ _ _ h => h) (Or.inl ⟨by rfl, fun wq hSw => by go_simp⟩) (by assumption) ?_
      go_simp
      refine wpAnyH_done (by kernel_rfl) ?_ _
      have hB21 := below_seq HBW.out hb21
      have HOWN0 := Lib.hid (show (w21.alloc (.cells #[] 5)).ownsRow w21.heap.size 5 1 (.slice (some ⟨w21.heap.size, 0, none⟩) 0 0) 0 [] from own_new w21 (n := 0) (e := 5) (arr := #[]) (Nat.le_refl _) rfl (by omega))
      have HRA1 := Lib.hid ((HRA.out _ hb21).lit (.cells #[] 5))
      have hla4 : la + lb ≤ 4096 := by omega
      clear hb20 hb20' hb21' hHeld
      go_wp2_with (first
        | (at_builtin; go_loud (refine wpList_app _ rfl (.tmp 124) (.tmp 125) 23 rfl w21.heap.size 5 i0 _ 1 Try.underlying23 hi hiz0 hiz1 hiz2 rfl _ 0 _ (by rfl) HOWN0.out _ B6 la c6 _ (by rfl) HRA1.out (bv_one _) (by omega) (by omega) (by simp) ?_); intro A22 c22 w22 hown22 hg22 hat22; rw [Nat.zero_add] at hown22 ⊢; rw [List.nil_append] at hown22; have HOWN22 := Lib.hid hown22; have hb2122 : Below w21.heap.size w21 w22 := below_lit (Below.refl _ _) hg22; have HB2122 := Lib.hid hb2122; have HRB22 := Lib.hid ((HRB.out _ hb21).on hb2122); have hs22 := hb2122.size; clear hg22 hat22 hown22 hb2122)
        | (at_builtin; go_loud (refine wpList_app _ rfl (.tmp 126) (.tmp 127) 23 rfl w21.heap.size 5 i0 _ 1 Try.underlying23 hi hiz0 hiz1 hiz2 rfl _ la _ (by rfl) HOWN22.out _ B7 lb c7 _ (by rfl) HRB22.out (bv_one _) (by omega) (by omega) hs22 ?_); intro A23 c23 w23 hown23 hg23 hat23))
      have hall : RdB w23 w23.heap.size A23 (la + lb) c23 (ea ++ eb) := by
        have := Rd.of_own hown23
        rw [← List.map_append] at this
        exact this
      have hb2223 : Below w21.heap.size w21 w23 := HB2122.out.grown hg23 hs22 (fun k hk => (HOWN22.out.lt k hk).1)
      have hbW23 := below_seq hb21 hb2223
      have HB23 := Lib.hid (below_seq hB21 hb2223)
      have HALL := Lib.hid (fun Z (h : Below w23.heap.size w23 Z) => hall.on h)
      have hdr23 : Below w23.heap.size w23 w23.drew := below_of_drew ⟨1, rfl⟩ _
      have HRZ23 := Lib.hid (fun Z (h : Below w23.heap.size w23 Z) => HRZ.out Z (below_seq hbW23 h))
      have HRW23 := Lib.hid (fun Z (h : Below w23.heap.size w23 Z) => HRW.out Z (below_seq hbW23 h))
      have HCZ := Lib.hid (show ∀ Z, Below w23.heap.size w23 Z → RdB Z Z.heap.size (some ⟨b9, o9 + K0, none⟩) (la + lb) (c9 - K0) (ea ++ eb) from fun Z h => by
        have h1 := RdB.cut (HRZ23.out Z h) (k := K0) (by omega) (by omega)
        rw [HDZ.out, show n - K0 = la + lb from by omega] at h1
        exact h1)
      have HC1 := Lib.hid (show ∀ Z, Below w23.heap.size w23 Z → RdB Z Z.heap.size (some ⟨b9, o9 + 1, none⟩) (n - 1) (c9 - 1) tl from fun Z h => by
        have h1 := RdB.cut (HRZ23.out Z h) (k := 1) (by omega) (by omega)
        rw [HD1.out] at h1
        exact h1)
      have HCW := Lib.hid (show ∀ Z, Below w23.heap.size w23 Z → RdB Z Z.heap.size (some ⟨b11, o11 + 1, none⟩) (n - 1) (c11 - 1) tl from fun Z h => by
        have h1 := RdB.cut (HRW23.out Z h) (k := 1) (by omega) (by omega)
        rw [HDW.out] at h1
        exact h1)
      have HCZ0 := Lib.hid (show ∀ Z, Below w23.heap.size w23 Z → Z.cell? ⟨b9, o9, none⟩ = some (.int .u8 (128 + T)) from fun Z h => by
        have h1 := RdB.cell0 (HRZ23.out Z h) (j := 0) (by have := HN.out; omega)
        rw [HZ0.out, head_val hT0a hT0b] at h1
        exact h1)
      have HCW0 := Lib.hid (show ∀ Z, Below w23.heap.size w23 Z → Z.cell? ⟨b11, o11, none⟩ = some (.int .u8 128) from fun Z h => by
        have h1 := RdB.cell0 (HRW23.out Z h) (j := 0) (by have := HNW.out; omega)
        rw [HW0.out, head_val (by omega) (by omega)] at h1
        exact h1)
      have HSUB := Lib.hid (show IntKind.i64.wrap ((n : Int) - ((la + lb : Nat) : Int)) = (K0 : Int) from by rw [IntWalk.i64_in _ (by omega)]; omega)
      have HCUTZ := Lib.hid (fun W => run_cut und23 el23 (some ⟨b9, o9, none⟩) n c9 K0 (by omega) hr9.1 W)
      have hK1 : K0 < c9 := by omega
      have hKn : K0 ≤ n := by omega
      have HW128 := Lib.hid (show IntKind.i64.wrap (128 + T) = 128 + T from IntWalk.i64_in _ (by omega))
      have HNK0 := Lib.hid (show n - K0 = la + lb from by omega)
      have hK2 : ¬ c9 = K0 := by omega
      have hn1 : ¬ c9 = 1 := by omega
      have hn2 : ¬ c11 = 1 := by omega
      clear hown23 hg23 hat23 hall hb2223 hbW23 hb21 hB21
      go_wp2_with fail
      refine wp_region_held_drew (S := fun w' => Below w23.heap.size w23 w') (by kernel_rfl) hdr23 (fun hHeld => ?_)
      refine wpAnyH_take (i := 0) (v := .slice (some ⟨b9, o9, none⟩) n c9) rfl (by kernel_rfl) (by kernel_rfl) (by kernel_rfl) (fun _ _ _ h => h) (Or.inl ⟨by rfl, fun wq hSw => by go_simp⟩) (by assumption) ?_
      go_simp
      refine wpAnyH_take (i := 1) (v := .slice (some ⟨b9, o9, none⟩) n c9) rfl (by kernel_rfl) (by kernel_rfl) (by kernel_rfl) (fun _ _ _ h => h) (Or.inl ⟨by rfl, fun wq hSw => by go_simp⟩) (by assumption) ?_
      go_simp
      refine wpAnyH_take (i := 2) (v := .int .i64 n) rfl (by kernel_rfl) (by kernel_rfl) (by kernel_rfl) (fun _ _ _ h => h) (Or.inl ⟨by rfl, fun wq hSw => by go_simp⟩) (by assumption) ?_
      go_simp
      refine wpAnyH_take (i := 3) (v := .slice A23 (la + lb) c23) rfl (by kernel_rfl) (by kernel_rfl) (by kernel_rfl) (fun _ _ _ h => h) (Or.inl ⟨by rfl, fun wq hSw => by go_simp⟩) (by assumption) ?_
      go_simp
      refine wpAnyH_take (i := 4) (v := .int .i64 ((la + lb : Nat) : Int)) rfl (by kernel_rfl) (by kernel_rfl) (by kernel_rfl) (fun _ _ _ h => h) (Or.inl ⟨by rfl, fun wq hSw => by go_simp⟩) (by assumption) ?_
      go_simp
      refine wpAnyH_take (i := 5) (v := .int .i64 (K0 : Nat)) rfl (by kernel_rfl) (by kernel_rfl) (by kernel_rfl) (fun _ _ _ h => h) (Or.inl ⟨by rfl, fun wq hSw => by (go_simp; exact HSUB.out)⟩) (by assumption) ?_
      go_simp
      refine wpAnyH_take (i := 6) (v := .slice (some ⟨b9, o9 + K0, none⟩) (la + lb) (c9 - K0)) rfl (by kernel_rfl) (by kernel_rfl) (by kernel_rfl) (fun _ _ _ h => h) (Or.inl ⟨by rfl, fun wq hSw => by (go_simp; exact HNK0.out)⟩) (by assumption) ?_
      go_simp
      refine wpAnyH_take (i := 7) (v := .slice A23 (la + lb) c23) rfl (by kernel_rfl) (by kernel_rfl) (by kernel_rfl) (fun _ _ _ h => h) (Or.inl ⟨by rfl, fun wq hSw => by go_simp⟩) (by assumption) ?_
      go_simp
      refine wpAnyH_ready (rs := [8]) (by kernel_rfl) (by simp) ?_
      refine AllReadyH.cons rfl (fun K hK => ?_) AllReadyH.nil
      (go_simp; go_at_call 14; refine (rsame_new _ _ _ _ _ _ (ea ++ eb) (ea ++ eb) _ (HCZ.out _ hdr23) (HALL.out _ hdr23)).mono ?_; rintro r5 w30 ⟨rfl, hb30'⟩; rw [show decide (ea ++ eb = ea ++ eb) = true from by simp]; have hb30 : Below w23.heap.size w23 w30 := below_seq hdr23 hb30')
      try go_simp
      refine hK.out _ _ hb30 (fun hHeld => ?_)
      clear hK K
      refine wpAnyH_take (i := 9) (v := .bool true) rfl (by kernel_rfl) (by kernel_rfl) (by kernel_rfl) (fun _ _ _ h => h) (Or.inl ⟨by rfl, fun wq hSw => by go_simp⟩) (by assumption) ?_
      go_simp
      refine wpAnyH_take (i := 10) (v := .slice (some ⟨b9, o9, none⟩) n c9) rfl (by kernel_rfl) (by kernel_rfl) (by kernel_rfl) (fun _ _ _ h => h) (Or.inl ⟨by rfl, fun wq hSw => by go_simp⟩) (by assumption) ?_
      go_simp
      refine wpAnyH_take (i := 11) (v := .slice (some ⟨b9, o9 + 1, none⟩) (n - 1) (c9 - 1)) rfl (by kernel_rfl) (by kernel_rfl) (by kernel_rfl) (fun _ _ _ h => h) (Or.inl ⟨by rfl, fun wq hSw => by (go_simp; intro hq1; omega)⟩) (by assumption) ?_
      go_simp
      refine wpAnyH_take (i := 12) (v := .slice (some ⟨b11, o11, none⟩) n c11) rfl (by kernel_rfl) (by kernel_rfl) (by kernel_rfl) (fun _ _ _ h => h) (Or.inl ⟨by rfl, fun wq hSw => by go_simp⟩) (by assumption) ?_
      go_simp
      refine wpAnyH_take (i := 13) (v := .slice (some ⟨b11, o11 + 1, none⟩) (n - 1) (c11 - 1)) rfl (by kernel_rfl) (by kernel_rfl) (by kernel_rfl) (fun _ _ _ h => h) (Or.inl ⟨by rfl, fun wq hSw => by (go_simp; intro hq1; omega)⟩) (by assumption) ?_
      go_simp
      refine wpAnyH_ready (rs := [14]) (by kernel_rfl) (by simp) ?_
      refine AllReadyH.cons rfl (fun K hK => ?_) AllReadyH.nil
      (go_simp; go_at_call 14; refine (rsame_new _ _ _ _ _ _ tl tl _ (HC1.out _ hb30) (HCW.out _ hb30)).mono ?_; rintro r6 w31 ⟨rfl, hb31'⟩; rw [show decide (tl = tl) = true from by simp]; have hb31 : Below w23.heap.size w23 w31 := below_seq hb30 hb31')
      try go_simp
      refine hK.out _ _ hb31 (fun hHeld => ?_)
      clear hK K
      refine wpAnyH_take (i := 15) (v := .bool true) rfl (by kernel_rfl) (by kernel_rfl) (by kernel_rfl) (fun _ _ _ h => h) (Or.inl ⟨by rfl, fun wq hSw => by go_simp⟩) (by assumption) ?_
      go_simp
      refine wpAnyH_take (i := 16) (v := .bool true) rfl (by kernel_rfl) (by kernel_rfl) (by kernel_rfl) (fun _ _ _ h => h) (Or.inl ⟨by rfl, fun wq hSw => by go_simp⟩) (by assumption) ?_
      go_simp
      refine wpAnyH_take (i := 17) (v := .slice (some ⟨b9, o9, none⟩) n c9) rfl (by kernel_rfl) (by kernel_rfl) (by kernel_rfl) (fun _ _ _ h => h) (Or.inl ⟨by rfl, fun wq hSw => by go_simp⟩) (by assumption) ?_
      go_simp
      refine wpAnyH_take (i := 18) (v := .pointer (some ⟨b9, o9, none⟩)) rfl (by kernel_rfl) (by kernel_rfl) (by kernel_rfl) (fun _ _ _ h => h) (Or.inl ⟨by rfl, fun wq hSw => by (go_simp; intro hq1; omega)⟩) (by assumption) ?_
      go_simp
      refine wpAnyH_take (i := 19) (v := .int .u8 (128 + T)) rfl (by kernel_rfl) (by kernel_rfl) (by kernel_rfl) (fun _ _ _ h => h) (Or.inl ⟨by rfl, fun wq hSw => by (have hq := HCZ0.out wq hSw; go_simp)⟩) (by assumption) ?_
      go_simp
      refine wpAnyH_take (i := 20) (v := .int .i64 (128 + T)) rfl (by kernel_rfl) (by kernel_rfl) (by kernel_rfl) (fun _ _ _ h => h) (Or.inl ⟨by rfl, fun wq hSw => by (go_simp; exact HW128.out)⟩) (by assumption) ?_
      go_simp
      refine wpAnyH_take (i := 21) (v := .slice (some ⟨b11, o11, none⟩) n c11) rfl (by kernel_rfl) (by kernel_rfl) (by kernel_rfl) (fun _ _ _ h => h) (Or.inl ⟨by rfl, fun wq hSw => by go_simp⟩) (by assumption) ?_
      go_simp
      refine wpAnyH_take (i := 22) (v := .pointer (some ⟨b11, o11, none⟩)) rfl (by kernel_rfl) (by kernel_rfl) (by kernel_rfl) (fun _ _ _ h => h) (Or.inl ⟨by rfl, fun wq hSw => by (go_simp; intro hq1; omega)⟩) (by assumption) ?_
      go_simp
      refine wpAnyH_take (i := 23) (v := .int .u8 128) rfl (by kernel_rfl) (by kernel_rfl) (by kernel_rfl) (fun _ _ _ h => h) (Or.inl ⟨by rfl, fun wq hSw => by (have hq := HCW0.out wq hSw; go_simp)⟩) (by assumption) ?_
      go_simp
      refine wpAnyH_take (i := 24) (v := .int .i64 128) rfl (by kernel_rfl) (by kernel_rfl) (by kernel_rfl) (fun _ _ _ h => h) (Or.inl ⟨by rfl, fun wq hSw => by (go_simp; rfl)⟩) (by assumption) ?_
      go_simp
      refine wpAnyH_take (i := 25) (v := .int .i64 T) rfl (by kernel_rfl) (by kernel_rfl) (by kernel_rfl) (fun _ _ _ h => h) (Or.inl ⟨by rfl, fun wq hSw => by go_simp⟩) (by assumption) ?_
      go_simp
      refine wpAnyH_take (i := 26) (v := .int .i64 (128 + T)) rfl (by kernel_rfl) (by kernel_rfl) (by kernel_rfl) (fun _ _ _ h => h) (Or.inl ⟨by rfl, fun wq hSw => by (go_simp; exact HW128.out)⟩) (by assumption) ?_
      go_simp
      refine wpAnyH_take (i := 27) (v := .bool true) rfl (by kernel_rfl) (by kernel_rfl) (by kernel_rfl) (fun _ _ _ h => h) (Or.inl ⟨by rfl, fun wq hSw => by go_simp⟩) (by assumption) ?_
      go_simp
      refine wpAnyH_take (i := 28) (v := .bool true) rfl (by kernel_rfl) (by kernel_rfl) (by kernel_rfl) (fun _ _ _ h => h) (Or.inl ⟨by rfl, fun wq hSw => by go_simp⟩) (by assumption) ?_
      go_simp
      refine wpAnyH_take (i := 29) (v := .bool true) rfl (by kernel_rfl) (by kernel_rfl) (by kernel_rfl) (fun _ _ _ h => h) (Or.inl ⟨by rfl, fun wq hSw => by go_simp⟩) (by assumption) ?_
      go_simp
      refine wpAnyH_done (by kernel_rfl) ?_ _
      have hB31 := below_seq HB23.out hb31
      go_wp2
      go_ret
      exact ⟨rfl, hB31⟩
    · have hE0 : ¬ wrE (nst 0 x y) = 0 := by rw [nst_wrE (by omega) (by omega) hT0.1 hT0.2]; exact hE
      have hbx := wr_no hE
      rcases wrE_cases hE with h7 | h7
      all_goals
        rw [h7, hbx, List.length_nil]
        first | rw [show ((7 : Nat) : Int) = 7 from rfl] | rw [show ((20 : Nat) : Int) = 20 from rfl]
        clear hE hE0 h7 hbx HR11 HR9_11
        go_wp2
        go_ret
        exact ⟨rfl, hB11⟩
  · have g1 : decide (2000 < r1 + r2) = true := by simp; omega
    have p1 : (2000 : Int) < r1 + r2 := by omega
    go_wp2
    go_ret
    exact ⟨rfl, hB5⟩
end Go.Proofs.Ytfinonfkpmlfeaa.Der
