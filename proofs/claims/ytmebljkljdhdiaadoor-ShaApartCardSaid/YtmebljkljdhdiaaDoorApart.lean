/-
  ShaApart holds: two that take bytes in have nothing to do with one another; what was handed in may be turned. No condition.
-/
import Derived.Test.YtmebljkljdhdiaaDoorCards
import Derived.Test.YtmebljkljdhdiaaDoorTie
import Derived.Test.YtmebljkljdhdiaaDoorShal
import Derived.Test.YtmebljkljdhdiaaDoorShar
import Derived.Test.YtmebljkljdhdiaaDoorFin
import Derived.Test.YtmebljkljdhdiaaDoorKit3
import Derived.SevenTiedAt
import Derived.Stop.Joined
namespace Go.Proofs.YtmebljkljdhdiaaDoor.Apart
open Go.ChangeShapes Go.WideShapes Go.ChangeAt Go.RowKit
open Go.Proofs.YtmebljkljdhdiaaDoor.Kit
open Go.Proofs.YtmebljkljdhdiaaDoor.Oct
open Go.Proofs.YtmebljkljdhdiaaDoor.Sha
set_option linter.unusedVariables false

theorem SumAt.gb {w w' : World} {g G : Nat} {x : List UInt8} (h : SumAt w g x) (hg : w.grownBy w' (some G)) (hne : g ≠ G) : SumAt w' g x := by
  obtain ⟨blk, h1, h2⟩ := h
  exact ⟨blk, h1, (gb_block hg (Array.getElem?_eq_some_iff.1 h2).1 hne).trans h2⟩
theorem xor_one (b : UInt8) : bits .xor .u8 (b.toNat : Int) 1 = ((b ^^^ 1).toNat : Int) := xor_u8 b 1
theorem set_bv1 (L : List UInt8) (j : Nat) (x : UInt8) : (L.map bv).set j (.int .u8 (x.toNat : Int)) = (L.set j x).map bv := by
  rw [List.map_set]; rfl

set_option maxRecDepth 100000 in
set_option maxHeartbeats 4000000 in
theorem walk (A : Option Addr) (n c : Nat) (xs : List UInt8) (A' : Option Addr) (n' c' : Nat) (ys : List UInt8) (w : World) (hx : RdB w w.heap.size A n c xs) (hy : RdB w w.heap.size A' n' c' ys) (hR : Roots w) :
    Calls Tryd.prog 5 #[.slice A n c, .slice A' n' c'] w fun e w' => e = .returned (.bool true) ∧ Below w.heap.size w w' := by
  have hrx := hx.room
  have hry := hy.room
  have hlx := Lib.hid hx.len
  have hly := Lib.hid hy.len
  have HX := Lib.hid hx
  have HY := Lib.hid hy
  have HR := Lib.hid hR
  have hgw := hR.lt
  clear hx hy hR
  obtain ⟨i0, hi, hz0, hz1, hz2⟩ := info_parts info5
  by_cases h500 : n ≤ 500 ∧ n' ≤ 500
  · obtain ⟨h1, h2⟩ := h500
    have t1 : decide ((500 : Int) < n) = false := by simp; omega
    have t2 : decide ((500 : Int) < n') = false := by simp; omega
    go_enter Tryd.func5, Tryd.ntmps5
    go_wp2_with fail
    refine (alive3_any _ HR.out).mono ?_
    rintro e w1 ⟨rfl, hB1⟩
    go_wp2_with fail
    refine (new_any _).mono ?_
    rintro e w2 ⟨rfl, hs2, hb2, hlt2⟩
    have HS2 := Lib.hid hs2
    have hB2 := below_seq hB1 hb2
    have hG1w := hB1.size
    clear hs2 hB1 hb2
    go_wp2_with fail
    refine (new_any _).mono ?_
    rintro e w3 ⟨rfl, hs3, hb3, hlt3⟩
    have HS3 := Lib.hid hs3
    have HS3a := Lib.hid (HS2.out.on hb3)
    have hB3 := below_seq hB2 hb3
    clear hs3 hb3 hB2 HS2
    have hx3 := HX.out.on hB3
    go_wp2_with (at_builtin; refine wpList_app_g _ rfl (.tmp 23) (.tmp 24) 22 rfl w3.heap.size 5 i0 _ 1 Tryd.underlying22 hi hz0 hz1 hz2 rfl _ 0 _ rfl (own_new _ (Nat.le_refl _) rfl (by omega)) _ A n c _ rfl (RdB.lit hx3 _) (bv_one _) (by omega) (by omega) (by simp) ?_; intro A4 c4 w4 hown4 hg4 hat4)
    simp only [Nat.zero_add, List.nil_append] at hown4
    have hB4 := below_lit hB3 hg4
    have hbw4 : Below w3.heap.size w3 w4 := below_lit (Below.refl _ _) hg4
    have HS4 := Lib.hid (HS3.out.on hbw4)
    have HS4a := Lib.hid (HS3a.out.on hbw4)
    have hw34 := hbw4.size
    have HRT4 := Lib.hid (HR.out.on hB4)
    have hne1 : w1.heap.size ≠ 0 := by omega
    have hne2 : w2.heap.size ≠ 0 := by omega
    have HRD4 := Lib.hid (RdS.mono (RdS.own hown4) (S' := fun b => b < w4.heap.size ∧ b ≠ w1.heap.size) (fun b hb => ⟨hb.2, by have := hb.1; omega⟩))
    have HO4 := Lib.hid hown4
    clear hown4 hg4 hat4 hbw4 hx3 hB3 HS3 HS3a
    refine (write_any w1.heap.size n c4 A4 [] xs w4 HS4a.out HRD4.out HRT4.out hne1 (by simp; omega)).mono ?_
    rintro e w5 ⟨rfl, hs5, hgb5⟩
    have HS5a := Lib.hid (show SumAt w5 w1.heap.size xs from hs5)
    have HS5 := Lib.hid (SumAt.gb HS4.out hgb5 (by omega))
    have HO5 := Lib.hid (HO4.out.kept hgb5 (by
      rcases own_cases HO4.out with ⟨rfl, _, _⟩ | ⟨g, rfl⟩
      · exact .inl rfl
      · refine .inr (fun e => ?_)
        have e' : g = w1.heap.size := by simpa [Value.ownBlock] using e
        have := (HO4.out.lt g rfl).1
        omega))
    have hB5 : Below w.heap.size w w5 := hB4.trans (below_of_gb hgb5 hG1w hB4.size)
    have hw5 := hgb5.size
    clear hs5 hgb5 HRD4 HO4 HS4 HS4a HRT4 hB4
    go_wp2_with fail
    go_loopw [8, 31] (fun _ i wr => ∃ (k : Nat) (zs : List UInt8), k ≤ n ∧ i = .int .i64 k ∧ zs.length = n ∧ wr.ownsRow w3.heap.size 5 1 (.slice A4 n c4) n (zs.map bv) ∧ SumAt wr w1.heap.size xs ∧ SumAt wr w2.heap.size [] ∧ Below w.heap.size w wr ∧ w3.heap.size ≤ wr.heap.size) (fun _ i _ => n - (intOf i).toNat)
    case atStart => exact ⟨0, xs, Nat.zero_le _, rfl, hlx.out, HO5.out, HS5a.out, HS5.out, hB5, by omega⟩
    case round =>
      obtain ⟨k, zs, hk, rfl, hzl, hown, hsa, hsb, hbw, hwr⟩ := hrel
      have HSA := Lib.hid hsa
      have HSB := Lib.hid hsb
      have HO := Lib.hid hown
      clear hsa hsb hown HO5 HS5 HS5a hB5
      by_cases hlt : k < n
      · rcases own_cases HO.out with ⟨_, _, h0⟩ | ⟨g, rfl⟩
        · omega
        have hLt : k < zs.length := by omega
        obtain ⟨x, hxv⟩ : ∃ x, x = zs[k] := ⟨_, rfl⟩
        obtain ⟨hcells, hfz⟩ := own_cells HO.out
        have hcell := hcells k (.int .u8 (x.toNat : Int)) (by rw [List.getElem?_map, List.getElem?_eq_getElem hLt, ← hxv]; rfl)
        have hfz' := hfz k
        have hxor := xor_one x
        have hst := HO.out.stored k (.int .u8 ((x ^^^ 1).toNat : Int))
        rw [set_bv1] at hst
        have HST := Lib.hid hst
        have hge := (HO.out.lt g rfl).1
        have HL := Lib.hid (show (zs.set k (x ^^^ 1)).length = n by rw [List.length_set]; exact hzl)
        clear hst hcells hfz hxv hLt hzl
        go_wp2
        simp only [UInt8.toNat_xor] at HST
        go_roundw
        case rel => exact ⟨k + 1, _, by omega, by go_num, HL.out, HST.out.1, SumAt.gb HSA.out HST.out.2 (by omega), SumAt.gb HSB.out HST.out.2 (by omega), hbw.trans (below_of_gb HST.out.2 (by omega) hbw.size), Nat.le_trans hwr HST.out.2.size⟩
        case measure => simp [intOf]; omega
      · obtain rfl : k = n := by omega
        clear hk hlt
        have hw3 : w.heap.size ≤ w2.heap.size := by omega
        have HRD := Lib.hid (rds_of HY.out (G := w2.heap.size) hw3 (fun b hb => hbw.block b hb) hbw.size)
        have HRW := Lib.hid (HR.out.on hbw)
        clear HO
        go_wp2_with fail
        refine (write_any w2.heap.size n' c' A' [] ys wr HSB.out HRD.out HRW.out hne2 (by simp; omega)).mono ?_
        rintro e w6 ⟨rfl, hs6, hgb6⟩
        have HS6b := Lib.hid (show SumAt w6 w2.heap.size ys from hs6)
        have HS6a := Lib.hid (SumAt.gb HSA.out hgb6 (by omega))
        have hB6 : Below w.heap.size w w6 := hbw.trans (below_of_gb hgb6 hw3 hbw.size)
        have HR6 := Lib.hid (HR.out.on hB6)
        have hw6 := hgb6.size
        clear hs6 hgb6 HSA HSB HRD HRW hbw
        go_wp2_with fail
        refine (digest_own w1.heap.size xs w6 HS6a.out HR6.out (by have := hlx.out; omega)).mono ?_
        rintro e w7 ⟨A7, c7, B7, rfl, hB7, ho7, hbl7⟩
        obtain ⟨D, hD⟩ : ∃ D, D = dig xs := ⟨_, rfl⟩
        obtain ⟨D', hD'⟩ : ∃ D, D = dig ys := ⟨_, rfl⟩
        have hDl : D.length = 32 := by rw [hD, dig_len]
        rw [← hD] at ho7
        have HB7 := Lib.hid (below_seq hB6 hbl7)
        have HX7 := Lib.hid (HX.out.on HB7.out)
        have HR7 := Lib.hid (HR.out.on HB7.out)
        have HS7a := Lib.hid (HS6a.out.on hbl7)
        have HS7b := Lib.hid (HS6b.out.on hbl7)
        have hw7 := hbl7.size
        have HO7 := Lib.hid ho7
        clear HS6a HS6b HR6 hB6 hbl7 ho7
        go_wp2_with fail
        refine (of_own _ 1 1 [⟨A, k, c, xs⟩] _ (rd_cells (n := 1) w7 rfl rfl rfl (by omega)) ?h1 (HR7.out.on (below_of_new w7 _)) (by simp [joinL]; have := hlx.out; omega)).mono ?_
        case h1 =>
          intro r hr
          simp only [List.mem_cons, List.not_mem_nil, or_false] at hr
          subst hr
          exact HX7.out.lit _
        rintro e w8 ⟨A8, c8, B8, rfl, hB8, ho8, hbl8⟩
        have hj : joinL [⟨A, k, c, xs⟩] = xs := by simp [joinL]
        rw [hj, ← hD] at ho8
        have hb78 := below_seq (below_of_new w7 _) hbl8
        have HB8 := Lib.hid (below_seq HB7.out hb78)
        have HS8a := Lib.hid (HS7a.out.on hb78)
        have HS8b := Lib.hid (HS7b.out.on hb78)
        have HO8 := Lib.hid ho8
        have HO8d := Lib.hid (own_on HO7.out hb78)
        have hw8 := hb78.size
        have hB8' : w7.heap.size + 1 ≤ B8 := by simpa using hB8
        rcases own_cases HO7.out with ⟨_, _, h0⟩ | ⟨g7, rfl⟩
        · omega
        have hg7 := HO7.out.lt g7 rfl
        obtain ⟨x, hxv⟩ : ∃ x, x = D[0] := ⟨_, rfl⟩
        obtain ⟨hcells, hfz⟩ := own_cells HO8d.out
        have hcell := hcells 0 (.int .u8 (x.toNat : Int)) (by rw [List.getElem?_map, List.getElem?_eq_getElem (by omega), ← hxv]; rfl)
        have hfz' := hfz 0
        have hxor := xor_one x
        have HST := Lib.hid (HO8d.out.stored 0 (.int .u8 ((x ^^^ 1).toNat : Int))).2
        have HD := Lib.hid hD
        have HD' := Lib.hid hD'
        clear hcells hfz hxv hbl8 ho8 hj hb78 HS7a HS7b HX7 HR7 hB8 HO7 hD hD'
        have hbg : Below w.heap.size w8 (w8.setCell ⟨g7, 0, none⟩ (.int .u8 ((x ^^^ 1).toNat : Int))) := below_of_gb HST.out (by omega) HB8.out.size
        have HS9a := Lib.hid (SumAt.gb HS8a.out HST.out (by omega))
        have HS9b := Lib.hid (SumAt.gb HS8b.out HST.out (by omega))
        have hne8 : (Value.slice A8 32 c8).ownBlock = none ∨ (Value.slice A8 32 c8).ownBlock ≠ some g7 := by
          rcases own_cases HO8.out with ⟨rfl, _, _⟩ | ⟨g, rfl⟩
          · exact .inl rfl
          · refine .inr (fun e => ?_)
            have e' : g = g7 := by simpa [Value.ownBlock] using e
            have := (HO8.out.lt g rfl).1
            omega
        have HO9 := Lib.hid (HO8.out.kept HST.out hne8)
        have HB9 := Lib.hid (HB8.out.trans hbg)
        clear hbg hne8 HS8a HS8b HO8 HO8d HB8 HST
        simp only [UInt8.toNat_xor] at HS9a HS9b HO9 HB9
        go_wp2_with fail
        obtain ⟨w9, e9⟩ : ∃ q, q = (w8.setCell ⟨g7, 0, none⟩ (.int .u8 ((x.toNat ^^^ (1 : UInt8).toNat : Nat) : Int))) := ⟨_, rfl⟩
        have e9' : w8.setCell ⟨g7, 0, none⟩ (.int .u8 ((x.toNat ^^^ 1 : Nat) : Int)) = w9 := e9.symm
        rw [e9']
        rw [← e9] at HS9a HS9b HO9 HB9
        clear e9 e9' hcell hfz'
        have HR9 := Lib.hid (HR.out.on HB9.out)
        refine (digest_any w1.heap.size xs w9 HS9a.out HR9.out (by have := hlx.out; omega)).mono ?_
        rintro e w10 ⟨A10, c10, rfl, hn10⟩
        rw [← HD.out] at hn10
        have hb10 := hn10.bl
        have HRD10 := Lib.hid hn10.rd
        have HO10 := Lib.hid (own_on HO9.out hb10)
        have HS10b := Lib.hid (HS9b.out.on hb10)
        have HB10 := Lib.hid (below_seq HB9.out hb10)
        clear hn10 hb10 HS9a HS9b HO9 HB9 HR9
        go_wp2_with fail
        refine (rsame_new _ _ _ _ _ _ D D _ HRD10.out (Rd.of_own HO10.out)).mono ?_
        rintro e w11 ⟨rfl, hb11⟩
        rw [show decide (D = D) = true from by simp]
        have HS11 := Lib.hid (HS10b.out.on hb11)
        have HB11 := Lib.hid (below_seq HB10.out hb11)
        have HR11 := Lib.hid (HR.out.on HB11.out)
        clear hb11 HRD10 HO10 HS10b HB10
        go_wp2_with fail
        refine (digest_any w2.heap.size ys w11 HS11.out HR11.out (by have := hly.out; omega)).mono ?_
        rintro e w12 ⟨A12, c12, rfl, hn12⟩
        rw [← HD'.out] at hn12
        have HRD12 := Lib.hid hn12.rd
        have HB12 := Lib.hid (below_seq HB11.out hn12.bl)
        have HR12 := Lib.hid (HR.out.on HB12.out)
        have HY12 := Lib.hid (HY.out.on HB12.out)
        clear hn12 HS11 HB11 HR11
        go_wp2_with fail
        refine (of_any _ 1 1 [⟨A', n', c', ys⟩] _ (rd_cells (n := 1) w12 rfl rfl rfl (by omega)) ?h2 (HR12.out.on (below_of_new w12 _)) (by simp [joinL]; have := hly.out; omega)).mono ?_
        case h2 =>
          intro r hr
          simp only [List.mem_cons, List.not_mem_nil, or_false] at hr
          subst hr
          exact HY12.out.lit _
        rintro e w13 ⟨A13, c13, rfl, hn13⟩
        have hj2 : joinL [⟨A', n', c', ys⟩] = ys := by simp [joinL]
        rw [hj2, ← HD'.out] at hn13
        have hb13 := below_seq (below_of_new w12 _) hn13.bl
        have HRD13 := Lib.hid hn13.rd
        have HRD13' := Lib.hid (HRD12.out.on hb13)
        have HB13 := Lib.hid (below_seq HB12.out hb13)
        clear hn13 hb13 hj2 HRD12 HB12 HR12 HY12
        go_wp2_with fail
        refine (rsame_new _ _ _ _ _ _ D' D' _ HRD13'.out HRD13.out).mono ?_
        rintro e w14 ⟨rfl, hb14⟩
        rw [show decide (D' = D') = true from by simp]
        have hfin := below_seq HB13.out hb14
        go_wp2
        go_ret
        exact ⟨rfl, hfin⟩
  · go_enter Tryd.func5, Tryd.ntmps5
    rcases Nat.lt_or_ge 500 n with hh | hh
    · have u1 : decide ((500 : Int) < n) = true := by simp; omega
      go_wp2_with fail
      refine (alive3_any _ HR.out).mono ?_
      rintro e w1 ⟨rfl, hB1⟩
      go_wp2
      go_ret
      exact ⟨rfl, hB1⟩
    · have u1 : decide ((500 : Int) < n) = false := by simp; omega
      have u2 : decide ((500 : Int) < n') = true := by simp; omega
      go_wp2_with fail
      refine (alive3_any _ HR.out).mono ?_
      rintro e w1 ⟨rfl, hB1⟩
      go_wp2
      go_ret
      exact ⟨rfl, hB1⟩

theorem own : ownKnob Tryd.prog.godebug = none := by kernel_rfl
theorem laidOut : laidOutB Tryd.prog = true := by kernel_rfl

set_option maxRecDepth 100000 in
theorem lifted (os : Os) (started : os.Started) (H : Type) (enc : TypeId × Value → H) :
    ReturnsInHanded {} Tryd.checked os 5 .any (fun w args => (Rows.shaApartSpec.pre enc Tryd.prog Tryd.f5 Rows.shaApartRow.domain false w args ∧ laidMetH Tryd.prog laidL w) ∧ sizedMet enc Tryd.prog Tryd.f5 (OpenSpec.ofChange Rows.shaApartSpec) false w args)
      (Rows.shaApartSpec.post enc Tryd.prog Tryd.f5 false true false false) := by
  refine returnsInHanded_of_change_and (C := Tryd.checked) (X := (fun w _ => laidMetH Tryd.prog laidL w)) (fun _ _ _ hh h => h.of_heap hh) own started (by kernel_rfl) Tryd.func5
    (ChangeSpec.witness_shaped (enc := enc) (C := Tryd.checked) (os := os) (X := (fun w _ => laidMetH Tryd.prog laidL w)) false (World.laidAll Tryd.prog os laidL) #[.slice none 0 0, .slice none 0 0] 8 (World.laidAll_os _ _ _)
      (World.shaped_of_ZipB (by kernel_rfl) (by kernel_rfl)) (by kernel_rfl) (by kernel_rfl) (by kernel_rfl)
      (by rw [MakeChecks.laidMetH_plain _ _ _ (by kernel_rfl)]; exact laidMet_laidAll _ (by kernel_rfl) (by kernel_rfl))) ?_
  intro W base args ds gs before hval0 hW hcnd _ hL _
  have hroots := roots_of hL
  have hval : ∀ (j : Nat) t v, Tryd.f5.params[j]? = some t → args[j]? = some v → Value.okWide Tryd.prog W .any base t v := hval0
  have hW' := hW
  obtain ⟨p, q, hA0, hV, rfl, hfz, hnd⟩ := hW
  have hA : DataW.TrodAll enc Tryd.prog W 0 (fun _ => true) true Tryd.f5.params.toList args.toList ds p := hA0
  rw [Tryd.params5] at hA hval
  obtain ⟨v0, vs0, d0, ds0, p0, q0, hargs, rfl, rfl, h0, r0⟩ := trodAll_cons hA
  obtain ⟨v1, vs1, d1, ds1, p1, q1, rfl, rfl, rfl, h1, r1⟩ := trodAll_cons r0
  obtain ⟨rfl, rfl, rfl⟩ := trodAll_nil r1
  obtain rfl : args = #[v0, v1] := by cases args; simp_all
  obtain ⟨rfl, rfl⟩ := trodVars_none hV
  obtain ⟨a0, len0, cap0, rfl⟩ := okWide_slice Tryd.underlying22 (hval 0 22 v0 rfl rfl)
  have lt0 : ∀ x ∈ p0, x.block < W.heap.size := by obtain ⟨m, hm⟩ := h0; exact DataW.trod_lt m _ _ _ hm
  obtain ⟨bs0, hb0⟩ := rd_in Tryd.underlying22 Tryd.underlying5 (by kernel_rfl) rfl h0
  obtain ⟨a1, len1, cap1, rfl⟩ := okWide_slice Tryd.underlying22 (hval 1 22 v1 rfl rfl)
  have lt1 : ∀ x ∈ p1, x.block < W.heap.size := by obtain ⟨m, hm⟩ := h1; exact DataW.trod_lt m _ _ _ hm
  obtain ⟨bs1, hb1⟩ := rd_in Tryd.underlying22 Tryd.underlying5 (by kernel_rfl) rfl h1
  clear hA0 hval0
  refine (walk a0 len0 cap0 bs0 a1 len1 cap1 bs1 W hb0 hb1 hroots).mono fun e W' ⟨he, bel⟩ => ?_
  subst he
  exact ⟨_, rfl, _, _, _, [], _, [], hW', trodAll_mk1 (shut_bool Tryd.underlying4 _), (trodAll_cons_mk (Below.trod laidOut (by kernel_rfl) (of_decide_eq_true (by kernel_rfl)) h0 bel lt0) (trodAll_cons_mk (Below.trod laidOut (by kernel_rfl) (of_decide_eq_true (by kernel_rfl)) h1 bel lt1) trodAll_mk0)), rfl, bel.frame _, fun h => by cases h⟩

theorem over : Rows.shaApartRow.holds Tryd.pinned (OpenSpec.ofChange Rows.shaApartSpec) :=
  OpenClaim.holds_of_wide 5 Tryd.f5 rfl rfl rfl rfl rfl rfl rfl ⟨rfl, rfl, rfl, rfl, rfl⟩ rfl rfl rfl rfl rfl (by kernel_rfl) Tryd.func5 (by kernel_rfl)
    (of_decide_eq_true (by kernel_rfl)) (by unfold Func.isWrapper; first | (rw [if_pos (by decide +kernel)]; kernel_rfl) | (rw [if_neg (by decide +kernel)]; exact ⟨rfl, rfl⟩))
    (fun os started H enc _ => lifted os started H enc)

theorem proved : Rows.ShaApartCardSaid :=
  Claim7.holds_tied_plain_at .later [] [.data] true (true, "b3ca89292fa8e51685a4e2f0885e160f0b3c01514adff99a6518418dafaf18aa") false over (fun _ h => by cases h) (by kernel_rfl) (fun _ h => by cases h) shaApart_row_tie rfl ⟨rfl, rfl⟩ (by kernel_rfl) rfl
    (fun f fn hf hfn => by
      obtain rfl : f = 5 := Option.some.inj ((show Tryd.prog.funcNamed "compeer/compeerlaw03.ShaApart" = some 5 by kernel_rfl).symm.trans hf) |>.symm
      obtain rfl : fn = Tryd.f5 := (Option.some.inj (Tryd.func5.symm.trans hfn)).symm
      exact ⟨by kernel_rfl, fun j t ht => by
        rw [Tryd.params5] at ht
        have hm : t ∈ [22, 22] := by simpa using Array.mem_of_getElem? ht
        have hall : ([22, 22].all fun u => !Tryd.prog.wantsStandIn u) = true := by kernel_rfl
        exact (show Tryd.prog.wantsStandIn t = false by simpa using List.all_eq_true.1 hall t hm)⟩)
    (by kernel_rfl)
end Go.Proofs.YtmebljkljdhdiaaDoor.Apart
