/-
  BaseBack, walked.
-/
import Derived.Test.YtlngbpipmaaedaaBao
namespace Go.Proofs.Ytlngbpipmaaedaa.Ba
open Go.RowKit
open Go.Proofs.Ytlngbpipmaaedaa.Kit
set_option linter.unusedVariables false

/-- a slice of users that came in -/
structure RdU (w : World) (A : Option Addr) (n c : Nat) (l : List Us) : Prop where
  len : l.length = n
  le : n ≤ c
  lim : c ≤ 9223372036854775807
  k16 : ∀ u ∈ l, u.key.length = 16
  row : ∀ (j : Nat) (u : Us), l[j]? = some u → ∃ b o, A = some ⟨b, o, none⟩ ∧ b < w.heap.size ∧ w.rangeAt b (o + j * 20) u.cells
/-- strings in a row of one's own, read -/
theorem str_at {w : World} {base n c : Nat} {A : Option Addr} {N : List (List UInt8)} (h : w.ownsRow base 9 1 (.slice A n c) n (N.map encStr)) {j : Nat} {x : List UInt8} (hx : N[j]? = some x) :
    ∃ g, A = some ⟨g, 0, none⟩ ∧ g < w.heap.size ∧ j < n ∧ w.cell? ⟨g, j, none⟩ = some (.string ⟨x.toArray⟩) := by
  have hjl := (List.getElem?_eq_some_iff.1 hx).1
  have hl := h.1
  rw [List.length_map] at hl
  obtain ⟨g, cap, hv, hb, hlt⟩ := h.form (by omega)
  injection hv with h1 h2 h3
  subst h1
  refine ⟨g, rfl, hlt, by omega, ?_⟩
  rw [h.cellAt j (by omega), List.getElem?_map, hx]
  rfl

set_option maxRecDepth 1000000 in
set_option maxHeartbeats 8000000 in
theorem back_walk (A : Option Addr) (n c : Nat) (l : List Us) (u : Us) (w : World) (hx : RdU w A n c l) (hu : u.key.length = 16) :
    Calls Try.prog 5 #[.slice A n c, .agg u.arr] w fun e w' => e = .returned (.bool true) ∧ Below w.heap.size w w' := by
  obtain ⟨W1, hW1⟩ : ∃ q, q = w.alloc (.cells u.arr 30) := ⟨_, rfl⟩
  have hb1 : Below w.heap.size w W1 := by rw [hW1]; exact below_of_new _ _
  have hr1 : W1.heap[w.heap.size]? = some (.cells u.arr 30 (0, 0)) := by rw [hW1]; exact heap_alloc_new _ _
  obtain ⟨UV, hUV⟩ : ∃ z, z = u.arr := ⟨_, rfl⟩
  have hU20 : UV.size = 20 := by rw [hUV]; exact Us.size hu
  have HUR := Lib.hid (show ∀ W, Below W1.heap.size W1 W → W.heap[w.heap.size]? = some (.cells UV 30 (0, 0)) ∧ W.cell? ⟨w.heap.size, 0, none⟩ = some (.string u.nm) from fun W h => by
    have hq := (h.block _ (Array.getElem?_eq_some_iff.1 hr1).1).trans hr1
    exact ⟨by rw [hUV]; exact hq, (us_row hq hu).1⟩)
  rw [← hUV] at hW1 ⊢
  have HI := Lib.hid (show (Try.prog.info? 30).map (·.size) = some UV.size from by rw [hU20]; exact infoU)
  have HW1 := Lib.hid hW1.symm
  have HB1 := Lib.hid hb1
  have HUV := Lib.hid hUV
  have HU16 := Lib.hid hu
  have HX := Lib.hid hx
  obtain ⟨ZV, hZ⟩ : ∃ q, q = ZU := ⟨_, rfl⟩
  have hz30 : ∀ w, (zeroValue 30).run Try.prog w = .ok (.agg ZV) w := fun w => by rw [hZ]; exact zU_zero w
  have HZV := Lib.hid hZ
  clear hW1 hb1 hr1 hUV hU20 hu hx hZ
  by_cases hn40 : 40 < n
  · have d40 : decide ((40 : Int) < (n : Int)) = true := decide_eq_true (by omega)
    go_enter Try.func5, Try.ntmps5
    go_wp2_with (rw [HW1.out])
    refine (alive_any W1).mono ?_
    rintro e w2 ⟨rfl, hb2⟩
    go_wp2
    go_ret
    exact ⟨rfl, below_seq HB1.out hb2⟩
  have d40 : decide ((40 : Int) < (n : Int)) = false := decide_eq_false (by omega)
  by_cases hn60 : 60 < u.nm.size
  · have d60 : decide ((60 : Int) < (u.nm.size : Int)) = true := decide_eq_true (by omega)
    go_enter Try.func5, Try.ntmps5
    go_wp2_with (rw [HW1.out])
    refine (alive_any W1).mono ?_
    rintro e w2 ⟨rfl, hb2⟩
    have q2 := (HUR.out w2 hb2).2
    go_wp2
    go_ret
    exact ⟨rfl, below_seq HB1.out hb2⟩
  have d60 : decide ((60 : Int) < (u.nm.size : Int)) = false := decide_eq_false (by omega)
  go_enter Try.func5, Try.ntmps5
  go_wp2_with (rw [HW1.out])
  refine (alive_any W1).mono ?_
  rintro e w2 ⟨rfl, hb2⟩
  have q2 := (HUR.out w2 hb2).2
  have HB2 := Lib.hid hb2
  clear hb2
  go_wp2_with fail
  refine (new_any w2).mono ?_
  rintro e w3 ⟨bb, rfl, h3⟩
  have H3 := Lib.hid h3
  clear h3 q2 d40 d60
  obtain ⟨ub, hub⟩ : ∃ q, q = w.heap.size := ⟨_, rfl⟩
  have hur := HUR.out
  rw [← hub] at hur ⊢
  have HURB := Lib.hid hur
  have HUB := Lib.hid hub
  clear hur HUR hub
  go_wp2_with fail
  go_loopw [28] (fun v wr => ∃ (j : Nat) (L : List Us), j ≤ n ∧ v = .int .i64 j ∧ Ap L ∧ Bs w2 wr bb L (fun _ => False)) (fun v _ => n - (intOf v).toNat)
  case atStart => exact ⟨0, [], by omega, rfl, Ap.nil, H3.out⟩
  case round =>
    obtain ⟨j, L, hj, rfl, hap, hbs⟩ := hrel
    have HAP := Lib.hid hap
    have HBS := Lib.hid hbs
    clear hap hbs
    by_cases hlt : j < n
    · have hd : decide ((j : Int) < (n : Int)) = true := decide_eq_true (by omega)
      have hlti : (j : Int) < (n : Int) := by omega
      obtain ⟨x, hx⟩ : ∃ x, l[j]? = some x := ⟨l[j]'(by rw [HX.out.len]; exact hlt), List.getElem?_eq_getElem _⟩
      have hx16 := HX.out.k16 x (List.mem_of_getElem? hx)
      obtain ⟨b, o, rfl, hbl, hrg⟩ := HX.out.row j x hx
      have hbw := below_seq HB1.out (below_seq HB2.out HBS.out.bel)
      have HR := Lib.hid (show wr.rangeAt b (o + j * 20) x.cells from fun i v hi => (hbw.cell (p := ⟨b, o + j * 20 + i, none⟩) hbl).trans (hrg i v hi))
      have HXI := Lib.hid (show (Try.prog.info? 30).map (·.size) = some x.cells.length from by rw [Us.len hx16]; exact infoU)
      obtain ⟨XV, hXV⟩ : ∃ z, z = x.arr := ⟨_, rfl⟩
      have hx2 : x.cells.toArray = XV := hXV.symm
      have hX20 : XV.size = 20 := by rw [hXV]; exact Us.size hx16
      have HI2 := Lib.hid (show (Try.prog.info? 30).map (·.size) = some XV.size from by rw [hX20]; exact infoU)
      have HZ2 := Lib.hid (show ZV.size = XV.size from by rw [hX20, HZV.out]; rfl)
      have HON := Lib.hid (show XV.all (·.oneCell') = true from by rw [hXV]; exact all_oneCell_toArray (Us.one _))
      obtain ⟨W8, hW8⟩ : ∃ q, q = wr.alloc (.cells XV 30) := ⟨_, rfl⟩
      have hb8 : Below wr.heap.size wr W8 := by rw [hW8]; exact below_of_new _ _
      have hr8 : W8.heap[wr.heap.size]? = some (.cells x.arr 30 (0, 0)) := by rw [hW8, hXV]; exact heap_alloc_new _ _
      have q0 := (us_row hr8 hx16).1
      have HG8 := Lib.hid (show ∀ z, (wr.alloc (.cells z 30)).heap[wr.heap.size]? = some (.cells z 30 (0, 0)) from fun z => heap_alloc_new wr _)
      have HW8 := Lib.hid (show wr.alloc (.cells XV 30) = W8 from hW8.symm)
      have HR8 := Lib.hid (show W8.heap[wr.heap.size]? = some (.cells XV 30 (0, 0)) from by rw [hXV]; exact hr8)
      have hbs8 := (HBS.out.below hb8).1
      by_cases hs60 : x.nm.size ≤ 60
      · have d60 : decide ((x.nm.size : Int) ≤ 60) = true := decide_eq_true (by omega)
        have hadd := add_any hbs8 (by have := HAP.out.le; omega) hx16 (by omega)
        have hap := (HAP.out.add hx16).1
        obtain ⟨G, hG⟩ : ∃ z, z = addU L x := ⟨_, rfl⟩
        rw [← hG, ← hXV] at hadd
        rw [← hG] at hap
        have HAP2 := Lib.hid hap
        have HADD := Lib.hid hadd
        clear hrg hbl hbw hXV hX20 hW8 hb8 hr8 hbs8 hadd hap hG hx
        go_wp2_with (first
          | (refine wpList_load_mid (op := ⟨some 31, _, _, _, _, _⟩) rfl 30 (.tmp 30) rfl b (o + j * 20) rfl x.cells _ HR.out Try.underlying30 rfl HXI.out ?_; rw [hx2])
          | (refine wpList_store_row (o := ⟨none, _, _, _, _, _⟩) rfl 30 (.tmp 7) (.tmp 31) rfl wr.heap.size XV rfl rfl 30 _ (HG8.out _) HI2.out HZ2.out HON.out ?_; rw [World.setRow_alloc_new, HW8.out])
          | (refine wpList_load_row (o := ⟨some 37, _, _, _, _, _⟩) rfl 30 (.tmp 7) rfl wr.heap.size rfl 30 XV (0, 0) _ HR8.out Try.underlying30 rfl HI2.out ?_))
        refine HADD.out.mono ?_
        rintro e w9 ⟨rfl, hb9, _⟩
        have HB9 := Lib.hid hb9
        clear hb9
        go_wp2
        go_roundw
        case rel => exact ⟨j + 1, _, by omega, by go_num, HAP2.out, HB9.out⟩
        case measure => simp [intOf]; omega
      · have d60 : decide ((x.nm.size : Int) ≤ 60) = false := decide_eq_false (by omega)
        have HB9 := Lib.hid hbs8
        clear hrg hbl hbw hXV hX20 hW8 hb8 hr8 hbs8 hx
        go_wp2_with (first
          | (refine wpList_load_mid (op := ⟨some 31, _, _, _, _, _⟩) rfl 30 (.tmp 30) rfl b (o + j * 20) rfl x.cells _ HR.out Try.underlying30 rfl HXI.out ?_; rw [hx2])
          | (refine wpList_store_row (o := ⟨none, _, _, _, _, _⟩) rfl 30 (.tmp 7) (.tmp 31) rfl wr.heap.size XV rfl rfl 30 _ (HG8.out _) HI2.out HZ2.out HON.out ?_; rw [World.setRow_alloc_new, HW8.out]))
        go_roundw
        case rel => exact ⟨j + 1, _, by omega, by go_num, HAP.out, HB9.out⟩
        case measure => simp [intOf]; omega
    · obtain rfl : j = n := by omega
      have hlt : ¬ (j : Int) < (j : Int) := by omega
      obtain ⟨A0, c0, h0⟩ := HBS.out.place'
      go_wp2_with fail
      refine (names_any h0 (by have := HAP.out.le; omega)).mono ?_
      rintro e w4 ⟨A8, c8, rfl, ho8, hb4⟩
      obtain ⟨m, hm⟩ : ∃ q, q = L.length := ⟨_, rfl⟩
      rw [← hm] at ho8 ⊢
      have hm32 : m ≤ 32 := by rw [hm]; exact HAP.out.le
      have hbs4 : Bs w2 w4 bb L (fun b => ob A8 = some b) := HBS.out.add hb4 (fun b e => .inr (ho8.lt b (by rw [ob_slice]; exact e)))
      have WAS := Lib.hid (show ∀ W, Below w2.heap.size w2 W → Rws (fun b => ob A8 = some b) w4 W → W.ownsRow wr.heap.size 9 1 (.slice A8 m c8) m ((namesU L).map encStr) from fun W hb hr => own_sameB ho8 (hb.os.trans hbs4.bel.os.symm) (hb.tape.trans hbs4.bel.tape.symm) (hb.output.trans hbs4.bel.output.symm) hr.1 fun g hg => hr.2 g (by rw [← ob_slice A8 m c8]; exact hg))
      have HM := Lib.hid hm
      have HB4 := Lib.hid hbs4
      have HR4 := Lib.hid (HURB.out w4 (below_seq HB2.out hbs4.bel)).1
      have hadd := add_any hbs4 (by omega) HU16.out (by omega)
      have hapu := HAP.out.add HU16.out
      obtain ⟨G, hG⟩ : ∃ z, z = addU L u := ⟨_, rfl⟩
      rw [← hG, ← HUV.out] at hadd
      rw [← hG] at hapu
      have HADD := Lib.hid hadd
      have HAPU := Lib.hid hapu
      clear h0 ho8 hb4 hm hbs4 hadd hapu hG
      go_wp2_with (refine wpList_load_row (o := ⟨some 43, _, _, _, _, _⟩) rfl 30 (.tmp 3) rfl ub rfl 30 UV (0, 0) _ HR4.out Try.underlying30 rfl HI.out ?_)
      refine HADD.out.mono ?_
      rintro e w5 ⟨rfl, hb5, hr5⟩
      by_cases hc : G.2 = 0
      · obtain ⟨hG1, hneg, hl32⟩ := HAPU.out.2.1 hc
        rw [hG1] at hb5
        rw [hc]
        have HB5 := Lib.hid hb5
        have HR5 := Lib.hid hr5
        have HNEG := Lib.hid hneg
        clear hb5 hr5 hneg hG1 hc
        obtain ⟨A5, c5, h5⟩ := HB5.out.place'
        go_wp2_with fail
        refine (names_any h5 (by rw [List.length_append, List.length_singleton]; omega)).mono ?_
        rintro e w6 ⟨A6, c6, rfl, _, hb6⟩
        obtain ⟨p, hp⟩ : ∃ q, q = (L ++ [u]).length := ⟨_, rfl⟩
        rw [← hp]
        have hpm : (p : Int) = (m : Int) + 1 := by rw [hp, List.length_append, List.length_singleton, ← HM.out]; rfl
        have hwm : IntKind.i64.wrap ((m : Int) + 1) = (m : Int) + 1 := by rw [IntKind.wrap_i64]; omega
        have h6 := HB5.out.below hb6
        have HB6 := Lib.hid h6
        have q6 : w6.cell? ⟨ub, 0, none⟩ = some (.string u.nm) := (HURB.out w6 (below_seq HB2.out h6.1.bel)).2
        have hdr := drop_any h6.1 (by rw [List.length_append, List.length_singleton]; omega) u.nm
        rw [drop_add HNEG.out] at hdr
        have HDR := Lib.hid hdr
        clear h5 hb6 hp h6 hdr
        go_wp2_with fail
        refine HDR.out.mono ?_
        rintro e w7 ⟨rfl, hb7, hr7⟩
        have HBZ := Lib.hid hb7
        have HRZ := Lib.hid (show Rws (fun b => ob A8 = some b) w4 w7 from ⟨Nat.le_trans HR5.out.1 (Nat.le_trans HB6.out.2.1 hr7.1), fun b hb => (hr7.2 b hb).trans ((HB6.out.2.2 b hb).trans (HR5.out.2 b hb))⟩)
        clear hb7 hr7 q6
        obtain ⟨A1, c1, h1⟩ := HBZ.out.place'
        go_wp2_with fail
        refine (names_any h1 (by have := HAP.out.le; omega)).mono ?_
        rintro e wn ⟨A9, c9, rfl, ho9, hbn⟩
        rw [← HM.out] at ho9 ⊢
        have hbz := HBZ.out.below hbn
        have HWN := Lib.hid (WAS.out wn hbz.1.bel ⟨Nat.le_trans HRZ.out.1 hbz.2.1, fun b hb => (hbz.2.2 b hb).trans (HRZ.out.2 b hb)⟩)
        have HO9 := Lib.hid ho9
        have HBN := Lib.hid hbz.1
        clear h1 ho9 hbn hbz
        go_wp2_with fail
        go_loopw [69] (fun v wy => ∃ i : Nat, i ≤ m ∧ v = .int .i64 i ∧ Below wn.heap.size wn wy) (fun v _ => m - (intOf v).toNat)
        case atStart => exact ⟨0, by omega, rfl, Below.refl _ _⟩
        case round =>
          obtain ⟨i, hi, rfl, hby⟩ := hrel
          have HBY := Lib.hid hby
          clear hby
          by_cases hlt2 : i < m
          · have hd2 : decide ((i : Int) < (m : Int)) = true := decide_eq_true (by omega)
            have hlti2 : (i : Int) < (m : Int) := by omega
            have hnl := namesU_len L
            obtain ⟨x, hxn⟩ : ∃ x, (namesU L)[i]? = some x := ⟨(namesU L)[i]'(by rw [hnl, ← HM.out]; exact hlt2), List.getElem?_eq_getElem _⟩
            obtain ⟨g9, rfl, hg9, _, hc9⟩ := str_at HO9.out hxn
            obtain ⟨g8, rfl, hg8, _, hc8⟩ := str_at HWN.out hxn
            obtain ⟨v, hgv, hvn, hvL⟩ := getU_name (List.mem_of_getElem? hxn)
            have hv16 := HAP.out.k16 v hvL
            have HC9 := Lib.hid (show ∀ (k : Nat) (y : List UInt8), (namesU L)[k]? = some y → ∀ W, Below wn.heap.size wn W → W.cell? ⟨g9, k, none⟩ = some (.string ⟨y.toArray⟩) from fun k y hy W h => by
              obtain ⟨g', e, _, _, hc⟩ := str_at HO9.out hy
              cases e
              exact (h.cell (p := ⟨g9, k, none⟩) hg9).trans hc)
            have HC8 := Lib.hid (show ∀ W, Below wn.heap.size wn W → W.cell? ⟨g8, i, none⟩ = some (.string ⟨x.toArray⟩) from fun W h => (h.cell (p := ⟨g8, i, none⟩) hg8).trans hc8)
            obtain ⟨X, hX⟩ : ∃ q, q = (⟨x.toArray⟩ : ByteArray) := ⟨_, rfl⟩
            have hget := get_any (((HBN.out.below HBY.out).1.place').choose_spec.choose_spec) (by have := HAP.out.le; omega) X
            rw [show getU L X = (v, 0) from by rw [hX]; exact hgv] at hget
            have k9 : wr.cell? ⟨g9, i, none⟩ = some (.string X) := by rw [hX]; exact HC9.out i x hxn wr HBY.out
            obtain ⟨VV, hVV⟩ : ∃ q, q = v.arr := ⟨_, rfl⟩
            have hV20 : VV.size = 20 := by rw [hVV]; exact Us.size hv16
            have HIV := Lib.hid (show (Try.prog.info? 30).map (·.size) = some VV.size from by rw [hV20]; exact infoU)
            have HZV2 := Lib.hid (show ZV.size = VV.size from by rw [hV20, HZV.out]; rfl)
            have HVO := Lib.hid (show VV.all (·.oneCell') = true from by rw [hVV]; exact all_oneCell_toArray (Us.one _))
            simp only [← hVV] at hget
            have HVV := Lib.hid hVV
            have HVN := Lib.hid (show v.nm = X from by rw [hX]; exact hvn)
            have HXE := Lib.hid hX
            have HXN := Lib.hid hxn
            have HV16 := Lib.hid hv16
            have HGET := Lib.hid hget
            have hxx : (X.toList == X.toList) = true := by simp
            clear hX hVV hV20 hxn hgv hvn hvL hc9 hc8 hnl hv16 hget
            go_wp2_with fail
            refine HGET.out.mono ?_
            rintro e w10 ⟨rfl, hb10⟩
            obtain ⟨W11, hW11⟩ : ∃ q, q = w10.alloc (.cells VV 30) := ⟨_, rfl⟩
            have hb11 : Below wr.heap.size wr W11 := by rw [hW11]; exact below_alloc hb10 _
            have hr11 : W11.heap[w10.heap.size]? = some (.cells v.arr 30 (0, 0)) := by rw [hW11, HVV.out]; exact heap_alloc_new _ _
            have r0 : W11.cell? ⟨w10.heap.size, 0, none⟩ = some (.string X) := by rw [← HVN.out]; exact (us_row hr11 HV16.out).1
            have HB11 := Lib.hid (below_seq HBY.out hb11)
            have k8 : W11.cell? ⟨g8, i, none⟩ = some (.string X) := by rw [HXE.out]; exact HC8.out W11 HB11.out
            have HG11 := Lib.hid (show ∀ z, (w10.alloc (.cells z 30)).heap[w10.heap.size]? = some (.cells z 30 (0, 0)) from fun z => heap_alloc_new w10 _)
            have HW11 := Lib.hid (show w10.alloc (.cells VV 30) = W11 from hW11.symm)
            clear hW11 hb11 hr11 hb10
            go_wp2_with (refine wpList_store_row (o := ⟨none, _, _, _, _, _⟩) rfl 30 (.tmp 12) (.tmp 78) rfl w10.heap.size VV rfl rfl 30 _ (HG11.out _) HIV.out HZV2.out HVO.out ?_; rw [World.setRow_alloc_new, HW11.out]; apply Hid.out)
            refine Lib.hid ?_
            by_cases hi0 : i = 0
            · have hp0 : decide ((0 : Int) < (i : Int)) = false := decide_eq_false (by omega)
              have hp1 : ¬ (0 : Int) < (i : Int) := by omega
              have HI0 := Lib.hid hi0
              clear hi0
              go_wp2_with fail
              go_roundw
              case rel => exact ⟨i + 1, by omega, by go_num, HB11.out⟩
              case measure => simp [intOf]; omega
            · obtain ⟨k, hk⟩ : ∃ k, i = k + 1 := ⟨i - 1, by omega⟩
              have hp0 : decide ((0 : Int) < (i : Int)) = true := decide_eq_true (by omega)
              have hp1 : (0 : Int) < (i : Int) := by omega
              have hsub : (i : Int) - 1 = (k : Int) := by omega
              have hwk : IntKind.i64.wrap (k : Int) = (k : Int) := by rw [IntKind.wrap_i64]; omega
              have hkm : k < m := by omega
              have hki : (k : Int) < (m : Int) := by omega
              obtain ⟨y, hy⟩ : ∃ y, (namesU L)[k]? = some y := ⟨(namesU L)[k]'(by rw [namesU_len, ← HM.out]; omega), List.getElem?_eq_getElem _⟩
              have hyx : y < x := by
                have hpw := names_lt HAP.out.nd
                have h1 := (List.getElem?_eq_some_iff.1 hy)
                have h2 := (List.getElem?_eq_some_iff.1 HXN.out)
                obtain ⟨a1, rfl⟩ := h1
                obtain ⟨a2, rfl⟩ := h2
                exact List.pairwise_iff_getElem.1 hpw k i a1 a2 (by omega)
              obtain ⟨Y, hY⟩ : ∃ q, q = (⟨y.toArray⟩ : ByteArray) := ⟨_, rfl⟩
              have kp : W11.cell? ⟨g9, k, none⟩ = some (.string Y) := by rw [hY]; exact HC9.out k y hy W11 HB11.out
              have hless : Op.bytesLess Y.toList X.toList = true := by
                have e : ∀ l : List UInt8, (⟨l.toArray⟩ : ByteArray).toList = l := fun l => by
                  rw [show (⟨l.toArray⟩ : ByteArray).toList = (⟨l.toArray⟩ : ByteArray).data.toList from by first | exact ByteArray.toList_eq _ | simp [ByteArray.toList] | rfl]
                rw [hY, HXE.out, e, e, less_iff]
                exact decide_eq_true hyx
              have HI0 := Lib.hid hk
              clear hi0 hk hy hyx hY
              go_wp2_with fail
              go_roundw
              case rel => exact ⟨i + 1, by omega, by go_num, HB11.out⟩
              case measure => simp [intOf]; omega
          · obtain rfl : i = m := by omega
            have hlt2 : ¬ (i : Int) < (i : Int) := by omega
            go_wp2
            go_ret
            exact ⟨rfl, below_seq HB1.out (below_seq HB2.out (below_seq HBN.out.bel HBY.out))⟩
      · have hG1 := HAPU.out.2.2 hc
        rw [hG1] at hb5
        have HBZ := Lib.hid hb5
        have HRZ := Lib.hid hr5
        have hcb : (G.2 == 0) = false := by simpa using hc
        clear hb5 hr5 hG1
        obtain ⟨A1, c1, h1⟩ := HBZ.out.place'
        go_wp2_with fail
        refine (names_any h1 (by have := HAP.out.le; omega)).mono ?_
        rintro e wn ⟨A9, c9, rfl, ho9, hbn⟩
        rw [← HM.out] at ho9 ⊢
        have hbz := HBZ.out.below hbn
        have HWN := Lib.hid (WAS.out wn hbz.1.bel ⟨Nat.le_trans HRZ.out.1 hbz.2.1, fun b hb => (hbz.2.2 b hb).trans (HRZ.out.2 b hb)⟩)
        have HO9 := Lib.hid ho9
        have HBN := Lib.hid hbz.1
        clear h1 ho9 hbn hbz
        go_wp2_with fail
        go_loopw [69] (fun v wy => ∃ i : Nat, i ≤ m ∧ v = .int .i64 i ∧ Below wn.heap.size wn wy) (fun v _ => m - (intOf v).toNat)
        case atStart => exact ⟨0, by omega, rfl, Below.refl _ _⟩
        case round =>
          obtain ⟨i, hi, rfl, hby⟩ := hrel
          have HBY := Lib.hid hby
          clear hby
          by_cases hlt2 : i < m
          · have hd2 : decide ((i : Int) < (m : Int)) = true := decide_eq_true (by omega)
            have hlti2 : (i : Int) < (m : Int) := by omega
            have hnl := namesU_len L
            obtain ⟨x, hxn⟩ : ∃ x, (namesU L)[i]? = some x := ⟨(namesU L)[i]'(by rw [hnl, ← HM.out]; exact hlt2), List.getElem?_eq_getElem _⟩
            obtain ⟨g9, rfl, hg9, _, hc9⟩ := str_at HO9.out hxn
            obtain ⟨g8, rfl, hg8, _, hc8⟩ := str_at HWN.out hxn
            obtain ⟨v, hgv, hvn, hvL⟩ := getU_name (List.mem_of_getElem? hxn)
            have hv16 := HAP.out.k16 v hvL
            have HC9 := Lib.hid (show ∀ (k : Nat) (y : List UInt8), (namesU L)[k]? = some y → ∀ W, Below wn.heap.size wn W → W.cell? ⟨g9, k, none⟩ = some (.string ⟨y.toArray⟩) from fun k y hy W h => by
              obtain ⟨g', e, _, _, hc⟩ := str_at HO9.out hy
              cases e
              exact (h.cell (p := ⟨g9, k, none⟩) hg9).trans hc)
            have HC8 := Lib.hid (show ∀ W, Below wn.heap.size wn W → W.cell? ⟨g8, i, none⟩ = some (.string ⟨x.toArray⟩) from fun W h => (h.cell (p := ⟨g8, i, none⟩) hg8).trans hc8)
            obtain ⟨X, hX⟩ : ∃ q, q = (⟨x.toArray⟩ : ByteArray) := ⟨_, rfl⟩
            have hget := get_any (((HBN.out.below HBY.out).1.place').choose_spec.choose_spec) (by have := HAP.out.le; omega) X
            rw [show getU L X = (v, 0) from by rw [hX]; exact hgv] at hget
            have k9 : wr.cell? ⟨g9, i, none⟩ = some (.string X) := by rw [hX]; exact HC9.out i x hxn wr HBY.out
            obtain ⟨VV, hVV⟩ : ∃ q, q = v.arr := ⟨_, rfl⟩
            have hV20 : VV.size = 20 := by rw [hVV]; exact Us.size hv16
            have HIV := Lib.hid (show (Try.prog.info? 30).map (·.size) = some VV.size from by rw [hV20]; exact infoU)
            have HZV2 := Lib.hid (show ZV.size = VV.size from by rw [hV20, HZV.out]; rfl)
            have HVO := Lib.hid (show VV.all (·.oneCell') = true from by rw [hVV]; exact all_oneCell_toArray (Us.one _))
            simp only [← hVV] at hget
            have HVV := Lib.hid hVV
            have HVN := Lib.hid (show v.nm = X from by rw [hX]; exact hvn)
            have HXE := Lib.hid hX
            have HXN := Lib.hid hxn
            have HV16 := Lib.hid hv16
            have HGET := Lib.hid hget
            have hxx : (X.toList == X.toList) = true := by simp
            clear hX hVV hV20 hxn hgv hvn hvL hc9 hc8 hnl hv16 hget
            go_wp2_with fail
            refine HGET.out.mono ?_
            rintro e w10 ⟨rfl, hb10⟩
            obtain ⟨W11, hW11⟩ : ∃ q, q = w10.alloc (.cells VV 30) := ⟨_, rfl⟩
            have hb11 : Below wr.heap.size wr W11 := by rw [hW11]; exact below_alloc hb10 _
            have hr11 : W11.heap[w10.heap.size]? = some (.cells v.arr 30 (0, 0)) := by rw [hW11, HVV.out]; exact heap_alloc_new _ _
            have r0 : W11.cell? ⟨w10.heap.size, 0, none⟩ = some (.string X) := by rw [← HVN.out]; exact (us_row hr11 HV16.out).1
            have HB11 := Lib.hid (below_seq HBY.out hb11)
            have k8 : W11.cell? ⟨g8, i, none⟩ = some (.string X) := by rw [HXE.out]; exact HC8.out W11 HB11.out
            have HG11 := Lib.hid (show ∀ z, (w10.alloc (.cells z 30)).heap[w10.heap.size]? = some (.cells z 30 (0, 0)) from fun z => heap_alloc_new w10 _)
            have HW11 := Lib.hid (show w10.alloc (.cells VV 30) = W11 from hW11.symm)
            clear hW11 hb11 hr11 hb10
            go_wp2_with (refine wpList_store_row (o := ⟨none, _, _, _, _, _⟩) rfl 30 (.tmp 12) (.tmp 78) rfl w10.heap.size VV rfl rfl 30 _ (HG11.out _) HIV.out HZV2.out HVO.out ?_; rw [World.setRow_alloc_new, HW11.out]; apply Hid.out)
            refine Lib.hid ?_
            by_cases hi0 : i = 0
            · have hp0 : decide ((0 : Int) < (i : Int)) = false := decide_eq_false (by omega)
              have hp1 : ¬ (0 : Int) < (i : Int) := by omega
              have HI0 := Lib.hid hi0
              clear hi0
              go_wp2_with fail
              go_roundw
              case rel => exact ⟨i + 1, by omega, by go_num, HB11.out⟩
              case measure => simp [intOf]; omega
            · obtain ⟨k, hk⟩ : ∃ k, i = k + 1 := ⟨i - 1, by omega⟩
              have hp0 : decide ((0 : Int) < (i : Int)) = true := decide_eq_true (by omega)
              have hp1 : (0 : Int) < (i : Int) := by omega
              have hsub : (i : Int) - 1 = (k : Int) := by omega
              have hwk : IntKind.i64.wrap (k : Int) = (k : Int) := by rw [IntKind.wrap_i64]; omega
              have hkm : k < m := by omega
              have hki : (k : Int) < (m : Int) := by omega
              obtain ⟨y, hy⟩ : ∃ y, (namesU L)[k]? = some y := ⟨(namesU L)[k]'(by rw [namesU_len, ← HM.out]; omega), List.getElem?_eq_getElem _⟩
              have hyx : y < x := by
                have hpw := names_lt HAP.out.nd
                have h1 := (List.getElem?_eq_some_iff.1 hy)
                have h2 := (List.getElem?_eq_some_iff.1 HXN.out)
                obtain ⟨a1, rfl⟩ := h1
                obtain ⟨a2, rfl⟩ := h2
                exact List.pairwise_iff_getElem.1 hpw k i a1 a2 (by omega)
              obtain ⟨Y, hY⟩ : ∃ q, q = (⟨y.toArray⟩ : ByteArray) := ⟨_, rfl⟩
              have kp : W11.cell? ⟨g9, k, none⟩ = some (.string Y) := by rw [hY]; exact HC9.out k y hy W11 HB11.out
              have hless : Op.bytesLess Y.toList X.toList = true := by
                have e : ∀ l : List UInt8, (⟨l.toArray⟩ : ByteArray).toList = l := fun l => by
                  rw [show (⟨l.toArray⟩ : ByteArray).toList = (⟨l.toArray⟩ : ByteArray).data.toList from by first | exact ByteArray.toList_eq _ | simp [ByteArray.toList] | rfl]
                rw [hY, HXE.out, e, e, less_iff]
                exact decide_eq_true hyx
              have HI0 := Lib.hid hk
              clear hi0 hk hy hyx hY
              go_wp2_with fail
              go_roundw
              case rel => exact ⟨i + 1, by omega, by go_num, HB11.out⟩
              case measure => simp [intOf]; omega
          · obtain rfl : i = m := by omega
            have hlt2 : ¬ (i : Int) < (i : Int) := by omega
            go_wp2
            go_ret
            exact ⟨rfl, below_seq HB1.out (below_seq HB2.out (below_seq HBN.out.bel HBY.out))⟩
end Go.Proofs.Ytlngbpipmaaedaa.Ba
