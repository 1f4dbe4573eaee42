/-
  SymPlays: whole.
-/
import Derived.Test.YtbfcdlfjlailjaaSypkl
namespace Go.Proofs.Ytbfcdlfjlailjaa.Sym
open Go.RowKit
open Go.Proofs.Ytbfcdlfjlailjaa.Kit
open Go.Proofs.Ytbfcdlfjlailjaa.Oct
set_option linter.unusedVariables false

set_option maxRecDepth 1000000 in
set_option maxHeartbeats 8000000 in
theorem plays_small (A : Option Addr) (n c : Nat) (st : List Ps) (w : World) (hx : RdPs w A n c st) (hbig : ¬ 60 < n) : Calls Try.prog 3 #[.slice A n c] w fun e w' => e = .returned (.bool true) ∧ Below w.heap.size w w' := by
  go_enter Try.func3, Try.ntmps3
  go_wp2_with fail
  refine (alive7_any w).mono ?_
  rintro e w1 ⟨rfl, hb1⟩
  have t1 : decide ((60 : Int) < (n : Int)) = false := decide_eq_false (by omega)
  go_wp2_with fail
  refine (new_any w1).mono ?_
  rintro e w2 ⟨tb, L, O, S, rfl, ht, ho, hb2⟩
  go_wp2_with fail
  have hM := Mem.start (Te.new ht ho hb2)
  refine plays_loop (w0 := w1) (n := n) (c := c) (tb := tb) (A := A) round3 round4 round5 hx hb1 (by omega) (PI.mk (k := 0) (Nat.zero_le _) hM Pl.start (by rfl)) ?_ ?_
  · clear hM ht ho
    rintro a' w' ⟨u, k, T, R, S', J4, J5, J6, c4, c5, c6, K, B, M, x5, x6, hk, hM', hP, rfl⟩
    simp only [FR]
    have HT := Lib.hid hM'.te
    have HR := Lib.hid hP.rel
    have HBW := Lib.hid (below_seq hb1 hM'.te.bel)
    have HR7 := Lib.hid (show ∀ (j : Nat) (f : Fm), K[j]? = some f → ∃ g, J4 = some ⟨g, 0, none⟩ ∧ w'.rangeAt g (j * 19) f.cells ∧ g < w'.heap.size from fun j f hj => by
      obtain ⟨g, e1, e2⟩ := own_range hM'.o4 hP.rel.len hj
      exact ⟨g, e1, e2, (hM'.o4.lt g (by rw [ob_slice, e1]; rfl)).2⟩)
    have hk60 : K.length ≤ 60 := Nat.le_trans hP.kl (by omega)
    obtain ⟨n4, hn4⟩ : ∃ q, q = K.length := ⟨_, rfl⟩
    obtain ⟨n5, hn5⟩ : ∃ q, q = B.length := ⟨_, rfl⟩
    obtain ⟨n6, hn6⟩ : ∃ q, q = M.length := ⟨_, rfl⟩
    rw [← hn4, ← hn5, ← hn6]
    rw [← hn4] at hk60
    have HN4 := Lib.hid hn4
    obtain ⟨FZ, hFZ⟩ : ∃ q, q = Z19 := ⟨_, rfl⟩
    have hz35 : ∀ w, (zeroValue 35).run Try.prog w = .ok (.agg FZ) w := fun w => by rw [hFZ]; exact zero19 w
    have HFZ := Lib.hid hFZ
    obtain ⟨RZ, hRZ⟩ : ∃ q, q = Zfr := ⟨_, rfl⟩
    have hz51 : ∀ w, (zeroValue 51).run Try.prog w = .ok (.agg RZ) w := fun w => by rw [hRZ]; exact zerofr w
    have HRZ := Lib.hid hRZ
    clear hM' hP hn4 hn5 hn6 hFZ hRZ hb1 hb2
    go_wp2_with fail
    go_loopw [335] (fun vi wx => ∃ j : Nat, j ≤ n4 ∧ vi = .int .i64 (j : Nat) ∧ Below w'.heap.size w' wx) (fun vi _ => n4 - (intOf vi).toNat)
    case atStart => exact ⟨0, by omega, rfl, Below.refl _ _⟩
    case round =>
      obtain ⟨j, hj, rfl, hbx⟩ := hrel
      have HBX := Lib.hid hbx
      clear hbx
      by_cases hlj : j < n4
      · have l1 : (j : Int) < (n4 : Int) := by omega
        obtain ⟨f, hf⟩ : ∃ f, K[j]? = some f := ⟨K[j]'(by rw [← HN4.out]; exact hlj), List.getElem?_eq_getElem _⟩
        obtain ⟨g, rfl, hrg, hgl⟩ := HR7.out j f hf
        have hrg' : wr.rangeAt g (j * 19) f.cells := range_on hrg hgl HBX.out
        have hof := HR.out.len f (List.mem_of_getElem? hf)
        have hkd := HR.out.kd f (List.mem_of_getElem? hf)
        obtain ⟨FL, hFL⟩ : ∃ q, q = f.cells := ⟨_, rfl⟩
        have hF19 : FL.length = 19 := by rw [hFL]; exact Fm.cells_len hof
        rw [← hFL] at hrg'
        have HRG := Lib.hid hrg'
        have HLI := Lib.hid (show (Try.prog.info? 35).map (·.size) = some FL.length from by rw [hF19]; exact infoFm19)
        have HLA := Lib.hid (show (Try.prog.info? 35).map (·.size) = some FL.toArray.size from by simp only [List.size_toArray]; rw [hF19]; exact infoFm19)
        have HLZ := Lib.hid (show FZ.size = FL.toArray.size from by rw [HFZ.out]; simp only [List.size_toArray]; rw [hF19]; rfl)
        have HLO := Lib.hid (show FL.toArray.all (·.oneCell') = true from all_oneCell_toArray (by rw [hFL]; exact f.one))
        obtain ⟨W8, hW8⟩ : ∃ q, q = wr.alloc (.cells FL.toArray 35) := ⟨_, rfl⟩
        have hb8 : Below wr.heap.size wr W8 := by rw [hW8]; exact below_of_new _ _
        have HL8 := Lib.hid (show W8.heap[wr.heap.size]? = some (.cells f.cells.toArray 35 (0, 0)) from by rw [hW8, hFL]; exact heap_alloc_new _ _)
        have HB8 := Lib.hid (below_seq HBX.out hb8)
        have HG8 := Lib.hid (show ∀ z, (wr.alloc (.cells z 35)).heap[wr.heap.size]? = some (.cells z 35 (0, 0)) from fun z => heap_alloc_new wr _)
        have HW8 := Lib.hid (show wr.alloc (.cells FL.toArray 35) = W8 from hW8.symm)
        have HF := Lib.hid hf
        have HOF := Lib.hid hof
        clear hrg hrg' hgl hf hFL hF19 hW8 hb8 hof
        iterate 24 go_step
        refine wpList_load_mid (op := ⟨some 339, _, _, _, _, _⟩) rfl 35 (.tmp 338) rfl g (j * 19) rfl FL _ HRG.out Try.underlying35 rfl HLI.out ?_
        iterate 6 go_step
        refine wpList_store_row (o := ⟨none, _, _, _, _, _⟩) rfl 35 (.tmp 28) (.tmp 339) rfl wr.heap.size FL.toArray rfl rfl 35 _ (HG8.out _) HLA.out HLZ.out HLO.out ?_
        rw [World.setRow_alloc_new, HW8.out]
        obtain ⟨fb, hfb⟩ : ∃ q, q = wr.heap.size := ⟨_, rfl⟩
        have hL8 := HL8.out
        rw [← hfb] at hL8 ⊢
        have HL8S := Lib.hid hL8
        obtain ⟨KV, hKV⟩ : ∃ z, z = kv (mk 107 (j + 1)) := ⟨_, rfl⟩
        have HMK := Lib.hid (show ∀ W, Calls Try.prog 11 #[.int .u8 107, .int .i64 ((j : Int) + 1)] W fun e w' => e = .returned (.agg KV) ∧ Below W.heap.size W w' from fun W => by
          rw [hKV]
          exact lmark_any 107 (j + 1) W (by omega))
        have HNT := Lib.hid (show ∀ W, Calls Try.prog 23 #[.pointer (some ⟨tb, 0, none⟩), .int .i64 ((j : Int) + 1)] W fun e w' => e = .returned (.agg KV) ∧ Below W.heap.size W w' from fun W => by
          rw [hKV]
          exact nth_any _ (j + 1) W (by omega))
        have eqk : ∀ w, (Op.equalIn 10000 36 (.agg KV) (.agg KV)).run Try.prog w = .ok true w := fun w => by rw [hKV]; exact eq_one _ (mk_len _ _) w
        have HKV := Lib.hid hKV
        have hw1 : IntKind.i64.wrap ((j : Int) + 1) = (j : Int) + 1 := by rw [IntKind.wrap_i64]; omega
        clear hfb hL8 HL8 HG8 HW8 hKV
        go_wp2_with fail
        refine (HMK.out _).mono ?_
        rintro e w9 ⟨rfl, hb9⟩
        have HB9 := Lib.hid (below_seq HB8.out hb9)
        have hL9 := (hb9.block _ (Array.getElem?_eq_some_iff.1 HL8S.out).1).trans HL8S.out
        have HL9 := Lib.hid hL9
        clear hb9 hL9
        go_wp2_with fail
        have hca := (HT.out.below HB9.out).1.came (k := mk 107 (j + 1)) (mk_len _ _)
        rw [came_at HR.out (by rw [← HN4.out]; omega) HF.out, ← HKV.out] at hca
        refine hca.mono ?_
        rintro e w10 ⟨rfl, hb10⟩
        obtain ⟨CV, hCV⟩ : ∃ q, q = f.fr.cells.toArray := ⟨_, rfl⟩
        have hcv : f.fr.cells.toArray = CV := hCV.symm
        rw [hcv]
        have hC18 : CV.size = 18 := by rw [hCV]; exact Fr.cells18 (Fm.fr_ok HOF.out)
        have HCI := Lib.hid (show (Try.prog.info? 51).map (·.size) = some CV.size from by rw [hC18]; exact infoFr')
        have HCZ := Lib.hid (show RZ.size = CV.size from by rw [hC18, HRZ.out]; rfl)
        have HCO := Lib.hid (show CV.all (·.oneCell') = true from by rw [hCV]; exact all_oneCell_toArray (Fr.one _))
        have HB10 := Lib.hid (below_seq HB9.out hb10)
        have hL10 := (hb10.block _ (Array.getElem?_eq_some_iff.1 HL9.out).1).trans HL9.out
        obtain ⟨W11, hW11⟩ : ∃ q, q = w10.alloc (.cells CV 51) := ⟨_, rfl⟩
        have hb11 : Below w10.heap.size w10 W11 := by rw [hW11]; exact below_of_new _ _
        have HC11 := Lib.hid (show W11.heap[w10.heap.size]? = some (.cells f.fr.cells.toArray 51 (0, 0)) from by rw [hW11, hcv]; exact heap_alloc_new _ _)
        have HL11 := Lib.hid ((hb11.block _ (Array.getElem?_eq_some_iff.1 hL10).1).trans hL10)
        have HB11 := Lib.hid (below_seq HB10.out hb11)
        have HG11 := Lib.hid (show ∀ z, (w10.alloc (.cells z 51)).heap[w10.heap.size]? = some (.cells z 51 (0, 0)) from fun z => heap_alloc_new w10 _)
        have HW11 := Lib.hid (show w10.alloc (.cells CV 51) = W11 from hW11.symm)
        clear hca hb10 hCV hcv hC18 hL10 hW11 hb11
        go_wp2_with (refine wpList_store_row (o := ⟨none, _, _, _, _, _⟩) rfl 51 (.tmp 29) (.tmp 346) rfl w10.heap.size CV rfl rfl 51 _ (HG11.out _) HCI.out HCZ.out HCO.out ?_; rw [World.setRow_alloc_new, HW11.out]; apply Hid.out)
        refine Lib.hid ?_
        obtain ⟨cb, hcb⟩ : ∃ q, q = w10.heap.size := ⟨_, rfl⟩
        have hC11 := HC11.out
        rw [← hcb] at hC11 ⊢
        obtain ⟨y0, y1, y2⟩ := fm_row HL11.out HOF.out
        obtain ⟨z0, z1, z2⟩ := fr_row hC11 (Fm.fr_ok HOF.out)
        have HY1 := Lib.hid y1
        have HC11S := Lib.hid hC11
        have HZ0 := Lib.hid z0
        clear hcb hC11 HC11 HG11 HW11 y1 z0 y2 z1
        rcases hkd with hkd | hkd | hkd
        · have d1 : (f.kd == 1) = false := by rw [hkd]; rfl
          have d2 : (f.kd == 2) = false := by rw [hkd]; rfl
          have d0 : f.kd = 0 := hkd
          have z3 : W11.cell? ⟨cb, 17, none⟩ = some (.bool false) := by rw [z2, Fm.fr_tx, d1]
          have y3 : W11.cell? ⟨fb, 0, none⟩ = some (.int .i64 0) := by rw [y0, hkd]
          clear d0 d1 d2 hkd z2 y0
          go_wp2_with fail
          refine (HNT.out _).mono ?_
          rintro e w12 ⟨rfl, hb12⟩
          have HB12 := Lib.hid (below_seq HB11.out hb12)
          clear hb12
          go_wp2_with fail
          refine (HMK.out _).mono ?_
          rintro e w13 ⟨rfl, hb13⟩
          have HB13 := Lib.hid (below_seq HB12.out hb13)
          clear hb13
          go_wp2_with fail
          go_roundw
          case rel => exact ⟨j + 1, by omega, by go_num, HB13.out⟩
          case measure => simp [intOf]; omega
        · have d1 : (f.kd == 1) = true := by rw [hkd]; rfl
          have d2 : (f.kd == 2) = false := by rw [hkd]; rfl
          have d0 : f.kd = 1 := hkd
          have z3 : W11.cell? ⟨cb, 17, none⟩ = some (.bool true) := by rw [z2, Fm.fr_tx, d1]
          have y3 : W11.cell? ⟨fb, 0, none⟩ = some (.int .i64 1) := by rw [y0, hkd]
          clear d0 d1 d2 hkd z2 y0
          go_wp2_with fail
          refine (HNT.out _).mono ?_
          rintro e w12 ⟨rfl, hb12⟩
          have HB12 := Lib.hid (below_seq HB11.out hb12)
          clear hb12
          go_wp2_with fail
          refine (HMK.out _).mono ?_
          rintro e w13 ⟨rfl, hb13⟩
          have HB13 := Lib.hid (below_seq HB12.out hb13)
          clear hb13
          go_wp2_with fail
          go_roundw
          case rel => exact ⟨j + 1, by omega, by go_num, HB13.out⟩
          case measure => simp [intOf]; omega
        · have d1 : (f.kd == 1) = false := by rw [hkd]; rfl
          have d2 : (f.kd == 2) = true := by rw [hkd]; rfl
          have d0 : f.kd = 2 := hkd
          obtain ⟨x0, x1, x2⟩ := fm_row HL11.out HOF.out
          obtain ⟨v0, v1, v2⟩ := fr_row HC11S.out (Fm.fr_ok HOF.out)
          have y4 : W11.cell? ⟨fb, 17, none⟩ = some (.string f.a) := x2
          have z4 : W11.cell? ⟨cb, 16, none⟩ = some (.string f.a) := by rw [v1, (Fm.fr_two hkd).2]
          have HZ2 := Lib.hid (show W11.rangeAt cb 0 (f.of.map bv) from by rw [← (Fm.fr_two hkd).1]; exact HZ0.out)
          obtain ⟨OV, hOV⟩ : ∃ z, z = (f.of.map bv).toArray := ⟨_, rfl⟩
          have eqo : ∀ w, (Op.equalIn 10000 36 (.agg OV) (.agg OV)).run Try.prog w = .ok true w := fun w => by rw [hOV]; exact eq_one _ HOF.out w
          have HOV := Lib.hid hOV
          clear hOV x0 x1 x2 v0 v1 v2
          have z3 : W11.cell? ⟨cb, 17, none⟩ = some (.bool false) := by rw [z2, Fm.fr_tx, d1]
          have y3 : W11.cell? ⟨fb, 0, none⟩ = some (.int .i64 2) := by rw [y0, hkd]
          clear d0 d1 d2 hkd z2 y0
          have HIK1 := Lib.hid (show (Try.prog.info? 36).map (·.size) = some (f.of.map bv).length from by rw [List.length_map, HOF.out]; kernel_rfl)
          have HIK2 := Lib.hid (show (Try.prog.info? 32).map (·.size) = some (f.of.map bv).length from by rw [List.length_map, HOF.out]; kernel_rfl)
          iterate 45 go_step
          refine wpList_load_mid_g (op := ⟨some 364, _, _, _, _, _⟩) (by kernel_rfl) 36 (.tmp 363) rfl cb 0 rfl (f.of.map bv) _ HZ2.out Try.underlying36 rfl HIK1.out OV HOV.out ?_
          iterate 2 go_step
          refine wpList_load_mid_g (op := ⟨some 366, _, _, _, _, _⟩) (by kernel_rfl) 32 (.tmp 365) rfl fb 1 rfl (f.of.map bv) _ HY1.out Try.underlying32 rfl HIK2.out OV HOV.out ?_
          go_wp2_with fail
          refine (HNT.out _).mono ?_
          rintro e w12 ⟨rfl, hb12⟩
          have HB12 := Lib.hid (below_seq HB11.out hb12)
          clear hb12
          go_wp2_with fail
          refine (HMK.out _).mono ?_
          rintro e w13 ⟨rfl, hb13⟩
          have HB13 := Lib.hid (below_seq HB12.out hb13)
          clear hb13
          go_wp2_with fail
          go_roundw
          case rel => exact ⟨j + 1, by omega, by go_num, HB13.out⟩
          case measure => simp [intOf]; omega
      · obtain rfl : j = n4 := by omega
        have hlt : ¬ (j : Int) < (j : Int) := by omega
        obtain ⟨KV, hKV⟩ : ∃ z, z = kv (mk 107 (j + 1)) := ⟨_, rfl⟩
        have HMK := Lib.hid (show ∀ W, Calls Try.prog 11 #[.int .u8 107, .int .i64 ((j : Int) + 1)] W fun e w' => e = .returned (.agg KV) ∧ Below W.heap.size W w' from fun W => by
          rw [hKV]
          exact lmark_any 107 (j + 1) W (by omega))
        have HKV := Lib.hid hKV
        have hw1 : IntKind.i64.wrap ((j : Int) + 1) = (j : Int) + 1 := by rw [IntKind.wrap_i64]; omega
        clear hKV
        go_wp2_with fail
        refine (HMK.out _).mono ?_
        rintro e w9 ⟨rfl, hb9⟩
        have HB9 := Lib.hid (below_seq HBX.out hb9)
        clear hb9
        go_wp2_with fail
        have hca := (HT.out.below HB9.out).1.came (k := mk 107 (j + 1)) (mk_len _ _)
        rw [show mk 107 (j + 1) = mk 107 (K.length + 1) from by rw [HN4.out], came_past HR.out (by rw [← HN4.out]; omega), ← HN4.out, ← HKV.out] at hca
        refine hca.mono ?_
        rintro e w10 ⟨rfl, hb10⟩
        obtain ⟨CV, hCV⟩ : ∃ q, q = Fr.none.cells.toArray := ⟨_, rfl⟩
        have hcv : Fr.none.cells.toArray = CV := hCV.symm
        rw [hcv]
        have hC18 : CV.size = 18 := by rw [hCV]; exact Fr.cells18 rfl
        have HCI := Lib.hid (show (Try.prog.info? 51).map (·.size) = some CV.size from by rw [hC18]; exact infoFr')
        have HCZ := Lib.hid (show RZ.size = CV.size from by rw [hC18, HRZ.out]; rfl)
        have HCO := Lib.hid (show CV.all (·.oneCell') = true from by rw [hCV]; exact all_oneCell_toArray (Fr.one _))
        have HB11 := Lib.hid (below_seq HB9.out (below_seq hb10 (below_of_new w10 (.cells CV 51))))
        have HG11 := Lib.hid (show ∀ z, (w10.alloc (.cells z 51)).heap[w10.heap.size]? = some (.cells z 51 (0, 0)) from fun z => heap_alloc_new w10 _)
        clear hca hb10 hCV hcv hC18
        go_wp2_with (refine wpList_store_row (o := ⟨none, _, _, _, _, _⟩) rfl 51 (.tmp 31) (.tmp 395) rfl w10.heap.size CV rfl rfl 51 _ (HG11.out _) HCI.out HCZ.out HCO.out ?_; rw [World.setRow_alloc_new])
        go_wp2
        go_ret
        exact ⟨rfl, below_seq HBW.out HB11.out⟩
  · intro ch a a' w hq
    obtain ⟨_, he, _⟩ := hq
    cases he
end Go.Proofs.Ytbfcdlfjlailjaa.Sym
