/-
  cache: Show's walk.
-/
import Derived.Test.YtpdbdlaoeidflaaChs
import Derived.BigQuiet
namespace Go.Proofs.Ytpdbdlaoeidflaa.Ch
open Go.RowKit
open Go.Proofs.Ytpdbdlaoeidflaa.Kit
set_option linter.unusedVariables false

set_option maxRecDepth 100000 in
set_option maxHeartbeats 4000000 in
theorem show_any {w : World} {B cb M c : Nat} {A : Option Addr} {l : List It} (h : ChAt w B cb M A c l) (hB : B ≤ w.heap.size) (now : Int) (x : It) :
    Calls Try.prog 9 #[.pointer (some ⟨cb, 0, none⟩), .int .i64 now, .string x.cl, .int .i64 x.tm, .int .i64 x.sq] w fun e w' => e = .returned (.int .i64 (showS M l now x).2) ∧ ∃ A' c', ChAt w' B cb M A' c' (showS M l now x).1 ∧ Stay w w' cb A A' := by
  obtain ⟨R, hR⟩ : ∃ R, R = showS M l now x := ⟨_, rfl⟩
  rw [← hR]
  have hb1 := below_of_new w (.cells #[.int .i64 now] 2)
  have hc1 : (w.alloc (.cells #[.int .i64 now] 2)).cell? ⟨w.heap.size, 0, none⟩ = some (.int .i64 now) := by rw [cell_of_row _ _ _ _ _ _ (heap_alloc_new w _)]; rfl
  have hnr := near_any now x.tm (w.alloc (.cells #[.int .i64 now] 2))
  have HC := Lib.hid h
  have HR := Lib.hid hR
  have HB1 := Lib.hid hb1
  clear h hR hb1
  by_cases hn : nearS now x.tm = true
  · rw [hn] at hnr
    have hn2 := nearS_iff.1 hn
    obtain ⟨i0, hi, hz0, hz1, hz2⟩ := info_parts infoI
    obtain ⟨FV, hFV⟩ : ∃ F, F = x.arr := ⟨_, rfl⟩
    have hFs : FV.size = 3 := by rw [hFV]; rfl
    have hb2 := below_alloc HB1.out (.cells FV 43)
    obtain ⟨W2, hW2⟩ : ∃ W, W = (w.alloc (.cells #[.int .i64 now] 2)).alloc (.cells FV 43) := ⟨_, rfl⟩
    have hg2 : W2.heap[w.heap.size + 1]? = some (.cells FV 43 (0, 0)) := by rw [hW2]; exact heap_new' _ _ (by simp)
    have hg1 : W2.heap[w.heap.size]? = some (.cells #[.int .i64 now] 2 (0, 0)) := by rw [hW2, heap_alloc_old _ _ (by simp)]; exact heap_alloc_new w _
    rw [← hW2] at hb2
    have hs2 : W2.heap.size = w.heap.size + 2 := by rw [hW2]; simp
    have hC2 := HC.out.on hb2
    have hll : l.length ≤ 64 := Nat.le_trans HC.out.ll HC.out.m64
    have hrd := RdI.of_own hC2.own (by omega)
    have hcb := HC.out.lt
    obtain ⟨n, hnn⟩ : ∃ n, n = l.length := ⟨_, rfl⟩
    have hbx2 := hC2.box
    rw [← hnn] at hrd hbx2
    have HBX2 := Lib.hid hbx2
    have HLT2 := Lib.hid (show cb < W2.heap.size ∧ w.heap.size + 1 < W2.heap.size from ⟨by omega, by omega⟩)
    have HFI := Lib.hid (show (Try.prog.info? 43).map (·.size) = some FV.size from by rw [hFs]; exact infoIt)
    have HFILL := Lib.hid (fun z hz => fill_it z hz FV hFs)
    have HF1 := Lib.hid (show ∀ u ∈ FV.toList, u.oneCell' = true from by rw [hFV]; exact x.one)
    have HFS := Lib.hid hFs
    have HFV := Lib.hid hFV
    have HN := Lib.hid hn
    have HN2 := Lib.hid hn2
    have HG1 := Lib.hid hg1
    have HG2 := Lib.hid hg2
    have HB2 := Lib.hid hb2
    have HS2 := Lib.hid hs2
    have HC2 := Lib.hid hC2
    have HNN := Lib.hid hnn
    have HW2 := Lib.hid (show W2 = (w.alloc (.cells #[.int .i64 now] 2)).alloc (.cells #[.string x.cl, .int .i64 x.tm, .int .i64 x.sq] 43) from by rw [hW2, hFV]; rfl)
    have hn64 : n ≤ 64 := by omega
    have hfv : Value.agg FV = .agg #[.string x.cl, .int .i64 x.tm, .int .i64 x.sq] := by rw [hFV]; rfl
    rcases hany : l.any (fun y => It.eq x y) with _ | _
    · have hcon := contains_on hrd x _ hany
      rw [← hfv] at hcon
      have HCON := Lib.hid hcon
      have HANY := Lib.hid hany
      clear hn hn2 hW2 hg1 hg2 hb2 hs2 hC2 hll hany hnn hrd hcon hFV hfv hFs hbx2
      go_enter Try.func9, Try.ntmps9
      go_wp2_with fail
      refine hnr.mono ?_
      rintro e w1 ⟨rfl, rfl⟩
      go_wp2_with fail
      have hW2' : (w.alloc (.cells #[.int .i64 now] 2)).alloc (.cells #[.string x.cl, .int .i64 x.tm, .int .i64 x.sq] 43) = W2 := HW2.out.symm
      rw [hW2', show (#[.string x.cl, .int .i64 x.tm, .int .i64 x.sq] : Array Value) = FV from HFV.out.symm]
      clear hW2'
      refine wp_region_held_drew (S := fun w' => w'.heap[cb]? = some (.cells #[.int .i64 M, .slice A n c] 41 (0, 0)) ∧ w'.heap[w.heap.size + 1]? = some (.cells FV 43 (0, 0))) (by kernel_rfl) ⟨HBX2.out, HG2.out⟩ (fun hHeld => ?_)
      refine wpAnyH_take (i := 0) (v := .pointer (some ⟨cb, 0, none⟩)) rfl (by kernel_rfl) (by kernel_rfl) (by kernel_rfl) (fun _ _ _ h => h) (Or.inl ⟨by rfl, fun wq hSw => by go_simp⟩) (by assumption) ?_
      go_simp
      refine wpAnyH_take (i := 1) (v := .pointer (some ⟨cb, 0, none⟩)) rfl (by kernel_rfl) (by kernel_rfl) (by kernel_rfl) (fun _ _ _ h => h) (Or.inl ⟨by rfl, fun wq hSw => by go_simp⟩) (by assumption) ?_
      go_simp
      refine wpAnyH_take (i := 2) (v := .pointer (some ⟨cb, 1, none⟩)) rfl (by kernel_rfl) (by kernel_rfl) (by kernel_rfl) (fun _ _ _ h => h) (Or.inl ⟨by rfl, fun wq hSw => by go_simp⟩) (by assumption) ?_
      go_simp
      refine wpAnyH_take (i := 3) (v := .slice A n c) rfl (by kernel_rfl) (by kernel_rfl) (by kernel_rfl) (fun _ _ _ h => h) (Or.inl ⟨by rfl, fun wq hSw => by (have hq := cell_of_row wq cb 1 _ _ (0, 0) hSw.1; simp only [List.getElem?_toArray, List.getElem?_cons_zero, List.getElem?_cons_succ] at hq; go_simp)⟩) (by assumption) ?_
      go_simp
      refine wpAnyH_take (i := 4) (v := .agg FV) rfl (by kernel_rfl) (by kernel_rfl) (by kernel_rfl) (fun _ _ _ h => h) (Or.inl ⟨by rfl, fun wq hSw => by (exact run_load_row hSw.2 Try.underlying43 HFI.out rfl rfl)⟩) (by assumption) ?_
      go_simp
      refine wpAnyH_ready (rs := [5]) (by kernel_rfl) (by simp) ?_
      refine AllReadyH.cons rfl (fun K hK => ?_) AllReadyH.nil
      go_simp
      go_at_call 14
      refine (HCON.out _ ⟨1, rfl⟩).mono ?_
      rintro e w3 ⟨rfl, hb3⟩
      refine hK.out _ _ ⟨(hb3.block cb HLT2.out.1).trans HBX2.out, (hb3.block _ HLT2.out.2).trans HG2.out⟩ (fun hHeld3 => ?_)
      clear hK K
      refine wpAnyH_done (by kernel_rfl) ?_ _
      clear hHeld hHeld3
      have hC3 := HC2.out.on hb3
      have hg3 : w3.heap[w.heap.size + 1]? = some (.cells FV 43 (0, 0)) := (hb3.block _ HLT2.out.2).trans HG2.out
      have hp3 : w3.cell? ⟨w.heap.size, 0, none⟩ = some (.int .i64 now) := by rw [cell_of_row _ _ _ _ _ _ ((hb3.block _ (by have := HS2.out; omega)).trans HG1.out)]; rfl
      have hox : ∀ g, w.heap.size ≤ g → ob A ≠ some g := fun g hg e => by have := (HC.out.olt e).2; omega
      have hdel := del_any hC3.own (now := now) (p := w.heap.size) (by rw [← HNN.out]; omega) hp3 (by rw [ob_slice]; exact hox _ (Nat.le_refl _)) HN2.out.1 hC3.ok
      obtain ⟨R0, hR0⟩ : ∃ R0, R0 = keepS now l := ⟨_, rfl⟩
      rw [← hR0] at hdel
      obtain ⟨k, hk⟩ : ∃ k, k = R0.length := ⟨_, rfl⟩
      rw [← hk, ← HNN.out] at hdel
      have hk64 : k ≤ 64 := by rw [hk, hR0]; have := keep_len now l; have := HNN.out; omega
      have hc3 : w3.cell? ⟨cb, 1, none⟩ = some (.slice A n c) := by rw [cell_of_row _ _ _ _ _ _ ((hb3.block cb HLT2.out.1).trans HBX2.out)]; rfl
      have HC3 := Lib.hid hC3
      have HG3 := Lib.hid hg3
      have HB3 := Lib.hid (below_seq HB2.out hb3)
      have HOX := Lib.hid hox
      have HR0 := Lib.hid hR0
      have HKN := Lib.hid hk
      have HS3 := Lib.hid (show W2.heap.size ≤ w3.heap.size from hb3.size)
      clear hC3 hg3 hp3 hox hR0 hk hb3
      go_wp2_with fail
      refine hdel.mono ?_
      rintro e w4 ⟨rfl, hown4, hg4⟩
      rw [ob_slice] at hg4
      have hcut := cut_at HC3.out HR0.out (by rw [← HKN.out]; exact hown4) hg4
      rw [← HKN.out] at hcut
      have hbx4 : w4.heap[cb]? = some (.cells #[.int .i64 M, .slice A n c] 41 (0, 0)) := (hg4.block cb HC3.out.lt (fun e => HC3.out.ne e.symm)).trans (by have := HC3.out.box; rw [← HNN.out] at this; exact this)
      have hc4 : w4.cell? ⟨cb, 1, none⟩ = some (.slice A n c) := by rw [cell_of_row _ _ _ _ _ _ hbx4]; rfl
      have hf4 : w4.frozen? ⟨cb, 1, none⟩ = false := frozen_of_row w4 cb 1 _ _ hbx4
      have hg4f : (w4.setCell ⟨cb, 1, none⟩ (.slice A k c)).heap[w.heap.size + 1]? = some (.cells FV 43 (0, 0)) := (heap_setCell_other _ _ _ _ (by show w.heap.size + 1 ≠ cb; omega)).trans ((hg4.block _ (by have := HS3.out; have := HLT2.out; omega) (fun e => HOX.out _ (Nat.le_succ _) e.symm)).trans HG3.out)
      have HCUT := Lib.hid hcut
      have HG4 := Lib.hid hg4f
      clear hcut hbx4 hg4f hown4 hg4 hdel
      go_wp2_with fail
      obtain ⟨W5, hW5⟩ : ∃ W, W = w4.setCell ⟨cb, 1, none⟩ (.slice A k c) := ⟨_, rfl⟩
      rw [← hW5] at HCUT HG4 ⊢
      have hbx5 := HCUT.out.1.box
      rw [← HKN.out] at hbx5
      have d0 : W5.cell? ⟨cb, 0, none⟩ = some (.int .i64 M) := by rw [cell_of_row _ _ _ _ _ _ hbx5]; rfl
      have d1 : W5.cell? ⟨cb, 1, none⟩ = some (.slice A k c) := by rw [cell_of_row _ _ _ _ _ _ hbx5]; rfl
      have HB5 := Lib.hid (show Stay w W5 cb A A from (Stay.of_below HB3.out).trans HCUT.out.2)
      have HBX5 := Lib.hid hbx5
      have HCUT1 := Lib.hid HCUT.out.1
      clear hW5 hc4 hf4 hbx5 hc3 HCUT
      by_cases hM : M ≤ k
      · have hd : (M : Int) ≤ (k : Int) := by omega
        have hrr : R = (R0, 8) := by rw [HR.out, showS, if_pos HN.out, HANY.out, if_neg (by simp), ← HR0.out, ← HKN.out, if_pos hM]
        have HRR := Lib.hid hrr
        clear hrr
        go_quiet (fail)
        go_wp2
        go_ret
        rw [HRR.out]
        have hq := below_of_drew (w := W5) (w' := W5.drewN nq) ⟨nq, rfl⟩ W5.heap.size
        exact ⟨rfl, A, c, HCUT1.out.on hq, HB5.out.trans (Stay.of_below hq)⟩
      · have hd : ¬ (M : Int) ≤ (k : Int) := by omega
        have hrr : R = (R0 ++ [x], 0) := by rw [HR.out, showS, if_pos HN.out, HANY.out, if_neg (by simp), ← HR0.out, ← HKN.out, if_neg hM]
        have HRR := Lib.hid hrr
        clear hrr
        go_quiet (fail)
        go_wp2_with fail
        have hq := below_of_drew (w := W5) (w' := W5.drewN nq) ⟨nq, rfl⟩ W5.heap.size
        have hC6 := HCUT1.out.on hq
        have hst6 := HB5.out.trans (Stay.of_below hq)
        have hgf6 : (W5.drewN nq).heap[w.heap.size + 1]? = some (.cells FV 43 (0, 0)) := HG4.out
        have hbx6 : (W5.drewN nq).heap[cb]? = some (.cells #[.int .i64 M, .slice A k c] 41 (0, 0)) := HBX5.out
        have hd1 : (W5.drewN nq).cell? ⟨cb, 1, none⟩ = some (.slice A k c) := d1
        obtain ⟨W6, hW6⟩ : ∃ W, W = W5.drewN nq := ⟨_, rfl⟩
        rw [← hW6] at hC6 hst6 hgf6 hbx6 hd1 ⊢
        have hd2 : (W6.alloc (.cells FV 43)).cell? ⟨cb, 1, none⟩ = some (.slice A k c) := ((below_of_new W6 _).cell (p := ⟨cb, 1, none⟩) hC6.lt).trans hd1
        have hown6 := hC6.own
        rw [← HKN.out] at hown6
        have HC6 := Lib.hid hC6
        have HST6 := Lib.hid hst6
        have HGF := Lib.hid hgf6
        have HBX6 := Lib.hid hbx6
        have HOW6 := Lib.hid hown6
        have HB6 := Lib.hid (show Below B w W6 from hst6.below HC.out hB)
        have HGL := Lib.hid (show w.heap.size + 1 < W6.heap.size from (Array.getElem?_eq_some_iff.1 hgf6).1)
        have HIO := Lib.hid (show ob A ≠ some (w.heap.size + 1) from HOX.out _ (Nat.le_succ _))
        have HIC := Lib.hid (show w.heap.size + 1 ≠ cb by omega)
        clear hq hC6 hst6 hgf6 hbx6 hown6 hW6 d0 d1 hd
        refine wp_region_held_drew (S := fun w' => w'.heap[w.heap.size + 1]? = some (.cells FV 43 (0, 0))) (by kernel_rfl) HGF.out (fun hHeld => ?_)
        refine wpAnyH_take (i := 0) (v := .pointer (some ⟨cb, 0, none⟩)) rfl (by kernel_rfl) (by kernel_rfl) (by kernel_rfl) (fun _ _ _ h => h) (Or.inl ⟨by rfl, fun wq hSw => by go_simp⟩) (by assumption) ?_
        go_simp
        refine wpAnyH_take (i := 1) (v := .pointer (some ⟨cb, 0, none⟩)) rfl (by kernel_rfl) (by kernel_rfl) (by kernel_rfl) (fun _ _ _ h => h) (Or.inl ⟨by rfl, fun wq hSw => by go_simp⟩) (by assumption) ?_
        go_simp
        refine wpAnyH_take (i := 2) (v := .pointer (some ⟨cb, 0, none⟩)) rfl (by kernel_rfl) (by kernel_rfl) (by kernel_rfl) (fun _ _ _ h => h) (Or.inl ⟨by rfl, fun wq hSw => by go_simp⟩) (by assumption) ?_
        go_simp
        refine wpAnyH_take (i := 3) (v := .pointer (some ⟨cb, 1, none⟩)) rfl (by kernel_rfl) (by kernel_rfl) (by kernel_rfl) (fun _ _ _ h => h) (Or.inl ⟨by rfl, fun wq hSw => by go_simp⟩) (by assumption) ?_
        go_simp
        refine wpAnyH_take (i := 5) (v := .agg FV) rfl (by kernel_rfl) (by kernel_rfl) (by kernel_rfl) (fun _ _ _ h => h) (Or.inl ⟨by rfl, fun wq hSw => by (exact run_load_row hSw Try.underlying43 HFI.out rfl rfl)⟩) (by assumption) ?_
        go_simp
        refine wpAnyH_ready (rs := [4, 6]) (by kernel_rfl) (by simp) ?_
        refine AllReadyH.cons rfl (fun K hK => ?_) (AllReadyH.cons rfl (fun K hK => ?_) AllReadyH.nil)
        · go_simp
          refine hK.out _ _ HGF.out (fun hHeld4 => ?_)
          clear hK K
          refine wpAnyH_ready (rs := [6]) (by kernel_rfl) (by simp) ?_
          refine AllReadyH.cons rfl (fun K hK => ?_) AllReadyH.nil
          rw [if_pos (by rfl)]
          refine wp_buildSlice 39 43 1 #[(0, .tmp 50)] rfl FV i0 _ Try.underlying39 hi hz0 (by rw [hz1]; omega) (by rw [hz1]; omega) ?hf ?_
          · rw [hz1]
            refine Eq.trans (congrArg (Instr.fill _ _) (?e : _ = [(0, Value.agg FV)])) (HFILL.out _ rfl)
            kernel_rfl
          try go_simp
          refine hK.out _ _ ((heap_alloc_old _ _ HGL.out).trans HGF.out) (fun hHeld5 => ?_)
          clear hK K
          refine wpAnyH_ready (rs := [7]) (by kernel_rfl) (by simp) ?_
          refine AllReadyH.cons rfl (fun K hK => ?_) AllReadyH.nil
          refine step_append_lies _ (by rfl) _ _ _ (by rfl) B 43 i0 _ 3 32 Try.underlying39 hi hz0 hz1 hz2 rfl (by omega) (.slice A k c) k (cellsI R0) (by rfl) (own_onN HOW6.out (below_seq (below_of_new W6 (.cells FV 43)) (below_of_drew ⟨1, rfl⟩ _))) ⟨W6.heap.size, 0, none⟩ 1 1 FV.toList (by rfl) (by rw [Array.length_toList, HFS.out]) (World.news_of_block (cs := FV) (t := 43) (fr := (0, 0)) (heap_alloc_new W6 _)) HF1.out (by omega) (by unfold maxLen; omega) (by omega) (by have := HB6.out.size; simp; omega) (W6.heap.size + 1) (by rw [heap_drew]; simp) ?_
          intro gg cap w1 hown1 hgrow1 hat1 hlt1
          have hgr6 : W6.grownBy w1 (ob A) := by
            have hq := below_seq (below_of_new W6 (.cells FV 43)) (below_of_drew ⟨1, rfl⟩ _)
            rw [ob_slice] at hgrow1
            exact grown_trans ⟨hq.os, hq.tape, hq.output, hq.size, fun b hb _ => hq.block b hb⟩ hgrow1
          have hat6 : ob A = some gg ∨ W6.heap.size ≤ gg := by
            rw [ob_slice] at hat1
            rcases hat1 with h1 | h1
            · first | exact .inl h1 | exact .inl h1.symm | (right; omega)
            · first | (right; omega) | (right; simp at h1; omega) | exact .inl h1
          have hbx1 : w1.heap[cb]? = some (.cells #[.int .i64 M, .slice A k c] 41 (0, 0)) := (hgr6.block cb HC6.out.lt (fun e => HC6.out.ne e.symm)).trans HBX6.out
          have hgf1 : w1.heap[w.heap.size + 1]? = some (.cells FV 43 (0, 0)) := (hgr6.block _ HGL.out (fun e => HIO.out e.symm)).trans HGF.out
          have HGR1 := Lib.hid hgr6
          have HAT1 := Lib.hid hat6
          have HOW1 := Lib.hid hown1
          clear hgr6 hat6 hown1 hgrow1 hat1 hlt1
          refine hK.out _ _ hgf1 (fun hHeld2 => ?_)
          clear hK K
          refine wpAnyH_take (i := 8) (v := .pointer (some ⟨cb, 0, none⟩)) rfl (by kernel_rfl) (by kernel_rfl) (by kernel_rfl) (fun _ _ _ h => h) (Or.inl ⟨by rfl, fun wq hSw => by go_simp⟩) (by assumption) ?_
          go_simp
          refine wpAnyH_take (i := 9) (v := .pointer (some ⟨cb, 1, none⟩)) rfl (by kernel_rfl) (by kernel_rfl) (by kernel_rfl) (fun _ _ _ h => h) (Or.inl ⟨by rfl, fun wq hSw => by go_simp⟩) (by assumption) ?_
          go_simp
          have hc1 : w1.cell? ⟨cb, 1, none⟩ = some (.slice A k c) := (cell_of_row w1 cb 1 _ _ (0, 0) hbx1).trans rfl
          have hf1 : w1.frozen? ⟨cb, 1, none⟩ = false := frozen_of_row w1 cb 1 _ _ hbx1
          refine wpAnyH_ready (rs := [10]) (by kernel_rfl) (by simp) ?_
          refine AllReadyH.cons rfl (fun K hK => ?_) AllReadyH.nil
          go_simp
          refine hK.out _ _ ((heap_setCell_other _ _ _ _ HIC.out).trans hgf1) (fun hHeld3 => ?_)
          clear hK K
          refine wpAnyH_done (by kernel_rfl) ?_ _
          clear hHeld2 hHeld3 hHeld
          go_wp2
          go_ret
          have hkk := HKN.out
          subst hkk
          have key := put_at (x := x) HC6.out HN2.out.2.1 (by omega) (by rw [← It.arr_list, ← HFV.out]; exact HOW1.out) HGR1.out HAT1.out
          rw [HRR.out]
          exact ⟨rfl, _, _, key.1, HST6.out.trans key.2⟩
        · rw [if_pos (by rfl)]
          refine wp_buildSlice 39 43 1 #[(0, .tmp 50)] rfl FV i0 _ Try.underlying39 hi hz0 (by rw [hz1]; omega) (by rw [hz1]; omega) ?hfb ?_
          · rw [hz1]
            refine Eq.trans (congrArg (Instr.fill _ _) (?eb : _ = [(0, Value.agg FV)])) (HFILL.out _ rfl)
            kernel_rfl
          try go_simp
          refine hK.out _ _ ((heap_alloc_old _ _ HGL.out).trans HGF.out) (fun hHeld5 => ?_)
          clear hK K
          refine wpAnyH_ready (rs := [4]) (by kernel_rfl) (by simp) ?_
          refine AllReadyH.cons rfl (fun K hK => ?_) AllReadyH.nil
          go_simp
          refine hK.out _ _ ((heap_alloc_old _ _ HGL.out).trans HGF.out) (fun hHeld4 => ?_)
          clear hK K
          refine wpAnyH_ready (rs := [7]) (by kernel_rfl) (by simp) ?_
          refine AllReadyH.cons rfl (fun K hK => ?_) AllReadyH.nil
          refine step_append_lies _ (by rfl) _ _ _ (by rfl) B 43 i0 _ 3 32 Try.underlying39 hi hz0 hz1 hz2 rfl (by omega) (.slice A k c) k (cellsI R0) (by rfl) (own_onN HOW6.out (below_seq (below_of_new W6 (.cells FV 43)) (below_of_drew ⟨1, rfl⟩ _))) ⟨W6.heap.size, 0, none⟩ 1 1 FV.toList (by rfl) (by rw [Array.length_toList, HFS.out]) (World.news_of_block (cs := FV) (t := 43) (fr := (0, 0)) (heap_alloc_new W6 _)) HF1.out (by omega) (by unfold maxLen; omega) (by omega) (by have := HB6.out.size; simp; omega) (W6.heap.size + 1) (by rw [heap_drew]; simp) ?_
          intro gg cap w1 hown1 hgrow1 hat1 hlt1
          have hgr6 : W6.grownBy w1 (ob A) := by
            have hq := below_seq (below_of_new W6 (.cells FV 43)) (below_of_drew ⟨1, rfl⟩ _)
            rw [ob_slice] at hgrow1
            exact grown_trans ⟨hq.os, hq.tape, hq.output, hq.size, fun b hb _ => hq.block b hb⟩ hgrow1
          have hat6 : ob A = some gg ∨ W6.heap.size ≤ gg := by
            rw [ob_slice] at hat1
            rcases hat1 with h1 | h1
            · first | exact .inl h1 | exact .inl h1.symm | (right; omega)
            · first | (right; omega) | (right; simp at h1; omega) | exact .inl h1
          have hbx1 : w1.heap[cb]? = some (.cells #[.int .i64 M, .slice A k c] 41 (0, 0)) := (hgr6.block cb HC6.out.lt (fun e => HC6.out.ne e.symm)).trans HBX6.out
          have hgf1 : w1.heap[w.heap.size + 1]? = some (.cells FV 43 (0, 0)) := (hgr6.block _ HGL.out (fun e => HIO.out e.symm)).trans HGF.out
          have HGR1 := Lib.hid hgr6
          have HAT1 := Lib.hid hat6
          have HOW1 := Lib.hid hown1
          clear hgr6 hat6 hown1 hgrow1 hat1 hlt1
          refine hK.out _ _ hgf1 (fun hHeld2 => ?_)
          clear hK K
          refine wpAnyH_take (i := 8) (v := .pointer (some ⟨cb, 0, none⟩)) rfl (by kernel_rfl) (by kernel_rfl) (by kernel_rfl) (fun _ _ _ h => h) (Or.inl ⟨by rfl, fun wq hSw => by go_simp⟩) (by assumption) ?_
          go_simp
          refine wpAnyH_take (i := 9) (v := .pointer (some ⟨cb, 1, none⟩)) rfl (by kernel_rfl) (by kernel_rfl) (by kernel_rfl) (fun _ _ _ h => h) (Or.inl ⟨by rfl, fun wq hSw => by go_simp⟩) (by assumption) ?_
          go_simp
          have hc1 : w1.cell? ⟨cb, 1, none⟩ = some (.slice A k c) := (cell_of_row w1 cb 1 _ _ (0, 0) hbx1).trans rfl
          have hf1 : w1.frozen? ⟨cb, 1, none⟩ = false := frozen_of_row w1 cb 1 _ _ hbx1
          refine wpAnyH_ready (rs := [10]) (by kernel_rfl) (by simp) ?_
          refine AllReadyH.cons rfl (fun K hK => ?_) AllReadyH.nil
          go_simp
          refine hK.out _ _ ((heap_setCell_other _ _ _ _ HIC.out).trans hgf1) (fun hHeld3 => ?_)
          clear hK K
          refine wpAnyH_done (by kernel_rfl) ?_ _
          clear hHeld2 hHeld3 hHeld
          go_wp2
          go_ret
          have hkk := HKN.out
          subst hkk
          have key := put_at (x := x) HC6.out HN2.out.2.1 (by omega) (by rw [← It.arr_list, ← HFV.out]; exact HOW1.out) HGR1.out HAT1.out
          rw [HRR.out]
          exact ⟨rfl, _, _, key.1, HST6.out.trans key.2⟩
    · have hcon := contains_on hrd x _ hany
      rw [← hfv] at hcon
      have HCON := Lib.hid hcon
      have HANY := Lib.hid hany
      clear hn hn2 hW2 hg1 hg2 hb2 hs2 hC2 hll hany hnn hrd hcon hFV hfv hFs hbx2
      go_enter Try.func9, Try.ntmps9
      go_wp2_with fail
      refine hnr.mono ?_
      rintro e w1 ⟨rfl, rfl⟩
      go_wp2_with fail
      have hW2' : (w.alloc (.cells #[.int .i64 now] 2)).alloc (.cells #[.string x.cl, .int .i64 x.tm, .int .i64 x.sq] 43) = W2 := HW2.out.symm
      rw [hW2', show (#[.string x.cl, .int .i64 x.tm, .int .i64 x.sq] : Array Value) = FV from HFV.out.symm]
      clear hW2'
      refine wp_region_held_drew (S := fun w' => w'.heap[cb]? = some (.cells #[.int .i64 M, .slice A n c] 41 (0, 0)) ∧ w'.heap[w.heap.size + 1]? = some (.cells FV 43 (0, 0))) (by kernel_rfl) ⟨HBX2.out, HG2.out⟩ (fun hHeld => ?_)
      refine wpAnyH_take (i := 0) (v := .pointer (some ⟨cb, 0, none⟩)) rfl (by kernel_rfl) (by kernel_rfl) (by kernel_rfl) (fun _ _ _ h => h) (Or.inl ⟨by rfl, fun wq hSw => by go_simp⟩) (by assumption) ?_
      go_simp
      refine wpAnyH_take (i := 1) (v := .pointer (some ⟨cb, 0, none⟩)) rfl (by kernel_rfl) (by kernel_rfl) (by kernel_rfl) (fun _ _ _ h => h) (Or.inl ⟨by rfl, fun wq hSw => by go_simp⟩) (by assumption) ?_
      go_simp
      refine wpAnyH_take (i := 2) (v := .pointer (some ⟨cb, 1, none⟩)) rfl (by kernel_rfl) (by kernel_rfl) (by kernel_rfl) (fun _ _ _ h => h) (Or.inl ⟨by rfl, fun wq hSw => by go_simp⟩) (by assumption) ?_
      go_simp
      refine wpAnyH_take (i := 3) (v := .slice A n c) rfl (by kernel_rfl) (by kernel_rfl) (by kernel_rfl) (fun _ _ _ h => h) (Or.inl ⟨by rfl, fun wq hSw => by (have hq := cell_of_row wq cb 1 _ _ (0, 0) hSw.1; simp only [List.getElem?_toArray, List.getElem?_cons_zero, List.getElem?_cons_succ] at hq; go_simp)⟩) (by assumption) ?_
      go_simp
      refine wpAnyH_take (i := 4) (v := .agg FV) rfl (by kernel_rfl) (by kernel_rfl) (by kernel_rfl) (fun _ _ _ h => h) (Or.inl ⟨by rfl, fun wq hSw => by (exact run_load_row hSw.2 Try.underlying43 HFI.out rfl rfl)⟩) (by assumption) ?_
      go_simp
      refine wpAnyH_ready (rs := [5]) (by kernel_rfl) (by simp) ?_
      refine AllReadyH.cons rfl (fun K hK => ?_) AllReadyH.nil
      go_simp
      go_at_call 14
      refine (HCON.out _ ⟨1, rfl⟩).mono ?_
      rintro e w3 ⟨rfl, hb3⟩
      refine hK.out _ _ ⟨(hb3.block cb HLT2.out.1).trans HBX2.out, (hb3.block _ HLT2.out.2).trans HG2.out⟩ (fun hHeld3 => ?_)
      clear hK K
      refine wpAnyH_done (by kernel_rfl) ?_ _
      have hrr : R = (l, 14) := by rw [HR.out, showS, if_pos HN.out, if_pos HANY.out]
      have HRR := Lib.hid hrr
      have HB3 := Lib.hid (below_seq HB2.out hb3)
      clear hrr hb3 hHeld hHeld3
      go_wp2
      go_ret
      rw [HRR.out]
      exact ⟨rfl, A, c, HC.out.on HB3.out, Stay.of_below HB3.out⟩
  · have hn' : nearS now x.tm = false := by simpa using hn
    rw [hn'] at hnr
    have hr : R = (l, 11) := by rw [HR.out, showS, if_neg hn]
    have HRR := Lib.hid hr
    clear hn hn' hr
    go_enter Try.func9, Try.ntmps9
    go_wp2_with fail
    refine hnr.mono ?_
    rintro e w1 ⟨rfl, rfl⟩
    go_wp2
    go_ret
    rw [HRR.out]
    exact ⟨rfl, A, c, HC.out.on HB1.out, Stay.of_below HB1.out⟩
end Go.Proofs.Ytpdbdlaoeidflaa.Ch
