/-
  AesBlocks holds: of all keys and blocks what the block becomes is as the document says. No condition.
-/
import Derived.Test.YtammiehklibadaaAesm
import Derived.Test.YtammiehklibadaaReff
import Derived.Test.YtammiehklibadaaFin
import Derived.Test.YtammiehklibadaaKit3
import Derived.Deep.RegionHeld3
import Derived.Orders
namespace Go.Proofs.Ytammiehklibadaa.Blkw
open Go.RowKit
open Go.Proofs.Ytammiehklibadaa.Kit
open Go.Proofs.Ytammiehklibadaa.Oct
open Go.Proofs.Ytammiehklibadaa.Aes
set_option linter.unusedVariables false

/-- the two arrays that the law has boxed -/
def Boxes2 (g : Nat) (LK LF : List Value) (w : World) : Prop := w.rangeAt g 0 LK ∧ w.rangeAt (g + 1) 0 LF

theorem st16_run {w : World} {g o : Nat} {cs : Array Value} (ht : There16 w g o) (ha : Ag16 cs) : Sem.run Try.prog (storeCells ⟨g, o, none⟩ cs.toList) w = .ok () (w.setCells g o cs.toList) := by
  have hl : cs.toList.length = 16 := by rw [Array.length_toList]; exact ha.1
  have := run_storeCells_cells (P := Try.prog) g o cs.toList 0 w (fun j hj => by simpa using (ht j (by omega)).1) (fun j hj => by simpa using (ht j (by omega)).2)
    (fun v hv => (Array.all_eq_true_iff_forall_mem.1 ha.2) v (by simpa using hv))
  simpa using this
attribute [local go_sem ↓] wp_load16 wp_load16k wp_st16 wp_load16g
attribute [local go_sem] HasRowAt_mk rowAt_mk StOk2_mk stAt_mk
set_option maxRecDepth 100000 in
set_option maxHeartbeats 8000000 in
theorem walk (key F : Nat → UInt8) (w : World) :
    Calls Try.prog 3 #[.agg (A16 key), .agg (A16 F)] w fun e w' => e = .returned (.bool true) ∧ Below w.heap.size w w' := by
  obtain ⟨LK, hLK⟩ : ∃ q, q = (row key 16).map bv := ⟨_, rfl⟩
  obtain ⟨LF, hLF⟩ : ∃ q, q = (row F 16).map bv := ⟨_, rfl⟩
  have eK : A16 key = LK.toArray := by rw [hLK]; rfl
  have eF : A16 F = LF.toArray := by rw [hLF]; rfl
  obtain ⟨W2, hW2⟩ : ∃ q, q = (w.alloc (.cells LK.toArray 22)).alloc (.cells LF.toArray 22) := ⟨_, rfl⟩
  have h2 := heap2 w (.cells LK.toArray 22) (.cells LF.toArray 22)
  have hk2 : Arr W2 w.heap.size 22 key 16 := by rw [Arr, hW2, h2.1, hLK]
  have hf2 : Arr W2 (w.heap.size + 1) 22 F 16 := by rw [Arr, hW2, h2.2, hLF]
  have hbw2 : Below w.heap.size w W2 := by rw [hW2]; exact below2 _ _ _
  rw [eK, eF]
  have HW2 := Lib.hid hW2
  have HARR := Lib.hid (show ∀ W, Below W2.heap.size W2 W → Arr W w.heap.size 22 key 16 ∧ Arr W (w.heap.size + 1) 22 F 16 from fun W h => ⟨hk2.on h hk2.lt, hf2.on h hf2.lt⟩)
  have HBW2 := Lib.hid hbw2
  have HLK := Lib.hid hLK
  have HLF := Lib.hid hLF
  have EK := Lib.hid eK
  have EF := Lib.hid eF
  clear hW2 h2 hk2 hf2 hbw2 hLK hLF eK eF
  go_enter Try.func3, Try.ntmps3
  go_wp2_with fail
  rw [← HW2.out]
  refine (alive5_any _).mono ?_
  rintro e w1 ⟨rfl, hb1⟩
  have hiK : (Try.prog.info? 22).map (·.size) = some LK.length := by rw [HLK.out, List.length_map, row_len]; exact info16
  have hiF : (Try.prog.info? 22).map (·.size) = some LF.length := by rw [HLF.out, List.length_map, row_len]; exact info16
  have HAR := Lib.hid (show ∀ W, Below w1.heap.size w1 W → Boxes2 w.heap.size LK LF W from fun W h => by
    have h1 := HARR.out W (below_seq hb1 h)
    rw [HLK.out, HLF.out]
    exact ⟨h1.1.range, h1.2.range⟩)
  have HRK := Lib.hid (show ∀ W, Below w1.heap.size w1 W → RdB W W.heap.size (some ⟨w.heap.size, 0, none⟩) 16 16 (row key 16) ∧ RdB W W.heap.size (some ⟨w.heap.size + 1, 0, none⟩) 16 16 (row F 16) from fun W h => by
    have h1 := HARR.out W (below_seq hb1 h)
    exact ⟨h1.1.rd (by omega), h1.2.rd (by omega)⟩)
  have HN := Lib.hid (show ∀ W : World, Calls Try.prog 6 #[.agg LK.toArray] W fun e w' => ∃ S, e = .returned (.pointer (some ⟨S, 0, none⟩)) ∧ W.heap.size ≤ S ∧ CipherAt w' S key ∧ Below W.heap.size W w' from fun W => by
    have := new_any key W
    rw [EK.out] at this
    exact this)
  have HBX := Lib.hid (show ∀ W : World, Calls Try.prog 10 #[] W fun e w' => ∃ A c, e = .returned (.slice A 256 c) ∧ RdB w' w'.heap.size A 256 c (row sbN 256) ∧ Below W.heap.size W w' from fun W => (boxes_own W).mono fun e w' ⟨A, c, he, ho, hb⟩ => ⟨A, c, he, Rd.of_own ho, hb⟩)
  obtain ⟨XV, hXV⟩ : ∃ q, q = A16 (blk key F) := ⟨_, rfl⟩
  obtain ⟨ZV, hZ⟩ : ∃ q, q = Z16 := ⟨_, rfl⟩
  have hz : ∀ w, (zeroValue 22).run Try.prog w = .ok (.agg ZV) w := by rw [hZ]; exact z16
  have HZA := Lib.hid (show ∀ W : World, There16 (W.alloc (.cells ZV 22)) W.heap.size 0 ∧ Arr (W.alloc (.cells ZV 22)) W.heap.size 22 (fun _ => 0) 16 from fun W => by
    have hk : Arr (W.alloc (.cells ZV 22)) W.heap.size 22 (fun _ => 0) 16 := by rw [Arr, heap_alloc_new, hZ]; rfl
    exact ⟨hk.there (by omega), hk⟩)
  have ax : Ag16 XV := by rw [hXV]; exact ag16 _
  have HBK := Lib.hid (show ∀ W S, CipherAt W S key → Calls Try.prog 7 #[.pointer (some ⟨S, 0, none⟩), .agg LF.toArray] W fun e w' => e = .returned (.agg XV) ∧ Below W.heap.size W w' from fun W S hC => by
    have := block_any S key F W hC
    rw [EF.out, ← hXV] at this
    exact this)
  have HRS := Lib.hid (show ∀ W Ab cb, Below w1.heap.size w1 W → RdB W W.heap.size Ab 256 cb (row sbN 256) → Calls Try.prog 9 #[.slice Ab 256 cb, .slice (some ⟨w.heap.size, 0, none⟩) 16 16, .slice (some ⟨w.heap.size + 1, 0, none⟩) 16 16] W fun e w' => ∃ A' c', e = .returned (.slice A' 16 c') ∧ RdB w' w'.heap.size A' 16 c' (row (blk key F) 16) ∧ Below W.heap.size W w' from fun W Ab cb h hb =>
    (refblock_new Ab _ _ cb 16 16 key F W hb (HRK.out W h).1 (HRK.out W h).2).mono fun e w' ⟨A', c', he, ho, hbl⟩ => ⟨A', c', he, Rd.of_own ho, hbl⟩)
  have hbd : Below w1.heap.size w1 w1.drew := below_of_drew ⟨1, rfl⟩ _
  have HB1 := Lib.hid (below_seq HBW2.out hb1)
  have HXV := Lib.hid hXV
  clear hb1 hXV hZ
  go_wp2_with fail
  refine wp_region_held_drew (S := Boxes2 w.heap.size LK LF) (by kernel_rfl) (HAR.out _ (by assumption)) (fun hHeld => ?_)
  refine wpAnyH_take (i := 0) (v := .agg LK.toArray) rfl (by kernel_rfl) (by kernel_rfl) (by kernel_rfl) (fun _ _ _ h => h) (yieldsIf_load_mid (by rfl) _ (.tmp 2) rfl (w.heap.size) 0 rfl LK _ (fun _ h => h.1) Try.underlying22 rfl hiK) (by assumption) ?_
  go_simp
  refine wpAnyH_take (i := 2) (v := .agg LF.toArray) rfl (by kernel_rfl) (by kernel_rfl) (by kernel_rfl) (fun _ _ _ h => h) (yieldsIf_load_mid (by rfl) _ (.tmp 3) rfl (w.heap.size + 1) 0 rfl LF _ (fun _ h => h.2) Try.underlying22 rfl hiF) (by assumption) ?_
  go_simp
  refine wpAnyH_ready (rs := [1, 4]) (by kernel_rfl) (by simp) ?_
  refine AllReadyH.cons rfl (fun K hK => ?_) (AllReadyH.cons rfl (fun K hK => ?_) AllReadyH.nil)
  · (go_simp; go_at_call 6; refine (HN.out _).mono ?_; rintro e wa ⟨S, rfl, hS, hC, hbwa⟩; have hcwa := below_seq (show Below w1.heap.size w1 _ from (by assumption)) hbwa)
    try go_simp
    refine hK.out _ _ (HAR.out _ (by assumption)) (fun hHeld => ?_)
    clear hK K
    refine wpAnyH_ready (rs := [3, 4]) (by kernel_rfl) (by simp) ?_
    refine AllReadyH.cons rfl (fun K hK => ?_) (AllReadyH.cons rfl (fun K hK => ?_) AllReadyH.nil)
    · (go_simp; go_at_call 7; refine (HBK.out _ _ hC).mono ?_; rintro e wb ⟨rfl, hbwb⟩; have hcwb := below_seq (show Below w1.heap.size w1 _ from (by assumption)) hbwb)
      try go_simp
      refine hK.out _ _ (HAR.out _ (by assumption)) (fun hHeld => ?_)
      clear hK K
      refine wpAnyH_ready (rs := [4]) (by kernel_rfl) (by simp) ?_
      refine AllReadyH.cons rfl (fun K hK => ?_) AllReadyH.nil
      go_simp
      have hx0 := (HZA.out wb).2
      have hbl : Below wb.heap.size wb (wb.alloc (.cells ZV 22)) := below_of_new _ _
      have hcl := below_seq (show Below w1.heap.size w1 _ from (by assumption)) hbl
      refine hK.out _ _ (HAR.out _ (by assumption)) (fun hHeld => ?_)
      clear hK K
      have HSZ : w1.heap.size ≤ wb.heap.size := (show Below w1.heap.size w1 wb from (by assumption)).size
      have hx1 : Arr (wb.alloc (.cells ZV 22)) wb.heap.size 22 (fun _ => 0) 16 := hx0
      have th : There16 (wb.alloc (.cells ZV 22)) (wb.heap.size) 0 := hx1.there (by omega)
      have hs16 := ax.1
      have hsr := st16_run th ax
      refine wpAnyH_ready (rs := [5]) (by kernel_rfl) (by simp) ?_
      refine AllReadyH.cons rfl (fun K hK => ?_) AllReadyH.nil
      go_simp
      have hx5 : Arr (((wb.alloc (.cells ZV 22))).setCells (wb.heap.size) 0 XV.toList) (wb.heap.size) 22 (blk key F) 16 := by rw [HXV.out]; exact hx1.store _
      have hc5 : Below w1.heap.size w1 (((wb.alloc (.cells ZV 22))).setCells (wb.heap.size) 0 XV.toList) := setCells_below (show Below w1.heap.size w1 _ from (by assumption)) HSZ _ _
      obtain ⟨W5, hW5⟩ : ∃ q, q = ((wb.alloc (.cells ZV 22))).setCells (wb.heap.size) 0 XV.toList := ⟨_, rfl⟩
      rw [← hW5] at hx5 hc5 ⊢
      refine hK.out _ _ (HAR.out _ (by assumption)) (fun hHeld => ?_)
      clear hK K
      refine wpAnyH_done (by kernel_rfl) ?_ _
      have H5 := Lib.hid (hx5.rd (by omega))
      have HC5 := Lib.hid hc5
      clear hW5 hx5 hx1 th hc5 hs16 hsr
      have hbd5 : Below w1.heap.size w1 W5.drew := below_seq HC5.out (below_of_drew ⟨1, rfl⟩ _)
      have h5 := H5.out.on (show Below W5.heap.size W5 W5.drew from below_of_drew ⟨1, rfl⟩ _)
      go_wp2_with fail
      refine wp_region_held_drew (S := Boxes2 w.heap.size LK LF) (by kernel_rfl) (HAR.out _ (by assumption)) (fun hHeld => ?_)
      refine wpAnyH_take (i := 0) (v := .slice (some ⟨wb.heap.size, 0, none⟩) 16 16) rfl (by kernel_rfl) (by kernel_rfl) (by kernel_rfl) (fun _ _ _ h => h) (Or.inl ⟨by rfl, fun w _ => by go_simp⟩) (by assumption) ?_
      go_simp
      refine wpAnyH_take (i := 2) (v := .slice (some ⟨w.heap.size, 0, none⟩) 16 16) rfl (by kernel_rfl) (by kernel_rfl) (by kernel_rfl) (fun _ _ _ h => h) (Or.inl ⟨by rfl, fun w _ => by go_simp⟩) (by assumption) ?_
      go_simp
      refine wpAnyH_take (i := 3) (v := .slice (some ⟨w.heap.size + 1, 0, none⟩) 16 16) rfl (by kernel_rfl) (by kernel_rfl) (by kernel_rfl) (fun _ _ _ h => h) (Or.inl ⟨by rfl, fun w _ => by go_simp⟩) (by assumption) ?_
      go_simp
      refine wpAnyH_ready (rs := [1]) (by kernel_rfl) (by simp) ?_
      refine AllReadyH.cons rfl (fun K hK => ?_) AllReadyH.nil
      (go_simp; go_at_call 10; refine (HBX.out _).mono ?_; rintro e wc ⟨Ab, cb, rfl, hrb, hbwc⟩; have hcwc := below_seq (show Below w1.heap.size w1 _ from (by assumption)) hbwc; have hr2 := h5.on hbwc)
      try go_simp
      refine hK.out _ _ (HAR.out _ (by assumption)) (fun hHeld => ?_)
      clear hK K
      refine wpAnyH_ready (rs := [4]) (by kernel_rfl) (by simp) ?_
      refine AllReadyH.cons rfl (fun K hK => ?_) AllReadyH.nil
      (go_simp; go_at_call 9; refine (HRS.out _ _ _ (by assumption) hrb).mono ?_; rintro e wd ⟨Ar, cr, rfl, hrr, hbwd⟩; have hcwd := below_seq (show Below w1.heap.size w1 _ from (by assumption)) hbwd; have hr3 := hr2.on hbwd)
      try go_simp
      refine hK.out _ _ (HAR.out _ (by assumption)) (fun hHeld => ?_)
      clear hK K
      refine wpAnyH_ready (rs := [5]) (by kernel_rfl) (by simp) ?_
      refine AllReadyH.cons rfl (fun K hK => ?_) AllReadyH.nil
      (go_simp; go_at_call 8; refine (same_new _ _ _ _ _ _ (row (blk key F) 16) (row (blk key F) 16) _ hr3 hrr).mono ?_; rintro e we ⟨rfl, hbwe⟩; have hcwe := below_seq (show Below w1.heap.size w1 _ from (by assumption)) hbwe; rw [show decide (row (blk key F) 16 = row (blk key F) 16) = true from by simp])
      try go_simp
      refine hK.out _ _ (HAR.out _ (by assumption)) (fun hHeld => ?_)
      clear hK K
      refine wpAnyH_take (i := 6) (v := .bool true) rfl (by kernel_rfl) (by kernel_rfl) (by kernel_rfl) (fun _ _ _ h => h) (Or.inl ⟨by rfl, fun w _ => by go_simp⟩) (by assumption) ?_
      go_simp
      refine wpAnyH_done (by kernel_rfl) ?_ _
      have HBE := Lib.hid (below_seq HB1.out hcwe)
      go_wp2
      go_ret
      exact ⟨rfl, HBE.out⟩
    · go_simp
      have hx0 := (HZA.out wa).2
      have hbl : Below wa.heap.size wa (wa.alloc (.cells ZV 22)) := below_of_new _ _
      have hcl := below_seq (show Below w1.heap.size w1 _ from (by assumption)) hbl
      refine hK.out _ _ (HAR.out _ (by assumption)) (fun hHeld => ?_)
      clear hK K
      have hC := hC.on hbl hC.lt
      have HSZ : w1.heap.size ≤ wa.heap.size := (show Below w1.heap.size w1 wa from (by assumption)).size
      refine wpAnyH_ready (rs := [3]) (by kernel_rfl) (by simp) ?_
      refine AllReadyH.cons rfl (fun K hK => ?_) AllReadyH.nil
      (go_simp; go_at_call 7; refine (HBK.out _ _ hC).mono ?_; rintro e wb ⟨rfl, hbwb⟩; have hcwb := below_seq (show Below w1.heap.size w1 _ from (by assumption)) hbwb)
      try go_simp
      refine hK.out _ _ (HAR.out _ (by assumption)) (fun hHeld => ?_)
      clear hK K
      have hx1 : Arr wb wa.heap.size 22 (fun _ => 0) 16 := hx0.on hbwb hx0.lt
      have th : There16 wb (wa.heap.size) 0 := hx1.there (by omega)
      have hs16 := ax.1
      have hsr := st16_run th ax
      refine wpAnyH_ready (rs := [5]) (by kernel_rfl) (by simp) ?_
      refine AllReadyH.cons rfl (fun K hK => ?_) AllReadyH.nil
      go_simp
      have hx5 : Arr ((wb).setCells (wa.heap.size) 0 XV.toList) (wa.heap.size) 22 (blk key F) 16 := by rw [HXV.out]; exact hx1.store _
      have hc5 : Below w1.heap.size w1 ((wb).setCells (wa.heap.size) 0 XV.toList) := setCells_below (show Below w1.heap.size w1 _ from (by assumption)) HSZ _ _
      obtain ⟨W5, hW5⟩ : ∃ q, q = (wb).setCells (wa.heap.size) 0 XV.toList := ⟨_, rfl⟩
      rw [← hW5] at hx5 hc5 ⊢
      refine hK.out _ _ (HAR.out _ (by assumption)) (fun hHeld => ?_)
      clear hK K
      refine wpAnyH_done (by kernel_rfl) ?_ _
      have H5 := Lib.hid (hx5.rd (by omega))
      have HC5 := Lib.hid hc5
      clear hW5 hx5 hx1 th hc5 hs16 hsr
      have hbd5 : Below w1.heap.size w1 W5.drew := below_seq HC5.out (below_of_drew ⟨1, rfl⟩ _)
      have h5 := H5.out.on (show Below W5.heap.size W5 W5.drew from below_of_drew ⟨1, rfl⟩ _)
      go_wp2_with fail
      refine wp_region_held_drew (S := Boxes2 w.heap.size LK LF) (by kernel_rfl) (HAR.out _ (by assumption)) (fun hHeld => ?_)
      refine wpAnyH_take (i := 0) (v := .slice (some ⟨wa.heap.size, 0, none⟩) 16 16) rfl (by kernel_rfl) (by kernel_rfl) (by kernel_rfl) (fun _ _ _ h => h) (Or.inl ⟨by rfl, fun w _ => by go_simp⟩) (by assumption) ?_
      go_simp
      refine wpAnyH_take (i := 2) (v := .slice (some ⟨w.heap.size, 0, none⟩) 16 16) rfl (by kernel_rfl) (by kernel_rfl) (by kernel_rfl) (fun _ _ _ h => h) (Or.inl ⟨by rfl, fun w _ => by go_simp⟩) (by assumption) ?_
      go_simp
      refine wpAnyH_take (i := 3) (v := .slice (some ⟨w.heap.size + 1, 0, none⟩) 16 16) rfl (by kernel_rfl) (by kernel_rfl) (by kernel_rfl) (fun _ _ _ h => h) (Or.inl ⟨by rfl, fun w _ => by go_simp⟩) (by assumption) ?_
      go_simp
      refine wpAnyH_ready (rs := [1]) (by kernel_rfl) (by simp) ?_
      refine AllReadyH.cons rfl (fun K hK => ?_) AllReadyH.nil
      (go_simp; go_at_call 10; refine (HBX.out _).mono ?_; rintro e wc ⟨Ab, cb, rfl, hrb, hbwc⟩; have hcwc := below_seq (show Below w1.heap.size w1 _ from (by assumption)) hbwc; have hr2 := h5.on hbwc)
      try go_simp
      refine hK.out _ _ (HAR.out _ (by assumption)) (fun hHeld => ?_)
      clear hK K
      refine wpAnyH_ready (rs := [4]) (by kernel_rfl) (by simp) ?_
      refine AllReadyH.cons rfl (fun K hK => ?_) AllReadyH.nil
      (go_simp; go_at_call 9; refine (HRS.out _ _ _ (by assumption) hrb).mono ?_; rintro e wd ⟨Ar, cr, rfl, hrr, hbwd⟩; have hcwd := below_seq (show Below w1.heap.size w1 _ from (by assumption)) hbwd; have hr3 := hr2.on hbwd)
      try go_simp
      refine hK.out _ _ (HAR.out _ (by assumption)) (fun hHeld => ?_)
      clear hK K
      refine wpAnyH_ready (rs := [5]) (by kernel_rfl) (by simp) ?_
      refine AllReadyH.cons rfl (fun K hK => ?_) AllReadyH.nil
      (go_simp; go_at_call 8; refine (same_new _ _ _ _ _ _ (row (blk key F) 16) (row (blk key F) 16) _ hr3 hrr).mono ?_; rintro e we ⟨rfl, hbwe⟩; have hcwe := below_seq (show Below w1.heap.size w1 _ from (by assumption)) hbwe; rw [show decide (row (blk key F) 16 = row (blk key F) 16) = true from by simp])
      try go_simp
      refine hK.out _ _ (HAR.out _ (by assumption)) (fun hHeld => ?_)
      clear hK K
      refine wpAnyH_take (i := 6) (v := .bool true) rfl (by kernel_rfl) (by kernel_rfl) (by kernel_rfl) (fun _ _ _ h => h) (Or.inl ⟨by rfl, fun w _ => by go_simp⟩) (by assumption) ?_
      go_simp
      refine wpAnyH_done (by kernel_rfl) ?_ _
      have HBE := Lib.hid (below_seq HB1.out hcwe)
      go_wp2
      go_ret
      exact ⟨rfl, HBE.out⟩
  · go_simp
    have hx0 := (HZA.out w1.drew).2
    have hbl : Below w1.drew.heap.size w1.drew (w1.drew.alloc (.cells ZV 22)) := below_of_new _ _
    have hcl := below_seq (show Below w1.heap.size w1 _ from (by assumption)) hbl
    refine hK.out _ _ (HAR.out _ (by assumption)) (fun hHeld => ?_)
    clear hK K
    have HSZ : w1.heap.size ≤ w1.heap.size := Nat.le_refl _
    refine wpAnyH_ready (rs := [1]) (by kernel_rfl) (by simp) ?_
    refine AllReadyH.cons rfl (fun K hK => ?_) AllReadyH.nil
    (go_simp; go_at_call 6; refine (HN.out _).mono ?_; rintro e wa ⟨S, rfl, hS, hC, hbwa⟩; have hcwa := below_seq (show Below w1.heap.size w1 _ from (by assumption)) hbwa)
    try go_simp
    refine hK.out _ _ (HAR.out _ (by assumption)) (fun hHeld => ?_)
    clear hK K
    have hx0a := hx0.on hbwa hx0.lt
    refine wpAnyH_ready (rs := [3]) (by kernel_rfl) (by simp) ?_
    refine AllReadyH.cons rfl (fun K hK => ?_) AllReadyH.nil
    (go_simp; go_at_call 7; refine (HBK.out _ _ hC).mono ?_; rintro e wb ⟨rfl, hbwb⟩; have hcwb := below_seq (show Below w1.heap.size w1 _ from (by assumption)) hbwb)
    try go_simp
    refine hK.out _ _ (HAR.out _ (by assumption)) (fun hHeld => ?_)
    clear hK K
    have hx1 : Arr wb w1.heap.size 22 (fun _ => 0) 16 := hx0a.on hbwb hx0a.lt
    have th : There16 wb (w1.heap.size) 0 := hx1.there (by omega)
    have hs16 := ax.1
    have hsr := st16_run th ax
    refine wpAnyH_ready (rs := [5]) (by kernel_rfl) (by simp) ?_
    refine AllReadyH.cons rfl (fun K hK => ?_) AllReadyH.nil
    go_simp
    have hx5 : Arr ((wb).setCells (w1.heap.size) 0 XV.toList) (w1.heap.size) 22 (blk key F) 16 := by rw [HXV.out]; exact hx1.store _
    have hc5 : Below w1.heap.size w1 ((wb).setCells (w1.heap.size) 0 XV.toList) := setCells_below (show Below w1.heap.size w1 _ from (by assumption)) HSZ _ _
    obtain ⟨W5, hW5⟩ : ∃ q, q = (wb).setCells (w1.heap.size) 0 XV.toList := ⟨_, rfl⟩
    rw [← hW5] at hx5 hc5 ⊢
    refine hK.out _ _ (HAR.out _ (by assumption)) (fun hHeld => ?_)
    clear hK K
    refine wpAnyH_done (by kernel_rfl) ?_ _
    have H5 := Lib.hid (hx5.rd (by omega))
    have HC5 := Lib.hid hc5
    clear hW5 hx5 hx1 th hc5 hs16 hsr
    have hbd5 : Below w1.heap.size w1 W5.drew := below_seq HC5.out (below_of_drew ⟨1, rfl⟩ _)
    have h5 := H5.out.on (show Below W5.heap.size W5 W5.drew from below_of_drew ⟨1, rfl⟩ _)
    go_wp2_with fail
    refine wp_region_held_drew (S := Boxes2 w.heap.size LK LF) (by kernel_rfl) (HAR.out _ (by assumption)) (fun hHeld => ?_)
    refine wpAnyH_take (i := 0) (v := .slice (some ⟨w1.heap.size, 0, none⟩) 16 16) rfl (by kernel_rfl) (by kernel_rfl) (by kernel_rfl) (fun _ _ _ h => h) (Or.inl ⟨by rfl, fun w _ => by go_simp⟩) (by assumption) ?_
    go_simp
    refine wpAnyH_take (i := 2) (v := .slice (some ⟨w.heap.size, 0, none⟩) 16 16) rfl (by kernel_rfl) (by kernel_rfl) (by kernel_rfl) (fun _ _ _ h => h) (Or.inl ⟨by rfl, fun w _ => by go_simp⟩) (by assumption) ?_
    go_simp
    refine wpAnyH_take (i := 3) (v := .slice (some ⟨w.heap.size + 1, 0, none⟩) 16 16) rfl (by kernel_rfl) (by kernel_rfl) (by kernel_rfl) (fun _ _ _ h => h) (Or.inl ⟨by rfl, fun w _ => by go_simp⟩) (by assumption) ?_
    go_simp
    refine wpAnyH_ready (rs := [1]) (by kernel_rfl) (by simp) ?_
    refine AllReadyH.cons rfl (fun K hK => ?_) AllReadyH.nil
    (go_simp; go_at_call 10; refine (HBX.out _).mono ?_; rintro e wc ⟨Ab, cb, rfl, hrb, hbwc⟩; have hcwc := below_seq (show Below w1.heap.size w1 _ from (by assumption)) hbwc; have hr2 := h5.on hbwc)
    try go_simp
    refine hK.out _ _ (HAR.out _ (by assumption)) (fun hHeld => ?_)
    clear hK K
    refine wpAnyH_ready (rs := [4]) (by kernel_rfl) (by simp) ?_
    refine AllReadyH.cons rfl (fun K hK => ?_) AllReadyH.nil
    (go_simp; go_at_call 9; refine (HRS.out _ _ _ (by assumption) hrb).mono ?_; rintro e wd ⟨Ar, cr, rfl, hrr, hbwd⟩; have hcwd := below_seq (show Below w1.heap.size w1 _ from (by assumption)) hbwd; have hr3 := hr2.on hbwd)
    try go_simp
    refine hK.out _ _ (HAR.out _ (by assumption)) (fun hHeld => ?_)
    clear hK K
    refine wpAnyH_ready (rs := [5]) (by kernel_rfl) (by simp) ?_
    refine AllReadyH.cons rfl (fun K hK => ?_) AllReadyH.nil
    (go_simp; go_at_call 8; refine (same_new _ _ _ _ _ _ (row (blk key F) 16) (row (blk key F) 16) _ hr3 hrr).mono ?_; rintro e we ⟨rfl, hbwe⟩; have hcwe := below_seq (show Below w1.heap.size w1 _ from (by assumption)) hbwe; rw [show decide (row (blk key F) 16 = row (blk key F) 16) = true from by simp])
    try go_simp
    refine hK.out _ _ (HAR.out _ (by assumption)) (fun hHeld => ?_)
    clear hK K
    refine wpAnyH_take (i := 6) (v := .bool true) rfl (by kernel_rfl) (by kernel_rfl) (by kernel_rfl) (fun _ _ _ h => h) (Or.inl ⟨by rfl, fun w _ => by go_simp⟩) (by assumption) ?_
    go_simp
    refine wpAnyH_done (by kernel_rfl) ?_ _
    have HBE := Lib.hid (below_seq HB1.out hcwe)
    go_wp2
    go_ret
    exact ⟨rfl, HBE.out⟩
end Go.Proofs.Ytammiehklibadaa.Blkw
