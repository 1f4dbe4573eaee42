/-
  The walk of SealOpens: of all bytes what is in them, as a box of a key and usage, is as the document says.
-/
import Derived.Test.YtgebdkbbdabomaaDoorSealg
import Derived.Test.YtgebdkbbdabomaaDoorSealk
import Derived.Test.YtgebdkbbdabomaaDoorFin
namespace Go.Proofs.YtgebdkbbdabomaaDoor.Seopw
open Go.RowKit
open Go.Proofs.YtgebdkbbdabomaaDoor.Kit
open Go.Proofs.YtgebdkbbdabomaaDoor.Oct
open Go.Proofs.YtgebdkbbdabomaaDoor.Sha
open Go.Proofs.YtgebdkbbdabomaaDoor.Seal
set_option linter.unusedVariables false

theorem open_any (g : Nat) (k : List UInt8) (hk : k.length = 16) (D : ByteArray) (u : Int) (hD : D.size ≤ 90) (Ab : Option Addr) (n c : Nat) (X : List UInt8) (w : World) (hR : Roots w) (hI : Ito w u D)
    (hb : RdB w w.heap.size Ab n c X) (hml : n ≤ 900000) :
    Calls Tryd.prog 21 #[.pointer (some ⟨g, 0, none⟩), .agg (k.map bv).toArray, .int .i64 u, .slice Ab n c] w fun e w' => ∃ A' n' c', e = .returned (.tuple #[.slice A' n' c', .bool (openS k D X).isSome]) ∧ RdB w' w'.heap.size A' n' c' ((openS k D X).getD []) ∧ Below w.heap.size w w' := by
  by_cases h : 24 ≤ n
  · exact open_long g k hk D u hD Ab n c X w hR hI hb h hml
  · exact (open_short g k D u Ab n c X w hb (by omega)).mono fun e w' ⟨he, hx, hbl⟩ => ⟨none, 0, 0, by rw [he, hx]; rfl, by rw [hx]; exact Rd.nil _ _, hbl⟩
theorem refopen_any (Ak Ab : Option Addr) (ck n c : Nat) (k X : List UInt8) (u : Int) (h0 : -9223372036854775808 ≤ u) (h1 : u ≤ 9223372036854775807) (D : ByteArray) (hD : D = ⟨(Lib.itoa u).toArray⟩) (w : World)
    (hk : RdB w w.heap.size Ak 16 ck k) (hb : RdB w w.heap.size Ab n c X) (hml : n ≤ 800000) :
    Calls Tryd.prog 26 #[.slice Ak 16 ck, .int .i64 u, .slice Ab n c] w fun e w' => ∃ A' n' c', e = .returned (.tuple #[.slice A' n' c', .bool (openS k D X).isSome]) ∧ RdB w' w'.heap.size A' n' c' ((openS k D X).getD []) ∧ Below w.heap.size w w' := by
  by_cases h : 24 ≤ n
  · exact refopen_long Ak Ab ck n c k X u h0 h1 D hD w hk hb h hml
  · exact (refopen_short Ak Ab ck n c k X D u w hb (by omega)).mono fun e w' ⟨he, hx, hbl⟩ => ⟨none, 0, 0, by rw [he, hx]; rfl, by rw [hx]; exact Rd.nil _ _, hbl⟩

set_option maxRecDepth 100000 in
set_option maxHeartbeats 4000000 in
theorem walk (k : List UInt8) (v : Int) (A : Option Addr) (n c : Nat) (X : List UInt8) (w : World) (hk : k.length = 16) (hv : -9223372036854775808 ≤ v ∧ v ≤ 9223372036854775807) (hx : RdB w w.heap.size A n c X) (hRT : Roots w ∧ Tens w) :
    Calls Tryd.prog 6 #[.agg (k.map bv).toArray, .int .i64 v, .slice A n c] w fun e w' => e = .returned (.bool true) ∧ Below w.heap.size w w' := by
  obtain ⟨hR, hT⟩ := hRT
  obtain ⟨D, hD⟩ : ∃ D : ByteArray, D = ⟨(Lib.itoa v).toArray⟩ := ⟨_, rfl⟩
  have hDs : D.size ≤ 21 := by rw [hD]; exact itoa_len v hv.1 hv.2
  obtain ⟨KL, hKL⟩ : ∃ q, q = k.map bv := ⟨_, rfl⟩
  have hKl : KL.length = 16 := by rw [hKL, List.length_map, hk]
  have hiK : (Tryd.prog.info? 29).map (·.size) = some KL.length := by rw [hKl]; exact info16s
  obtain ⟨W1, hW1⟩ : ∃ q, q = w.alloc (.cells KL.toArray 29) := ⟨_, rfl⟩
  have hb1 : Below w.heap.size w W1 := by rw [hW1]; exact below_of_new w _
  have hg1 : W1.heap[w.heap.size]? = some (.cells KL.toArray 29 (0, 0)) := by rw [hW1]; exact heap_alloc_new w _
  have hx1 := hx.on hb1
  have hR1 := hR.on hb1
  have hT1 := hT.on hb1
  have HAR := Lib.hid (show ∀ W, Below W1.heap.size W1 W → W.rangeAt w.heap.size 0 KL from fun W h => range_block ((h.block _ (block_lt_of_heap hg1)).trans hg1))
  have HKEY := Lib.hid (show ∀ W, Below W1.heap.size W1 W → RdB W W.heap.size (some ⟨w.heap.size, 0, none⟩) 16 16 k from fun W h => by
    have hg := (h.block _ (block_lt_of_heap hg1)).trans hg1
    rw [hKL] at hg
    exact rd_block hg hk (by omega))
  have HROOT := Lib.hid (show ∀ W, Below W1.heap.size W1 W → Roots W from fun W h => hR1.on h)
  have HITO := Lib.hid (show ∀ W, Below W1.heap.size W1 W → Ito W v D from fun W h => by rw [hD]; exact ito_any v hv.1 hv.2 W (hT1.on h))
  have HBOX := Lib.hid (show ∀ W, Below W1.heap.size W1 W → RdB W W.heap.size A n c X from fun W h => hx1.on h)
  obtain ⟨B, hB⟩ : ∃ B, B = (openS k D X).isSome := ⟨_, rfl⟩
  obtain ⟨Y, hY⟩ : ∃ Y, Y = (openS k D X).getD [] := ⟨_, rfl⟩
  have HW1 := Lib.hid hW1
  have HB1 := Lib.hid hb1
  by_cases hbig : 100 < n
  · rw [← hKL]
    clear hKL hW1 hb1 hg1 hx1 hR1 hx hR hT hT1 hk hD hB hY
    go_enter Tryd.func6, Tryd.ntmps6
    go_wp2_with fail
    rw [← HW1.out]
    refine (alive6_any W1 (HROOT.out _ (Below.refl _ _))).mono ?_
    rintro e w1 ⟨rfl, hb1⟩
    have HBE := Lib.hid (below_seq HB1.out hb1)
    clear hb1
    have t1 : decide ((100 : Int) < n) = true := by simp; omega
    go_wp2
    go_ret
    exact ⟨rfl, HBE.out⟩
  · have t1 : decide ((100 : Int) < n) = false := by simp; omega
    have HOP := Lib.hid (show ∀ W g, Below W1.heap.size W1 W → Calls Tryd.prog 21 #[.pointer (some ⟨g, 0, none⟩), .agg KL.toArray, .int .i64 v, .slice A n c] W fun e w' => ∃ A' n' c', e = .returned (.tuple #[.slice A' n' c', .bool B]) ∧ RdB w' w'.heap.size A' n' c' Y ∧ Below W.heap.size W w' from fun W g h => by
      rw [hB, hY, hKL]; exact open_any g k hk D v (by omega) A n c X W (HROOT.out _ h) (HITO.out _ h) (HBOX.out _ h) (by omega))
    have HRO := Lib.hid (show ∀ W, Below W1.heap.size W1 W → Calls Tryd.prog 26 #[.slice (some ⟨w.heap.size, 0, none⟩) 16 16, .int .i64 v, .slice A n c] W fun e w' => ∃ A' n' c', e = .returned (.tuple #[.slice A' n' c', .bool B]) ∧ RdB w' w'.heap.size A' n' c' Y ∧ Below W.heap.size W w' from fun W h => by
      rw [hB, hY]; exact refopen_any _ A 16 n c k X v hv.1 hv.2 D hD W (HKEY.out _ h) (HBOX.out _ h) (by omega))
    rw [← hKL]
    clear hKL hW1 hb1 hg1 hx1 hR1 hx hR hT hT1 hk hD hB hY
    go_enter Tryd.func6, Tryd.ntmps6
    go_wp2_with fail
    rw [← HW1.out]
    refine (alive6_any W1 (HROOT.out _ (Below.refl _ _))).mono ?_
    rintro e w1 ⟨rfl, hb1⟩
    have HB2 := Lib.hid hb1
    have hbd : Below W1.heap.size W1 w1.drew := below_seq hb1 (below_of_drew ⟨1, rfl⟩ _)
    clear hb1
    go_wp2_with fail
    refine wp_region_held_drew (S := fun W => W.rangeAt w.heap.size 0 KL) (by kernel_rfl) (HAR.out _ hbd) (fun hHeld => ?_)
    refine wpAnyH_take (i := 1) (v := .agg KL.toArray) rfl (by kernel_rfl) (by kernel_rfl) (by kernel_rfl) (fun _ _ _ h => h) (yieldsIf_load_mid (by rfl) _ (.tmp 3) rfl w.heap.size 0 rfl KL _ (fun _ h => h) Tryd.underlying29 rfl hiK) (by assumption) ?_
    go_simp
    refine wpAnyH_take (i := 2) (v := .int .i64 v) rfl (by kernel_rfl) (by kernel_rfl) (by kernel_rfl) (fun _ _ _ h => h) (Or.inl ⟨by rfl, fun w _ => by go_simp⟩) (by assumption) ?_
    go_simp
    refine wpAnyH_take (i := 3) (v := .slice A n c) rfl (by kernel_rfl) (by kernel_rfl) (by kernel_rfl) (fun _ _ _ h => h) (Or.inl ⟨by rfl, fun w _ => by go_simp⟩) (by assumption) ?_
    go_simp
    refine wpAnyH_ready (rs := [0]) (by kernel_rfl) (by simp) ?_
    refine AllReadyH.cons rfl (fun K hK => ?_) AllReadyH.nil
    (go_simp; go_at_call 18; refine (new_real none 0 0 [] _ (Rd.nil _ _) (by omega)).mono ?_; rintro e wa ⟨g, rfl, hga, hra, hba⟩; have hca := below_seq hbd hba)
    try go_simp
    refine hK.out _ _ (HAR.out _ hca) (fun hHeld => ?_)
    clear hK K
    refine wpAnyH_ready (rs := [4]) (by kernel_rfl) (by simp) ?_
    refine AllReadyH.cons rfl (fun K hK => ?_) AllReadyH.nil
    (go_simp; go_at_call 21; refine (HOP.out _ _ hca).mono ?_; rintro e wb ⟨A2, n2, c2, rfl, hr2, hbb⟩; have hcb := below_seq hca hbb)
    try go_simp
    refine hK.out _ _ (HAR.out _ hcb) (fun hHeld => ?_)
    clear hK K
    refine wpAnyH_take (i := 5) (v := .tuple #[.slice A2 n2 c2, .bool B]) rfl (by kernel_rfl) (by kernel_rfl) (by kernel_rfl) (fun _ _ _ h => h) (Or.inl ⟨by rfl, fun w _ => by go_simp⟩) (by assumption) ?_
    go_simp
    refine wpAnyH_take (i := 6) (v := .slice A2 n2 c2) rfl (by kernel_rfl) (by kernel_rfl) (by kernel_rfl) (fun _ _ _ h => h) (Or.inl ⟨by rfl, fun w _ => by go_simp⟩) (by assumption) ?_
    go_simp
    refine wpAnyH_take (i := 7) (v := .bool B) rfl (by kernel_rfl) (by kernel_rfl) (by kernel_rfl) (fun _ _ _ h => h) (Or.inl ⟨by rfl, fun w _ => by go_simp⟩) (by assumption) ?_
    go_simp
    refine wpAnyH_take (i := 8) (v := .slice A2 n2 c2) rfl (by kernel_rfl) (by kernel_rfl) (by kernel_rfl) (fun _ _ _ h => h) (Or.inl ⟨by rfl, fun w _ => by go_simp⟩) (by assumption) ?_
    go_simp
    refine wpAnyH_take (i := 9) (v := .bool B) rfl (by kernel_rfl) (by kernel_rfl) (by kernel_rfl) (fun _ _ _ h => h) (Or.inl ⟨by rfl, fun w _ => by go_simp⟩) (by assumption) ?_
    go_simp
    refine wpAnyH_done (by kernel_rfl) ?_ _
    have HR2 := Lib.hid hr2
    have HCB := Lib.hid hcb
    clear hr2 hbb hcb hca hba hra hga hbd
    go_wp2_with fail
    refine (HRO.out _ HCB.out).mono ?_
    rintro e wc ⟨A3, n3, c3, rfl, hr3, hbc⟩
    have HR3 := Lib.hid hr3
    have HR2' := Lib.hid (HR2.out.on hbc)
    have HCC := Lib.hid (below_seq HCB.out hbc)
    clear hr3 hbc
    go_wp2_with fail
    refine (rsame_new _ _ _ _ _ _ Y Y _ HR2'.out HR3.out).mono ?_
    rintro e wd ⟨rfl, hbd⟩
    rw [show decide (Y = Y) = true from by simp]
    have HBE := Lib.hid (below_seq HB1.out (below_seq HCC.out hbd))
    clear hbd
    go_wp2
    go_ret
    exact ⟨rfl, HBE.out⟩
end Go.Proofs.YtgebdkbbdabomaaDoor.Seopw
