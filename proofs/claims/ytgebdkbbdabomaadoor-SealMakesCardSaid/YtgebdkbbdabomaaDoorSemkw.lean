/-
  The walk of SealMakes: the tape's keys, the boxes, one by one, and digests, are as the document says.
-/
import Derived.Test.YtgebdkbbdabomaaDoorSealg
import Derived.Test.YtgebdkbbdabomaaDoorSeall
import Derived.Test.YtgebdkbbdabomaaDoorFin
namespace Go.Proofs.YtgebdkbbdabomaaDoor.Semkw
open Go.RowKit
open Go.Proofs.YtgebdkbbdabomaaDoor.Kit
open Go.Proofs.YtgebdkbbdabomaaDoor.Oct
open Go.Proofs.YtgebdkbbdabomaaDoor.Sha
open Go.Proofs.YtgebdkbbdabomaaDoor.Mac (heap2 Z16 z16 infoKz)
open Go.Proofs.YtgebdkbbdabomaaDoor.Seal
set_option linter.unusedVariables false

/-- bytes in another block than the one that was written to -/
theorem rd_gb {w w' : World} {g n c : Nat} {A : Option Addr} {bs : List UInt8} (h : RdB w w.heap.size A n c bs) (hg : w.grownBy w' (some g)) (hne : ∀ b o, A = some ⟨b, o, none⟩ → b ≠ g) : RdB w' w'.heap.size A n c bs := by
  obtain ⟨h1, h2, h3, h4⟩ := h
  refine ⟨h1, h2, h3, fun hn => ?_⟩
  obtain ⟨b, o, e, hb, hc⟩ := h4 hn
  exact ⟨b, o, e, by have := hg.size; omega, fun j u hu => (World.cell?_of_block (gb_block hg hb (hne b o e))).trans (hc j u hu)⟩

set_option maxRecDepth 100000 in
set_option maxHeartbeats 8000000 in
theorem walk (A : Option Addr) (n c : Nat) (seed k : List UInt8) (v : Int) (Aa : Option Addr) (na ca : Nat) (a : List UInt8) (Ab : Option Addr) (nb cb : Nat) (b : List UInt8) (w : World) (hx : RdB w w.heap.size A n c seed) (hk : k.length = 16) (hv : -9223372036854775808 ≤ v ∧ v ≤ 9223372036854775807) (hya : RdB w w.heap.size Aa na ca a) (hyb : RdB w w.heap.size Ab nb cb b) (hRT : Roots w ∧ Tens w) :
    Calls Tryd.prog 5 #[.slice A n c, .agg (k.map bv).toArray, .int .i64 v, .slice Aa na ca, .slice Ab nb cb] w fun e w' => e = .returned (.bool true) ∧ Below w.heap.size w w' := by
  obtain ⟨hR, hT⟩ := hRT
  obtain ⟨D, hD⟩ : ∃ D : ByteArray, D = ⟨(Lib.itoa v).toArray⟩ := ⟨_, rfl⟩
  have hDs : D.size ≤ 21 := by rw [hD]; exact itoa_len v hv.1 hv.2
  have hlx := hx.len
  have hla := hya.len
  have hlb := hyb.len
  have hrx := hx.room
  have hra := hya.room
  have hrb := hyb.room
  obtain ⟨ZV, hZ⟩ : ∃ q, q = Z16 := ⟨_, rfl⟩
  have hz : ∀ w, (zeroValue 30).run Tryd.prog w = .ok (.agg ZV) w := by rw [hZ]; exact z16
  have hzl : ZV.size = 16 := by rw [hZ]; rfl
  obtain ⟨KL, hKL⟩ : ∃ q, q = k.map bv := ⟨_, rfl⟩
  have hKl : KL.length = 16 := by rw [hKL, List.length_map, hk]
  have hKs : KL.toArray.size = 16 := by simpa using hKl
  have hI : (Tryd.prog.info? 29).map (·.size) = some KL.toArray.size := by rw [hKs]; exact info16s
  have hiK : (Tryd.prog.info? 29).map (·.size) = some KL.length := by rw [hKl]; exact info16s
  obtain ⟨W1, hW1⟩ : ∃ q, q = w.alloc (.cells KL.toArray 29) := ⟨_, rfl⟩
  have hb1 : Below w.heap.size w W1 := by rw [hW1]; exact below_of_new w _
  have hg1 : W1.heap[w.heap.size]? = some (.cells KL.toArray 29 (0, 0)) := by rw [hW1]; exact heap_alloc_new w _
  have hx1 := hx.on hb1
  have hya1 := hya.on hb1
  have hyb1 := hyb.on hb1
  have hR1 := hR.on hb1
  have hT1 := hT.on hb1
  have hrl := hR1.lt
  have HBLK := Lib.hid (show ∀ W, Below W1.heap.size W1 W → W.heap[w.heap.size]? = some (.cells KL.toArray 29 (0, 0)) from fun W h => (h.block _ (block_lt_of_heap hg1)).trans hg1)
  have HAR := Lib.hid (show ∀ W, Below W1.heap.size W1 W → W.rangeAt w.heap.size 0 KL from fun W h => range_block ((h.block _ (block_lt_of_heap hg1)).trans hg1))
  have HKEY := Lib.hid (show ∀ W, Below W1.heap.size W1 W → RdB W W.heap.size (some ⟨w.heap.size, 0, none⟩) 16 16 k from fun W h => by
    have hg := (h.block _ (block_lt_of_heap hg1)).trans hg1
    rw [hKL] at hg
    exact rd_block hg hk (by omega))
  have HROOT := Lib.hid (show ∀ W, Below W1.heap.size W1 W → Roots W from fun W h => hR1.on h)
  have HITO := Lib.hid (show ∀ W, Below W1.heap.size W1 W → Ito W v D from fun W h => by rw [hD]; exact ito_any v hv.1 hv.2 W (hT1.on h))
  have HSEED := Lib.hid (show ∀ W, Below W1.heap.size W1 W → RdB W W.heap.size A n c seed from fun W h => hx1.on h)
  have HAA := Lib.hid (show ∀ W, Below W1.heap.size W1 W → RdB W W.heap.size Aa na ca a from fun W h => hya1.on h)
  have HBB := Lib.hid (show ∀ W, Below W1.heap.size W1 W → RdB W W.heap.size Ab nb cb b from fun W h => hyb1.on h)
  have HSP := Lib.hid (show ∀ (A' : Option Addr) (n' c' : Nat) (x : List UInt8) W G, RdB W1 W1.heap.size A' n' c' x → Below W1.heap.size W1 W → W1.heap.size ≤ G → RdS W (fun j => j < W.heap.size ∧ j ≠ G) A' n' c' (x.map bv) from fun A' n' c' x W G hy h hG => by
    obtain ⟨h1, h2, h3, h4⟩ := hy
    refine ⟨h1, h2, h3, fun hn => ?_⟩
    obtain ⟨bb, o, e, hb, hc⟩ := h4 hn
    exact ⟨bb, o, e, ⟨by have := h.size; omega, by omega⟩, fun j u hu => (h.cell (p := ⟨bb, o + j, none⟩) hb).trans (hc j u hu)⟩)
  have HRW := Lib.hid (And.intro hya1 hyb1)
  have HW1 := Lib.hid hW1
  have HB1 := Lib.hid hb1
  have HI := Lib.hid hI
  have HK := Lib.hid hk
  have HKL := Lib.hid hKL
  have HZL := Lib.hid hzl
  have HDD := Lib.hid hD
  rw [← hKL]
  clear hKL hW1 hb1 hg1 hx1 hya1 hyb1 hR1 hx hya hyb hR hT hT1 hI hKs hk hD hZ hzl
  by_cases hbig : 60 < n ∨ 60 < na ∨ 60 < nb
  · go_enter Tryd.func5, Tryd.ntmps5
    go_wp2_with fail
    rw [← HW1.out]
    refine (alive6_any W1 (HROOT.out _ (Below.refl _ _))).mono ?_
    rintro e w1 ⟨rfl, hb1⟩
    have HBE := Lib.hid (below_seq HB1.out hb1)
    clear hb1
    by_cases h1 : 60 < n
    · have t1 : decide ((60 : Int) < n) = true := by simp; omega
      go_wp2
      go_ret
      exact ⟨rfl, HBE.out⟩
    · have t1 : decide ((60 : Int) < n) = false := by simp; omega
      by_cases h2 : 60 < na
      · have t2 : decide ((60 : Int) < na) = true := by simp; omega
        go_wp2
        go_ret
        exact ⟨rfl, HBE.out⟩
      · have t2 : decide ((60 : Int) < na) = false := by simp; omega
        have t3 : decide ((60 : Int) < nb) = true := by simp; omega
        go_wp2
        go_ret
        exact ⟨rfl, HBE.out⟩
  · have t1 : decide ((60 : Int) < n) = false := by simp; omega
    have t2 : decide ((60 : Int) < na) = false := by simp; omega
    have t3 : decide ((60 : Int) < nb) = false := by simp; omega
    have hnp : n ≤ 60 ∧ na ≤ 60 ∧ nb ≤ 60 := by omega
    go_enter Tryd.func5, Tryd.ntmps5
    go_wp2_with fail
    rw [← HW1.out]
    refine (alive6_any W1 (HROOT.out _ (Below.refl _ _))).mono ?_
    rintro e w2 ⟨rfl, hb2⟩
    have HB2 := Lib.hid hb2
    clear hb2 hbig
    go_wp2_with fail
    refine (new_real A n c seed w2 (HSEED.out _ HB2.out) (by omega)).mono ?_
    rintro e w3 ⟨g, rfl, hgw2, hra3, hb3⟩
    have hgw : W1.heap.size ≤ g := by have := HB2.out.size; omega
    have hne : g ≠ 0 := by omega
    have HRA3 := Lib.hid hra3
    have HB3 := Lib.hid (below_seq HB2.out hb3)
    have hbd3 : Below w3.heap.size w3 w3.drew := below_of_drew ⟨1, rfl⟩ _
    have hbd : Below W1.heap.size W1 w3.drew := below_seq HB3.out hbd3
    have hg3 := hra3.lt
    clear hra3 hb3 hgw2
    have hsa := seal_any g seed 0 0 k HK.out D v (by omega) Aa na ca a w3.drew (HRA3.out.on hbd3) (HROOT.out _ hbd) (fun V hV => HITO.out V (gb_lift hbd hV hgw)) hne (by omega) (HSP.out _ _ _ _ _ _ HRW.out.1 hbd hgw) (by omega)
    rw [← HKL.out] at hsa
    have HSA := Lib.hid hsa
    clear hsa
    go_wp2_with fail
    refine wp_region_held_drew (S := fun W => W.rangeAt w.heap.size 0 KL) (by kernel_rfl) (HAR.out _ hbd) (fun hHeld => ?_)
    refine wpAnyH_take (i := 0) (v := .pointer (some ⟨g, 0, none⟩)) rfl (by kernel_rfl) (by kernel_rfl) (by kernel_rfl) (fun _ _ _ h => h) (Or.inl ⟨by rfl, fun w _ => by go_simp⟩) (by assumption) ?_
    go_simp
    refine wpAnyH_take (i := 1) (v := .agg KL.toArray) rfl (by kernel_rfl) (by kernel_rfl) (by kernel_rfl) (fun _ _ _ h => h) (yieldsIf_load_mid (by rfl) _ (.tmp 6) rfl w.heap.size 0 rfl KL _ (fun _ h => h) Tryd.underlying29 rfl hiK) (by assumption) ?_
    go_simp
    refine wpAnyH_take (i := 2) (v := .int .i64 v) rfl (by kernel_rfl) (by kernel_rfl) (by kernel_rfl) (fun _ _ _ h => h) (Or.inl ⟨by rfl, fun w _ => by go_simp⟩) (by assumption) ?_
    go_simp
    refine wpAnyH_take (i := 3) (v := .slice Aa na ca) rfl (by kernel_rfl) (by kernel_rfl) (by kernel_rfl) (fun _ _ _ h => h) (Or.inl ⟨by rfl, fun w _ => by go_simp⟩) (by assumption) ?_
    go_simp
    refine wpAnyH_take (i := 5) (v := .pointer (some ⟨g, 0, none⟩)) rfl (by kernel_rfl) (by kernel_rfl) (by kernel_rfl) (fun _ _ _ h => h) (Or.inl ⟨by rfl, fun w _ => by go_simp⟩) (by assumption) ?_
    go_simp
    refine wpAnyH_take (i := 6) (v := .agg KL.toArray) rfl (by kernel_rfl) (by kernel_rfl) (by kernel_rfl) (fun _ _ _ h => h) (yieldsIf_load_mid (by rfl) _ (.tmp 6) rfl w.heap.size 0 rfl KL _ (fun _ h => h) Tryd.underlying29 rfl hiK) (by assumption) ?_
    go_simp
    refine wpAnyH_take (i := 7) (v := .int .i64 v) rfl (by kernel_rfl) (by kernel_rfl) (by kernel_rfl) (fun _ _ _ h => h) (Or.inl ⟨by rfl, fun w _ => by go_simp⟩) (by assumption) ?_
    go_simp
    refine wpAnyH_take (i := 8) (v := .slice Ab nb cb) rfl (by kernel_rfl) (by kernel_rfl) (by kernel_rfl) (fun _ _ _ h => h) (Or.inl ⟨by rfl, fun w _ => by go_simp⟩) (by assumption) ?_
    go_simp
    refine wpAnyH_ready (rs := [4]) (by kernel_rfl) (by simp) ?_
    refine AllReadyH.cons rfl (fun K hK => ?_) AllReadyH.nil
    (go_simp; go_at_call 19; refine HSA.out.mono ?_; rintro e w4 ⟨Ax, cx, rfl, hox, hra4, hgb4⟩)
    have hb4 := gb_lift hbd hgb4 hgw
    have hg4 := hra4.lt
    have hsb := seal_any g seed 0 (0 + 1) k HK.out D v (by omega) Ab nb cb b w4 hra4 (HROOT.out _ hb4) (fun V hV => HITO.out V (gb_lift hb4 hV hgw)) hne (by omega) (HSP.out _ _ _ _ _ _ HRW.out.2 hb4 hgw) (by omega)
    rw [← HKL.out] at hsb
    have hxl : ∀ q o, Ax = some ⟨q, o, none⟩ → q ≠ g := fun q o e => by
      rcases own_cases hox with ⟨_, _, h⟩ | ⟨q', h⟩
      · omega
      · rw [h] at e; injection e with e; injection e with e1 e2
        have h5 := (hox.lt q' (by rw [h]; rfl)).1
        have h6 : w3.drew.heap.size = w3.heap.size := rfl
        omega
    have hrx4 : RdB w4 w4.heap.size Ax (na + 24) cx (boxS k D (be 8 1) a) := Rd.of_own hox
    try go_simp
    refine hK.out _ _ (HAR.out _ hb4) (fun hHeld => ?_)
    clear hK K
    refine wpAnyH_ready (rs := [9]) (by kernel_rfl) (by simp) ?_
    refine AllReadyH.cons rfl (fun K hK => ?_) AllReadyH.nil
    (go_simp; go_at_call 19; refine hsb.mono ?_; rintro e w5 ⟨Ay, cy, rfl, hoy, hra5, hgb5⟩)
    have hb5 := gb_lift hb4 hgb5 hgw
    have hg5 := hra5.lt
    have hyl : ∀ q o, Ay = some ⟨q, o, none⟩ → q ≠ g := fun q o e => by
      rcases own_cases hoy with ⟨_, _, h⟩ | ⟨q', h⟩
      · omega
      · rw [h] at e; injection e with e; injection e with e1 e2
        have h5 := (hoy.lt q' (by rw [h]; rfl)).1
        omega
    have hry5 : RdB w5 w5.heap.size Ay (nb + 24) cy (boxS k D (be 8 2) b) := Rd.of_own hoy
    have hrx5 := rd_gb hrx4 hgb5 hxl
    try go_simp
    refine hK.out _ _ (HAR.out _ hb5) (fun hHeld => ?_)
    clear hK K
    refine wpAnyH_take (i := 10) (v := .slice Ax (na + 24) cx) rfl (by kernel_rfl) (by kernel_rfl) (by kernel_rfl) (fun _ _ _ h => h) (Or.inl ⟨by rfl, fun w _ => by go_simp⟩) (by assumption) ?_
    go_simp
    refine wpAnyH_take (i := 11) (v := .slice Ay (nb + 24) cy) rfl (by kernel_rfl) (by kernel_rfl) (by kernel_rfl) (fun _ _ _ h => h) (Or.inl ⟨by rfl, fun w _ => by go_simp⟩) (by assumption) ?_
    go_simp
    refine wpAnyH_done (by kernel_rfl) ?_ _
    have HRA5 := Lib.hid hra5
    have HRX5 := Lib.hid hrx5
    have HRY5 := Lib.hid hry5
    have HB5 := Lib.hid hb5
    have HXL := Lib.hid hxl
    have HYL := Lib.hid hyl
    clear hox hra4 hgb4 hb4 hsb hoy hra5 hgb5 hb5 hry5 hrx5 hrx4 hxl hyl hbd hbd3 hHeld HSA HRA3
    go_wp2_with fail
    obtain ⟨F1, hF1⟩ : ∃ F, F = freS seed 1 := ⟨_, rfl⟩
    obtain ⟨F2, hF2⟩ : ∃ F, F = freS seed 2 := ⟨_, rfl⟩
    have hl1 : F1.length = 16 := by rw [hF1, freS_len]
    have hl2 : F2.length = 16 := by rw [hF2, freS_len]
    obtain ⟨V1, hV1⟩ : ∃ q, q = (F1.map bv).toArray := ⟨_, rfl⟩
    obtain ⟨V2, hV2⟩ : ∃ q, q = (F2.map bv).toArray := ⟨_, rfl⟩
    have hfa := fresh_any g seed 0 (0 + 1 + 1) w5 HRA5.out (HROOT.out _ HB5.out) hne (by omega)
    rw [show freS seed (0 + 1) = F1 from hF1.symm, ← hV1] at hfa
    refine hfa.mono ?_
    rintro e w6 ⟨rfl, hra6, hgb6⟩
    have hb6 := gb_lift HB5.out hgb6 hgw
    have hfb := fresh_any g seed (0 + 1) (0 + 1 + 1) w6 hra6 (HROOT.out _ hb6) hne (by omega)
    rw [show freS seed (0 + 1 + 1) = F2 from hF2.symm, ← hV2] at hfb
    have HFB := Lib.hid hfb
    have HRX6 := Lib.hid (rd_gb HRX5.out hgb6 HXL.out)
    have HRY6 := Lib.hid (rd_gb HRY5.out hgb6 HYL.out)
    have HB6 := Lib.hid hb6
    have hs1 : V1.size = 16 := by rw [hV1]; simp [hl1]
    have hs2 : V2.size = 16 := by rw [hV2]; simp [hl2]
    have hP1 : V1.all (·.oneCell') = true := by rw [hV1]; exact all_oneCell_toArray (bv_one _)
    have hP2 : V2.all (·.oneCell') = true := by rw [hV2]; exact all_oneCell_toArray (bv_one _)
    have hID : (Tryd.prog.info? 30).map (·.size) = some V1.size := by rw [hs1]; exact infoKz
    have hIT : (Tryd.prog.info? 30).map (·.size) = some V2.size := by rw [hs2]; exact infoKz
    have HF := Lib.hid (And.intro hF1 (And.intro hF2 (And.intro hV1 (And.intro hV2 (And.intro hl1 hl2)))))
    have HS := Lib.hid (And.intro hs1 hs2)
    have HP1 := Lib.hid hP1
    have HP2 := Lib.hid hP2
    have HID := Lib.hid hID
    have HIT := Lib.hid hIT
    clear hfa hfb hra6 hgb6 hb6 hF1 hF2 hV1 hV2 hl1 hl2 hs1 hs2 hP1 hP2 hID hIT
    go_wp2_with fail
    refine HFB.out.mono ?_
    rintro e w7 ⟨rfl, hra7, hgb7⟩
    have hg40 : ((w7.alloc (.cells ZV 30)).alloc (.cells ZV 30)).heap[w7.heap.size]? = some (.cells ZV 30 (0, 0)) := (heap2 w7 _ _).1
    have hg41 : ((w7.alloc (.cells ZV 30)).alloc (.cells ZV 30)).heap[w7.heap.size + 1]? = some (.cells ZV 30 (0, 0)) := (heap2 w7 _ _).2
    have hne7 : w7.heap.size ≠ w7.heap.size + 1 := by omega
    have HG40 := Lib.hid hg40
    have HG41 := Lib.hid hg41
    have HRX7 := Lib.hid (rd_gb HRX6.out hgb7 HXL.out)
    have HRY7 := Lib.hid (rd_gb HRY6.out hgb7 HYL.out)
    have HB7 := Lib.hid (gb_lift HB6.out hgb7 hgw)
    have HRA7 := Lib.hid hra7
    clear hg40 hg41 hra7 hgb7 HFB
    go_wp2_with (first
      | ((refine wpList_store_row rfl 30 (.tmp 14) (.tmp 48) rfl w7.heap.size V1 rfl rfl 30 _ HG40.out HID.out (by rw [HZL.out, HS.out.1]) HP1.out ?_)
         have hg50 := setRow_heap ((w7.alloc (.cells ZV 30)).alloc (.cells ZV 30)) w7.heap.size _ V1 _ _ HG40.out
         have hg51 := (setRow_other ((w7.alloc (.cells ZV 30)).alloc (.cells ZV 30)) w7.heap.size (w7.heap.size + 1) V1 hne7.symm).trans HG41.out)
      | ((refine wpList_store_row rfl 30 (.tmp 15) (.tmp 50) rfl (w7.heap.size + 1) V2 rfl rfl 30 _ hg51 HIT.out (by rw [HZL.out, HS.out.2]) HP2.out ?_)
         have hg61 := setRow_heap _ (w7.heap.size + 1) _ V2 _ _ hg51
         have hg60 := (setRow_other _ (w7.heap.size + 1) w7.heap.size V2 hne7).trans hg50
         obtain ⟨W8, hW8⟩ : ∃ q, q = ((((w7.alloc (.cells ZV 30)).alloc (.cells ZV 30)).setRow w7.heap.size V1).setRow (w7.heap.size + 1) V2) := ⟨_, rfl⟩
         rw [← hW8] at hg60 hg61 ⊢
         have hb78 : Below w7.heap.size w7 W8 := by rw [hW8]; exact below_setRow (below_setRow (below_alloc (below_of_new w7 _) _) (Nat.le_refl _) _) (by omega) _
         have HW8 := Lib.hid hW8
         have HB78 := Lib.hid hb78
         have HB8 := Lib.hid (below_seq HB7.out hb78)
         rw [HF.out.2.2.1] at hg60
         rw [HF.out.2.2.2.1] at hg61
         have HSF1 := Lib.hid (show ∀ W, Below W8.heap.size W8 W → RdB W W.heap.size (some ⟨w7.heap.size, 0, none⟩) 16 16 F1 from fun W h => (rd_block hg60 HF.out.2.2.2.2.1 (by omega)).on h)
         have HSF2 := Lib.hid (show ∀ W, Below W8.heap.size W8 W → RdB W W.heap.size (some ⟨w7.heap.size + 1, 0, none⟩) 16 16 F2 from fun W h => (rd_block hg61 HF.out.2.2.2.2.2 (by omega)).on h)
         have HX8 := Lib.hid (show ∀ W, Below W8.heap.size W8 W → RdB W W.heap.size Ax (na + 24) cx (boxS k D (be 8 1) a) from fun W h => (HRX7.out.on HB78.out).on h)
         have HY8 := Lib.hid (show ∀ W, Below W8.heap.size W8 W → RdB W W.heap.size Ay (nb + 24) cy (boxS k D (be 8 2) b) from fun W h => (HRY7.out.on HB78.out).on h)
         clear hW8 hb78 hg60 hg61 hg50 hg51)
      | (refine wpList_load_row rfl 29 (.tmp 6) rfl w.heap.size rfl 29 KL.toArray (0, 0) _ (HBLK.out _ HB8.out) Tryd.underlying29 rfl HI.out ?_)
      | fail)
    have hopx := open_yes g k HK.out D v (by omega) Ax na cx (be 8 1) a W8 (HROOT.out _ HB8.out) (HITO.out _ HB8.out) (be_len _ _) (HX8.out _ (Below.refl _ _)) hla (by omega)
    rw [← HKL.out] at hopx
    refine hopx.mono ?_
    rintro e w9 ⟨ri, rfl, hri, hb9⟩
    have HB89 := Lib.hid hb9
    have HB9 := Lib.hid (below_seq HB8.out hb9)
    have HRI := Lib.hid (show ∀ W, Below w9.heap.size w9 W → RdB W W.heap.size (some ⟨ri, 0, none⟩) na na a from fun W h => hri.on h)
    clear hopx hri hb9
    go_wp2_with (first
      | (refine wpList_load_row rfl 29 (.tmp 6) rfl w.heap.size rfl 29 KL.toArray (0, 0) _ (HBLK.out _ HB9.out) Tryd.underlying29 rfl HI.out ?_)
      | fail)
    have hopy := open_yes g k HK.out D v (by omega) Ay nb cy (be 8 2) b w9 (HROOT.out _ HB9.out) (HITO.out _ HB9.out) (be_len _ _) (HY8.out _ HB89.out) hlb (by omega)
    rw [← HKL.out] at hopy
    refine hopy.mono ?_
    rintro e w10 ⟨rj, rfl, hrj, hb10⟩
    have HB910 := Lib.hid hb10
    have HB810 := Lib.hid (below_seq HB89.out hb10)
    have HB10 := Lib.hid (below_seq HB9.out hb10)
    have HRJ := Lib.hid (show ∀ W, Below w10.heap.size w10 W → RdB W W.heap.size (some ⟨rj, 0, none⟩) nb nb b from fun W h => hrj.on h)
    clear hopy hrj hb10
    have HSL := Lib.hid (show ∀ (j : Nat) (Ab' : Option Addr) (n' c' : Nat) (x : List UInt8) (W : World), j < 18446744073709551616 → n' ≤ 60 → Below W1.heap.size W1 W → RdB W W.heap.size Ab' n' c' x → Calls Tryd.prog 22 #[.int .u64 (j : Int), .slice (some ⟨w.heap.size, 0, none⟩) 16 16, .int .i64 v, .slice Ab' n' c'] W fun e w' => ∃ A' c2, e = .returned (.slice A' (8 + n' + 16) c2) ∧ RdB w' w'.heap.size A' (8 + n' + 16) c2 (boxS k D (be 8 j) x) ∧ Below W.heap.size W w' from fun j Ab' n' c' x W hj hn h hr =>
      refseal_new j _ Ab' 16 n' c' k x v hv.1 hv.2 D HDD.out W (HKEY.out _ h) hr (by omega) hj)
    have hbd : Below w10.heap.size w10 w10.drew := below_of_drew ⟨1, rfl⟩ _
    go_wp2_with fail
    refine wp_region_held_drew (S := fun _ => True) (by kernel_rfl) trivial (fun hHeld => ?_)
    refine wpAnyH_take (i := 0) (v := .slice Ax (na + 24) cx) rfl (by kernel_rfl) (by kernel_rfl) (by kernel_rfl) (fun _ _ _ h => h) (Or.inl ⟨by rfl, fun w _ => by go_simp⟩) (by assumption) ?_
    go_simp
    refine wpAnyH_take (i := 1) (v := .slice (some ⟨w.heap.size, 0, none⟩) 16 16) rfl (by kernel_rfl) (by kernel_rfl) (by kernel_rfl) (fun _ _ _ h => h) (Or.inl ⟨by rfl, fun w _ => by go_simp⟩) (by assumption) ?_
    go_simp
    refine wpAnyH_take (i := 2) (v := .int .i64 v) rfl (by kernel_rfl) (by kernel_rfl) (by kernel_rfl) (fun _ _ _ h => h) (Or.inl ⟨by rfl, fun w _ => by go_simp⟩) (by assumption) ?_
    go_simp
    refine wpAnyH_take (i := 3) (v := .slice Aa na ca) rfl (by kernel_rfl) (by kernel_rfl) (by kernel_rfl) (fun _ _ _ h => h) (Or.inl ⟨by rfl, fun w _ => by go_simp⟩) (by assumption) ?_
    go_simp
    refine wpAnyH_ready (rs := [4]) (by kernel_rfl) (by simp) ?_
    refine AllReadyH.cons rfl (fun K hK => ?_) AllReadyH.nil
    (go_simp; go_at_call 22; refine (HSL.out 1 _ _ _ a _ (by omega) hnp.2.1 (below_seq HB10.out hbd) (HAA.out _ (below_seq HB10.out hbd))).mono ?_; rintro e u1 ⟨B1, d1, rfl, hr1, hk1⟩; have hqu1 := below_seq hbd hk1)
    try go_simp
    refine hK.out _ _ trivial (fun hHeld => ?_)
    clear hK K
    refine wpAnyH_ready (rs := [5]) (by kernel_rfl) (by simp) ?_
    refine AllReadyH.cons rfl (fun K hK => ?_) AllReadyH.nil
    (go_simp; go_at_call 9; refine (rsame_new _ _ _ _ _ _ (boxS k D (be 8 1) a) (boxS k D (be 8 1) a) _ (HX8.out _ (below_seq HB810.out hqu1)) hr1).mono ?_; rintro e u2 ⟨rfl, hsu2⟩; rw [show decide ((boxS k D (be 8 1) a) = (boxS k D (be 8 1) a)) = true from by simp]; have hqu2 := below_seq hqu1 hsu2)
    try go_simp
    refine hK.out _ _ trivial (fun hHeld => ?_)
    clear hK K
    refine wpAnyH_take (i := 6) (v := .bool true) rfl (by kernel_rfl) (by kernel_rfl) (by kernel_rfl) (fun _ _ _ h => h) (Or.inl ⟨by rfl, fun w _ => by go_simp⟩) (by assumption) ?_
    go_simp
    refine wpAnyH_take (i := 7) (v := .slice Ay (nb + 24) cy) rfl (by kernel_rfl) (by kernel_rfl) (by kernel_rfl) (fun _ _ _ h => h) (Or.inl ⟨by rfl, fun w _ => by go_simp⟩) (by assumption) ?_
    go_simp
    refine wpAnyH_take (i := 8) (v := .slice (some ⟨w.heap.size, 0, none⟩) 16 16) rfl (by kernel_rfl) (by kernel_rfl) (by kernel_rfl) (fun _ _ _ h => h) (Or.inl ⟨by rfl, fun w _ => by go_simp⟩) (by assumption) ?_
    go_simp
    refine wpAnyH_take (i := 9) (v := .int .i64 v) rfl (by kernel_rfl) (by kernel_rfl) (by kernel_rfl) (fun _ _ _ h => h) (Or.inl ⟨by rfl, fun w _ => by go_simp⟩) (by assumption) ?_
    go_simp
    refine wpAnyH_take (i := 10) (v := .slice Ab nb cb) rfl (by kernel_rfl) (by kernel_rfl) (by kernel_rfl) (fun _ _ _ h => h) (Or.inl ⟨by rfl, fun w _ => by go_simp⟩) (by assumption) ?_
    go_simp
    refine wpAnyH_ready (rs := [11]) (by kernel_rfl) (by simp) ?_
    refine AllReadyH.cons rfl (fun K hK => ?_) AllReadyH.nil
    (go_simp; go_at_call 22; refine (HSL.out 2 _ _ _ b _ (by omega) hnp.2.2 (below_seq HB10.out hqu2) (HBB.out _ (below_seq HB10.out hqu2))).mono ?_; rintro e u3 ⟨B3, d3, rfl, hr3, hk3⟩; have hqu3 := below_seq hqu2 hk3)
    try go_simp
    refine hK.out _ _ trivial (fun hHeld => ?_)
    clear hK K
    refine wpAnyH_ready (rs := [12]) (by kernel_rfl) (by simp) ?_
    refine AllReadyH.cons rfl (fun K hK => ?_) AllReadyH.nil
    (go_simp; go_at_call 9; refine (rsame_new _ _ _ _ _ _ (boxS k D (be 8 2) b) (boxS k D (be 8 2) b) _ (HY8.out _ (below_seq HB810.out hqu3)) hr3).mono ?_; rintro e u4 ⟨rfl, hsu4⟩; rw [show decide ((boxS k D (be 8 2) b) = (boxS k D (be 8 2) b)) = true from by simp]; have hqu4 := below_seq hqu3 hsu4)
    try go_simp
    refine hK.out _ _ trivial (fun hHeld => ?_)
    clear hK K
    refine wpAnyH_take (i := 13) (v := .bool true) rfl (by kernel_rfl) (by kernel_rfl) (by kernel_rfl) (fun _ _ _ h => h) (Or.inl ⟨by rfl, fun w _ => by go_simp⟩) (by assumption) ?_
    go_simp
    refine wpAnyH_take (i := 14) (v := .bool true) rfl (by kernel_rfl) (by kernel_rfl) (by kernel_rfl) (fun _ _ _ h => h) (Or.inl ⟨by rfl, fun w _ => by go_simp⟩) (by assumption) ?_
    go_simp
    refine wpAnyH_take (i := 15) (v := .slice (some ⟨w7.heap.size, 0, none⟩) 16 16) rfl (by kernel_rfl) (by kernel_rfl) (by kernel_rfl) (fun _ _ _ h => h) (Or.inl ⟨by rfl, fun w _ => by go_simp⟩) (by assumption) ?_
    go_simp
    refine wpAnyH_take (i := 16) (v := .slice A n c) rfl (by kernel_rfl) (by kernel_rfl) (by kernel_rfl) (fun _ _ _ h => h) (Or.inl ⟨by rfl, fun w _ => by go_simp⟩) (by assumption) ?_
    go_simp
    refine wpAnyH_ready (rs := [17]) (by kernel_rfl) (by simp) ?_
    refine AllReadyH.cons rfl (fun K hK => ?_) AllReadyH.nil
    (go_simp; go_at_call 23; refine (reffresh_new A n c seed 1 _ (HSEED.out _ (below_seq HB10.out hqu4)) (by omega) (by omega)).mono ?_; rintro e u5 ⟨B5, d5, rfl, hr5, hk5⟩; rw [← HF.out.1] at hr5; have hqu5 := below_seq hqu4 hk5)
    try go_simp
    refine hK.out _ _ trivial (fun hHeld => ?_)
    clear hK K
    refine wpAnyH_ready (rs := [18]) (by kernel_rfl) (by simp) ?_
    refine AllReadyH.cons rfl (fun K hK => ?_) AllReadyH.nil
    (go_simp; go_at_call 9; refine (rsame_new _ _ _ _ _ _ F1 F1 _ (HSF1.out _ (below_seq HB810.out hqu5)) hr5).mono ?_; rintro e u6 ⟨rfl, hsu6⟩; rw [show decide (F1 = F1) = true from by simp]; have hqu6 := below_seq hqu5 hsu6)
    try go_simp
    refine hK.out _ _ trivial (fun hHeld => ?_)
    clear hK K
    refine wpAnyH_take (i := 19) (v := .bool true) rfl (by kernel_rfl) (by kernel_rfl) (by kernel_rfl) (fun _ _ _ h => h) (Or.inl ⟨by rfl, fun w _ => by go_simp⟩) (by assumption) ?_
    go_simp
    refine wpAnyH_take (i := 20) (v := .bool true) rfl (by kernel_rfl) (by kernel_rfl) (by kernel_rfl) (fun _ _ _ h => h) (Or.inl ⟨by rfl, fun w _ => by go_simp⟩) (by assumption) ?_
    go_simp
    refine wpAnyH_take (i := 21) (v := .slice (some ⟨w7.heap.size + 1, 0, none⟩) 16 16) rfl (by kernel_rfl) (by kernel_rfl) (by kernel_rfl) (fun _ _ _ h => h) (Or.inl ⟨by rfl, fun w _ => by go_simp⟩) (by assumption) ?_
    go_simp
    refine wpAnyH_take (i := 22) (v := .slice A n c) rfl (by kernel_rfl) (by kernel_rfl) (by kernel_rfl) (fun _ _ _ h => h) (Or.inl ⟨by rfl, fun w _ => by go_simp⟩) (by assumption) ?_
    go_simp
    refine wpAnyH_ready (rs := [23]) (by kernel_rfl) (by simp) ?_
    refine AllReadyH.cons rfl (fun K hK => ?_) AllReadyH.nil
    (go_simp; go_at_call 23; refine (reffresh_new A n c seed 2 _ (HSEED.out _ (below_seq HB10.out hqu6)) (by omega) (by omega)).mono ?_; rintro e u7 ⟨B7, d7, rfl, hr7, hk7⟩; rw [← HF.out.2.1] at hr7; have hqu7 := below_seq hqu6 hk7)
    try go_simp
    refine hK.out _ _ trivial (fun hHeld => ?_)
    clear hK K
    refine wpAnyH_ready (rs := [24]) (by kernel_rfl) (by simp) ?_
    refine AllReadyH.cons rfl (fun K hK => ?_) AllReadyH.nil
    (go_simp; go_at_call 9; refine (rsame_new _ _ _ _ _ _ F2 F2 _ (HSF2.out _ (below_seq HB810.out hqu7)) hr7).mono ?_; rintro e u8 ⟨rfl, hsu8⟩; rw [show decide (F2 = F2) = true from by simp]; have hqu8 := below_seq hqu7 hsu8)
    try go_simp
    refine hK.out _ _ trivial (fun hHeld => ?_)
    clear hK K
    refine wpAnyH_take (i := 25) (v := .bool true) rfl (by kernel_rfl) (by kernel_rfl) (by kernel_rfl) (fun _ _ _ h => h) (Or.inl ⟨by rfl, fun w _ => by go_simp⟩) (by assumption) ?_
    go_simp
    refine wpAnyH_take (i := 26) (v := .bool true) rfl (by kernel_rfl) (by kernel_rfl) (by kernel_rfl) (fun _ _ _ h => h) (Or.inl ⟨by rfl, fun w _ => by go_simp⟩) (by assumption) ?_
    go_simp
    refine wpAnyH_take (i := 27) (v := .bool true) rfl (by kernel_rfl) (by kernel_rfl) (by kernel_rfl) (fun _ _ _ h => h) (Or.inl ⟨by rfl, fun w _ => by go_simp⟩) (by assumption) ?_
    go_simp
    refine wpAnyH_take (i := 28) (v := .bool true) rfl (by kernel_rfl) (by kernel_rfl) (by kernel_rfl) (fun _ _ _ h => h) (Or.inl ⟨by rfl, fun w _ => by go_simp⟩) (by assumption) ?_
    go_simp
    refine wpAnyH_take (i := 29) (v := .bool true) rfl (by kernel_rfl) (by kernel_rfl) (by kernel_rfl) (fun _ _ _ h => h) (Or.inl ⟨by rfl, fun w _ => by go_simp⟩) (by assumption) ?_
    go_simp
    refine wpAnyH_take (i := 30) (v := .bool true) rfl (by kernel_rfl) (by kernel_rfl) (by kernel_rfl) (fun _ _ _ h => h) (Or.inl ⟨by rfl, fun w _ => by go_simp⟩) (by assumption) ?_
    go_simp
    refine wpAnyH_take (i := 31) (v := .bool true) rfl (by kernel_rfl) (by kernel_rfl) (by kernel_rfl) (fun _ _ _ h => h) (Or.inl ⟨by rfl, fun w _ => by go_simp⟩) (by assumption) ?_
    go_simp
    refine wpAnyH_take (i := 32) (v := .bool true) rfl (by kernel_rfl) (by kernel_rfl) (by kernel_rfl) (fun _ _ _ h => h) (Or.inl ⟨by rfl, fun w _ => by go_simp⟩) (by assumption) ?_
    go_simp
    refine wpAnyH_take (i := 33) (v := .slice (some ⟨ri, 0, none⟩) na na) rfl (by kernel_rfl) (by kernel_rfl) (by kernel_rfl) (fun _ _ _ h => h) (Or.inl ⟨by rfl, fun w _ => by go_simp⟩) (by assumption) ?_
    go_simp
    refine wpAnyH_take (i := 34) (v := .slice Aa na ca) rfl (by kernel_rfl) (by kernel_rfl) (by kernel_rfl) (fun _ _ _ h => h) (Or.inl ⟨by rfl, fun w _ => by go_simp⟩) (by assumption) ?_
    go_simp
    refine wpAnyH_ready (rs := [35]) (by kernel_rfl) (by simp) ?_
    refine AllReadyH.cons rfl (fun K hK => ?_) AllReadyH.nil
    (go_simp; go_at_call 9; refine (rsame_new _ _ _ _ _ _ a a _ (HRI.out _ (below_seq HB910.out hqu8)) (HAA.out _ (below_seq HB10.out hqu8))).mono ?_; rintro e u9 ⟨rfl, hsu9⟩; rw [show decide (a = a) = true from by simp]; have hqu9 := below_seq hqu8 hsu9)
    try go_simp
    refine hK.out _ _ trivial (fun hHeld => ?_)
    clear hK K
    refine wpAnyH_take (i := 36) (v := .bool true) rfl (by kernel_rfl) (by kernel_rfl) (by kernel_rfl) (fun _ _ _ h => h) (Or.inl ⟨by rfl, fun w _ => by go_simp⟩) (by assumption) ?_
    go_simp
    refine wpAnyH_take (i := 37) (v := .bool true) rfl (by kernel_rfl) (by kernel_rfl) (by kernel_rfl) (fun _ _ _ h => h) (Or.inl ⟨by rfl, fun w _ => by go_simp⟩) (by assumption) ?_
    go_simp
    refine wpAnyH_take (i := 38) (v := .slice (some ⟨rj, 0, none⟩) nb nb) rfl (by kernel_rfl) (by kernel_rfl) (by kernel_rfl) (fun _ _ _ h => h) (Or.inl ⟨by rfl, fun w _ => by go_simp⟩) (by assumption) ?_
    go_simp
    refine wpAnyH_take (i := 39) (v := .slice Ab nb cb) rfl (by kernel_rfl) (by kernel_rfl) (by kernel_rfl) (fun _ _ _ h => h) (Or.inl ⟨by rfl, fun w _ => by go_simp⟩) (by assumption) ?_
    go_simp
    refine wpAnyH_ready (rs := [40]) (by kernel_rfl) (by simp) ?_
    refine AllReadyH.cons rfl (fun K hK => ?_) AllReadyH.nil
    (go_simp; go_at_call 9; refine (rsame_new _ _ _ _ _ _ b b _ (HRJ.out _ hqu9) (HBB.out _ (below_seq HB10.out hqu9))).mono ?_; rintro e u10 ⟨rfl, hsu10⟩; rw [show decide (b = b) = true from by simp]; have hqu10 := below_seq hqu9 hsu10)
    try go_simp
    refine hK.out _ _ trivial (fun hHeld => ?_)
    clear hK K
    refine wpAnyH_take (i := 41) (v := .bool true) rfl (by kernel_rfl) (by kernel_rfl) (by kernel_rfl) (fun _ _ _ h => h) (Or.inl ⟨by rfl, fun w _ => by go_simp⟩) (by assumption) ?_
    go_simp
    refine wpAnyH_take (i := 42) (v := .bool true) rfl (by kernel_rfl) (by kernel_rfl) (by kernel_rfl) (fun _ _ _ h => h) (Or.inl ⟨by rfl, fun w _ => by go_simp⟩) (by assumption) ?_
    go_simp
    refine wpAnyH_take (i := 43) (v := .pointer (some ⟨g, 0, none⟩)) rfl (by kernel_rfl) (by kernel_rfl) (by kernel_rfl) (fun _ _ _ h => h) (Or.inl ⟨by rfl, fun w _ => by go_simp⟩) (by assumption) ?_
    go_simp
    refine wpAnyH_take (i := 44) (v := .slice Aa na ca) rfl (by kernel_rfl) (by kernel_rfl) (by kernel_rfl) (fun _ _ _ h => h) (Or.inl ⟨by rfl, fun w _ => by go_simp⟩) (by assumption) ?_
    go_simp
    refine wpAnyH_take (i := 47) (v := .slice Aa na ca) rfl (by kernel_rfl) (by kernel_rfl) (by kernel_rfl) (fun _ _ _ h => h) (Or.inl ⟨by rfl, fun w _ => by go_simp⟩) (by assumption) ?_
    go_simp
    refine wpAnyH_ready (rs := [45]) (by kernel_rfl) (by simp) ?_
    refine AllReadyH.cons rfl (fun K hK => ?_) AllReadyH.nil
    (go_simp; go_at_call 24; refine (digr_any g Aa na ca a _ (HAA.out _ (below_seq HB10.out hqu10)) (by omega) (HROOT.out _ (below_seq HB10.out hqu10))).mono ?_; rintro e u11 ⟨B11, d11, rfl, hr11, hk11⟩; have hqu11 := below_seq hqu10 hk11)
    try go_simp
    refine hK.out _ _ trivial (fun hHeld => ?_)
    clear hK K
    refine wpAnyH_ready (rs := [46]) (by kernel_rfl) (by simp) ?_
    refine AllReadyH.cons rfl (fun K hK => ?_) AllReadyH.nil
    (go_simp; go_at_call 12; refine (ks_own _).mono ?_; rintro e u12 ⟨B12, d12, rfl, ho12, hk12⟩; have hqu12 := below_seq hqu11 hk12)
    try go_simp
    refine hK.out _ _ trivial (fun hHeld => ?_)
    clear hK K
    refine wpAnyH_ready (rs := [48]) (by kernel_rfl) (by simp) ?_
    refine AllReadyH.cons rfl (fun K hK => ?_) AllReadyH.nil
    (go_simp; go_at_call 25; refine (refdigest_own B12 Aa d12 na ca a _ (Rd.of_own ho12) (HAA.out _ (below_seq HB10.out hqu12)) (by omega)).mono ?_; rintro e u13 ⟨B13, d13, rfl, ho13, hk13⟩; have hqu13 := below_seq hqu12 hk13; have hr13 := Rd.of_own ho13; have hrm13 := hr13.room; have hcut13 := Seal.front16 B13 32 d13 (by omega); have hf13 := Rd.front (k := 16) hr13 (by omega); rw [← List.map_take] at hf13)
    try go_simp
    refine hK.out _ _ trivial (fun hHeld => ?_)
    clear hK K
    refine wpAnyH_take (i := 49) (v := .slice B13 16 d13) rfl (by kernel_rfl) (by kernel_rfl) (by kernel_rfl) (fun _ _ _ h => h) (Or.inl ⟨by rfl, fun w _ => by go_simp⟩) (by assumption) ?_
    go_simp
    refine wpAnyH_ready (rs := [50]) (by kernel_rfl) (by simp) ?_
    refine AllReadyH.cons rfl (fun K hK => ?_) AllReadyH.nil
    (go_simp; go_at_call 9; refine (rsame_new _ _ _ _ _ _ ((dig a).take 16) ((dig a).take 16) _ ((hr11.on hk12).on hk13) hf13).mono ?_; rintro e u14 ⟨rfl, hsu14⟩; rw [show decide (((dig a).take 16) = ((dig a).take 16)) = true from by simp]; have hqu14 := below_seq hqu13 hsu14)
    try go_simp
    refine hK.out _ _ trivial (fun hHeld => ?_)
    clear hK K
    refine wpAnyH_take (i := 51) (v := .bool true) rfl (by kernel_rfl) (by kernel_rfl) (by kernel_rfl) (fun _ _ _ h => h) (Or.inl ⟨by rfl, fun w _ => by go_simp⟩) (by assumption) ?_
    go_simp
    refine wpAnyH_take (i := 52) (v := .bool true) rfl (by kernel_rfl) (by kernel_rfl) (by kernel_rfl) (fun _ _ _ h => h) (Or.inl ⟨by rfl, fun w _ => by go_simp⟩) (by assumption) ?_
    go_simp
    refine wpAnyH_done (by kernel_rfl) ?_ _
    have HBE := Lib.hid (below_seq HB1.out (below_seq HB10.out hqu14))
    go_wp2
    go_ret
    exact ⟨rfl, HBE.out⟩
end Go.Proofs.YtgebdkbbdabomaaDoor.Semkw
