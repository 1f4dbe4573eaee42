/-
  MARKS of layer 7: both marks' contracts.
-/
import Derived.Test.YtcgkjcfckbplmaaSymp
import Derived.Test.YtcgkjcfckbplmaaAesk
import Derived.Test.YtcgkjcfckbplmaaOctn
import Derived.Deep.RegionHeld3
namespace Go.Proofs.Ytcgkjcfckbplmaa.Sym
open Go.RowKit
open Go.Proofs.Ytcgkjcfckbplmaa.Kit
open Go.Proofs.Ytcgkjcfckbplmaa.Oct
set_option linter.unusedVariables false

theorem heap_new' (w : World) (o : Obj) {g : Nat} (h : g = w.heap.size) : (w.alloc o).heap[g]? = some o := by subst h; exact heap_alloc_new w o
theorem kv_one (b : List UInt8) : (kv b).all (·.oneCell') = true := all_oneCell_toArray (bv_one _)
theorem info5s : (Try.prog.info? 5).map (·.size) = some 1 := by kernel_rfl
theorem infoK : (Try.prog.info? 36).map (·.size) = some 16 := by kernel_rfl
theorem info32 : (Try.prog.info? 32).map (·.size) = some 16 := by kernel_rfl


set_option maxRecDepth 100000 in
set_option maxHeartbeats 1000000 in
theorem lmark_any (kd : UInt8) (n : Nat) (w : World) (hn : n ≤ 9223372036854775807) :
    Calls Try.prog 11 #[.int .u8 kd.toNat, .int .i64 n] w fun e w' => e = .returned (.agg (kv (mk kd n))) ∧ Below w.heap.size w w' := by
  have hk := kd.toNat_lt
  obtain ⟨ZA, hZA⟩ : ∃ q : Array Value, q = #[.int .u8 0, .int .u8 0, .int .u8 0, .int .u8 0, .int .u8 0, .int .u8 0, .int .u8 0, .int .u8 0, .int .u8 0, .int .u8 0, .int .u8 0, .int .u8 0, .int .u8 0, .int .u8 0, .int .u8 0, .int .u8 0] := ⟨_, rfl⟩
  obtain ⟨BA, hBA⟩ : ∃ q : List UInt8, q = [255, 254, kd, 0, 0, 0, 0, 0, 0, 0, 0, 0, 0, 0, 0, 0] := ⟨_, rfl⟩
  have hBV : (BA.map bv).toArray = #[.int .u8 255, .int .u8 254, .int .u8 kd.toNat, .int .u8 0, .int .u8 0, .int .u8 0, .int .u8 0, .int .u8 0, .int .u8 0, .int .u8 0, .int .u8 0, .int .u8 0, .int .u8 0, .int .u8 0, .int .u8 0, .int .u8 0] := by rw [hBA]; rfl
  obtain ⟨W2, hW2⟩ : ∃ q, q = (w.alloc (.cells ZA 32)).alloc (.cells (BA.map bv).toArray 32) := ⟨_, rfl⟩
  have hg2 : W2.heap[w.heap.size + 1]? = some (.cells (BA.map bv).toArray 32 (0, 0)) := by
    rw [hW2]; exact heap_new' _ _ (by simp)
  have hb2 : Below (w.heap.size + 1) (w.alloc (.cells ZA 32)) W2 := by
    rw [hW2]; have := below_of_new (w.alloc (.cells ZA 32)) (.cells (BA.map bv).toArray 32); rw [World.size_alloc] at this; exact this
  have hs2 : W2.heap.size = w.heap.size + 1 + 1 := by rw [hW2]; simp
  obtain ⟨PL, hPL⟩ : ∃ q : List Value, q = (be 8 n).map bv := ⟨_, rfl⟩
  have hPl : PL.length = 8 := by rw [hPL, List.length_map, be_len]
  have hP1 : ∀ v ∈ PL, v.oneCell' = true := by rw [hPL]; exact bv_one _
  have hsp : (splice (BA.map bv) 8 PL).toArray = kv (mk kd n) := by
    rw [hPL, hBA, splice, List.length_map, be_len]; simp [kv, mk, bv]
  obtain ⟨PV, hPV⟩ : ∃ q, q = kv (mk kd n) := ⟨_, rfl⟩
  have hPi : (Try.prog.info? 32).map (·.size) = some PV.size := by rw [hPV, kv_size, mk_len]; exact info32
  have hP1' : PV.all (·.oneCell') = true := by rw [hPV]; exact kv_one _
  have hZs : ZA.size = PV.size := by rw [hZA, hPV, kv_size, mk_len]; rfl
  have hG0 : (w.alloc (.cells ZA 32)).heap[w.heap.size]? = some (.cells ZA 32 (0, 0)) := heap_alloc_new w _
  have hBW0 := below_of_new w (.cells ZA 32)
  rw [← hPV] at hsp
  have hcp : (BA.map bv).length = 16 := by rw [hBA]; rfl
  obtain ⟨w1, hw1⟩ : ∃ q, q = w.alloc (.cells ZA 32) := ⟨_, rfl⟩
  have HG2 := Lib.hid hg2
  have HW2 := Lib.hid hW2
  have HS2 := Lib.hid hs2
  have HBV := Lib.hid hBV
  have HZA := Lib.hid hZA
  have HPL := Lib.hid hPL
  have HPl := Lib.hid hPl
  have HP1 := Lib.hid hP1
  have HSP := Lib.hid hsp
  have HPV := Lib.hid hPV
  have HPI := Lib.hid hPi
  have HPA := Lib.hid hP1'
  have HZS := Lib.hid hZs
  rw [← hw1] at hb2 hG0 hBW0
  have HB2 := Lib.hid hb2
  have HG0 := Lib.hid hG0
  have HBW0 := Lib.hid hBW0
  have HCP := Lib.hid hcp
  have HPUT := Lib.hid (rput_new n W2.drew (by omega))
  have hw1s : w1.heap.size = w.heap.size + 1 := by rw [hw1]; simp
  have HW1S := Lib.hid hw1s
  have HWR := Lib.hid (show IntKind.u64.wrap (n : Int) = n from by rw [IntKind.wrap_u64]; omega)
  clear hg2 hW2 hs2 hBV hZA hPL hPl hP1 hsp hPV hPi hP1' hZs hb2 hG0 hBW0 hcp hw1 hw1s hBA
  go_enter Try.func11, Try.ntmps11
  go_wp2_with fail
  rw [← HBV.out, ← HZA.out, ← HW2.out]
  refine wp_region_held_drew (S := fun _ => True) (by kernel_rfl) trivial (fun hHeld => ?_)
  refine wpAnyH_take (i := 0) (v := .slice (some ⟨w.heap.size + 1, 8, none⟩) 8 8) rfl (by kernel_rfl) (by kernel_rfl) (by kernel_rfl) (fun _ _ _ h => h) (Or.inl ⟨by rfl, fun wq hSw => by go_simp⟩) (by assumption) ?_
  go_simp
  refine wpAnyH_take (i := 1) (v := .int .i64 n) rfl (by kernel_rfl) (by kernel_rfl) (by kernel_rfl) (fun _ _ _ h => h) (Or.inl ⟨by rfl, fun wq hSw => by go_simp⟩) (by assumption) ?_
  go_simp
  refine wpAnyH_take (i := 2) (v := .int .u64 n) rfl (by kernel_rfl) (by kernel_rfl) (by kernel_rfl) (fun _ _ _ h => h) (Or.inl ⟨by rfl, fun wq hSw => by (go_simp; exact HWR.out)⟩) (by assumption) ?_
  go_simp
  refine wpAnyH_ready (rs := [3]) (by kernel_rfl) (by simp) ?_
  refine AllReadyH.cons rfl (fun K hK => ?_) AllReadyH.nil
  (go_simp; go_at_call 40; refine HPUT.out.mono ?_; rintro e w3 ⟨A3, c3, rfl, hn3⟩)
  try go_simp
  refine hK.out _ _ trivial (fun hHeld => ?_)
  clear hK K
  have hr3 := hn3.rd
  obtain ⟨b3, o3, rfl⟩ := hr3.addr (by omega)
  have HB3 := Lib.hid hn3.bl
  have hG3 := (hn3.bl.block (w.heap.size + 1) (by show _ < W2.heap.size; rw [HS2.out]; omega)).trans HG2.out
  have hsrc : 0 < PL.length → some (⟨w.heap.size + 1, 8, none⟩ : Addr) = some ⟨w.heap.size + 1, 8, none⟩ ∧ ∃ ad : Addr, some (⟨b3, o3, none⟩ : Addr) = some ad ∧ ∀ j v, PL[j]? = some v → w3.cell? (ad.add j) = some v := fun _ => ⟨rfl, ⟨b3, o3, none⟩, rfl, fun j v hj => by
    rw [HPL.out] at hj
    obtain ⟨b, o, he, _, hc⟩ := hr3.2.2.2 (by omega)
    injection he with he
    injection he with e1 e2
    subst e1
    subst e2
    rw [add_off]
    exact hc j v hj⟩
  have hBw : Below (w.heap.size + 1) w1 w3 := HB2.out.trans ((below_seq (below_of_drew ⟨1, rfl⟩ _) HB3.out : Below W2.heap.size W2 w3).mono (by rw [HS2.out]; omega))
  have hfit : 8 + PL.length ≤ (BA.map bv).length := by rw [HPl.out, HCP.out]; omega
  have hmin : PL.length = Nat.min 8 8 := by rw [HPl.out]; rfl
  have HG3 := Lib.hid hG3
  have HSRC := Lib.hid hsrc
  have HBW := Lib.hid hBw
  have HFIT := Lib.hid hfit
  have HMIN := Lib.hid hmin
  clear hG3 hsrc hBw hfit hmin hr3 hn3
  refine wpAnyH_ready (rs := [4]) (by kernel_rfl) (by simp) ?_
  refine AllReadyH.cons rfl (fun K hK => ?_) AllReadyH.nil
  (refine step_copy_splice (o := ⟨some 12, _, _, _, _, _⟩) rfl (.tmp 8) (.tmp 11) 29 29 rfl 5 Try.underlying29 info5s _ _ 8 8 8 c3 rfl rfl (w.heap.size + 1) 8 (BA.map bv) 32 HG3.out PL HMIN.out HSRC.out HFIT.out HP1.out (w.heap.size + 1) w1 HBW.out (Nat.le_refl _) ?_; intro w4 hg4 hb4)
  skip
  refine hK.out _ _ trivial (fun hHeld => ?_)
  clear hK K
  refine wpAnyH_done (by kernel_rfl) ?_ _
  rw [HSP.out] at hg4
  have hg0 : w4.heap[w.heap.size]? = _ := (hb4.block w.heap.size (by omega)).trans HG0.out
  have HG0' := Lib.hid hg0
  have HB4 := Lib.hid hb4
  clear hg0 hb4
  go_wp2_with (first
    | (refine wpList_load_row rfl 32 (.tmp 5) rfl (w.heap.size + 1) rfl 32 PV (0, 0) _ hg4.out Try.underlying32 rfl HPI.out ?_)
    | (refine wpList_store_row rfl 32 (.tmp 4) (.tmp 13) rfl w.heap.size PV rfl rfl 32 _ HG0'.out HPI.out HZS.out HPA.out ?_))
  have hres := setRow_heap _ w.heap.size _ PV _ _ HG0'.out
  refine bodyPost_ret (v := .agg PV) (results_cell_row Try.results11 _ _ w.heap.size 32 PV (0, 0) _ (by rfl) hres Try.underlying32 rfl HPI.out) rfl ?_
  exact ⟨by rw [HPV.out], below_setRow (HBW0.out.trans (HB4.out.mono (by omega))) (Nat.le_refl _) _⟩

set_option maxRecDepth 100000 in
set_option maxHeartbeats 1000000 in
theorem smark_any (kd : UInt8) (n : Nat) (w : World) (hn : n ≤ 9223372036854775807) :
    Calls Try.prog 43 #[.int .u8 kd.toNat, .int .i64 n] w fun e w' => e = .returned (.agg (kv (mk kd n))) ∧ Below w.heap.size w w' := by
  have hk := kd.toNat_lt
  obtain ⟨ZA, hZA⟩ : ∃ q : Array Value, q = #[.int .u8 0, .int .u8 0, .int .u8 0, .int .u8 0, .int .u8 0, .int .u8 0, .int .u8 0, .int .u8 0, .int .u8 0, .int .u8 0, .int .u8 0, .int .u8 0, .int .u8 0, .int .u8 0, .int .u8 0, .int .u8 0] := ⟨_, rfl⟩
  obtain ⟨BA, hBA⟩ : ∃ q : List UInt8, q = [255, 254, kd, 0, 0, 0, 0, 0, 0, 0, 0, 0, 0, 0, 0, 0] := ⟨_, rfl⟩
  have hBV : (BA.map bv).toArray = #[.int .u8 255, .int .u8 254, .int .u8 kd.toNat, .int .u8 0, .int .u8 0, .int .u8 0, .int .u8 0, .int .u8 0, .int .u8 0, .int .u8 0, .int .u8 0, .int .u8 0, .int .u8 0, .int .u8 0, .int .u8 0, .int .u8 0] := by rw [hBA]; rfl
  obtain ⟨W2, hW2⟩ : ∃ q, q = (w.alloc (.cells ZA 36)).alloc (.cells (BA.map bv).toArray 36) := ⟨_, rfl⟩
  have hg2 : W2.heap[w.heap.size + 1]? = some (.cells (BA.map bv).toArray 36 (0, 0)) := by
    rw [hW2]; exact heap_new' _ _ (by simp)
  have hb2 : Below (w.heap.size + 1) (w.alloc (.cells ZA 36)) W2 := by
    rw [hW2]; have := below_of_new (w.alloc (.cells ZA 36)) (.cells (BA.map bv).toArray 36); rw [World.size_alloc] at this; exact this
  have hs2 : W2.heap.size = w.heap.size + 1 + 1 := by rw [hW2]; simp
  obtain ⟨PL, hPL⟩ : ∃ q : List Value, q = (be 8 n).map bv := ⟨_, rfl⟩
  have hPl : PL.length = 8 := by rw [hPL, List.length_map, be_len]
  have hP1 : ∀ v ∈ PL, v.oneCell' = true := by rw [hPL]; exact bv_one _
  have hsp : (splice (BA.map bv) 8 PL).toArray = kv (mk kd n) := by
    rw [hPL, hBA, splice, List.length_map, be_len]; simp [kv, mk, bv]
  obtain ⟨PV, hPV⟩ : ∃ q, q = kv (mk kd n) := ⟨_, rfl⟩
  have hPi : (Try.prog.info? 36).map (·.size) = some PV.size := by rw [hPV, kv_size, mk_len]; exact infoK
  have hP1' : PV.all (·.oneCell') = true := by rw [hPV]; exact kv_one _
  have hZs : ZA.size = PV.size := by rw [hZA, hPV, kv_size, mk_len]; rfl
  have hG0 : (w.alloc (.cells ZA 36)).heap[w.heap.size]? = some (.cells ZA 36 (0, 0)) := heap_alloc_new w _
  have hBW0 := below_of_new w (.cells ZA 36)
  rw [← hPV] at hsp
  have hcp : (BA.map bv).length = 16 := by rw [hBA]; rfl
  obtain ⟨w1, hw1⟩ : ∃ q, q = w.alloc (.cells ZA 36) := ⟨_, rfl⟩
  have HG2 := Lib.hid hg2
  have HW2 := Lib.hid hW2
  have HS2 := Lib.hid hs2
  have HBV := Lib.hid hBV
  have HZA := Lib.hid hZA
  have HPL := Lib.hid hPL
  have HPl := Lib.hid hPl
  have HP1 := Lib.hid hP1
  have HSP := Lib.hid hsp
  have HPV := Lib.hid hPV
  have HPI := Lib.hid hPi
  have HPA := Lib.hid hP1'
  have HZS := Lib.hid hZs
  rw [← hw1] at hb2 hG0 hBW0
  have HB2 := Lib.hid hb2
  have HG0 := Lib.hid hG0
  have HBW0 := Lib.hid hBW0
  have HCP := Lib.hid hcp
  have HPUT := Lib.hid (put_new n W2.drew (by omega))
  have hw1s : w1.heap.size = w.heap.size + 1 := by rw [hw1]; simp
  have HW1S := Lib.hid hw1s
  have HWR := Lib.hid (show IntKind.u64.wrap (n : Int) = n from by rw [IntKind.wrap_u64]; omega)
  clear hg2 hW2 hs2 hBV hZA hPL hPl hP1 hsp hPV hPi hP1' hZs hb2 hG0 hBW0 hcp hw1 hw1s hBA
  go_enter Try.func43, Try.ntmps43
  go_wp2_with fail
  rw [← HBV.out, ← HZA.out, ← HW2.out]
  refine wp_region_held_drew (S := fun _ => True) (by kernel_rfl) trivial (fun hHeld => ?_)
  refine wpAnyH_take (i := 0) (v := .slice (some ⟨w.heap.size + 1, 8, none⟩) 8 8) rfl (by kernel_rfl) (by kernel_rfl) (by kernel_rfl) (fun _ _ _ h => h) (Or.inl ⟨by rfl, fun wq hSw => by go_simp⟩) (by assumption) ?_
  go_simp
  refine wpAnyH_take (i := 1) (v := .int .i64 n) rfl (by kernel_rfl) (by kernel_rfl) (by kernel_rfl) (fun _ _ _ h => h) (Or.inl ⟨by rfl, fun wq hSw => by go_simp⟩) (by assumption) ?_
  go_simp
  refine wpAnyH_take (i := 2) (v := .int .u64 n) rfl (by kernel_rfl) (by kernel_rfl) (by kernel_rfl) (fun _ _ _ h => h) (Or.inl ⟨by rfl, fun wq hSw => by (go_simp; exact HWR.out)⟩) (by assumption) ?_
  go_simp
  refine wpAnyH_ready (rs := [3]) (by kernel_rfl) (by simp) ?_
  refine AllReadyH.cons rfl (fun K hK => ?_) AllReadyH.nil
  (go_simp; go_at_call 52; refine HPUT.out.mono ?_; rintro e w3 ⟨A3, c3, rfl, hn3⟩)
  try go_simp
  refine hK.out _ _ trivial (fun hHeld => ?_)
  clear hK K
  have hr3 := hn3.rd
  obtain ⟨b3, o3, rfl⟩ := hr3.addr (by omega)
  have HB3 := Lib.hid hn3.bl
  have hG3 := (hn3.bl.block (w.heap.size + 1) (by show _ < W2.heap.size; rw [HS2.out]; omega)).trans HG2.out
  have hsrc : 0 < PL.length → some (⟨w.heap.size + 1, 8, none⟩ : Addr) = some ⟨w.heap.size + 1, 8, none⟩ ∧ ∃ ad : Addr, some (⟨b3, o3, none⟩ : Addr) = some ad ∧ ∀ j v, PL[j]? = some v → w3.cell? (ad.add j) = some v := fun _ => ⟨rfl, ⟨b3, o3, none⟩, rfl, fun j v hj => by
    rw [HPL.out] at hj
    obtain ⟨b, o, he, _, hc⟩ := hr3.2.2.2 (by omega)
    injection he with he
    injection he with e1 e2
    subst e1
    subst e2
    rw [add_off]
    exact hc j v hj⟩
  have hBw : Below (w.heap.size + 1) w1 w3 := HB2.out.trans ((below_seq (below_of_drew ⟨1, rfl⟩ _) HB3.out : Below W2.heap.size W2 w3).mono (by rw [HS2.out]; omega))
  have hfit : 8 + PL.length ≤ (BA.map bv).length := by rw [HPl.out, HCP.out]; omega
  have hmin : PL.length = Nat.min 8 8 := by rw [HPl.out]; rfl
  have HG3 := Lib.hid hG3
  have HSRC := Lib.hid hsrc
  have HBW := Lib.hid hBw
  have HFIT := Lib.hid hfit
  have HMIN := Lib.hid hmin
  clear hG3 hsrc hBw hfit hmin hr3 hn3
  refine wpAnyH_ready (rs := [4]) (by kernel_rfl) (by simp) ?_
  refine AllReadyH.cons rfl (fun K hK => ?_) AllReadyH.nil
  (refine step_copy_splice (o := ⟨some 12, _, _, _, _, _⟩) rfl (.tmp 8) (.tmp 11) 29 29 rfl 5 Try.underlying29 info5s _ _ 8 8 8 c3 rfl rfl (w.heap.size + 1) 8 (BA.map bv) 36 HG3.out PL HMIN.out HSRC.out HFIT.out HP1.out (w.heap.size + 1) w1 HBW.out (Nat.le_refl _) ?_; intro w4 hg4 hb4)
  skip
  refine hK.out _ _ trivial (fun hHeld => ?_)
  clear hK K
  refine wpAnyH_done (by kernel_rfl) ?_ _
  rw [HSP.out] at hg4
  have hg0 : w4.heap[w.heap.size]? = _ := (hb4.block w.heap.size (by omega)).trans HG0.out
  have HG0' := Lib.hid hg0
  have HB4 := Lib.hid hb4
  clear hg0 hb4
  go_wp2_with (first
    | (refine wpList_load_row rfl 36 (.tmp 5) rfl (w.heap.size + 1) rfl 36 PV (0, 0) _ hg4.out Try.underlying36 rfl HPI.out ?_)
    | (refine wpList_store_row rfl 36 (.tmp 4) (.tmp 13) rfl w.heap.size PV rfl rfl 36 _ HG0'.out HPI.out HZS.out HPA.out ?_))
  have hres := setRow_heap _ w.heap.size _ PV _ _ HG0'.out
  refine bodyPost_ret (v := .agg PV) (results_cell_row Try.results43 _ _ w.heap.size 36 PV (0, 0) _ (by rfl) hres Try.underlying36 rfl HPI.out) rfl ?_
  exact ⟨by rw [HPV.out], below_setRow (HBW0.out.trans (HB4.out.mono (by omega))) (Nat.le_refl _) _⟩
end Go.Proofs.Ytcgkjcfckbplmaa.Sym
