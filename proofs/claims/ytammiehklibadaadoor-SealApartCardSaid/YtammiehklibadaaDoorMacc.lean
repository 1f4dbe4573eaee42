/-
  THE CONTRACT of mac's padded, for a key of more than a block.
-/
import Derived.Test.YtammiehklibadaaDoorMacb
namespace Go.Proofs.YtammiehklibadaaDoor.Mac
open Go.RowKit
open Go.Proofs.YtammiehklibadaaDoor.Kit
open Go.Proofs.YtammiehklibadaaDoor.Oct
open Go.Proofs.YtammiehklibadaaDoor.Sha
set_option linter.unusedVariables false

set_option maxRecDepth 100000 in
set_option maxHeartbeats 1000000 in
theorem padded_long (A : Option Addr) (n c : Nat) (bs : List UInt8) (w : World) (h : RdB w w.heap.size A n c bs) (hR : Roots w) (hn : 64 < n) (hT : n ≤ 576460752303423488) : Calls Tryd.prog 38 #[.slice A n c] w fun e w' =>
    e = .returned (.agg ((padK (dig bs)).map bv).toArray) ∧ Below w.heap.size w w' := by
  have hl := h.len
  have hr := h.room
  have t1 : decide ((64 : Int) < n) = true := by simp; omega
  obtain ⟨D, hD⟩ : ∃ D, D = dig bs := ⟨_, rfl⟩
  have hDl : D.length = 32 := by rw [hD, dig_len]
  obtain ⟨ZL, hZ⟩ : ∃ q, q = List.replicate 64 (Value.int .u8 0) := ⟨_, rfl⟩
  have hz : ∀ w, (zeroValue 64).run Tryd.prog w = .ok (.agg ZL.toArray) w := by rw [hZ]; exact z64
  have hzl : ZL.length = 64 := by rw [hZ]; rfl
  have hsp : splice ZL 0 (D.map bv) = (padK D).map bv := by rw [hZ]; exact padK_splice D
  have hg := (heap2 w (.cells ZL.toArray 64) (.cells ZL.toArray 64)).2
  have hg0 := (heap2 w (.cells ZL.toArray 64) (.cells ZL.toArray 64)).1
  have hB2 : Below w.heap.size w ((w.alloc (.cells ZL.toArray 64)).alloc (.cells ZL.toArray 64)) := (below_of_new w _).alloc (by simp) _
  obtain ⟨PV, hPV⟩ : ∃ q, q = ((padK D).map bv).toArray := ⟨_, rfl⟩
  have hPs : PV.size = 64 := by rw [hPV]; simp [padK_len D (by omega)]
  have hI : (Tryd.prog.info? 64).map (·.size) = some PV.size := by rw [hPs]; exact info53z
  have hP1 : PV.all (·.oneCell') = true := by rw [hPV]; exact all_oneCell_toArray (bv_one _)
  rw [← hD, ← hPV]
  have H := Lib.hid (h.on hB2)
  have HR := Lib.hid (hR.on hB2)
  have HG := Lib.hid hg
  have HG0 := Lib.hid hg0
  have HB2 := Lib.hid hB2
  have HI := Lib.hid hI
  have HP1 := Lib.hid hP1
  have HPS := Lib.hid hPs
  have HPV := Lib.hid hPV
  have HSP := Lib.hid hsp
  have HZL := Lib.hid hzl
  have HL := Lib.hid hl
  have HD := Lib.hid hD
  have HDL := Lib.hid hDl
  obtain ⟨W2, hW2⟩ : ∃ q, q = ((w.alloc (.cells ZL.toArray 64)).alloc (.cells ZL.toArray 64)) := ⟨_, rfl⟩
  have hws : W2.heap.size = w.heap.size + 1 + 1 := by rw [hW2]; simp
  clear hZ h hzl hg hg0 hB2 hI hP1 hPs hPV hsp hl hD hDl hR
  go_enter Tryd.func38, Tryd.ntmps38
  go_wp2_with fail
  rw [← hW2] at H HR HG HG0 HB2 ⊢
  refine (of_any _ 1 1 [⟨A, n, c, bs⟩] _ (rd_cells (n := 1) W2 (by rw [hws]) rfl rfl (by omega)) ?h1 (HR.out.on (below_of_new W2 _)) (by simp [joinL]; have := HL.out; omega)).mono ?_
  case h1 =>
    intro r hr
    simp only [List.mem_cons, List.not_mem_nil, or_false] at hr
    subst hr
    exact H.out.lit _
  rintro e w2 ⟨A2, c2, rfl, hn2⟩
  have hj : joinL [⟨A, n, c, bs⟩] = bs := by simp [joinL]
  rw [hj, ← HD.out] at hn2
  have hbl := below_seq (below_of_new W2 _) hn2.bl
  obtain ⟨b, o, rfl⟩ := hn2.rd.addr (by omega)
  have hg2 := (hbl.block (w.heap.size + 1) (by omega)).trans HG.out
  have hg20 := (hbl.block w.heap.size (by omega)).trans HG0.out
  have hB := HB2.out.trans (hbl.mono (by omega))
  have hs2 := hbl.size
  have hsrc : ∀ j v, (D.map bv)[j]? = some v → w2.cell? ((⟨b, o, none⟩ : Addr).add j) = some v := fun j v hv => by
    rw [add_off]
    obtain ⟨b2, o2, e, _, hc⟩ := hn2.rd.2.2.2 (by omega)
    injection e with e
    injection e with e1 e2
    subst e1 e2
    exact hc j v hv
  have HS := Lib.hid hsrc
  have hrm := hn2.rd.room
  clear hsrc hn2 hbl hj hW2
  go_wp2_with (first
    | ((refine wpList_copy_gb rfl (.tmp 10) (.tmp 11) 22 22 rfl 5 Tryd.underlying22 info5s (w.heap.size + 1) 0 64 64 ⟨b, o, none⟩ 32 c2 rfl rfl ZL 64 hg2 (D.map bv) (by rw [List.length_map, HDL.out]; rfl) HS.out (by rw [List.length_map, HDL.out, HZL.out]; omega) (fun v hv => bv_one _ v hv) ?_)
       intro w3 hg3 hgb3
       rw [HSP.out, ← HPV.out] at hg3
       have hg30 := (gb_block hgb3 (k := w.heap.size) (by omega) (by omega)).trans hg20
       have hb3 := hB.trans (below_of_gb hgb3 (by omega) hB.size))
    | (refine wpList_load_row rfl 64 (.tmp 3) rfl (w.heap.size + 1) rfl 64 PV (0, 0) _ hg3 Tryd.underlying64 rfl HI.out ?_)
    | (refine wpList_store_row rfl 64 (.tmp 2) (.tmp 13) rfl w.heap.size PV rfl rfl 64 _ hg30 HI.out (by rw [List.size_toArray, HZL.out, HPS.out]) HP1.out ?_)
    | fail)
  have hres := setRow_heap w3 w.heap.size _ PV _ _ hg30
  refine bodyPost_ret (v := .agg PV) (results_cell_row Tryd.results38 _ _ w.heap.size 64 PV (0, 0) _ (by rfl) hres Tryd.underlying64 rfl HI.out) rfl ?_
  exact ⟨rfl, below_setRow hb3 (Nat.le_refl _) _⟩
end Go.Proofs.YtammiehklibadaaDoor.Mac
