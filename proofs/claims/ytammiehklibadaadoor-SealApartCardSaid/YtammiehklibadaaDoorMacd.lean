/-
  THE CONTRACT of mac's padded, whatever the key.
-/
import Derived.Test.YtammiehklibadaaDoorMacc
namespace Go.Proofs.YtammiehklibadaaDoor.Mac
open Go.RowKit
open Go.Proofs.YtammiehklibadaaDoor.Kit
open Go.Proofs.YtammiehklibadaaDoor.Oct
open Go.Proofs.YtammiehklibadaaDoor.Sha
set_option linter.unusedVariables false

set_option maxRecDepth 100000 in
set_option maxHeartbeats 1000000 in
theorem padded_short (A : Option Addr) (n c : Nat) (bs : List UInt8) (w : World) (h : RdB w w.heap.size A n c bs) (hn : n ≤ 64) : Calls Tryd.prog 38 #[.slice A n c] w fun e w' =>
    e = .returned (.agg ((padK bs).map bv).toArray) ∧ Below w.heap.size w w' := by
  have hl := h.len
  have hr := h.room
  have t1 : decide ((64 : Int) < n) = false := by simp; omega
  obtain ⟨ZL, hZ⟩ : ∃ q, q = List.replicate 64 (Value.int .u8 0) := ⟨_, rfl⟩
  have hz : ∀ w, (zeroValue 64).run Tryd.prog w = .ok (.agg ZL.toArray) w := by rw [hZ]; exact z64
  have hzl : ZL.length = 64 := by rw [hZ]; rfl
  have hsp : splice ZL 0 (bs.map bv) = (padK bs).map bv := by rw [hZ]; exact padK_splice bs
  have hg := (heap2 w (.cells ZL.toArray 64) (.cells ZL.toArray 64)).2
  have hg0 := (heap2 w (.cells ZL.toArray 64) (.cells ZL.toArray 64)).1
  obtain ⟨BV, hBV⟩ : ∃ q, q = bs.map bv := ⟨_, rfl⟩
  have hbl : BV.length = n := by rw [hBV, List.length_map, hl]
  have hbo : ∀ v ∈ BV, v.oneCell' = true := by rw [hBV]; exact fun v hv => bv_one _ v hv
  have hpos : 0 < BV.length → some (⟨w.heap.size + 1, 0, none⟩ : Addr) = some ⟨w.heap.size + 1, 0, none⟩ ∧ ∃ ad, A = some ad ∧ ∀ j v, BV[j]? = some v → ((w.alloc (.cells ZL.toArray 64)).alloc (.cells ZL.toArray 64)).cell? (ad.add j) = some v := fun h0 => by
    have h2 := (h.lit (.cells ZL.toArray 64)).lit (.cells ZL.toArray 64)
    obtain ⟨b2, o2, e, _, hc⟩ := h2.2.2.2 (by omega)
    refine ⟨rfl, _, e, fun j v hv => ?_⟩
    rw [add_off]
    rw [hBV] at hv
    exact hc j v hv
  have hB2 : Below w.heap.size w ((w.alloc (.cells ZL.toArray 64)).alloc (.cells ZL.toArray 64)) := (below_of_new w _).alloc (by simp) _
  obtain ⟨PV, hPV⟩ : ∃ q, q = ((padK bs).map bv).toArray := ⟨_, rfl⟩
  have hPs : PV.size = 64 := by rw [hPV]; simp [padK_len bs (by omega)]
  have hI : (Tryd.prog.info? 64).map (·.size) = some PV.size := by rw [hPs]; exact info53z
  have hP1 : PV.all (·.oneCell') = true := by rw [hPV]; exact all_oneCell_toArray (bv_one _)
  rw [← hBV] at hsp
  rw [← hPV]
  have HG := Lib.hid hg
  have HG0 := Lib.hid hg0
  have HPOS := Lib.hid hpos
  have HBL := Lib.hid hbl
  have HBO := Lib.hid hbo
  have HB2 := Lib.hid hB2
  have HI := Lib.hid hI
  have HP1 := Lib.hid hP1
  have HPS := Lib.hid hPs
  have HPV := Lib.hid hPV
  have HSP := Lib.hid hsp
  have HZL := Lib.hid hzl
  have HL := Lib.hid hl
  clear hZ h hzl hg hg0 hpos hB2 hI hP1 hPs hPV hsp hl hBV hbl hbo
  go_enter Tryd.func38, Tryd.ntmps38
  go_wp2_with (first
    | ((refine wpList_copy_splice rfl (.tmp 10) (.tmp 11) 22 22 rfl 5 Tryd.underlying22 info5s (some ⟨w.heap.size + 1, 0, none⟩) A 64 64 n c rfl rfl (w.heap.size + 1) 0 ZL 64 HG.out BV (by rw [HBL.out]; exact (Nat.min_eq_left hn).symm) HPOS.out (by rw [HBL.out, HZL.out]; omega) HBO.out (w.heap.size + 1) _ (Below.refl _ _) (Nat.le_refl _) ?_)
       intro w3 hg3h hbl3
       have hg3 := hg3h.out
       rw [HSP.out, ← HPV.out] at hg3
       have hg30 := (hbl3.block w.heap.size (by omega)).trans HG0.out
       have hb3 := HB2.out.trans (hbl3.mono (by omega))
       clear hg3h)
    | (refine wpList_load_row rfl 64 (.tmp 3) rfl (w.heap.size + 1) rfl 64 PV (0, 0) _ hg3 Tryd.underlying64 rfl HI.out ?_)
    | (refine wpList_store_row rfl 64 (.tmp 2) (.tmp 13) rfl w.heap.size PV rfl rfl 64 _ hg30 HI.out (by rw [List.size_toArray, HZL.out, HPS.out]) HP1.out ?_)
    | fail)
  go_wp2
  have hres := setRow_heap w3 w.heap.size _ PV _ _ hg30
  refine bodyPost_ret (v := .agg PV) (results_cell_row Tryd.results38 _ _ w.heap.size 64 PV (0, 0) _ (by rfl) hres Tryd.underlying64 rfl HI.out) rfl ?_
  exact ⟨rfl, below_setRow hb3 (Nat.le_refl _) _⟩

/-- what stands for a key -/
def keyL (k : List UInt8) : List UInt8 := if 64 < k.length then dig k else k
theorem keyL_len (k : List UInt8) : (keyL k).length ≤ 64 := by
  rw [keyL]; split
  · rw [dig_len]; omega
  · omega
theorem padded_any (A : Option Addr) (n c : Nat) (bs : List UInt8) (w : World) (h : RdB w w.heap.size A n c bs) (hR : Roots w) (hT : n ≤ 576460752303423488) : Calls Tryd.prog 38 #[.slice A n c] w fun e w' =>
    e = .returned (.agg ((padK (keyL bs)).map bv).toArray) ∧ Below w.heap.size w w' := by
  have hl := h.len
  by_cases hn : 64 < n
  · rw [keyL, if_pos (by omega)]
    exact padded_long A n c bs w h hR hn hT
  · rw [keyL, if_neg (by omega)]
    exact padded_short A n c bs w h (by omega)
end Go.Proofs.YtammiehklibadaaDoor.Mac
