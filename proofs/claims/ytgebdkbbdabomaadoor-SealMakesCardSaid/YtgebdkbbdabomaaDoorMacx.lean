/-
  THE CONTRACT of mac's mixed.
-/
import Derived.Test.YtgebdkbbdabomaaDoorShaz
import Derived.Test.YtgebdkbbdabomaaDoorKitm
namespace Go.Proofs.YtgebdkbbdabomaaDoor.Mac
open Go.RowKit
open Go.Proofs.YtgebdkbbdabomaaDoor.Kit
open Go.Proofs.YtgebdkbbdabomaaDoor.Oct
open Go.Proofs.YtgebdkbbdabomaaDoor.Sha
set_option linter.unusedVariables false

/-- the first k bytes held against a byte -/
def xorK (P : List UInt8) (b : UInt8) (k : Nat) : List UInt8 := (P.take k).map (fun x => x ^^^ b) ++ P.drop k
theorem xorK_len (P : List UInt8) (b : UInt8) (k : Nat) : (xorK P b k).length = P.length := by simp [xorK]; omega
theorem xorK_get (P : List UInt8) (b : UInt8) (k j : Nat) : (xorK P b k)[j]? = if j < k then (P[j]?).map (fun x => x ^^^ b) else P[j]? := by
  induction P generalizing k j with
  | nil => simp [xorK]
  | cons x P ih =>
    cases k with
    | zero => simp [xorK]
    | succ k =>
      cases j with
      | zero => simp [xorK]
      | succ j => simpa [xorK, Nat.succ_lt_succ_iff] using ih k j
theorem xorK_at (P : List UInt8) (b : UInt8) (k : Nat) (h : k < P.length) : (xorK P b k)[k]? = some P[k] := by
  rw [xorK_get, if_neg (Nat.lt_irrefl _), List.getElem?_eq_getElem h]
theorem xorK_set (P : List UInt8) (b : UInt8) (k : Nat) (h : k < P.length) : (xorK P b k).set k (P[k] ^^^ b) = xorK P b (k + 1) := by
  apply List.ext_getElem?
  intro j
  rw [List.getElem?_set, xorK_get, xorK_get, xorK_len]
  by_cases h1 : k = j
  · subst h1
    rw [if_pos rfl, if_pos h, if_pos (Nat.lt_succ_self _), List.getElem?_eq_getElem h]; rfl
  · rw [if_neg h1]
    by_cases h2 : j < k
    · rw [if_pos h2, if_pos (by omega)]
    · rw [if_neg h2, if_neg (by omega)]
theorem xorK_all (P : List UInt8) (b : UInt8) : xorK P b P.length = P.map (fun x => x ^^^ b) := by simp [xorK]

set_option maxRecDepth 100000 in
set_option maxHeartbeats 1000000 in
theorem mixed_any (P : List UInt8) (hP : P.length = 64) (b : UInt8) (w : World) : Calls Tryd.prog 32 #[.agg (P.map bv).toArray, .int .u8 (b.toNat : Int)] w fun e w' =>
    e = .returned (.slice (some ⟨w.heap.size, 0, none⟩) 64 64) ∧ w'.heap[w.heap.size]? = some (.cells ((P.map (fun x => x ^^^ b)).map bv).toArray 52 (0, 0)) ∧ Below w.heap.size w w' := by
  obtain ⟨AV, hAV⟩ : ∃ q, q = (P.map bv).toArray := ⟨_, rfl⟩
  have h0 : (w.alloc (.cells AV 52)).heap[w.heap.size]? = some (.cells ((xorK P b 0).map bv).toArray 52 (0, 0)) := by
    rw [hAV]; simpa [xorK] using heap_alloc_new w (.cells (P.map bv).toArray 52)
  rw [← hAV]
  have H0 := Lib.hid h0
  have HP := Lib.hid hP
  clear h0 hAV hP
  go_enter Tryd.func32, Tryd.ntmps32
  go_wp2_with fail
  go_loopw [5, 6] (fun _ i wr => ∃ k : Nat, k ≤ 64 ∧ i = .int .i64 k ∧ wr.heap[w.heap.size]? = some (.cells ((xorK P b k).map bv).toArray 52 (0, 0)) ∧ Below w.heap.size w wr) (fun _ i _ => 64 - (intOf i).toNat)
  case atStart => exact ⟨0, by omega, rfl, H0.out, below_of_new _ _⟩
  case round =>
    obtain ⟨k, hk, rfl, hg, hbw⟩ := hrel
    by_cases hlt : k < 64
    · have hkl : k < P.length := by rw [HP.out]; exact hlt
      obtain ⟨x, hx⟩ : ∃ x, x = P[k] := ⟨_, rfl⟩
      have hcell : wr.cell? ⟨w.heap.size, k, none⟩ = some (.int .u8 (x.toNat : Int)) := by
        rw [cell_of_row wr w.heap.size k _ _ (0, 0) hg, List.getElem?_toArray, List.getElem?_map, xorK_at P b k hkl, ← hx]; rfl
      have hfz := frozen_of_row wr w.heap.size k _ _ hg
      have hxor := xor_u8 x b
      have hset : (wr.setCell ⟨w.heap.size, k, none⟩ (.int .u8 ((x ^^^ b).toNat : Int))).heap[w.heap.size]? = some (.cells ((xorK P b (k + 1)).map bv).toArray 52 (0, 0)) := by
        rw [heap_setCell_same wr w.heap.size k _ _ _ hg, List.setIfInBounds_toArray, ← xorK_set P b k hkl, List.map_set, ← hx]
        rfl
      have hbl : Below w.heap.size w (wr.setCell ⟨w.heap.size, k, none⟩ (.int .u8 ((x ^^^ b).toNat : Int))) := hbw.setCell (Nat.le_refl _) _
      have HS := Lib.hid hset
      have HB := Lib.hid hbl
      clear hset hbl hx hg hbw
      simp only [UInt8.toNat_xor] at HS HB hxor
      go_wp2
      go_roundw
      case rel => exact ⟨k + 1, by omega, by go_num, HS.out, HB.out⟩
      case measure => simp [intOf]; omega
    · obtain rfl : k = 64 := by omega
      have hfin := hg
      have e64 : xorK P b 64 = P.map (fun x => x ^^^ b) := by rw [← HP.out]; exact xorK_all P b
      rw [e64] at hfin
      have HF := Lib.hid hfin
      clear hg hfin
      go_wp2
      go_ret
      exact ⟨rfl, HF.out, hbw⟩

theorem heap2 (w : World) (o1 o2 : Obj) : ((w.alloc o1).alloc o2).heap[w.heap.size]? = some o1 ∧ ((w.alloc o1).alloc o2).heap[w.heap.size + 1]? = some o2 := by
  refine ⟨?_, ?_⟩
  · rw [heap_alloc_old _ _ (by simp)]; exact heap_alloc_new w o1
  · have := heap_alloc_new (w.alloc o1) o2
    rw [World.size_alloc] at this
    exact this
def padK (k : List UInt8) : List UInt8 := k ++ List.replicate (64 - k.length) 0
def Z64 : Array Value := (List.replicate 64 (Value.int .u8 0)).toArray
theorem z64 (w : World) : (zeroValue 52).run Tryd.prog w = .ok (.agg Z64) w := by kernel_rfl
theorem info53z : (Tryd.prog.info? 52).map (·.size) = some 64 := by kernel_rfl
theorem padK_splice (k : List UInt8) : splice (List.replicate 64 (Value.int .u8 0)) 0 (k.map bv) = (padK k).map bv := by
  rw [splice, List.take_zero, List.nil_append, padK, List.map_append, Nat.zero_add, List.length_map, List.drop_replicate, List.map_replicate]; rfl
theorem padK_len (k : List UInt8) (h : k.length ≤ 64) : (padK k).length = 64 := by rw [padK, List.length_append, List.length_replicate]; omega

set_option maxRecDepth 100000 in
set_option maxHeartbeats 1000000 in
theorem padded_some (b o n c : Nat) (bs : List UInt8) (w : World) (h : RdB w w.heap.size (some ⟨b, o, none⟩) n c bs) (hn : n ≤ 64) : Calls Tryd.prog 29 #[.slice (some ⟨b, o, none⟩) n c] w fun e w' =>
    e = .returned (.agg ((padK bs).map bv).toArray) ∧ Below w.heap.size w w' := by
  have hl := h.len
  have hr := h.room
  have t1 : decide ((64 : Int) < n) = false := by simp; omega
  obtain ⟨ZL, hZ⟩ : ∃ q, q = List.replicate 64 (Value.int .u8 0) := ⟨_, rfl⟩
  have hz : ∀ w, (zeroValue 52).run Tryd.prog w = .ok (.agg ZL.toArray) w := by rw [hZ]; exact z64
  have hzl : ZL.length = 64 := by rw [hZ]; rfl
  have hsp : splice ZL 0 (bs.map bv) = (padK bs).map bv := by rw [hZ]; exact padK_splice bs
  have hg := (heap2 w (.cells ZL.toArray 52) (.cells ZL.toArray 52)).2
  have hg0 := (heap2 w (.cells ZL.toArray 52) (.cells ZL.toArray 52)).1
  have hsrc : ∀ j v, (bs.map bv)[j]? = some v → ((w.alloc (.cells ZL.toArray 52)).alloc (.cells ZL.toArray 52)).cell? ((⟨b, o, none⟩ : Addr).add j) = some v := fun j v hv => by
    rw [add_off]
    have h2 := (h.lit (.cells ZL.toArray 52)).lit (.cells ZL.toArray 52)
    have hj : 0 < n := by have := (List.getElem?_eq_some_iff.1 hv).1; simp at this; omega
    obtain ⟨b2, o2, e, _, hc⟩ := h2.2.2.2 hj
    injection e with e
    injection e with e1 e2
    subst e1 e2
    exact hc j v hv
  have hB2 : Below w.heap.size w ((w.alloc (.cells ZL.toArray 52)).alloc (.cells ZL.toArray 52)) := (below_of_new w _).alloc (by simp) _
  obtain ⟨PV, hPV⟩ : ∃ q, q = ((padK bs).map bv).toArray := ⟨_, rfl⟩
  have hPs : PV.size = 64 := by rw [hPV]; simp [padK_len bs (by omega)]
  have hI : (Tryd.prog.info? 52).map (·.size) = some PV.size := by rw [hPs]; exact info53z
  have hP1 : PV.all (·.oneCell') = true := by rw [hPV]; exact all_oneCell_toArray (bv_one _)
  rw [← hPV]
  have HG := Lib.hid hg
  have HG0 := Lib.hid hg0
  have HSRC := Lib.hid hsrc
  have HB2 := Lib.hid hB2
  have HI := Lib.hid hI
  have HP1 := Lib.hid hP1
  have HPS := Lib.hid hPs
  have HPV := Lib.hid hPV
  have HSP := Lib.hid hsp
  have HZL := Lib.hid hzl
  have HL := Lib.hid hl
  clear hZ h hzl hg hg0 hsrc hB2 hI hP1 hPs hPV hsp hl
  go_enter Tryd.func29, Tryd.ntmps29
  go_wp2_with (first
    | ((refine wpList_copy_gb rfl (.tmp 10) (.tmp 11) 22 22 rfl 5 Tryd.underlying22 info5s (w.heap.size + 1) 0 64 64 ⟨b, o, none⟩ n c rfl rfl ZL 52 HG.out (bs.map bv) (by rw [List.length_map, HL.out]; exact (Nat.min_eq_left hn).symm) HSRC.out (by rw [List.length_map, HL.out, HZL.out]; omega) (fun v hv => bv_one _ v hv) ?_)
       intro w3 hg3 hgb3
       rw [HSP.out, ← HPV.out] at hg3
       have hg30 := (gb_block hgb3 (k := w.heap.size) (by simp; omega) (by omega)).trans HG0.out
       have hb3 := HB2.out.trans (below_of_gb hgb3 (by omega) HB2.out.size))
    | (refine wpList_load_row rfl 52 (.tmp 3) rfl (w.heap.size + 1) rfl 52 PV (0, 0) _ hg3 Tryd.underlying52 rfl HI.out ?_)
    | (refine wpList_store_row rfl 52 (.tmp 2) (.tmp 13) rfl w.heap.size PV rfl rfl 52 _ hg30 HI.out (by rw [List.size_toArray, HZL.out, HPS.out]) HP1.out ?_)
    | fail)
  go_wp2
  have hres := setRow_heap w3 w.heap.size _ PV _ _ hg30
  refine bodyPost_ret (v := .agg PV) (results_cell_row Tryd.results29 _ _ w.heap.size 52 PV (0, 0) _ (by rfl) hres Tryd.underlying52 rfl HI.out) rfl ?_
  exact ⟨rfl, below_setRow hb3 (Nat.le_refl _) _⟩
end Go.Proofs.YtgebdkbbdabomaaDoor.Mac

/-
  THE CONTRACT of mac's padded, for a key of more than a block.
-/
namespace Go.Proofs.YtgebdkbbdabomaaDoor.Mac
open Go.RowKit
open Go.Proofs.YtgebdkbbdabomaaDoor.Kit
open Go.Proofs.YtgebdkbbdabomaaDoor.Oct
open Go.Proofs.YtgebdkbbdabomaaDoor.Sha
set_option linter.unusedVariables false

set_option maxRecDepth 100000 in
set_option maxHeartbeats 1000000 in
theorem padded_long (A : Option Addr) (n c : Nat) (bs : List UInt8) (w : World) (h : RdB w w.heap.size A n c bs) (hR : Roots w) (hn : 64 < n) (hT : n ≤ 576460752303423488) : Calls Tryd.prog 29 #[.slice A n c] w fun e w' =>
    e = .returned (.agg ((padK (dig bs)).map bv).toArray) ∧ Below w.heap.size w w' := by
  have hl := h.len
  have hr := h.room
  have t1 : decide ((64 : Int) < n) = true := by simp; omega
  obtain ⟨D, hD⟩ : ∃ D, D = dig bs := ⟨_, rfl⟩
  have hDl : D.length = 32 := by rw [hD, dig_len]
  obtain ⟨ZL, hZ⟩ : ∃ q, q = List.replicate 64 (Value.int .u8 0) := ⟨_, rfl⟩
  have hz : ∀ w, (zeroValue 52).run Tryd.prog w = .ok (.agg ZL.toArray) w := by rw [hZ]; exact z64
  have hzl : ZL.length = 64 := by rw [hZ]; rfl
  have hsp : splice ZL 0 (D.map bv) = (padK D).map bv := by rw [hZ]; exact padK_splice D
  have hg := (heap2 w (.cells ZL.toArray 52) (.cells ZL.toArray 52)).2
  have hg0 := (heap2 w (.cells ZL.toArray 52) (.cells ZL.toArray 52)).1
  have hB2 : Below w.heap.size w ((w.alloc (.cells ZL.toArray 52)).alloc (.cells ZL.toArray 52)) := (below_of_new w _).alloc (by simp) _
  obtain ⟨PV, hPV⟩ : ∃ q, q = ((padK D).map bv).toArray := ⟨_, rfl⟩
  have hPs : PV.size = 64 := by rw [hPV]; simp [padK_len D (by omega)]
  have hI : (Tryd.prog.info? 52).map (·.size) = some PV.size := by rw [hPs]; exact info53z
  have hP1 : PV.all (·.oneCell') = true := by rw [hPV]; exact all_oneCell_toArray (bv_one _)
  rw [← hD, ← hPV]
  have H := Lib.hid (h.on hB2)
  have HR := Lib.hid (hR.on hB2)
  have HG := Lib.hid hg
  have HG0 := Lib.hid hg0
  have HB2 := Lib.hid hB2
  have HI := Lib.hid hI
  have HP1 := Lib.hid hP1
  have HPS := Lib.hid hPs
  have HPV := Lib.hid hPV
  have HSP := Lib.hid hsp
  have HZL := Lib.hid hzl
  have HL := Lib.hid hl
  have HD := Lib.hid hD
  have HDL := Lib.hid hDl
  obtain ⟨W2, hW2⟩ : ∃ q, q = ((w.alloc (.cells ZL.toArray 52)).alloc (.cells ZL.toArray 52)) := ⟨_, rfl⟩
  have hws : W2.heap.size = w.heap.size + 1 + 1 := by rw [hW2]; simp
  clear hZ h hzl hg hg0 hB2 hI hP1 hPs hPV hsp hl hD hDl hR
  go_enter Tryd.func29, Tryd.ntmps29
  go_wp2_with fail
  rw [← hW2] at H HR HG HG0 HB2 ⊢
  refine (of_any _ 1 1 [⟨A, n, c, bs⟩] _ (rd_cells (n := 1) W2 (by rw [hws]) rfl rfl (by omega)) ?h1 (HR.out.on (below_of_new W2 _)) (by simp [joinL]; have := HL.out; omega)).mono ?_
  case h1 =>
    intro r hr
    simp only [List.mem_cons, List.not_mem_nil, or_false] at hr
    subst hr
    exact H.out.lit _
  rintro e w2 ⟨A2, c2, rfl, hn2⟩
  have hj : joinL [⟨A, n, c, bs⟩] = bs := by simp [joinL]
  rw [hj, ← HD.out] at hn2
  have hbl := below_seq (below_of_new W2 _) hn2.bl
  obtain ⟨b, o, rfl⟩ := hn2.rd.addr (by omega)
  have hg2 := (hbl.block (w.heap.size + 1) (by omega)).trans HG.out
  have hg20 := (hbl.block w.heap.size (by omega)).trans HG0.out
  have hB := HB2.out.trans (hbl.mono (by omega))
  have hs2 := hbl.size
  have hsrc : ∀ j v, (D.map bv)[j]? = some v → w2.cell? ((⟨b, o, none⟩ : Addr).add j) = some v := fun j v hv => by
    rw [add_off]
    obtain ⟨b2, o2, e, _, hc⟩ := hn2.rd.2.2.2 (by omega)
    injection e with e
    injection e with e1 e2
    subst e1 e2
    exact hc j v hv
  have HS := Lib.hid hsrc
  have hrm := hn2.rd.room
  clear hsrc hn2 hbl hj hW2
  go_wp2_with (first
    | ((refine wpList_copy_gb rfl (.tmp 10) (.tmp 11) 22 22 rfl 5 Tryd.underlying22 info5s (w.heap.size + 1) 0 64 64 ⟨b, o, none⟩ 32 c2 rfl rfl ZL 52 hg2 (D.map bv) (by rw [List.length_map, HDL.out]; rfl) HS.out (by rw [List.length_map, HDL.out, HZL.out]; omega) (fun v hv => bv_one _ v hv) ?_)
       intro w3 hg3 hgb3
       rw [HSP.out, ← HPV.out] at hg3
       have hg30 := (gb_block hgb3 (k := w.heap.size) (by omega) (by omega)).trans hg20
       have hb3 := hB.trans (below_of_gb hgb3 (by omega) hB.size))
    | (refine wpList_load_row rfl 52 (.tmp 3) rfl (w.heap.size + 1) rfl 52 PV (0, 0) _ hg3 Tryd.underlying52 rfl HI.out ?_)
    | (refine wpList_store_row rfl 52 (.tmp 2) (.tmp 13) rfl w.heap.size PV rfl rfl 52 _ hg30 HI.out (by rw [List.size_toArray, HZL.out, HPS.out]) HP1.out ?_)
    | fail)
  have hres := setRow_heap w3 w.heap.size _ PV _ _ hg30
  refine bodyPost_ret (v := .agg PV) (results_cell_row Tryd.results29 _ _ w.heap.size 52 PV (0, 0) _ (by rfl) hres Tryd.underlying52 rfl HI.out) rfl ?_
  exact ⟨rfl, below_setRow hb3 (Nat.le_refl _) _⟩
end Go.Proofs.YtgebdkbbdabomaaDoor.Mac

/-
  THE CONTRACT of mac's padded, whatever the key.
-/
namespace Go.Proofs.YtgebdkbbdabomaaDoor.Mac
open Go.RowKit
open Go.Proofs.YtgebdkbbdabomaaDoor.Kit
open Go.Proofs.YtgebdkbbdabomaaDoor.Oct
open Go.Proofs.YtgebdkbbdabomaaDoor.Sha
set_option linter.unusedVariables false

set_option maxRecDepth 100000 in
set_option maxHeartbeats 1000000 in
theorem padded_short (A : Option Addr) (n c : Nat) (bs : List UInt8) (w : World) (h : RdB w w.heap.size A n c bs) (hn : n ≤ 64) : Calls Tryd.prog 29 #[.slice A n c] w fun e w' =>
    e = .returned (.agg ((padK bs).map bv).toArray) ∧ Below w.heap.size w w' := by
  have hl := h.len
  have hr := h.room
  have t1 : decide ((64 : Int) < n) = false := by simp; omega
  obtain ⟨ZL, hZ⟩ : ∃ q, q = List.replicate 64 (Value.int .u8 0) := ⟨_, rfl⟩
  have hz : ∀ w, (zeroValue 52).run Tryd.prog w = .ok (.agg ZL.toArray) w := by rw [hZ]; exact z64
  have hzl : ZL.length = 64 := by rw [hZ]; rfl
  have hsp : splice ZL 0 (bs.map bv) = (padK bs).map bv := by rw [hZ]; exact padK_splice bs
  have hg := (heap2 w (.cells ZL.toArray 52) (.cells ZL.toArray 52)).2
  have hg0 := (heap2 w (.cells ZL.toArray 52) (.cells ZL.toArray 52)).1
  obtain ⟨BV, hBV⟩ : ∃ q, q = bs.map bv := ⟨_, rfl⟩
  have hbl : BV.length = n := by rw [hBV, List.length_map, hl]
  have hbo : ∀ v ∈ BV, v.oneCell' = true := by rw [hBV]; exact fun v hv => bv_one _ v hv
  have hpos : 0 < BV.length → some (⟨w.heap.size + 1, 0, none⟩ : Addr) = some ⟨w.heap.size + 1, 0, none⟩ ∧ ∃ ad, A = some ad ∧ ∀ j v, BV[j]? = some v → ((w.alloc (.cells ZL.toArray 52)).alloc (.cells ZL.toArray 52)).cell? (ad.add j) = some v := fun h0 => by
    have h2 := (h.lit (.cells ZL.toArray 52)).lit (.cells ZL.toArray 52)
    obtain ⟨b2, o2, e, _, hc⟩ := h2.2.2.2 (by omega)
    refine ⟨rfl, _, e, fun j v hv => ?_⟩
    rw [add_off]
    rw [hBV] at hv
    exact hc j v hv
  have hB2 : Below w.heap.size w ((w.alloc (.cells ZL.toArray 52)).alloc (.cells ZL.toArray 52)) := (below_of_new w _).alloc (by simp) _
  obtain ⟨PV, hPV⟩ : ∃ q, q = ((padK bs).map bv).toArray := ⟨_, rfl⟩
  have hPs : PV.size = 64 := by rw [hPV]; simp [padK_len bs (by omega)]
  have hI : (Tryd.prog.info? 52).map (·.size) = some PV.size := by rw [hPs]; exact info53z
  have hP1 : PV.all (·.oneCell') = true := by rw [hPV]; exact all_oneCell_toArray (bv_one _)
  rw [← hBV] at hsp
  rw [← hPV]
  have HG := Lib.hid hg
  have HG0 := Lib.hid hg0
  have HPOS := Lib.hid hpos
  have HBL := Lib.hid hbl
  have HBO := Lib.hid hbo
  have HB2 := Lib.hid hB2
  have HI := Lib.hid hI
  have HP1 := Lib.hid hP1
  have HPS := Lib.hid hPs
  have HPV := Lib.hid hPV
  have HSP := Lib.hid hsp
  have HZL := Lib.hid hzl
  have HL := Lib.hid hl
  clear hZ h hzl hg hg0 hpos hB2 hI hP1 hPs hPV hsp hl hBV hbl hbo
  go_enter Tryd.func29, Tryd.ntmps29
  go_wp2_with (first
    | ((refine wpList_copy_splice rfl (.tmp 10) (.tmp 11) 22 22 rfl 5 Tryd.underlying22 info5s (some ⟨w.heap.size + 1, 0, none⟩) A 64 64 n c rfl rfl (w.heap.size + 1) 0 ZL 52 HG.out BV (by rw [HBL.out]; exact (Nat.min_eq_left hn).symm) HPOS.out (by rw [HBL.out, HZL.out]; omega) HBO.out (w.heap.size + 1) _ (Below.refl _ _) (Nat.le_refl _) ?_)
       intro w3 hg3h hbl3
       have hg3 := hg3h.out
       rw [HSP.out, ← HPV.out] at hg3
       have hg30 := (hbl3.block w.heap.size (by omega)).trans HG0.out
       have hb3 := HB2.out.trans (hbl3.mono (by omega))
       clear hg3h)
    | (refine wpList_load_row rfl 52 (.tmp 3) rfl (w.heap.size + 1) rfl 52 PV (0, 0) _ hg3 Tryd.underlying52 rfl HI.out ?_)
    | (refine wpList_store_row rfl 52 (.tmp 2) (.tmp 13) rfl w.heap.size PV rfl rfl 52 _ hg30 HI.out (by rw [List.size_toArray, HZL.out, HPS.out]) HP1.out ?_)
    | fail)
  go_wp2
  have hres := setRow_heap w3 w.heap.size _ PV _ _ hg30
  refine bodyPost_ret (v := .agg PV) (results_cell_row Tryd.results29 _ _ w.heap.size 52 PV (0, 0) _ (by rfl) hres Tryd.underlying52 rfl HI.out) rfl ?_
  exact ⟨rfl, below_setRow hb3 (Nat.le_refl _) _⟩

/-- what stands for a key -/
def keyL (k : List UInt8) : List UInt8 := if 64 < k.length then dig k else k
theorem keyL_len (k : List UInt8) : (keyL k).length ≤ 64 := by
  rw [keyL]; split
  · rw [dig_len]; omega
  · omega
theorem padded_any (A : Option Addr) (n c : Nat) (bs : List UInt8) (w : World) (h : RdB w w.heap.size A n c bs) (hR : Roots w) (hT : n ≤ 576460752303423488) : Calls Tryd.prog 29 #[.slice A n c] w fun e w' =>
    e = .returned (.agg ((padK (keyL bs)).map bv).toArray) ∧ Below w.heap.size w w' := by
  have hl := h.len
  by_cases hn : 64 < n
  · rw [keyL, if_pos (by omega)]
    exact padded_long A n c bs w h hR hn hT
  · rw [keyL, if_neg (by omega)]
    exact padded_short A n c bs w h (by omega)
end Go.Proofs.YtgebdkbbdabomaaDoor.Mac

/-
  THE CONTRACT of mac's Sum.
-/
namespace Go.Proofs.YtgebdkbbdabomaaDoor.Mac
open Go.RowKit
open Go.Proofs.YtgebdkbbdabomaaDoor.Kit
open Go.Proofs.YtgebdkbbdabomaaDoor.Oct
open Go.Proofs.YtgebdkbbdabomaaDoor.Sha
set_option linter.unusedVariables false

/-- a key's block, held against a byte -/
def keyK (k : List UInt8) (x : UInt8) : List UInt8 := (padK (keyL k)).map (fun y => y ^^^ x)
theorem padKL_len (k : List UInt8) : (padK (keyL k)).length = 64 := padK_len _ (keyL_len k)
theorem keyK_len (k : List UInt8) (x : UInt8) : (keyK k x).length = 64 := by rw [keyK, List.length_map, padKL_len]
/-- the keyed sum -/
def macS (k b : List UInt8) : List UInt8 := dig (keyK k 92 ++ dig (keyK k 54 ++ b))
theorem macS_len (k b : List UInt8) : (macS k b).length = 32 := dig_len _
theorem mixed_54 (P : List UInt8) (hP : P.length = 64) (w : World) : Calls Tryd.prog 32 #[.agg (P.map bv).toArray, .int .u8 54] w fun e w' =>
    e = .returned (.slice (some ⟨w.heap.size, 0, none⟩) 64 64) ∧ w'.heap[w.heap.size]? = some (.cells ((P.map (fun x => x ^^^ 54)).map bv).toArray 52 (0, 0)) ∧ Below w.heap.size w w' := mixed_any P hP 54 w
theorem mixed_92 (P : List UInt8) (hP : P.length = 64) (w : World) : Calls Tryd.prog 32 #[.agg (P.map bv).toArray, .int .u8 92] w fun e w' =>
    e = .returned (.slice (some ⟨w.heap.size, 0, none⟩) 64 64) ∧ w'.heap[w.heap.size]? = some (.cells ((P.map (fun x => x ^^^ 92)).map bv).toArray 52 (0, 0)) ∧ Below w.heap.size w w' := mixed_any P hP 92 w
/-- a whole block reads as a row, for a Sum of another block -/
theorem rds_block {w : World} {g G n : Nat} {t : TypeId} {fr : Nat × Nat} {bs : List UInt8} (h : w.heap[g]? = some (.cells (bs.map bv).toArray t fr)) (hn : bs.length = n) (hm : n ≤ 9223372036854775807) (hne : g ≠ G) :
    RdS w (fun b => b < w.heap.size ∧ b ≠ G) (some ⟨g, 0, none⟩) n n (bs.map bv) := by
  refine ⟨by rw [List.length_map, hn], Nat.le_refl _, hm, fun _ => ⟨g, 0, rfl, ⟨block_lt_of_heap h, hne⟩, fun j u hu => ?_⟩⟩
  rw [cell_of_row w g _ _ t fr h, Nat.zero_add, List.getElem?_toArray]
  exact hu

set_option maxRecDepth 100000 in
set_option maxHeartbeats 2000000 in
theorem sum_own (Ak : Option Addr) (nk ck : Nat) (key : List UInt8) (A : Option Addr) (n c : Nat) (R : List Row) (w : World) (hkey : RdB w w.heap.size Ak nk ck key) (hnk : nk ≤ 576460752303423488)
    (h : Rd w w.heap.size A n c (R.map Row.v)) (hR : ∀ r ∈ R, RdB w w.heap.size r.A r.n r.c r.bs) (hRt : Roots w) (hT : 64 + (joinL R).length ≤ 576460752303423488) :
    Calls Tryd.prog 10 #[.slice Ak nk ck, .slice A n c] w fun e w' => ∃ A' c' B, e = .returned (.slice A' 32 c') ∧ w.heap.size ≤ B ∧ w'.ownsRow B 5 1 (.slice A' 32 c') 32 ((macS key (joinL R)).map bv) ∧ Below w.heap.size w w' := by
  obtain ⟨hle, hge⟩ : n ≤ R.length ∧ R.length ≤ n := by have := h.len; simp at this; omega
  have hr := h.room
  obtain ⟨P, hP⟩ : ∃ q, q = padK (keyL key) := ⟨_, rfl⟩
  have hPl : P.length = 64 := by rw [hP]; exact padKL_len key
  obtain ⟨K1, hK1⟩ : ∃ q, q = P.map (fun x => x ^^^ 54) := ⟨_, rfl⟩
  obtain ⟨K2, hK2⟩ : ∃ q, q = P.map (fun x => x ^^^ 92) := ⟨_, rfl⟩
  have hK1l : K1.length = 64 := by rw [hK1, List.length_map, hPl]
  have hK2l : K2.length = 64 := by rw [hK2, List.length_map, hPl]
  have hmac : macS key (joinL R) = dig (K2 ++ dig (K1 ++ joinL R)) := by rw [macS, keyK, keyK, ← hP, ← hK1, ← hK2]
  obtain ⟨PV, hPV⟩ : ∃ q, q = (P.map bv).toArray := ⟨_, rfl⟩
  have hPs : PV.size = 64 := by rw [hPV]; simp [hPl]
  have hI : (Tryd.prog.info? 52).map (·.size) = some PV.size := by rw [hPs]; exact info53z
  have hP1 : PV.all (·.oneCell') = true := by rw [hPV]; exact all_oneCell_toArray (bv_one _)
  obtain ⟨ZL, hZ⟩ : ∃ q, q = List.replicate 64 (Value.int .u8 0) := ⟨_, rfl⟩
  have hz : ∀ w, (zeroValue 52).run Tryd.prog w = .ok (.agg ZL.toArray) w := by rw [hZ]; exact z64
  have hzl : ZL.length = 64 := by rw [hZ]; rfl
  have hc54 := mixed_54 P hPl
  have hc92 := mixed_92 P hPl
  have hpad := padded_any Ak nk ck key w hkey hRt hnk
  rw [← hP, ← hPV] at hpad
  rw [← hPV, ← hK1] at hc54
  rw [← hPV, ← hK2] at hc92
  rw [hmac]
  have HT := Lib.hid hT
  have HH := Lib.hid h
  have HR := Lib.hid hR
  have HRT := Lib.hid hRt
  have HPAD := Lib.hid hpad
  have HC54 := Lib.hid hc54
  have HC92 := Lib.hid hc92
  have HI := Lib.hid hI
  have HP1 := Lib.hid hP1
  have HPS := Lib.hid hPs
  have HZL := Lib.hid hzl
  have HK1L := Lib.hid hK1l
  have HK2L := Lib.hid hK2l
  have hrt0 := hRt.lt
  clear hT h hR hRt hkey hP hPl hK1 hK2 hmac hPV hPs hI hP1 hZ hzl hc54 hc92 hpad hK1l hK2l
  go_enter Tryd.func10, Tryd.ntmps10
  go_wp2_with fail
  refine HPAD.out.mono ?_
  rintro e w1 ⟨rfl, hb1⟩
  have hs1 := hb1.size
  have hg1 := heap_alloc_new w1 (.cells ZL.toArray 52)
  have HB1 := Lib.hid hb1
  have HG1 := Lib.hid hg1
  clear hb1 hg1
  go_wp2_with (first
    | (refine wpList_store_row rfl 52 (.tmp 5) (.tmp 10) rfl w1.heap.size PV rfl rfl 52 _ HG1.out HI.out (by rw [List.size_toArray, HZL.out, HPS.out]) HP1.out ?_)
    | fail)
  have hres := setRow_heap (w1.alloc (.cells ZL.toArray 52)) w1.heap.size _ PV _ _ HG1.out
  have hb2 : Below w.heap.size w ((w1.alloc (.cells ZL.toArray 52)).setRow w1.heap.size PV) := below_setRow (below_alloc HB1.out _) hs1 _
  obtain ⟨W2, hW2⟩ : ∃ q, q = ((w1.alloc (.cells ZL.toArray 52)).setRow w1.heap.size PV) := ⟨_, rfl⟩
  have hz2 : W2.heap.size = w1.heap.size + 1 := by rw [hW2]; simp [World.setRow]
  rw [← hW2] at hres hb2 ⊢
  have HW := Lib.hid hb2
  have HRES := Lib.hid hres
  have HZ2 := Lib.hid (show w1.heap.size < W2.heap.size by omega)
  clear hW2 hb2 hres hz2
  refine (new_any W2).mono ?_
  rintro e w3 ⟨rfl, hs3, hb3, hlt3⟩
  have hgp : w1.heap.size < W2.heap.size := HZ2.out
  have HS3 := Lib.hid hs3
  have HB3 := Lib.hid (below_seq HW.out hb3)
  have hg3 := (hb3.block w1.heap.size (by omega)).trans HRES.out
  have hz3 := hb3.size
  clear hs3 hb3
  go_wp2_with (first
    | (refine wpList_load_row rfl 52 (.tmp 5) rfl w1.heap.size rfl 52 PV (0, 0) _ hg3 Tryd.underlying52 rfl HI.out ?_)
    | fail)
  refine (HC54.out w3).mono ?_
  rintro e w4 ⟨rfl, hg4, hb4⟩
  have hz4 := hb4.size
  have HB4 := Lib.hid (below_seq HB3.out hb4)
  have HG4 := Lib.hid ((hb4.block w1.heap.size (by omega)).trans hg3)
  have hrs4 := rds_block (G := W2.heap.size) hg4 HK1L.out (by omega) (by omega)
  have HRS4 := Lib.hid hrs4
  have HS4 := Lib.hid (HS3.out.below hlt3 hb4)
  have hne : W2.heap.size ≠ 0 := by have := HW.out.size; omega
  clear hg3 hg4 hb4 hrs4
  go_wp2_with fail
  refine (write_any W2.heap.size 64 64 _ [] K1 w4 HS4.out HRS4.out (HRT.out.on HB4.out) hne (by simp)).mono ?_
  rintro e w5 ⟨rfl, hs5, hgb5⟩
  rw [List.nil_append] at hs5
  have HS5 := Lib.hid hs5
  have HB5 := Lib.hid (HB4.out.trans (below_of_gb hgb5 (by have := HW.out.size; omega) HB4.out.size))
  have HG5 := Lib.hid ((gb_block hgb5 (k := w1.heap.size) (by omega) (by omega)).trans HG4.out)
  have hz5 := hgb5.size
  clear hs5 hgb5
  have hzw := HW.out.size
  go_wp2_with fail
  go_loopw [8, 18] (fun _ i wr => ∃ k : Nat, k ≤ n ∧ i = .int .i64 k ∧ SumAt wr W2.heap.size (K1 ++ joinL (R.take k)) ∧ w5.grownBy wr (some W2.heap.size)) (fun _ i _ => n - (intOf i).toNat)
  case atStart => exact ⟨0, Nat.zero_le _, rfl, by simpa [joinL] using HS5.out, World.grownBy.refl _ _⟩
  case round =>
    obtain ⟨k, hk, rfl, hs, hgb⟩ := hrel
    have hkeep : ∀ b, b < w.heap.size → wr.heap[b]? = w.heap[b]? := fun b hb => (gb_block hgb (by omega) (by omega)).trans (HB5.out.block b hb)
    have hsz : w5.heap.size ≤ wr.heap.size := hgb.size
    have hrt : Roots wr := fun i hi => (World.cell?_of_block (hkeep _ HRT.out.lt)).trans (HRT.out i hi)
    have hbw : Below w.heap.size w wr := HB5.out.trans (below_of_gb hgb (by omega) (by omega))
    have hgr := (gb_block hgb (k := w1.heap.size) (by omega) (by omega)).trans HG5.out
    have HS := Lib.hid hs
    have HRTW := Lib.hid hrt
    have HKP := Lib.hid hkeep
    have HBW := Lib.hid hbw
    have HGR := Lib.hid hgr
    clear hs hrt hkeep hbw hgr
    by_cases hlt : k < n
    · obtain ⟨b, o, rfl, hb, hc⟩ := HH.out.2.2.2 (by omega)
      have hcell := (World.cell?_of_block (HKP.out b hb) : wr.cell? ⟨b, o + k, none⟩ = w.cell? ⟨b, o + k, none⟩).trans (hc k _ (by rw [List.getElem?_map, List.getElem?_eq_getElem (by omega)]; rfl))
      have hrd := HR.out R[k] (List.getElem_mem _)
      have hts := joinL_take_succ R k (by omega)
      have htl := joinL_take_le R (k + 1)
      have hT := HT.out
      rw [hts, List.length_append, RdB.len hrd] at htl
      obtain ⟨r, hrk⟩ : ∃ r, r = R[k] := ⟨_, rfl⟩
      rw [← hrk] at hcell hrd hts htl
      have HTS := Lib.hid hts
      have HRD := Lib.hid (rds_of hrd (G := W2.heap.size) (by omega) HKP.out (by omega))
      have hbd : (K1 ++ joinL (R.take k)).length + r.n ≤ 1152921504606846976 := by rw [List.length_append, HK1L.out]; omega
      clear hts hrk hrd hc hT htl
      unfold Row.v at hcell
      go_wp2_with fail
      refine (write_any W2.heap.size r.n r.c r.A (K1 ++ joinL (R.take k)) r.bs wr HS.out HRD.out HRTW.out hne hbd).mono ?_
      rintro e w6 ⟨rfl, hs6, hgb6⟩
      rw [List.append_assoc, ← HTS.out] at hs6
      have hgbw := grown_trans hgb hgb6
      go_wp2
      go_roundw
      case rel => exact ⟨k + 1, by omega, by go_num, hs6, hgbw⟩
      case measure => simp [intOf]; omega
    · obtain rfl : k = n := by omega
      have e : R.take k = R := List.take_of_length_le (by omega)
      have hsf := HS.out
      rw [e] at hsf
      have HSF := Lib.hid hsf
      have hlf := hsf.lt
      clear e hsf HS
      have hgr := HGR.out
      go_wp2_with (first
        | (refine wpList_load_row rfl 52 (.tmp 5) rfl w1.heap.size rfl 52 PV (0, 0) _ hgr Tryd.underlying52 rfl HI.out ?_)
        | fail)
      refine (HC92.out wr).mono ?_
      rintro e w7 ⟨rfl, hg7, hb7⟩
      have HB7 := Lib.hid (below_seq HBW.out hb7)
      have HG7 := Lib.hid hg7
      have HS7 := Lib.hid (HSF.out.below hlf hb7)
      have HRT7 := Lib.hid (HRTW.out.on hb7)
      have hlt7 := block_lt_of_heap hg7
      have hz7 := hb7.size
      clear hg7 hb7 hgr
      go_wp2_with fail
      refine (digest_own W2.heap.size (K1 ++ joinL R) w7 HS7.out HRT7.out (by rw [List.length_append, HK1L.out]; exact HT.out)).mono ?_
      rintro e w8 ⟨A8, c8, B8, rfl, hB8, ho8, hb8⟩
      have hrd8 : RdB w8 w8.heap.size A8 32 c8 (dig (K1 ++ joinL R)) := Rd.of_own ho8
      have HRD8 := Lib.hid hrd8
      have HB8 := Lib.hid (below_seq HB7.out hb8)
      have HG8 := Lib.hid ((hb8.block wr.heap.size hlt7).trans HG7.out)
      have HRT8 := Lib.hid (HRT7.out.on hb8)
      have hz8 := hb8.size
      clear hrd8 ho8 hb8
      obtain ⟨D, hD⟩ : ∃ D, D = dig (K1 ++ joinL R) := ⟨_, rfl⟩
      have hDl : D.length = 32 := by rw [hD, dig_len]
      rw [← hD] at HRD8
      have HDL := Lib.hid hDl
      have HD := Lib.hid hD
      clear hD hDl
      go_wp2_with fail
      refine (of_own _ 2 2 [⟨some ⟨wr.heap.size, 0, none⟩, 64, 64, K2⟩, ⟨A8, 32, c8, D⟩] _ (rd_cells (n := 2) w8 rfl rfl rfl (by omega)) ?h1 (HRT8.out.lit _) (by simp [joinL, HK2L.out, HDL.out])).mono ?_
      case h1 =>
        intro r hr
        simp only [List.mem_cons, List.not_mem_nil, or_false] at hr
        rcases hr with rfl | rfl
        · have h := rd_block HG8.out HK2L.out (by omega)
          exact RdB.lit h _
        · exact HRD8.out.lit _
      rintro e w9 ⟨A9, c9, B9, rfl, hB9, ho9, hb9⟩
      have hj : joinL [⟨some ⟨wr.heap.size, 0, none⟩, 64, 64, K2⟩, ⟨A8, 32, c8, D⟩] = K2 ++ D := by simp [joinL]
      rw [hj, HD.out] at ho9
      have HO9 := Lib.hid ho9
      have HB9 := Lib.hid (below_seq HB8.out (below_seq (below_of_new w8 _) hb9))
      have hzz : w.heap.size ≤ B9 := by rw [World.size_alloc] at hB9; omega
      clear ho9 hb9 hj
      go_wp2
      go_ret
      exact ⟨A9, c9, B9, rfl, hzz, HO9.out, HB9.out⟩
theorem sum_any (Ak : Option Addr) (nk ck : Nat) (key : List UInt8) (A : Option Addr) (n c : Nat) (R : List Row) (w : World) (hkey : RdB w w.heap.size Ak nk ck key) (hnk : nk ≤ 576460752303423488)
    (h : Rd w w.heap.size A n c (R.map Row.v)) (hR : ∀ r ∈ R, RdB w w.heap.size r.A r.n r.c r.bs) (hRt : Roots w) (hT : 64 + (joinL R).length ≤ 576460752303423488) :
    Calls Tryd.prog 10 #[.slice Ak nk ck, .slice A n c] w fun e w' => ∃ A' c', e = .returned (.slice A' 32 c') ∧ New w w' A' 32 c' (macS key (joinL R)) :=
  (sum_own Ak nk ck key A n c R w hkey hnk h hR hRt hT).mono fun e w' ⟨A', c', B, he, _, ho, hbl⟩ => ⟨A', c', he, .of_own ho hbl⟩
end Go.Proofs.YtgebdkbbdabomaaDoor.Mac
