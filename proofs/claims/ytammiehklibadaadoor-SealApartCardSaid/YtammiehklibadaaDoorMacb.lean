/-
  THE CONTRACT of mac's mixed.
-/
import Derived.Test.YtammiehklibadaaDoorShaz
import Derived.Test.YtammiehklibadaaDoorKit3
namespace Go.Proofs.YtammiehklibadaaDoor.Mac
open Go.RowKit
open Go.Proofs.YtammiehklibadaaDoor.Kit
open Go.Proofs.YtammiehklibadaaDoor.Oct
open Go.Proofs.YtammiehklibadaaDoor.Sha
set_option linter.unusedVariables false

/-- the first k bytes held against a byte -/
def xorK (P : List UInt8) (b : UInt8) (k : Nat) : List UInt8 := (P.take k).map (fun x => x ^^^ b) ++ P.drop k
theorem xorK_len (P : List UInt8) (b : UInt8) (k : Nat) : (xorK P b k).length = P.length := by simp [xorK]; omega
theorem xorK_get (P : List UInt8) (b : UInt8) (k j : Nat) : (xorK P b k)[j]? = if j < k then (P[j]?).map (fun x => x ^^^ b) else P[j]? := by
  induction P generalizing k j with
  | nil => simp [xorK]
  | cons x P ih =>
    cases k with
    | zero => simp [xorK]
    | succ k =>
      cases j with
      | zero => simp [xorK]
      | succ j => simpa [xorK, Nat.succ_lt_succ_iff] using ih k j
theorem xorK_at (P : List UInt8) (b : UInt8) (k : Nat) (h : k < P.length) : (xorK P b k)[k]? = some P[k] := by
  rw [xorK_get, if_neg (Nat.lt_irrefl _), List.getElem?_eq_getElem h]
theorem xorK_set (P : List UInt8) (b : UInt8) (k : Nat) (h : k < P.length) : (xorK P b k).set k (P[k] ^^^ b) = xorK P b (k + 1) := by
  apply List.ext_getElem?
  intro j
  rw [List.getElem?_set, xorK_get, xorK_get, xorK_len]
  by_cases h1 : k = j
  · subst h1
    rw [if_pos rfl, if_pos h, if_pos (Nat.lt_succ_self _), List.getElem?_eq_getElem h]; rfl
  · rw [if_neg h1]
    by_cases h2 : j < k
    · rw [if_pos h2, if_pos (by omega)]
    · rw [if_neg h2, if_neg (by omega)]
theorem xorK_all (P : List UInt8) (b : UInt8) : xorK P b P.length = P.map (fun x => x ^^^ b) := by simp [xorK]

set_option maxRecDepth 100000 in
set_option maxHeartbeats 1000000 in
theorem mixed_any (P : List UInt8) (hP : P.length = 64) (b : UInt8) (w : World) : Calls Tryd.prog 39 #[.agg (P.map bv).toArray, .int .u8 (b.toNat : Int)] w fun e w' =>
    e = .returned (.slice (some ⟨w.heap.size, 0, none⟩) 64 64) ∧ w'.heap[w.heap.size]? = some (.cells ((P.map (fun x => x ^^^ b)).map bv).toArray 64 (0, 0)) ∧ Below w.heap.size w w' := by
  obtain ⟨AV, hAV⟩ : ∃ q, q = (P.map bv).toArray := ⟨_, rfl⟩
  have h0 : (w.alloc (.cells AV 64)).heap[w.heap.size]? = some (.cells ((xorK P b 0).map bv).toArray 64 (0, 0)) := by
    rw [hAV]; simpa [xorK] using heap_alloc_new w (.cells (P.map bv).toArray 64)
  rw [← hAV]
  have H0 := Lib.hid h0
  have HP := Lib.hid hP
  clear h0 hAV hP
  go_enter Tryd.func39, Tryd.ntmps39
  go_wp2_with fail
  go_loopw [5, 6] (fun _ i wr => ∃ k : Nat, k ≤ 64 ∧ i = .int .i64 k ∧ wr.heap[w.heap.size]? = some (.cells ((xorK P b k).map bv).toArray 64 (0, 0)) ∧ Below w.heap.size w wr) (fun _ i _ => 64 - (intOf i).toNat)
  case atStart => exact ⟨0, by omega, rfl, H0.out, below_of_new _ _⟩
  case round =>
    obtain ⟨k, hk, rfl, hg, hbw⟩ := hrel
    by_cases hlt : k < 64
    · have hkl : k < P.length := by rw [HP.out]; exact hlt
      obtain ⟨x, hx⟩ : ∃ x, x = P[k] := ⟨_, rfl⟩
      have hcell : wr.cell? ⟨w.heap.size, k, none⟩ = some (.int .u8 (x.toNat : Int)) := by
        rw [cell_of_row wr w.heap.size k _ _ (0, 0) hg, List.getElem?_toArray, List.getElem?_map, xorK_at P b k hkl, ← hx]; rfl
      have hfz := frozen_of_row wr w.heap.size k _ _ hg
      have hxor := xor_u8 x b
      have hset : (wr.setCell ⟨w.heap.size, k, none⟩ (.int .u8 ((x ^^^ b).toNat : Int))).heap[w.heap.size]? = some (.cells ((xorK P b (k + 1)).map bv).toArray 64 (0, 0)) := by
        rw [heap_setCell_same wr w.heap.size k _ _ _ hg, List.setIfInBounds_toArray, ← xorK_set P b k hkl, List.map_set, ← hx]
        rfl
      have hbl : Below w.heap.size w (wr.setCell ⟨w.heap.size, k, none⟩ (.int .u8 ((x ^^^ b).toNat : Int))) := hbw.setCell (Nat.le_refl _) _
      have HS := Lib.hid hset
      have HB := Lib.hid hbl
      clear hset hbl hx hg hbw
      simp only [UInt8.toNat_xor] at HS HB hxor
      go_wp2
      go_roundw
      case rel => exact ⟨k + 1, by omega, by go_num, HS.out, HB.out⟩
      case measure => simp [intOf]; omega
    · obtain rfl : k = 64 := by omega
      have hfin := hg
      have e64 : xorK P b 64 = P.map (fun x => x ^^^ b) := by rw [← HP.out]; exact xorK_all P b
      rw [e64] at hfin
      have HF := Lib.hid hfin
      clear hg hfin
      go_wp2
      go_ret
      exact ⟨rfl, HF.out, hbw⟩

theorem heap2 (w : World) (o1 o2 : Obj) : ((w.alloc o1).alloc o2).heap[w.heap.size]? = some o1 ∧ ((w.alloc o1).alloc o2).heap[w.heap.size + 1]? = some o2 := by
  refine ⟨?_, ?_⟩
  · rw [heap_alloc_old _ _ (by simp)]; exact heap_alloc_new w o1
  · have := heap_alloc_new (w.alloc o1) o2
    rw [World.size_alloc] at this
    exact this
def padK (k : List UInt8) : List UInt8 := k ++ List.replicate (64 - k.length) 0
def Z64 : Array Value := (List.replicate 64 (Value.int .u8 0)).toArray
theorem z64 (w : World) : (zeroValue 64).run Tryd.prog w = .ok (.agg Z64) w := by kernel_rfl
theorem info53z : (Tryd.prog.info? 64).map (·.size) = some 64 := by kernel_rfl
theorem padK_splice (k : List UInt8) : splice (List.replicate 64 (Value.int .u8 0)) 0 (k.map bv) = (padK k).map bv := by
  rw [splice, List.take_zero, List.nil_append, padK, List.map_append, Nat.zero_add, List.length_map, List.drop_replicate, List.map_replicate]; rfl
theorem padK_len (k : List UInt8) (h : k.length ≤ 64) : (padK k).length = 64 := by rw [padK, List.length_append, List.length_replicate]; omega

set_option maxRecDepth 100000 in
set_option maxHeartbeats 1000000 in
theorem padded_some (b o n c : Nat) (bs : List UInt8) (w : World) (h : RdB w w.heap.size (some ⟨b, o, none⟩) n c bs) (hn : n ≤ 64) : Calls Tryd.prog 38 #[.slice (some ⟨b, o, none⟩) n c] w fun e w' =>
    e = .returned (.agg ((padK bs).map bv).toArray) ∧ Below w.heap.size w w' := by
  have hl := h.len
  have hr := h.room
  have t1 : decide ((64 : Int) < n) = false := by simp; omega
  obtain ⟨ZL, hZ⟩ : ∃ q, q = List.replicate 64 (Value.int .u8 0) := ⟨_, rfl⟩
  have hz : ∀ w, (zeroValue 64).run Tryd.prog w = .ok (.agg ZL.toArray) w := by rw [hZ]; exact z64
  have hzl : ZL.length = 64 := by rw [hZ]; rfl
  have hsp : splice ZL 0 (bs.map bv) = (padK bs).map bv := by rw [hZ]; exact padK_splice bs
  have hg := (heap2 w (.cells ZL.toArray 64) (.cells ZL.toArray 64)).2
  have hg0 := (heap2 w (.cells ZL.toArray 64) (.cells ZL.toArray 64)).1
  have hsrc : ∀ j v, (bs.map bv)[j]? = some v → ((w.alloc (.cells ZL.toArray 64)).alloc (.cells ZL.toArray 64)).cell? ((⟨b, o, none⟩ : Addr).add j) = some v := fun j v hv => by
    rw [add_off]
    have h2 := (h.lit (.cells ZL.toArray 64)).lit (.cells ZL.toArray 64)
    have hj : 0 < n := by have := (List.getElem?_eq_some_iff.1 hv).1; simp at this; omega
    obtain ⟨b2, o2, e, _, hc⟩ := h2.2.2.2 hj
    injection e with e
    injection e with e1 e2
    subst e1 e2
    exact hc j v hv
  have hB2 : Below w.heap.size w ((w.alloc (.cells ZL.toArray 64)).alloc (.cells ZL.toArray 64)) := (below_of_new w _).alloc (by simp) _
  obtain ⟨PV, hPV⟩ : ∃ q, q = ((padK bs).map bv).toArray := ⟨_, rfl⟩
  have hPs : PV.size = 64 := by rw [hPV]; simp [padK_len bs (by omega)]
  have hI : (Tryd.prog.info? 64).map (·.size) = some PV.size := by rw [hPs]; exact info53z
  have hP1 : PV.all (·.oneCell') = true := by rw [hPV]; exact all_oneCell_toArray (bv_one _)
  rw [← hPV]
  have HG := Lib.hid hg
  have HG0 := Lib.hid hg0
  have HSRC := Lib.hid hsrc
  have HB2 := Lib.hid hB2
  have HI := Lib.hid hI
  have HP1 := Lib.hid hP1
  have HPS := Lib.hid hPs
  have HPV := Lib.hid hPV
  have HSP := Lib.hid hsp
  have HZL := Lib.hid hzl
  have HL := Lib.hid hl
  clear hZ h hzl hg hg0 hsrc hB2 hI hP1 hPs hPV hsp hl
  go_enter Tryd.func38, Tryd.ntmps38
  go_wp2_with (first
    | ((refine wpList_copy_gb rfl (.tmp 10) (.tmp 11) 22 22 rfl 5 Tryd.underlying22 info5s (w.heap.size + 1) 0 64 64 ⟨b, o, none⟩ n c rfl rfl ZL 64 HG.out (bs.map bv) (by rw [List.length_map, HL.out]; exact (Nat.min_eq_left hn).symm) HSRC.out (by rw [List.length_map, HL.out, HZL.out]; omega) (fun v hv => bv_one _ v hv) ?_)
       intro w3 hg3 hgb3
       rw [HSP.out, ← HPV.out] at hg3
       have hg30 := (gb_block hgb3 (k := w.heap.size) (by simp; omega) (by omega)).trans HG0.out
       have hb3 := HB2.out.trans (below_of_gb hgb3 (by omega) HB2.out.size))
    | (refine wpList_load_row rfl 64 (.tmp 3) rfl (w.heap.size + 1) rfl 64 PV (0, 0) _ hg3 Tryd.underlying64 rfl HI.out ?_)
    | (refine wpList_store_row rfl 64 (.tmp 2) (.tmp 13) rfl w.heap.size PV rfl rfl 64 _ hg30 HI.out (by rw [List.size_toArray, HZL.out, HPS.out]) HP1.out ?_)
    | fail)
  go_wp2
  have hres := setRow_heap w3 w.heap.size _ PV _ _ hg30
  refine bodyPost_ret (v := .agg PV) (results_cell_row Tryd.results38 _ _ w.heap.size 64 PV (0, 0) _ (by rfl) hres Tryd.underlying64 rfl HI.out) rfl ?_
  exact ⟨rfl, below_setRow hb3 (Nat.le_refl _) _⟩
end Go.Proofs.YtammiehklibadaaDoor.Mac
