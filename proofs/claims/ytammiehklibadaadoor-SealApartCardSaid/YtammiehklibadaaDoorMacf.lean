/-
  THE CONTRACTS of mac's start, Derive; bytes of a string.
-/
import Derived.Test.YtammiehklibadaaDoorMace
import Derived.Test.YtammiehklibadaaDoorShal
import Derived.Lib.ConvBytes
namespace Go.Proofs.YtammiehklibadaaDoor.Mac
open Go.RowKit
open Go.Proofs.YtammiehklibadaaDoor.Kit
open Go.Proofs.YtammiehklibadaaDoor.Oct
open Go.Proofs.YtammiehklibadaaDoor.Sha
set_option linter.unusedVariables false

def strL (s : ByteArray) : List UInt8 := s.data.toList
theorem strL_len (s : ByteArray) : (strL s).length = s.size := rfl
abbrev strW (w : World) (s : ByteArray) : World := Lib.bytesWorld w 5 s
theorem conv_str (w : World) (s : ByteArray) : (convert 9 22 (.string s)).run Tryd.prog w = .ok (.slice (some ⟨w.heap.size, 0, none⟩) s.size (grownCap w s.size 0 5)) (strW w s) :=
  Lib.run_convert_string_bytes w _ _ _ s Tryd.underlying9 Tryd.underlying22 Tryd.underlying5
theorem strW_size (w : World) (s : ByteArray) : (strW w s).heap.size = w.heap.size + 1 := Lib.bytesWorld_size w _ s
theorem below_str (w : World) (s : ByteArray) : Below w.heap.size w (strW w s) :=
  ⟨rfl, rfl, rfl, by rw [strW_size]; omega, fun k hk => Lib.bytesWorld_at_old w _ s k hk⟩
theorem rd_str (w : World) (s : ByteArray) (h : s.size ≤ maxLen) : RdB (strW w s) (strW w s).heap.size (some ⟨w.heap.size, 0, none⟩) s.size (grownCap w s.size 0 5) (strL s) := by
  refine ⟨by rw [List.length_map, strL_len], grownCap_ge _ _ _ _, ?_, fun _ => ⟨w.heap.size, 0, rfl, by rw [strW_size]; omega, fun j u hu => ?_⟩⟩
  · have := grownCap_le_maxLen w s.size 0 5 h
    unfold maxLen at this
    omega
  · have hj : j < s.size := by have := (List.getElem?_eq_some_iff.1 hu).1; rw [List.length_map, strL_len] at this; exact this
    rw [Nat.zero_add, Lib.bytesWorld_cell w _ s j hj, ← hu, List.getElem?_map, strL, List.getElem?_eq_getElem (by simpa using hj), List.getD_eq_getElem?_getD, List.getElem?_eq_getElem (by simpa using hj)]
    rfl

theorem infoKz : (Tryd.prog.info? 33).map (·.size) = some 16 := by kernel_rfl
def Z16 : Array Value := (List.replicate 16 (Value.int .u8 0)).toArray
theorem z16 (w : World) : (zeroValue 33).run Tryd.prog w = .ok (.agg Z16) w := by kernel_rfl

set_option maxRecDepth 100000 in
set_option maxHeartbeats 1000000 in
theorem start_any (A : Option Addr) (c : Nat) (bs : List UInt8) (w : World) (h : RdB w w.heap.size A 32 c bs) : Calls Tryd.prog 41 #[.slice A 32 c] w fun e w' =>
    e = .returned (.agg ((bs.take 16).map bv).toArray) ∧ Below w.heap.size w w' := by
  have hl := h.len
  have hr := h.room
  obtain ⟨b, o, rfl⟩ := h.addr (by omega)
  have hfr : RdB w w.heap.size (some ⟨b, o, none⟩) 16 c (bs.take 16) := by
    have := Rd.front (k := 16) h (by omega)
    rw [← List.map_take] at this
    exact this
  obtain ⟨ZV, hZ⟩ : ∃ q, q = Z16 := ⟨_, rfl⟩
  have hz : ∀ w, (zeroValue 33).run Tryd.prog w = .ok (.agg ZV) w := by rw [hZ]; exact z16
  have hzl : ZV.size = 16 := by rw [hZ]; rfl
  obtain ⟨PV, hPV⟩ : ∃ q, q = ((bs.take 16).map bv).toArray := ⟨_, rfl⟩
  have hPs : PV.size = 16 := by rw [hPV]; simp; omega
  have hI : (Tryd.prog.info? 33).map (·.size) = some PV.size := by rw [hPs]; exact infoKz
  have hP1 : PV.all (·.oneCell') = true := by rw [hPV]; exact all_oneCell_toArray (bv_one _)
  have hg := heap_alloc_new w (.cells ZV 33)
  have hkey := key_yes (some ⟨b, o, none⟩) c _ (bs.take 16) (w.alloc (.cells ZV 33)) (hfr.lit _) (Nat.le_refl _)
  rw [← hPV] at hkey ⊢
  have HKEY := Lib.hid hkey
  have HG := Lib.hid hg
  have HI := Lib.hid hI
  have HP1 := Lib.hid hP1
  have HPS := Lib.hid hPs
  have HZL := Lib.hid hzl
  clear h hfr hZ hzl hPV hPs hI hP1 hg hkey hl
  go_enter Tryd.func41, Tryd.ntmps41
  go_wp2_with fail
  refine HKEY.out.mono ?_
  rintro e w2 ⟨rfl, hb2⟩
  have hlt : w.heap.size < w2.heap.size := by have := hb2.size; simp at this; omega
  have hg2 := (hb2.block w.heap.size (by simp)).trans HG.out
  have hg20 := (heap_alloc_old w2 (.cells ZV 33) hlt).trans hg2
  have hg21 := heap_alloc_new w2 (.cells ZV 33)
  have hB2 := below_seq (below_of_new w _) hb2
  have HG20 := Lib.hid hg20
  have HG21 := Lib.hid hg21
  have HB2 := Lib.hid hB2
  clear hg2 hg20 hg21 hb2 hB2
  have hne : w.heap.size ≠ w2.heap.size := by omega
  go_wp2_with (first
    | ((refine wpList_store_row rfl 33 (.tmp 3) (.tmp 9) rfl w2.heap.size PV rfl rfl 33 _ HG21.out HI.out (by rw [HZL.out, HPS.out]) HP1.out ?_)
       have hg31 := setRow_heap (w2.alloc (.cells ZV 33)) w2.heap.size _ PV _ _ HG21.out
       have hg30 := (setRow_other (w2.alloc (.cells ZV 33)) w2.heap.size w.heap.size PV hne).trans HG20.out)
    | (refine wpList_load_row rfl 33 (.tmp 3) rfl w2.heap.size rfl 33 PV (0, 0) _ hg31 Tryd.underlying33 rfl HI.out ?_)
    | (refine wpList_store_row rfl 33 (.tmp 2) (.tmp 11) rfl w.heap.size PV rfl rfl 33 _ hg30 HI.out (by rw [HZL.out, HPS.out]) HP1.out ?_)
    | fail)
  have hres := setRow_heap _ w.heap.size _ PV _ _ hg30
  refine bodyPost_ret (v := .agg PV) (results_cell_row Tryd.results41 _ _ w.heap.size 33 PV (0, 0) _ (by rfl) hres Tryd.underlying33 rfl HI.out) rfl ?_
  exact ⟨rfl, below_setRow (below_setRow (below_alloc HB2.out _) (by omega) _) (Nat.le_refl _) _⟩
end Go.Proofs.YtammiehklibadaaDoor.Mac
