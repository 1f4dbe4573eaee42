/-
  THE CONTRACTS of mac's start, Derive; bytes of a string.
-/
import Derived.Test.YtgebdkbbdabomaaDoorMacx
import Derived.Test.YtgebdkbbdabomaaDoorShal
import Derived.Lib.ConvBytes
namespace Go.Proofs.YtgebdkbbdabomaaDoor.Mac
open Go.RowKit
open Go.Proofs.YtgebdkbbdabomaaDoor.Kit
open Go.Proofs.YtgebdkbbdabomaaDoor.Oct
open Go.Proofs.YtgebdkbbdabomaaDoor.Sha
set_option linter.unusedVariables false

def strL (s : ByteArray) : List UInt8 := s.data.toList
theorem strL_len (s : ByteArray) : (strL s).length = s.size := rfl
abbrev strW (w : World) (s : ByteArray) : World := Lib.bytesWorld w 5 s
theorem conv_str (w : World) (s : ByteArray) : (convert 9 22 (.string s)).run Tryd.prog w = .ok (.slice (some ⟨w.heap.size, 0, none⟩) s.size (grownCap w s.size 0 5)) (strW w s) :=
  Lib.run_convert_string_bytes w _ _ _ s Tryd.underlying9 Tryd.underlying22 Tryd.underlying5
theorem strW_size (w : World) (s : ByteArray) : (strW w s).heap.size = w.heap.size + 1 := Lib.bytesWorld_size w _ s
theorem below_str (w : World) (s : ByteArray) : Below w.heap.size w (strW w s) :=
  ⟨rfl, rfl, rfl, by rw [strW_size]; omega, fun k hk => Lib.bytesWorld_at_old w _ s k hk⟩
theorem rd_str (w : World) (s : ByteArray) (h : s.size ≤ maxLen) : RdB (strW w s) (strW w s).heap.size (some ⟨w.heap.size, 0, none⟩) s.size (grownCap w s.size 0 5) (strL s) := by
  refine ⟨by rw [List.length_map, strL_len], grownCap_ge _ _ _ _, ?_, fun _ => ⟨w.heap.size, 0, rfl, by rw [strW_size]; omega, fun j u hu => ?_⟩⟩
  · have := grownCap_le_maxLen w s.size 0 5 h
    unfold maxLen at this
    omega
  · have hj : j < s.size := by have := (List.getElem?_eq_some_iff.1 hu).1; rw [List.length_map, strL_len] at this; exact this
    rw [Nat.zero_add, Lib.bytesWorld_cell w _ s j hj, ← hu, List.getElem?_map, strL, List.getElem?_eq_getElem (by simpa using hj), List.getD_eq_getElem?_getD, List.getElem?_eq_getElem (by simpa using hj)]
    rfl

theorem infoKz : (Tryd.prog.info? 30).map (·.size) = some 16 := by kernel_rfl
def Z16 : Array Value := (List.replicate 16 (Value.int .u8 0)).toArray
theorem z16 (w : World) : (zeroValue 30).run Tryd.prog w = .ok (.agg Z16) w := by kernel_rfl

set_option maxRecDepth 100000 in
set_option maxHeartbeats 1000000 in
theorem start_any (A : Option Addr) (c : Nat) (bs : List UInt8) (w : World) (h : RdB w w.heap.size A 32 c bs) : Calls Tryd.prog 38 #[.slice A 32 c] w fun e w' =>
    e = .returned (.agg ((bs.take 16).map bv).toArray) ∧ Below w.heap.size w w' := by
  have hl := h.len
  have hr := h.room
  obtain ⟨b, o, rfl⟩ := h.addr (by omega)
  have hfr : RdB w w.heap.size (some ⟨b, o, none⟩) 16 c (bs.take 16) := by
    have := Rd.front (k := 16) h (by omega)
    rw [← List.map_take] at this
    exact this
  obtain ⟨ZV, hZ⟩ : ∃ q, q = Z16 := ⟨_, rfl⟩
  have hz : ∀ w, (zeroValue 30).run Tryd.prog w = .ok (.agg ZV) w := by rw [hZ]; exact z16
  have hzl : ZV.size = 16 := by rw [hZ]; rfl
  obtain ⟨PV, hPV⟩ : ∃ q, q = ((bs.take 16).map bv).toArray := ⟨_, rfl⟩
  have hPs : PV.size = 16 := by rw [hPV]; simp; omega
  have hI : (Tryd.prog.info? 30).map (·.size) = some PV.size := by rw [hPs]; exact infoKz
  have hP1 : PV.all (·.oneCell') = true := by rw [hPV]; exact all_oneCell_toArray (bv_one _)
  have hg := heap_alloc_new w (.cells ZV 30)
  have hkey := key_yes (some ⟨b, o, none⟩) c _ (bs.take 16) (w.alloc (.cells ZV 30)) (hfr.lit _) (Nat.le_refl _)
  rw [← hPV] at hkey ⊢
  have HKEY := Lib.hid hkey
  have HG := Lib.hid hg
  have HI := Lib.hid hI
  have HP1 := Lib.hid hP1
  have HPS := Lib.hid hPs
  have HZL := Lib.hid hzl
  clear h hfr hZ hzl hPV hPs hI hP1 hg hkey hl
  go_enter Tryd.func38, Tryd.ntmps38
  go_wp2_with fail
  refine HKEY.out.mono ?_
  rintro e w2 ⟨rfl, hb2⟩
  have hlt : w.heap.size < w2.heap.size := by have := hb2.size; simp at this; omega
  have hg2 := (hb2.block w.heap.size (by simp)).trans HG.out
  have hg20 := (heap_alloc_old w2 (.cells ZV 30) hlt).trans hg2
  have hg21 := heap_alloc_new w2 (.cells ZV 30)
  have hB2 := below_seq (below_of_new w _) hb2
  have HG20 := Lib.hid hg20
  have HG21 := Lib.hid hg21
  have HB2 := Lib.hid hB2
  clear hg2 hg20 hg21 hb2 hB2
  have hne : w.heap.size ≠ w2.heap.size := by omega
  go_wp2_with (first
    | ((refine wpList_store_row rfl 30 (.tmp 3) (.tmp 9) rfl w2.heap.size PV rfl rfl 30 _ HG21.out HI.out (by rw [HZL.out, HPS.out]) HP1.out ?_)
       have hg31 := setRow_heap (w2.alloc (.cells ZV 30)) w2.heap.size _ PV _ _ HG21.out
       have hg30 := (setRow_other (w2.alloc (.cells ZV 30)) w2.heap.size w.heap.size PV hne).trans HG20.out)
    | (refine wpList_load_row rfl 30 (.tmp 3) rfl w2.heap.size rfl 30 PV (0, 0) _ hg31 Tryd.underlying30 rfl HI.out ?_)
    | (refine wpList_store_row rfl 30 (.tmp 2) (.tmp 11) rfl w.heap.size PV rfl rfl 30 _ hg30 HI.out (by rw [HZL.out, HPS.out]) HP1.out ?_)
    | fail)
  have hres := setRow_heap _ w.heap.size _ PV _ _ hg30
  refine bodyPost_ret (v := .agg PV) (results_cell_row Tryd.results38 _ _ w.heap.size 30 PV (0, 0) _ (by rfl) hres Tryd.underlying30 rfl HI.out) rfl ?_
  exact ⟨rfl, below_setRow (below_setRow (below_alloc HB2.out _) (by omega) _) (Nat.le_refl _) _⟩
end Go.Proofs.YtgebdkbbdabomaaDoor.Mac

/-
  THE CONTRACT of mac's Derive.
-/
namespace Go.Proofs.YtgebdkbbdabomaaDoor.Mac
open Go.RowKit
open Go.Proofs.YtgebdkbbdabomaaDoor.Kit
open Go.Proofs.YtgebdkbbdabomaaDoor.Oct
open Go.Proofs.YtgebdkbbdabomaaDoor.Sha
set_option linter.unusedVariables false

def derS (k l : List UInt8) : List UInt8 := (macS k (l ++ [0, 1])).take 16
theorem derS_len (k l : List UInt8) : (derS k l).length = 16 := by rw [derS, List.length_take, macS_len]; rfl
theorem rd_box {w : World} {t : TypeId} {bs : List UInt8} {n : Nat} (hn : bs.length = n) (hm : n ≤ 9223372036854775807) : RdB (w.alloc (.cells (bs.map bv).toArray t)) (w.alloc (.cells (bs.map bv).toArray t)).heap.size (some ⟨w.heap.size, 0, none⟩) n n bs := rd_block (heap_alloc_new w _) hn hm

set_option maxRecDepth 100000 in
set_option maxHeartbeats 1000000 in
theorem derive_any (k : List UInt8) (hk : k.length = 16) (s : ByteArray) (hs : s.size ≤ 1000000000) (w : World) (hR : Roots w) : Calls Tryd.prog 13 #[.agg (k.map bv).toArray, .string s] w fun e w' =>
    e = .returned (.agg ((derS k (strL s)).map bv).toArray) ∧ Below w.heap.size w w' := by
  obtain ⟨ZV, hZ⟩ : ∃ q, q = Z16 := ⟨_, rfl⟩
  have hz : ∀ w, (zeroValue 30).run Tryd.prog w = .ok (.agg ZV) w := by rw [hZ]; exact z16
  have hzl : ZV.size = 16 := by rw [hZ]; rfl
  obtain ⟨PV, hPV⟩ : ∃ q, q = ((derS k (strL s)).map bv).toArray := ⟨_, rfl⟩
  have hPs : PV.size = 16 := by rw [hPV]; simp [derS_len]
  have hI : (Tryd.prog.info? 30).map (·.size) = some PV.size := by rw [hPs]; exact infoKz
  have hP1 : PV.all (·.oneCell') = true := by rw [hPV]; exact all_oneCell_toArray (bv_one _)
  have hk0 := rd_box (w := w) (t := 30) hk (by omega)
  obtain ⟨KV, hKV⟩ : ∃ q, q = (k.map bv).toArray := ⟨_, rfl⟩
  have hKs : KV.size = 16 := by rw [hKV]; simp [hk]
  rw [← hKV] at hk0 ⊢
  obtain ⟨W2, hW2⟩ : ∃ q, q = (w.alloc (.cells KV 30)).alloc (.cells ZV 30) := ⟨_, rfl⟩
  have hb2 : Below w.heap.size w W2 := by rw [hW2]; exact below_alloc (below_of_new w _) _
  have hg2 : W2.heap[w.heap.size + 1]? = some (.cells ZV 30 (0, 0)) := by
    rw [hW2]
    have := heap_alloc_new (w.alloc (.cells KV 30)) (.cells ZV 30)
    rw [World.size_alloc] at this
    exact this
  have hk2 : RdB W2 W2.heap.size (some ⟨w.heap.size, 0, none⟩) 16 16 k := by rw [hW2]; exact hk0.lit _
  have hz2 : W2.heap.size = w.heap.size + 1 + 1 := by rw [hW2]; simp
  have kc := conv_str
  have hrs := rd_str W2 s (by unfold maxLen; omega)
  have hbs := below_str W2 s
  obtain ⟨W3, hW3⟩ : ∃ q, q = strW W2 s := ⟨_, rfl⟩
  rw [← hW3] at hrs hbs
  obtain ⟨c3, hc3⟩ : ∃ q, q = grownCap W2 s.size 0 5 := ⟨_, rfl⟩
  rw [← hc3] at hrs
  have hj : joinL [⟨some ⟨w.heap.size + 1 + 1, 0, none⟩, s.size, c3, strL s⟩, ⟨some ⟨W3.heap.size, 0, none⟩, 2, 2, [0, 1]⟩] = strL s ++ [0, 1] := by simp [joinL]
  have hsum := sum_any (some ⟨w.heap.size, 0, none⟩) 16 16 k (some ⟨W3.heap.size + 1, 0, none⟩) 2 2 [⟨some ⟨w.heap.size + 1 + 1, 0, none⟩, s.size, c3, strL s⟩, ⟨some ⟨W3.heap.size, 0, none⟩, 2, 2, [0, 1]⟩]
    ((W3.alloc (.cells #[.int .u8 0, .int .u8 1] 5)).alloc (.cells #[.slice (some ⟨w.heap.size + 1 + 1, 0, none⟩) s.size c3, .slice (some ⟨W3.heap.size, 0, none⟩) 2 2] 22))
    (((hk2.on hbs).lit _).lit _) (by omega) (rd_cells (n := 2) _ (by simp) rfl rfl (by omega))
    (by
      intro r hr
      simp only [List.mem_cons, List.not_mem_nil, or_false] at hr
      rcases hr with rfl | rfl
      · rw [hz2] at hrs
        exact (hrs.lit _).lit _
      · have := rd_lit' W3 (g := W3.heap.size) (n := 2) (e := 5) (arr := #[.int .u8 0, .int .u8 1]) (bs := [0, 1]) rfl rfl rfl (by omega)
        exact this.lit _)
    ((((hR.on hb2).on hbs).lit _).lit _) (by rw [hj, List.length_append, strL_len]; simp; omega)
  rw [hj] at hsum
  have hb3 : Below w.heap.size w W3 := below_seq hb2 hbs
  have hg3 := (hbs.block (w.heap.size + 1) (by omega)).trans hg2
  have HSUM := Lib.hid hsum
  have HG3 := Lib.hid hg3
  have HB3 := Lib.hid hb3
  have HI := Lib.hid hI
  have HP1 := Lib.hid hP1
  have HPS := Lib.hid hPs
  have HPV := Lib.hid hPV
  have HZL := Lib.hid hzl
  have HZ2 := Lib.hid hz2
  have HW2 := Lib.hid hW2
  have HW3 := Lib.hid hW3
  have HC3 := Lib.hid hc3
  clear hZ hk0 hKV hW2 hb2 hg2 hk2 hz2 hrs hbs hW3 hc3 hj hsum hb3 hg3 hI hP1 hPs hPV hzl hR
  go_enter Tryd.func13, Tryd.ntmps13
  go_wp2_with fail
  rw [← HW2.out, ← HC3.out, ← HW3.out]
  refine HSUM.out.mono ?_
  rintro e w4 ⟨A4, c4, rfl, hn4⟩
  have hb4 := below_seq HB3.out (below_seq ((below_of_new W3 _).alloc (by simp) _) hn4.bl)
  have hlt3 := block_lt_of_heap HG3.out
  have hg4 := ((below_seq ((below_of_new W3 _).alloc (by simp) _) hn4.bl).block (w.heap.size + 1) hlt3).trans HG3.out
  have HST := Lib.hid (start_any A4 c4 _ w4 hn4.rd)
  have HB4 := Lib.hid hb4
  have HG4 := Lib.hid hg4
  clear hn4 hb4 hg4
  go_wp2_with fail
  refine HST.out.mono ?_
  rintro e w5 ⟨rfl, hb5⟩
  have hlt4 := block_lt_of_heap HG4.out
  have hg5 := (hb5.block (w.heap.size + 1) hlt4).trans HG4.out
  have HB5 := Lib.hid (below_seq HB4.out hb5)
  have HG5 := Lib.hid hg5
  clear hb5 hg5
  have e5 : ((macS k (strL s ++ [0, 1])).take 16).map bv = (derS k (strL s)).map bv := rfl
  rw [e5, ← HPV.out]
  clear e5
  go_wp2_with (first
    | (refine wpList_store_row rfl 30 (.tmp 4) (.tmp 11) rfl (w.heap.size + 1) PV rfl rfl 30 _ HG5.out HI.out (by rw [HZL.out, HPS.out]) HP1.out ?_)
    | fail)
  have hres := setRow_heap _ (w.heap.size + 1) _ PV _ _ HG5.out
  refine bodyPost_ret (v := .agg PV) (results_cell_row Tryd.results13 _ _ (w.heap.size + 1) 30 PV (0, 0) _ (by rfl) hres Tryd.underlying30 rfl HI.out) rfl ?_
  exact ⟨by rw [HPV.out], below_setRow HB5.out (by omega) _⟩
end Go.Proofs.YtgebdkbbdabomaaDoor.Mac
