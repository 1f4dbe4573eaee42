/-
  THE CONTRACT of aes's sum.
-/
import Derived.Test.YtammiehklibadaaDoorAesa
import Derived.StillTailTactics
namespace Go.Proofs.YtammiehklibadaaDoor.Aes
open Go.RowKit
open Go.Proofs.YtammiehklibadaaDoor.Kit
set_option linter.unusedVariables false

/-- sixteen bytes as a value -/
def A16 (f : Nat → UInt8) : Array Value := ((row f 16).map bv).toArray
theorem A16_size (f : Nat → UInt8) : (A16 f).size = 16 := by simp [A16, row_len]
theorem A16_one (f : Nat → UInt8) : (A16 f).all (·.oneCell') = true := agg_one f 16
theorem A16_info (f : Nat → UInt8) : (Tryd.prog.info? 32).map (·.size) = some (A16 f).size := by rw [A16_size]; exact info16
def Z16 : Array Value := (List.replicate 16 (Value.int .u8 0)).toArray
theorem z16 (w : World) : (zeroValue 32).run Tryd.prog w = .ok (.agg Z16) w := by kernel_rfl
theorem Z16_eq : Z16 = A16 (fun _ => 0) := rfl
theorem heap3 (w : World) (o1 o2 o3 : Obj) : (((w.alloc o1).alloc o2).alloc o3).heap[w.heap.size]? = some o1 ∧ (((w.alloc o1).alloc o2).alloc o3).heap[w.heap.size + 1]? = some o2 ∧ (((w.alloc o1).alloc o2).alloc o3).heap[w.heap.size + 1 + 1]? = some o3 := by
  refine ⟨?_, ?_, ?_⟩
  · rw [heap_alloc_old _ _ (by simp; omega), heap_alloc_old _ _ (by simp)]; exact heap_alloc_new w o1
  · rw [heap_alloc_old _ _ (by simp)]
    have := heap_alloc_new (w.alloc o1) o2
    rw [World.size_alloc] at this
    exact this
  · have := heap_alloc_new ((w.alloc o1).alloc o2) o3
    rw [World.size_alloc, World.size_alloc] at this
    exact this
theorem below3 (w : World) (o1 o2 o3 : Obj) : Below w.heap.size w (((w.alloc o1).alloc o2).alloc o3) := below_alloc (below_alloc (below_of_new w _) _) _
theorem below_drew' {B : Nat} {w w' : World} (h : Below B w w') : Below B w w'.drew := h.trans (below_of_drew ⟨1, rfl⟩ _)

set_option maxRecDepth 100000 in
set_option maxHeartbeats 1000000 in
theorem sum_any (a b : Nat → UInt8) (w : World) : Calls Tryd.prog 85 #[.agg (A16 a), .agg (A16 b)] w fun e w' => e = .returned (.agg (A16 (sumB a b))) ∧ Below w.heap.size w w' := by
  obtain ⟨ZV, hZ⟩ : ∃ q, q = Z16 := ⟨_, rfl⟩
  have hz : ∀ w, (zeroValue 32).run Tryd.prog w = .ok (.agg ZV) w := by rw [hZ]; exact z16
  have hzl : ZV.size = 16 := by rw [hZ]; rfl
  obtain ⟨AV, hAV⟩ : ∃ q, q = A16 a := ⟨_, rfl⟩
  obtain ⟨BV, hBV⟩ : ∃ q, q = A16 b := ⟨_, rfl⟩
  obtain ⟨PV, hPV⟩ : ∃ q, q = A16 (sumB a b) := ⟨_, rfl⟩
  have hPs : PV.size = 16 := by rw [hPV, A16_size]
  have hI : (Tryd.prog.info? 32).map (·.size) = some PV.size := by rw [hPs]; exact info16
  have hP1 : PV.all (·.oneCell') = true := by rw [hPV, A16_one]
  have h3 := heap3 w (.cells AV 32) (.cells BV 32) (.cells ZV 32)
  have hst : Arr (((w.alloc (.cells AV 32)).alloc (.cells BV 32)).alloc (.cells ZV 32)) w.heap.size 32 (upto 0 (sumB a b) a) 16 := by
    rw [upto_zero, Arr, h3.1, hAV]; rfl
  have hsb : Arr (((w.alloc (.cells AV 32)).alloc (.cells BV 32)).alloc (.cells ZV 32)) (w.heap.size + 1) 32 b 16 := by
    rw [Arr, h3.2.1, hBV]; rfl
  have H0 := Lib.hid (And.intro hst (And.intro hsb h3.2.2))
  rw [← hAV, ← hBV, ← hPV]
  have HI := Lib.hid hI
  have HP1 := Lib.hid hP1
  have HPS := Lib.hid hPs
  have HPV := Lib.hid hPV
  have HZL := Lib.hid hzl
  clear hZ hzl hAV hBV hPV hPs hI hP1 h3 hst hsb
  go_enter Tryd.func85, Tryd.ntmps85
  go_wp2_with fail
  go_loopw [5, 6] (fun _ i wr => ∃ k : Nat, k ≤ 16 ∧ i = .int .i64 k ∧ Arr wr w.heap.size 32 (upto k (sumB a b) a) 16 ∧ Arr wr (w.heap.size + 1) 32 b 16 ∧ wr.heap[w.heap.size + 1 + 1]? = some (.cells ZV 32 (0, 0)) ∧ Below w.heap.size w wr) (fun _ i _ => 16 - (intOf i).toNat)
  case atStart => exact ⟨0, by omega, rfl, H0.out.1, H0.out.2.1, H0.out.2.2, below3 _ _ _ _⟩
  case round =>
    obtain ⟨k, hk, rfl, hga, hgb, hgz, hbw⟩ := hrel
    by_cases hlt : k < 16
    · obtain ⟨x, hx⟩ : ∃ x, x = a k := ⟨_, rfl⟩
      obtain ⟨y, hy⟩ : ∃ y, y = b k := ⟨_, rfl⟩
      have hca := hga.cell hlt
      rw [upto_ge _ _ (Nat.le_refl _), ← hx] at hca
      have hcb := hgb.cell hlt
      rw [← hy] at hcb
      have hfa := hga.frozen k
      have hxor := xor_u8 x y
      have hs1 : Arr (wr.setCell ⟨w.heap.size, k, none⟩ (.int .u8 ((x ^^^ y).toNat : Int))) w.heap.size 32 (upto (k + 1) (sumB a b) a) 16 := by
        have := hga.set hlt
        rw [sumB, ← hx, ← hy] at this
        exact this
      have hs2 : Arr (wr.setCell ⟨w.heap.size, k, none⟩ (.int .u8 ((x ^^^ y).toNat : Int))) (w.heap.size + 1) 32 b 16 := hgb.block (heap_setCell_other _ _ _ _ (by simp))
      have hs3 : (wr.setCell ⟨w.heap.size, k, none⟩ (.int .u8 ((x ^^^ y).toNat : Int))).heap[w.heap.size + 1 + 1]? = some (.cells ZV 32 (0, 0)) := (heap_setCell_other _ _ _ _ (by simp; omega)).trans hgz
      have hs4 : Below w.heap.size w (wr.setCell ⟨w.heap.size, k, none⟩ (.int .u8 ((x ^^^ y).toNat : Int))) := hbw.setCell (Nat.le_refl _) _
      have HS1 := Lib.hid hs1
      have HS2 := Lib.hid hs2
      have HS3 := Lib.hid hs3
      have HS4 := Lib.hid (below_drew' hs4)
      clear hs1 hs2 hs3 hs4 hga hgb hgz hx hy hbw
      simp only [UInt8.toNat_xor] at HS1 HS2 HS3 HS4 hxor
      go_wp2_with fail
      refine wp_region_still_tail 8 (by kernel_rfl) (by kernel_rfl) ?_
      simp only [List.take_succ_cons, List.take_zero, List.drop_succ_cons, List.drop_zero]
      repeat still_step
      refine wpStill_nil ?_
      go_wp2_with fail
      exact ⟨⟨k + 1, by omega, by go_num, HS1.out, HS2.out, HS3.out, HS4.out⟩, by simp [intOf]; omega⟩
    · obtain rfl : k = 16 := by omega
      rw [Arr, upto_all] at hga
      have hg2 : wr.heap[w.heap.size]? = some (.cells PV 32 (0, 0)) := by rw [HPV.out]; exact hga
      clear hga hgb
      go_wp2_with (first
        | (refine wpList_load_row rfl 32 (.tmp 2) rfl w.heap.size rfl 32 PV (0, 0) _ hg2 Tryd.underlying32 rfl HI.out ?_)
        | (refine wpList_store_row rfl 32 (.tmp 4) (.tmp 18) rfl (w.heap.size + 1 + 1) PV rfl rfl 32 _ hgz HI.out (by rw [HZL.out, HPS.out]) HP1.out ?_)
        | fail)
      have hres := setRow_heap _ (w.heap.size + 1 + 1) _ PV _ _ hgz
      refine bodyPost_ret (v := .agg PV) (results_cell_row Tryd.results85 _ _ (w.heap.size + 1 + 1) 32 PV (0, 0) _ (by rfl) hres Tryd.underlying32 rfl HI.out) rfl ?_
      exact ⟨rfl, below_setRow hbw (by omega) _⟩
end Go.Proofs.YtammiehklibadaaDoor.Aes
