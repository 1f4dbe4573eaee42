/-
  THE CONTRACT of aes's shifted.
-/
import Derived.Test.YtammiehklibadaaDoorAesb
namespace Go.Proofs.YtammiehklibadaaDoor.Aes
open Go.RowKit
open Go.Proofs.YtammiehklibadaaDoor.Kit
set_option linter.unusedVariables false

/-- the substitutions of a cipher in memory -/
def SubsAt (w : World) (G : Nat) : Prop := ∀ n, n < 256 → w.cell? ⟨G, 176 + n, none⟩ = some (.int .u8 ((sbN n).toNat : Int))
theorem SubsAt.lt {w : World} {G : Nat} (h : SubsAt w G) : G < w.heap.size := block_lt_of_cell (h 0 (by omega))
theorem SubsAt.on {w w' : World} {G B : Nat} (h : SubsAt w G) (hb : Below B w w') (hG : G < B) : SubsAt w' G := fun n hn => (hb.cell (p := ⟨G, 176 + n, none⟩) hG).trans (h n hn)

set_option maxRecDepth 100000 in
set_option maxHeartbeats 1000000 in
theorem shifted_any (G : Nat) (b : Nat → UInt8) (w : World) (hG : SubsAt w G) : Calls Tryd.prog 86 #[.pointer (some ⟨G, 0, none⟩), .agg (A16 b)] w fun e w' => e = .returned (.agg (A16 (shB b))) ∧ Below w.heap.size w w' := by
  obtain ⟨ZV, hZ⟩ : ∃ q, q = Z16 := ⟨_, rfl⟩
  have hz : ∀ w, (zeroValue 32).run Tryd.prog w = .ok (.agg ZV) w := by rw [hZ]; exact z16
  have hzl : ZV.size = 16 := by rw [hZ]; rfl
  obtain ⟨BV, hBV⟩ : ∃ q, q = A16 b := ⟨_, rfl⟩
  obtain ⟨PV, hPV⟩ : ∃ q, q = A16 (shB b) := ⟨_, rfl⟩
  have hPs : PV.size = 16 := by rw [hPV, A16_size]
  have hI : (Tryd.prog.info? 32).map (·.size) = some PV.size := by rw [hPs]; exact info16
  have hP1 : PV.all (·.oneCell') = true := by rw [hPV, A16_one]
  have h3 := heap3 w (.cells BV 32) (.cells ZV 32) (.cells ZV 32)
  have hsb : Arr (((w.alloc (.cells BV 32)).alloc (.cells ZV 32)).alloc (.cells ZV 32)) w.heap.size 32 b 16 := by
    rw [Arr, h3.1, hBV]; rfl
  have hst : Arr (((w.alloc (.cells BV 32)).alloc (.cells ZV 32)).alloc (.cells ZV 32)) (w.heap.size + 1 + 1) 32 (upto 0 (shB b) (fun _ => 0)) 16 := by
    rw [upto_zero, Arr, h3.2.2, hZ]; rfl
  have H0 := Lib.hid (And.intro hst (And.intro hsb h3.2.1))
  rw [← hBV, ← hPV]
  have HG := Lib.hid hG
  have HI := Lib.hid hI
  have HP1 := Lib.hid hP1
  have HPS := Lib.hid hPs
  have HPV := Lib.hid hPV
  have HZL := Lib.hid hzl
  have hGlt := hG.lt
  clear hZ hzl hBV hPV hPs hI hP1 h3 hst hsb hG
  go_enter Tryd.func86, Tryd.ntmps86
  go_wp2_with fail
  go_loopw [6, 7] (fun _ i wr => ∃ k : Nat, k ≤ 16 ∧ i = .int .i64 k ∧ Arr wr (w.heap.size + 1 + 1) 32 (upto k (shB b) (fun _ => 0)) 16 ∧ Arr wr w.heap.size 32 b 16 ∧ wr.heap[w.heap.size + 1]? = some (.cells ZV 32 (0, 0)) ∧ Below w.heap.size w wr) (fun _ i _ => 16 - (intOf i).toNat)
  case atStart => exact ⟨0, by omega, rfl, H0.out.1, H0.out.2.1, H0.out.2.2, below3 _ _ _ _⟩
  case round =>
    obtain ⟨k, hk, rfl, hgt, hgb, hgz, hbw⟩ := hrel
    by_cases hlt : k < 16
    · obtain ⟨m, hm⟩ : ∃ m, m = (k + 4 * (k % 4)) % 16 := ⟨_, rfl⟩
      have hm16 : m < 16 := by omega
      obtain ⟨x, hx⟩ : ∃ x, x = b m := ⟨_, rfl⟩
      obtain ⟨y, hy⟩ : ∃ y, y = sbN x.toNat := ⟨_, rfl⟩
      have hcb := hgb.cell hm16
      rw [← hx] at hcb
      have hx256 := x.toNat_lt
      have hcs := (HG.out.on hbw hGlt) x.toNat hx256
      rw [← hy] at hcs
      have hct := hgt.cell hlt
      have hft := hgt.frozen k
      have hT : shB b k = y := by rw [shB, ← hm, ← hx, sb, hy]
      obtain ⟨q1, hq1⟩ : ∃ q, q = k % 4 := ⟨_, rfl⟩
      obtain ⟨q2, hq2⟩ : ∃ q, q = 4 * q1 := ⟨_, rfl⟩
      obtain ⟨q3, hq3⟩ : ∃ q, q = k + q2 := ⟨_, rfl⟩
      have e1 : (k : Int).tmod 4 = (q1 : Int) := by rw [Int.tmod_eq_emod_of_nonneg (by omega)]; omega
      have e2 : IntKind.i64.wrap (4 * (q1 : Int)) = (q2 : Int) := by rw [IntKind.wrap_i64]; omega
      have e3 : IntKind.i64.wrap ((k : Int) + (q2 : Int)) = (q3 : Int) := by rw [IntKind.wrap_i64]; omega
      have e4 : (q3 : Int).tmod 16 = (m : Int) := by rw [Int.tmod_eq_emod_of_nonneg (by omega)]; omega
      have hs1 : Arr (wr.setCell ⟨w.heap.size + 1 + 1, k, none⟩ (.int .u8 (y.toNat : Int))) (w.heap.size + 1 + 1) 32 (upto (k + 1) (shB b) (fun _ => 0)) 16 := by
        have := hgt.set hlt
        rw [hT] at this
        exact this
      have hs2 : Arr (wr.setCell ⟨w.heap.size + 1 + 1, k, none⟩ (.int .u8 (y.toNat : Int))) w.heap.size 32 b 16 := hgb.block (heap_setCell_other _ _ _ _ (by simp; omega))
      have hs3 : (wr.setCell ⟨w.heap.size + 1 + 1, k, none⟩ (.int .u8 (y.toNat : Int))).heap[w.heap.size + 1]? = some (.cells ZV 32 (0, 0)) := (heap_setCell_other _ _ _ _ (by simp)).trans hgz
      have hs4 : Below w.heap.size w (wr.setCell ⟨w.heap.size + 1 + 1, k, none⟩ (.int .u8 (y.toNat : Int))) := hbw.setCell (by simp; omega) _
      have HS1 := Lib.hid hs1
      have HS2 := Lib.hid hs2
      have HS3 := Lib.hid hs3
      have HS4 := Lib.hid (below_drew' hs4)
      have hmI : (m : Int) < 16 := by omega
      have hxI : (x.toNat : Int) < 256 := by omega
      have hkI : (k : Int) < 16 := by omega
      clear hq1 hq2 hq3 hs1 hs2 hs3 hs4 hgt hgb hgz hx hy hT hm hbw
      go_wp2_with fail
      refine wp_region_still_tail 15 (by kernel_rfl) (by kernel_rfl) ?_
      simp only [List.take_succ_cons, List.take_zero, List.drop_succ_cons, List.drop_zero]
      repeat still_step
      refine wpStill_nil ?_
      go_wp2_with fail
      exact ⟨⟨k + 1, by omega, by go_num, HS1.out, HS2.out, HS3.out, HS4.out⟩, by simp [intOf]; omega⟩
    · obtain rfl : k = 16 := by omega
      rw [Arr, upto_all] at hgt
      have hg2 : wr.heap[w.heap.size + 1 + 1]? = some (.cells PV 32 (0, 0)) := by rw [HPV.out]; exact hgt
      clear hgt hgb
      go_wp2_with (first
        | (refine wpList_load_row rfl 32 (.tmp 5) rfl (w.heap.size + 1 + 1) rfl 32 PV (0, 0) _ hg2 Tryd.underlying32 rfl HI.out ?_)
        | (refine wpList_store_row rfl 32 (.tmp 4) (.tmp 26) rfl (w.heap.size + 1) PV rfl rfl 32 _ hgz HI.out (by rw [HZL.out, HPS.out]) HP1.out ?_)
        | fail)
      have hres := setRow_heap _ (w.heap.size + 1) _ PV _ _ hgz
      refine bodyPost_ret (v := .agg PV) (results_cell_row Tryd.results86 _ _ (w.heap.size + 1) 32 PV (0, 0) _ (by rfl) hres Tryd.underlying32 rfl HI.out) rfl ?_
      exact ⟨rfl, below_setRow hbw (by omega) _⟩
end Go.Proofs.YtammiehklibadaaDoor.Aes
