/-
  THE CONTRACT of aes's next.
-/
import Derived.Test.YtammiehklibadaaDoorAesd
namespace Go.Proofs.YtammiehklibadaaDoor.Aes
open Go.RowKit
open Go.Proofs.YtammiehklibadaaDoor.Kit
set_option linter.unusedVariables false

theorem below2 (w : World) (o1 o2 : Obj) : Below w.heap.size w ((w.alloc o1).alloc o2) := below_alloc (below_of_new w _) _
theorem heap2 (w : World) (o1 o2 : Obj) : ((w.alloc o1).alloc o2).heap[w.heap.size]? = some o1 ∧ ((w.alloc o1).alloc o2).heap[w.heap.size + 1]? = some o2 := by
  refine ⟨?_, ?_⟩
  · rw [heap_alloc_old _ _ (by simp)]; exact heap_alloc_new w o1
  · have := heap_alloc_new (w.alloc o1) o2
    rw [World.size_alloc] at this
    exact this
theorem Arr.congr {w : World} {g : Nat} {t : TypeId} {f f' : Nat → UInt8} {n : Nat} (h : Arr w g t f n) (e : ∀ i, i < n → f i = f' i) : Arr w g t f' n := by
  rw [Arr, ← row_congr e]; exact h

set_option maxRecDepth 100000 in
set_option maxHeartbeats 2000000 in
theorem next_any (G : Nat) (key : Nat → UInt8) (first : UInt8) (w : World) (hG : SubsAt w G) : Calls Tryd.prog 72 #[.pointer (some ⟨G, 0, none⟩), .agg (A16 key), .int .u8 (first.toNat : Int)] w fun e w' => e = .returned (.agg (A16 (nx key first))) ∧ Below w.heap.size w w' := by
  obtain ⟨ZV, hZ⟩ : ∃ q, q = Z16 := ⟨_, rfl⟩
  have hz : ∀ w, (zeroValue 32).run Tryd.prog w = .ok (.agg ZV) w := by rw [hZ]; exact z16
  have hzl : ZV.size = 16 := by rw [hZ]; rfl
  obtain ⟨BV, hBV⟩ : ∃ q, q = A16 key := ⟨_, rfl⟩
  obtain ⟨PV, hPV⟩ : ∃ q, q = A16 (nx key first) := ⟨_, rfl⟩
  have hPs : PV.size = 16 := by rw [hPV, A16_size]
  have hI : (Tryd.prog.info? 32).map (·.size) = some PV.size := by rw [hPs]; exact info16
  have hP1 : PV.all (·.oneCell') = true := by rw [hPV, A16_one]
  have h3 := heap2 w (.cells BV 32) (.cells ZV 32)
  have hsb : Arr ((w.alloc (.cells BV 32)).alloc (.cells ZV 32)) w.heap.size 32 (upto 0 (nx0 key) key) 16 := by
    rw [upto_zero, Arr, h3.1, hBV]; rfl
  have H0 := Lib.hid (And.intro hsb h3.2)
  rw [← hBV, ← hPV]
  have HSG := Lib.hid hG
  have HI := Lib.hid hI
  have HP1 := Lib.hid hP1
  have HPS := Lib.hid hPs
  have HPV := Lib.hid hPV
  have HZL := Lib.hid hzl
  have hGlt := hG.lt
  clear hZ hzl hBV hPV hPs hI hP1 h3 hsb hG
  go_enter Tryd.func72, Tryd.ntmps72
  go_wp2_with fail
  go_loopw [7, 9] (fun _ i wr => ∃ k : Nat, k ≤ 4 ∧ i = .int .i64 k ∧ Arr wr w.heap.size 32 (upto k (nx0 key) key) 16 ∧ wr.heap[w.heap.size + 1]? = some (.cells ZV 32 (0, 0)) ∧ Below w.heap.size w wr) (fun _ i _ => 4 - (intOf i).toNat)
  case atStart => exact ⟨0, by omega, rfl, H0.out.1, H0.out.2, below2 _ _ _⟩
  case round =>
    obtain ⟨k, hk, rfl, hga, hgz, hbw⟩ := hrel
    by_cases hlt : k < 4
    · obtain ⟨k1, hk1⟩ : ∃ q, q = k + 1 := ⟨_, rfl⟩
      obtain ⟨r, hr⟩ : ∃ q, q = k1 % 4 := ⟨_, rfl⟩
      obtain ⟨q, hq⟩ : ∃ q, q = 12 + r := ⟨_, rfl⟩
      have e1 : IntKind.i64.wrap ((k : Int) + 1) = (k1 : Int) := wrap_nm (by omega) (by omega)
      have e2 : (k1 : Int).tmod 4 = (r : Int) := tmod_nm hr
      have e3 : IntKind.i64.wrap (12 + (r : Int)) = (q : Int) := wrap_nm (by omega) (by omega)
      have l1 : (k : Int) < 16 := by omega
      have l2 : (q : Int) < 16 := by omega
      obtain ⟨x, hx⟩ : ∃ x, x = key k := ⟨_, rfl⟩
      obtain ⟨z, hz1⟩ : ∃ x, x = key q := ⟨_, rfl⟩
      obtain ⟨y, hy⟩ : ∃ x, x = sbN z.toNat := ⟨_, rfl⟩
      obtain ⟨v, hv⟩ : ∃ u, u = x ^^^ y := ⟨_, rfl⟩
      have y1 := xor_nm hv
      have z256 := z.toNat_lt
      have l3 : (z.toNat : Int) < 256 := by omega
      have c1 := hga.cell (show k < 16 by omega)
      have c2 := hga.cell (show q < 16 by omega)
      rw [upto_ge _ _ (Nat.le_refl _), ← hx] at c1
      rw [upto_ge _ _ (by omega), ← hz1] at c2
      have c3 := (HSG.out.on hbw hGlt) z.toNat z256
      rw [← hy] at c3
      have f1 := hga.frozen k
      have hT : nx0 key k = v := by rw [nx0, ← hk1, ← hr, ← hq, ← hx, ← hz1, sb, ← hy, ← hv]
      have hs1 : Arr (wr.setCell ⟨w.heap.size, k, none⟩ (.int .u8 (v.toNat : Int))) w.heap.size 32 (upto (k + 1) (nx0 key) key) 16 := by
        have := hga.set (show k < 16 by omega)
        rw [hT] at this
        exact this
      have hs3 : (wr.setCell ⟨w.heap.size, k, none⟩ (.int .u8 (v.toNat : Int))).heap[w.heap.size + 1]? = some (.cells ZV 32 (0, 0)) := (heap_setCell_other _ _ _ _ (by simp)).trans hgz
      have hs4 : Below w.heap.size w (wr.setCell ⟨w.heap.size, k, none⟩ (.int .u8 (v.toNat : Int))) := hbw.setCell (Nat.le_refl _) _
      have HS1 := Lib.hid hs1
      have HS3 := Lib.hid hs3
      have HS4 := Lib.hid (below_drew' hs4)
      have HK1 := Lib.hid hk1
      clear hk1 hr hq hx hz1 hy hv hT hs1 hs3 hs4 hga hgz hbw
      go_wp2_with fail
      refine wp_region_still_tail 16 (by kernel_rfl) (by kernel_rfl) ?_
      simp only [List.take_succ_cons, List.take_zero, List.drop_succ_cons, List.drop_zero]
      repeat still_step
      refine wpStill_nil ?_
      go_wp2_with fail
      have hk2 := HK1.out
      exact ⟨⟨k1, by omega, rfl, by rw [hk2]; exact HS1.out, HS3.out, HS4.out⟩, by simp [intOf]; omega⟩
    · obtain rfl : k = 4 := by omega
      obtain ⟨x, hx⟩ : ∃ x, x = nx0 key 0 := ⟨_, rfl⟩
      obtain ⟨v, hv⟩ : ∃ u, u = x ^^^ first := ⟨_, rfl⟩
      have y1 := xor_nm hv
      have c1 := hga.cell (show 0 < 16 by omega)
      rw [upto_lt _ _ (by omega), ← hx] at c1
      have f1 := hga.frozen 0
      have hs1 : Arr (wr.setCell ⟨w.heap.size, 0, none⟩ (.int .u8 (v.toNat : Int))) w.heap.size 32 (upto 4 (nx key first) key) 16 := by
        refine (hga.set' (show 0 < 16 by omega) v).congr fun i hi => ?_
        by_cases h0 : i = 0
        · rw [if_pos h0, h0, upto_lt _ _ (by omega), nx_low _ _ (by omega), if_pos rfl, ← hx, ← hv]
        · rw [if_neg h0]
          by_cases h4 : i < 4
          · rw [upto_lt _ _ h4, upto_lt _ _ h4, nx_low _ _ h4, if_neg h0]
          · rw [upto_ge _ _ (by omega), upto_ge _ _ (by omega)]
      have hs3 : (wr.setCell ⟨w.heap.size, 0, none⟩ (.int .u8 (v.toNat : Int))).heap[w.heap.size + 1]? = some (.cells ZV 32 (0, 0)) := (heap_setCell_other _ _ _ _ (by simp)).trans hgz
      have hs4 : Below w.heap.size w (wr.setCell ⟨w.heap.size, 0, none⟩ (.int .u8 (v.toNat : Int))) := hbw.setCell (Nat.le_refl _) _
      have HS1 := Lib.hid hs1
      have HS3 := Lib.hid hs3
      have HS4 := Lib.hid hs4
      clear hx hv hs1 hs3 hs4 hga hgz hbw
      go_wp2_with fail
      go_loopw [8] (fun i wr => ∃ k : Nat, 4 ≤ k ∧ k ≤ 16 ∧ i = .int .i64 k ∧ Arr wr w.heap.size 32 (upto k (nx key first) key) 16 ∧ wr.heap[w.heap.size + 1]? = some (.cells ZV 32 (0, 0)) ∧ Below w.heap.size w wr) (fun i _ => 16 - (intOf i).toNat)
      case atStart => exact ⟨4, by omega, by omega, rfl, HS1.out, HS3.out, HS4.out⟩
      case round =>
        obtain ⟨k, hk4, hk, rfl, hga, hgz, hbw⟩ := hrel
        clear c1 f1 y1
        by_cases hlt : k < 16
        · obtain ⟨q, hq⟩ : ∃ q, q = k - 4 := ⟨_, rfl⟩
          have e1 : IntKind.i64.wrap ((k : Int) - 4) = (q : Int) := wrap_nm (by omega) (by omega)
          have l1 : (k : Int) < 16 := by omega
          have l2 : (q : Int) < 16 := by omega
          obtain ⟨x, hx⟩ : ∃ x, x = key k := ⟨_, rfl⟩
          obtain ⟨y, hy⟩ : ∃ x, x = nx key first q := ⟨_, rfl⟩
          obtain ⟨v, hv⟩ : ∃ u, u = x ^^^ y := ⟨_, rfl⟩
          have y1 := xor_nm hv
          have c1 := hga.cell (show k < 16 by omega)
          have c2 := hga.cell (show q < 16 by omega)
          rw [upto_ge _ _ (Nat.le_refl _), ← hx] at c1
          rw [upto_lt _ _ (by omega), ← hy] at c2
          have f1 := hga.frozen k
          have hT : nx key first k = v := by rw [nx_step _ _ hk4, ← hq, ← hx, ← hy, ← hv]
          have hs1 : Arr (wr.setCell ⟨w.heap.size, k, none⟩ (.int .u8 (v.toNat : Int))) w.heap.size 32 (upto (k + 1) (nx key first) key) 16 := by
            have := hga.set hlt
            rw [hT] at this
            exact this
          have hs3 : (wr.setCell ⟨w.heap.size, k, none⟩ (.int .u8 (v.toNat : Int))).heap[w.heap.size + 1]? = some (.cells ZV 32 (0, 0)) := (heap_setCell_other _ _ _ _ (by simp)).trans hgz
          have hs4 : Below w.heap.size w (wr.setCell ⟨w.heap.size, k, none⟩ (.int .u8 (v.toNat : Int))) := hbw.setCell (Nat.le_refl _) _
          have HS1 := Lib.hid hs1
          have HS3 := Lib.hid hs3
          have HS4 := Lib.hid (below_drew' hs4)
          clear hq hx hy hv hT hs1 hs3 hs4 hga hgz hbw
          go_wp2_with fail
          refine wp_region_still_tail 9 (by kernel_rfl) (by kernel_rfl) ?_
          simp only [List.take_succ_cons, List.take_zero, List.drop_succ_cons, List.drop_zero]
          repeat still_step
          refine wpStill_nil ?_
          go_wp2_with fail
          go_roundw
          case rel =>
            repeat apply Exists.intro
            refine ⟨?_, rfl⟩
            exact ⟨k + 1, by omega, by omega, by go_num, HS1.out, HS3.out, HS4.out⟩
          case measure => simp [intOf]; omega
        · obtain rfl : k = 16 := by omega
          rw [Arr, upto_all] at hga
          have hg2 : wr.heap[w.heap.size]? = some (.cells PV 32 (0, 0)) := by rw [HPV.out]; exact hga
          clear hga
          go_wp2_with (first
            | (refine wpList_load_row rfl 32 (.tmp 4) rfl w.heap.size rfl 32 PV (0, 0) _ hg2 Tryd.underlying32 rfl HI.out ?_)
            | (refine wpList_store_row rfl 32 (.tmp 6) (.tmp 47) rfl (w.heap.size + 1) PV rfl rfl 32 _ hgz HI.out (by rw [HZL.out, HPS.out]) HP1.out ?_)
            | fail)
          have hres := setRow_heap _ (w.heap.size + 1) _ PV _ _ hgz
          refine bodyPost_ret (v := .agg PV) (results_cell_row Tryd.results72 _ _ (w.heap.size + 1) 32 PV (0, 0) _ (by rfl) hres Tryd.underlying32 rfl HI.out) rfl ?_
          exact ⟨rfl, below_setRow hbw (by omega) _⟩
end Go.Proofs.YtammiehklibadaaDoor.Aes
