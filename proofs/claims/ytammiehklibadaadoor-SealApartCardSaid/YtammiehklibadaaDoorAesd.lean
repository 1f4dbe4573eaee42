/-
  THE CONTRACT of aes's mixed.
-/
import Derived.Test.YtammiehklibadaaDoorAesc
namespace Go.Proofs.YtammiehklibadaaDoor.Aes
open Go.RowKit
open Go.Proofs.YtammiehklibadaaDoor.Kit
set_option linter.unusedVariables false

theorem xor_nm {a b u : UInt8} (h : u = a ^^^ b) : bits .xor .u8 (a.toNat : Int) (b.toNat : Int) = (u.toNat : Int) := by rw [h]; exact xor_u8 a b
theorem wrap_nm {x : Int} {n : Nat} (h : x = (n : Int)) (hn : n < 9223372036854775808) : IntKind.i64.wrap x = (n : Int) := by rw [h, IntKind.wrap_i64]; omega
theorem tmod_nm {a m n : Nat} (h : n = a % m) : (a : Int).tmod (m : Int) = (n : Int) := by rw [h, Int.tmod_eq_emod_of_nonneg (by omega), Int.natCast_emod]

set_option maxRecDepth 100000 in
set_option maxHeartbeats 2000000 in
theorem mixed_any (b : Nat → UInt8) (w : World) : Calls Tryd.prog 87 #[.agg (A16 b)] w fun e w' => e = .returned (.agg (A16 (mixB b))) ∧ Below w.heap.size w w' := by
  obtain ⟨ZV, hZ⟩ : ∃ q, q = Z16 := ⟨_, rfl⟩
  have hz : ∀ w, (zeroValue 32).run Tryd.prog w = .ok (.agg ZV) w := by rw [hZ]; exact z16
  have hzl : ZV.size = 16 := by rw [hZ]; rfl
  obtain ⟨BV, hBV⟩ : ∃ q, q = A16 b := ⟨_, rfl⟩
  obtain ⟨PV, hPV⟩ : ∃ q, q = A16 (mixB b) := ⟨_, rfl⟩
  have hPs : PV.size = 16 := by rw [hPV, A16_size]
  have hI : (Tryd.prog.info? 32).map (·.size) = some PV.size := by rw [hPs]; exact info16
  have hP1 : PV.all (·.oneCell') = true := by rw [hPV, A16_one]
  have h3 := heap3 w (.cells BV 32) (.cells ZV 32) (.cells ZV 32)
  have hsb : Arr (((w.alloc (.cells BV 32)).alloc (.cells ZV 32)).alloc (.cells ZV 32)) w.heap.size 32 b 16 := by
    rw [Arr, h3.1, hBV]; rfl
  have hst : Arr (((w.alloc (.cells BV 32)).alloc (.cells ZV 32)).alloc (.cells ZV 32)) (w.heap.size + 1 + 1) 32 (upto 0 (mixB b) (fun _ => 0)) 16 := by
    rw [upto_zero, Arr, h3.2.2, hZ]; rfl
  have H0 := Lib.hid (And.intro hst (And.intro hsb h3.2.1))
  rw [← hBV, ← hPV]
  have HI := Lib.hid hI
  have HP1 := Lib.hid hP1
  have HPS := Lib.hid hPs
  have HPV := Lib.hid hPV
  have HZL := Lib.hid hzl
  clear hZ hzl hBV hPV hPs hI hP1 h3 hst hsb
  go_enter Tryd.func87, Tryd.ntmps87
  go_wp2_with fail
  go_loopw [4, 5, 6, 7, 8, 31] (fun _ _ _ _ i _ wr => ∃ k : Nat, k ≤ 4 ∧ i = .int .i64 k ∧ Arr wr (w.heap.size + 1 + 1) 32 (upto (4 * k) (mixB b) (fun _ => 0)) 16 ∧ Arr wr w.heap.size 32 b 16 ∧ wr.heap[w.heap.size + 1]? = some (.cells ZV 32 (0, 0)) ∧ Below w.heap.size w wr) (fun _ _ _ _ i _ _ => 4 - (intOf i).toNat)
  case atStart => exact ⟨0, by omega, rfl, H0.out.1, H0.out.2.1, H0.out.2.2, below3 _ _ _ _⟩
  case round =>
    obtain ⟨k, hk, rfl, hgt, hgb, hgz, hbw⟩ := hrel
    by_cases hlt : k < 4
    · have HG0 := Lib.hid (And.intro hgt (And.intro hgb (And.intro hgz hbw)))
      clear hgt hgb hgz hbw
      go_wp2_with fail
      obtain ⟨hgt, hgb, hgz, hbw⟩ := HG0.out
      obtain ⟨p, hp⟩ : ∃ p, p = 4 * k := ⟨_, rfl⟩
      rw [show (4 * (k : Int)) = (p : Int) from by omega]
      obtain ⟨p1, hp1⟩ : ∃ q, q = p + 1 := ⟨_, rfl⟩
      obtain ⟨p2, hp2⟩ : ∃ q, q = p + 2 := ⟨_, rfl⟩
      obtain ⟨p3, hp3⟩ : ∃ q, q = p + 3 := ⟨_, rfl⟩
      have e1 : IntKind.i64.wrap ((p : Int) + 1) = (p1 : Int) := wrap_nm (by omega) (by omega)
      have e2 : IntKind.i64.wrap ((p : Int) + 2) = (p2 : Int) := wrap_nm (by omega) (by omega)
      have e3 : IntKind.i64.wrap ((p : Int) + 3) = (p3 : Int) := wrap_nm (by omega) (by omega)
      have l0 : (p : Int) < 16 := by omega
      have l1 : (p1 : Int) < 16 := by omega
      have l2 : (p2 : Int) < 16 := by omega
      have l3 : (p3 : Int) < 16 := by omega
      obtain ⟨x0, hx0⟩ : ∃ x, x = b p := ⟨_, rfl⟩
      obtain ⟨x1, hx1⟩ : ∃ x, x = b p1 := ⟨_, rfl⟩
      obtain ⟨x2, hx2⟩ : ∃ x, x = b p2 := ⟨_, rfl⟩
      obtain ⟨x3, hx3⟩ : ∃ x, x = b p3 := ⟨_, rfl⟩
      have c0 := hgb.cell (show p < 16 by omega)
      have c1 := hgb.cell (show p1 < 16 by omega)
      have c2 := hgb.cell (show p2 < 16 by omega)
      have c3 := hgb.cell (show p3 < 16 by omega)
      rw [← hx0] at c0
      rw [← hx1] at c1
      rw [← hx2] at c2
      rw [← hx3] at c3
      obtain ⟨u1, hu1⟩ : ∃ u, u = x0 ^^^ x1 := ⟨_, rfl⟩
      obtain ⟨u2, hu2⟩ : ∃ u, u = u1 ^^^ x2 := ⟨_, rfl⟩
      obtain ⟨al, hal⟩ : ∃ u, u = u2 ^^^ x3 := ⟨_, rfl⟩
      have y1 := xor_nm hu1
      have y2 := xor_nm hu2
      have y3 := xor_nm hal
      have hall : al = allB b p := by rw [hal, hu2, hu1, hx0, hx1, hx2, hx3, hp1, hp2, hp3]; rfl
      have HALL := Lib.hid hall
      have HP := Lib.hid hp
      have HG := Lib.hid (And.intro hgt (And.intro hgb (And.intro hgz hbw)))
      clear hp hp1 hp2 hp3 hx0 hx1 hx2 hx3 hu1 hu2 hal hall hgt hgb hgz hbw
      refine wp_region_still_lit (by kernel_rfl) (by kernel_rfl) ?_
      repeat still_step
      refine wpStill_nil ?_
      clear e1 e2 e3 l1 l2 l3 c0 c1 c2 c3 y1 y2 y3
      have hp16 : p ≤ 12 := by have := HP.out; omega
      go_wp2_with fail
      obtain ⟨wo, hwo⟩ : ∃ wo : World, wo = wr := ⟨_, rfl⟩
      rw [← hwo] at HG
      go_loopw [7, 31] (fun _ i wr => ∃ j : Nat, j ≤ 4 ∧ i = .int .i64 j ∧ Arr wr (w.heap.size + 1 + 1) 32 (upto (p + j) (mixB b) (fun _ => 0)) 16 ∧ Arr wr w.heap.size 32 b 16 ∧ wr.heap[w.heap.size + 1]? = some (.cells ZV 32 (0, 0)) ∧ Below w.heap.size w wr) (fun _ i _ => 4 - (intOf i).toNat)
      case atStart =>
        rw [hwo] at HG
        exact ⟨0, by omega, rfl, by rw [HP.out]; exact HG.out.1, HG.out.2.1, HG.out.2.2.1, below_drew' HG.out.2.2.2⟩
      case round =>
        obtain ⟨j, hj, rfl, hgt, hgb, hgz, hbw⟩ := hrel
        clear hwo HG
        by_cases hlj : j < 4
        · obtain ⟨q1, hq1⟩ : ∃ q, q = p + j := ⟨_, rfl⟩
          obtain ⟨j1, hj1⟩ : ∃ q, q = j + 1 := ⟨_, rfl⟩
          obtain ⟨r, hr⟩ : ∃ q, q = j1 % 4 := ⟨_, rfl⟩
          obtain ⟨q3, hq3⟩ : ∃ q, q = p + r := ⟨_, rfl⟩
          have e1 : IntKind.i64.wrap ((p : Int) + (j : Int)) = (q1 : Int) := wrap_nm (by omega) (by omega)
          have e2 : IntKind.i64.wrap ((j : Int) + 1) = (j1 : Int) := wrap_nm (by omega) (by omega)
          have e3 : (j1 : Int).tmod 4 = (r : Int) := tmod_nm hr
          have e4 : IntKind.i64.wrap ((p : Int) + (r : Int)) = (q3 : Int) := wrap_nm (by omega) (by omega)
          have l1 : (q1 : Int) < 16 := by omega
          have l3 : (q3 : Int) < 16 := by omega
          obtain ⟨z1, hz1⟩ : ∃ x, x = b q1 := ⟨_, rfl⟩
          obtain ⟨z3, hz3⟩ : ∃ x, x = b q3 := ⟨_, rfl⟩
          have c1 := hgb.cell (show q1 < 16 by omega)
          have c3 := hgb.cell (show q3 < 16 by omega)
          rw [← hz1] at c1
          rw [← hz3] at c3
          have ft := hgt.frozen q1
          have ct := hgt.cell (show q1 < 16 by omega)
          obtain ⟨v1, hv1⟩ : ∃ u, u = z1 ^^^ al := ⟨_, rfl⟩
          obtain ⟨v2, hv2⟩ : ∃ u, u = z1 ^^^ z3 := ⟨_, rfl⟩
          obtain ⟨d, hd⟩ : ∃ u, u = dbl v2 := ⟨_, rfl⟩
          obtain ⟨v3, hv3⟩ : ∃ u, u = v1 ^^^ d := ⟨_, rfl⟩
          have y1 := xor_nm hv1
          have y2 := xor_nm hv2
          have y3 := xor_nm hv3
          have hdb : ∀ W, Calls Tryd.prog 73 #[.int .u8 (v2.toNat : Int)] W fun e w' => e = .returned (.int .u8 (d.toNat : Int)) ∧ w' = W := fun W => by
            rw [hd]
            exact (double_any v2 W).mono fun e w' h => ⟨h.1, h.2.symm⟩
          have HDB := Lib.hid hdb
          have HJ1 := Lib.hid hj1
          have hT : mixB b (p + j) = v3 := by
            rw [mixB, show (p + j) / 4 = k from by have := HP.out; omega, show (p + j) % 4 = j from by have := HP.out; omega, ← HP.out, mixAt, ← HALL.out, ← hq1, ← hj1, ← hr, ← hq3, ← hz1, ← hz3, ← hv1, ← hv2, ← hd, ← hv3]
          have hs1 : Arr (wr.setCell ⟨w.heap.size + 1 + 1, q1, none⟩ (.int .u8 (v3.toNat : Int))) (w.heap.size + 1 + 1) 32 (upto (p + (j + 1)) (mixB b) (fun _ => 0)) 16 := by
            have := hgt.set (show p + j < 16 by omega)
            rw [hT, ← hq1] at this
            rw [← Nat.add_assoc, ← hq1]
            exact this
          have hs2 : Arr (wr.setCell ⟨w.heap.size + 1 + 1, q1, none⟩ (.int .u8 (v3.toNat : Int))) w.heap.size 32 b 16 := hgb.block (heap_setCell_other _ _ _ _ (by simp; omega))
          have hs3 : (wr.setCell ⟨w.heap.size + 1 + 1, q1, none⟩ (.int .u8 (v3.toNat : Int))).heap[w.heap.size + 1]? = some (.cells ZV 32 (0, 0)) := (heap_setCell_other _ _ _ _ (by simp)).trans hgz
          have hs4 : Below w.heap.size w (wr.setCell ⟨w.heap.size + 1 + 1, q1, none⟩ (.int .u8 (v3.toNat : Int))) := hbw.setCell (by simp; omega) _
          have HS1 := Lib.hid hs1
          have HS2 := Lib.hid hs2
          have HS3 := Lib.hid hs3
          have HS4 := Lib.hid (below_drew' hs4)
          clear hq1 hj1 hr hq3 hz1 hz3 hv1 hv2 hd hv3 hdb hT hs1 hs2 hs3 hs4 hgt hgb hgz hbw
          go_wp2_with fail
          refine wp_region_still_tail 26 (by kernel_rfl) (by kernel_rfl) ?_
          simp only [List.take_succ_cons, List.take_zero, List.drop_succ_cons, List.drop_zero]
          repeat still_step
          still_call (HDB.out _)
          repeat still_step
          refine wpStill_nil ?_
          go_wp2_with fail
          have hj2 := HJ1.out
          exact ⟨⟨j1, by omega, rfl, by rw [hj2]; exact HS1.out, HS2.out, HS3.out, HS4.out⟩, by simp [intOf]; omega⟩
        · obtain rfl : j = 4 := by omega
          have HG4 := Lib.hid (show Arr wr (w.heap.size + 1 + 1) 32 (upto (4 * (k + 1)) (mixB b) (fun _ => 0)) 16 ∧ Arr wr w.heap.size 32 b 16 ∧ wr.heap[w.heap.size + 1]? = some (.cells ZV 32 (0, 0)) ∧ Below w.heap.size w wr from by
            rw [show 4 * (k + 1) = p + 4 from by have := HP.out; omega]
            exact ⟨hgt, hgb, hgz, hbw⟩)
          clear hgt hgb hgz hbw
          go_wp2_with fail
          exact ⟨⟨k + 1, by omega, by go_num, HG4.out.1, HG4.out.2.1, HG4.out.2.2.1, HG4.out.2.2.2⟩, by simp [intOf]; omega⟩
    · obtain rfl : k = 4 := by omega
      rw [Arr, show 4 * 4 = 16 from rfl, upto_all] at hgt
      have hg2 : wr.heap[w.heap.size + 1 + 1]? = some (.cells PV 32 (0, 0)) := by rw [HPV.out]; exact hgt
      clear hgt hgb
      go_wp2_with (first
        | (refine wpList_load_row rfl 32 (.tmp 3) rfl (w.heap.size + 1 + 1) rfl 32 PV (0, 0) _ hg2 Tryd.underlying32 rfl HI.out ?_)
        | (refine wpList_store_row rfl 32 (.tmp 2) (.tmp 62) rfl (w.heap.size + 1) PV rfl rfl 32 _ hgz HI.out (by rw [HZL.out, HPS.out]) HP1.out ?_)
        | fail)
      have hres := setRow_heap _ (w.heap.size + 1) _ PV _ _ hgz
      refine bodyPost_ret (v := .agg PV) (results_cell_row Tryd.results87 _ _ (w.heap.size + 1) 32 PV (0, 0) _ (by rfl) hres Tryd.underlying32 rfl HI.out) rfl ?_
      exact ⟨rfl, below_setRow hbw (by omega) _⟩
end Go.Proofs.YtammiehklibadaaDoor.Aes
