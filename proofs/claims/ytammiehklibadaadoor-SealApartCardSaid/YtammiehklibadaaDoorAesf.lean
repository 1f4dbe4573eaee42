/-
  THE CONTRACT of aes's substitutions.
-/
import Derived.Test.YtammiehklibadaaDoorAese
namespace Go.Proofs.YtammiehklibadaaDoor.Aes
open Go.RowKit
open Go.Proofs.YtammiehklibadaaDoor.Kit
set_option linter.unusedVariables false

theorem info256 : (Tryd.prog.info? 98).map (·.size) = some 256 := by kernel_rfl
def Z256 : Array Value := (List.replicate 256 (Value.int .u8 0)).toArray
def Z255 : Array Value := (List.replicate 255 (Value.int .u8 0)).toArray
theorem z256 (w : World) : (zeroValue 98).run Tryd.prog w = .ok (.agg Z256) w := by kernel_rfl
theorem z255 (w : World) : (zeroValue 110).run Tryd.prog w = .ok (.agg Z255) w := by kernel_rfl
theorem row_const (n : Nat) : (row (fun _ => 0) n).map bv = List.replicate n (Value.int .u8 0) := by
  apply List.ext_getElem (by simp [row_len])
  intro i h1 h2
  rw [List.getElem_map, row_get, List.getElem_replicate]; rfl
def A256 : Array Value := ((row sbN 256).map bv).toArray
theorem A256_size : A256.size = 256 := by simp [A256, row_len]
theorem A256_one : A256.all (·.oneCell') = true := agg_one sbN 256

set_option maxRecDepth 100000 in
set_option maxHeartbeats 2000000 in
theorem subs_any (w : World) : Calls Tryd.prog 71 #[] w fun e w' => e = .returned (.agg A256) ∧ Below w.heap.size w w' := by
  obtain ⟨ZV, hZ⟩ : ∃ q, q = Z256 := ⟨_, rfl⟩
  obtain ⟨ZP, hZp⟩ : ∃ q, q = Z255 := ⟨_, rfl⟩
  have hz : ∀ w, (zeroValue 98).run Tryd.prog w = .ok (.agg ZV) w := by rw [hZ]; exact z256
  have hzp : ∀ w, (zeroValue 110).run Tryd.prog w = .ok (.agg ZP) w := by rw [hZp]; exact z255
  have hzl : ZV.size = 256 := by rw [hZ]; simp [Z256]
  have hZr : ZV = ((row (fun _ => 0) 256).map bv).toArray := by rw [hZ, row_const, Z256]
  obtain ⟨PV, hPV⟩ : ∃ q, q = A256 := ⟨_, rfl⟩
  have hPs : PV.size = 256 := by rw [hPV, A256_size]
  have hI : (Tryd.prog.info? 98).map (·.size) = some PV.size := by rw [hPs]; exact info256
  have hP1 : PV.all (·.oneCell') = true := by rw [hPV, A256_one]
  have h3 := heap2 w (.cells ZV 98) (.cells ZP 110)
  have hsb : Arr ((w.alloc (.cells ZV 98)).alloc (.cells ZP 110)) (w.heap.size + 1) 110 (upto 0 pw (fun _ => 0)) 255 := by
    rw [upto_zero, Arr, h3.2, hZp, row_const, Z255]
  have H0 := Lib.hid (And.intro hsb h3.1)
  rw [← hPV]
  have HI := Lib.hid hI
  have HP1 := Lib.hid hP1
  have HPS := Lib.hid hPs
  have HPV := Lib.hid hPV
  have HZL := Lib.hid hzl
  have HZR := Lib.hid hZr
  clear hZ hZp hzl hPV hPs hI hP1 h3 hsb hZr
  go_enter Tryd.func71, Tryd.ntmps71
  go_wp2_with fail
  go_loopw [2, 3, 7] (fun p _ i wr => ∃ k : Nat, k ≤ 255 ∧ i = .int .i64 k ∧ p = .int .u8 ((pw k).toNat : Int) ∧ Arr wr (w.heap.size + 1) 110 (upto k pw (fun _ => 0)) 255 ∧ wr.heap[w.heap.size]? = some (.cells ZV 98 (0, 0)) ∧ Below w.heap.size w wr) (fun _ _ i _ => 255 - (intOf i).toNat)
  case atStart => exact ⟨0, by omega, rfl, rfl, H0.out.1, H0.out.2, below2 _ _ _⟩
  case round =>
    obtain ⟨k, hk, rfl, rfl, hga, hgz, hbw⟩ := hrel
    by_cases hlt : k < 255
    · obtain ⟨x, hx⟩ : ∃ x, x = pw k := ⟨_, rfl⟩
      obtain ⟨d, hd⟩ : ∃ u, u = dbl x := ⟨_, rfl⟩
      obtain ⟨v, hv⟩ : ∃ u, u = x ^^^ d := ⟨_, rfl⟩
      have y1 := xor_nm hv
      have hpn : pw (k + 1) = v := by rw [pw, ← hx, ← hd, ← hv]
      have l1 : (k : Int) < 255 := by omega
      have c1 := hga.cell hlt
      have f1 := hga.frozen k
      have hs1 : Arr (wr.setCell ⟨w.heap.size + 1, k, none⟩ (.int .u8 (x.toNat : Int))) (w.heap.size + 1) 110 (upto (k + 1) pw (fun _ => 0)) 255 := by
        have := hga.set hlt
        rw [← hx] at this
        exact this
      have hs3 : (wr.setCell ⟨w.heap.size + 1, k, none⟩ (.int .u8 (x.toNat : Int))).heap[w.heap.size]? = some (.cells ZV 98 (0, 0)) := (heap_setCell_other _ _ _ _ (by simp)).trans hgz
      have hs4 : Below w.heap.size w (wr.setCell ⟨w.heap.size + 1, k, none⟩ (.int .u8 (x.toNat : Int))) := hbw.setCell (by simp) _
      have hdb : ∀ W, Calls Tryd.prog 73 #[.int .u8 (x.toNat : Int)] W fun e w' => e = .returned (.int .u8 (d.toNat : Int)) ∧ W = w' := fun W => by
        rw [hd]; exact double_any x W
      rw [← hx]
      have HDB := Lib.hid hdb
      have HPN := Lib.hid hpn
      have HS1 := Lib.hid hs1
      have HS3 := Lib.hid hs3
      have HS4 := Lib.hid hs4
      clear hx hd hv hs1 hs3 hs4 hga hgz hbw hdb hpn
      go_wp2_with fail
      refine (HDB.out _).mono ?_
      rintro e w2 ⟨rfl, rfl⟩
      go_wp2_with fail
      go_roundw
      case rel => exact ⟨k + 1, by omega, by go_num, by rw [HPN.out], HS1.out, HS3.out, HS4.out⟩
      case measure => simp [intOf]; omega
    · obtain rfl : k = 255 := by omega
      have hgp : Arr wr (w.heap.size + 1) 110 pw 255 := hga.congr fun i hi => upto_lt _ _ hi
      obtain ⟨S, hS⟩ : ∃ S, S = wr.heap.size := ⟨_, rfl⟩
      have hlt1 : w.heap.size + 1 < S := by rw [hS]; exact hgp.lt
      obtain ⟨W1, hW1⟩ : ∃ q, q = wr.alloc (.cells ZV 98) := ⟨_, rfl⟩
      have hb1 : Below wr.heap.size wr W1 := by rw [hW1]; exact below_of_new _ _
      have hs1 : Arr W1 S 98 (fun _ => 0) 256 := by rw [Arr, hW1, hS, heap_alloc_new, HZR.out]
      have hs2 : Arr W1 (w.heap.size + 1) 110 pw 255 := hgp.on hb1 (by omega)
      have hs3 := (hb1.block w.heap.size (by omega)).trans hgz
      have hs4 : Below w.heap.size w W1 := hbw.trans (hb1.mono hbw.size)
      have c1 := hs1.cell (show 0 < 256 by omega)
      have f1 := hs1.frozen 0
      obtain ⟨s0, hs0⟩ : ∃ u, u = spr 0 := ⟨_, rfl⟩
      have hsp : ∀ W, Calls Tryd.prog 83 #[.int .u8 0] W fun e w' => e = .returned (.int .u8 (s0.toNat : Int)) ∧ W = w' := fun W => by
        rw [hs0]; exact spread_any 0 W
      have hs5 : Arr (W1.setCell ⟨S, 0, none⟩ (.int .u8 (s0.toNat : Int))) S 98 (tabK 0) 256 := by
        have := hs1.set' (show 0 < 256 by omega) s0
        rw [hs0] at this ⊢
        exact this
      have hs6 : Arr (W1.setCell ⟨S, 0, none⟩ (.int .u8 (s0.toNat : Int))) (w.heap.size + 1) 110 pw 255 := hs2.block (heap_setCell_other _ _ _ _ (by simp; omega))
      have hs7 : (W1.setCell ⟨S, 0, none⟩ (.int .u8 (s0.toNat : Int))).heap[w.heap.size]? = some (.cells ZV 98 (0, 0)) := (heap_setCell_other _ _ _ _ (by simp; omega)).trans hs3
      have hs8 : Below w.heap.size w (W1.setCell ⟨S, 0, none⟩ (.int .u8 (s0.toNat : Int))) := hs4.setCell (by simp; omega) _
      have HSP := Lib.hid hsp
      have HS5 := Lib.hid hs5
      have HS6 := Lib.hid hs6
      have HS7 := Lib.hid hs7
      have HS8 := Lib.hid hs8
      have HSS := Lib.hid hS
      have HW1 := Lib.hid hW1
      clear hs0 hsp hs1 hs2 hs3 hs4 hs5 hs6 hs7 hs8 hga hgz hgp hbw hb1 hS hW1
      go_wp2_with fail
      rw [← HSS.out, ← HW1.out]
      refine (HSP.out _).mono ?_
      rintro e w2 ⟨rfl, rfl⟩
      go_wp2_with fail
      clear c1 f1
      go_loopw [5, 6, 20] (fun _ _ i wr => ∃ k : Nat, k ≤ 255 ∧ i = .int .i64 k ∧ Arr wr S 98 (tabK k) 256 ∧ Arr wr (w.heap.size + 1) 110 pw 255 ∧ wr.heap[w.heap.size]? = some (.cells ZV 98 (0, 0)) ∧ Below w.heap.size w wr) (fun _ _ i _ => 255 - (intOf i).toNat)
      case atStart => exact ⟨0, by omega, rfl, HS5.out, HS6.out, HS7.out, HS8.out⟩
      case round =>
        clear HS5 HS6 HS7 HS8 HSS HW1 HSP
        obtain ⟨k, hk, rfl, hgs, hgp, hgz, hbw⟩ := hrel
        by_cases hlt : k < 255
        · obtain ⟨d, hd⟩ : ∃ q, q = 255 - k := ⟨_, rfl⟩
          obtain ⟨r, hr⟩ : ∃ q, q = d % 255 := ⟨_, rfl⟩
          have e1 : IntKind.i64.wrap (255 - (k : Int)) = (d : Int) := wrap_nm (by omega) (by omega)
          have e1' : 255 - (k : Int) = (d : Int) := by omega
          have e2 : (d : Int).tmod 255 = (r : Int) := tmod_nm hr
          have l1 : (r : Int) < 255 := by omega
          have l2 : (k : Int) < 255 := by omega
          obtain ⟨z, hz1⟩ : ∃ x, x = pw r := ⟨_, rfl⟩
          obtain ⟨x, hx⟩ : ∃ x, x = pw k := ⟨_, rfl⟩
          obtain ⟨y, hy⟩ : ∃ u, u = spr z := ⟨_, rfl⟩
          have c1 := hgp.cell (show r < 255 by omega)
          have c2 := hgp.cell hlt
          rw [← hz1] at c1
          rw [← hx] at c2
          have x256 := x.toNat_lt
          have l3 : (x.toNat : Int) < 256 := by omega
          have c3 := hgs.cell (show x.toNat < 256 by omega)
          have f3 := hgs.frozen x.toNat
          have hsp : ∀ W, Calls Tryd.prog 83 #[.int .u8 (z.toNat : Int)] W fun e w' => e = .returned (.int .u8 (y.toNat : Int)) ∧ w' = W := fun W => by
            rw [hy]; exact (spread_any z W).mono fun e w' h => ⟨h.1, h.2.symm⟩
          have hs1 : Arr (wr.setCell ⟨S, x.toNat, none⟩ (.int .u8 (y.toNat : Int))) S 98 (tabK (k + 1)) 256 := by
            refine (hgs.set' (show x.toNat < 256 by omega) y).congr fun i hi => ?_
            rw [tabK, ← hx, ← hd, ← hr, ← hz1, ← hy]
          have hs2 : Arr (wr.setCell ⟨S, x.toNat, none⟩ (.int .u8 (y.toNat : Int))) (w.heap.size + 1) 110 pw 255 := hgp.block (heap_setCell_other _ _ _ _ (by simp; omega))
          have hs3 : (wr.setCell ⟨S, x.toNat, none⟩ (.int .u8 (y.toNat : Int))).heap[w.heap.size]? = some (.cells ZV 98 (0, 0)) := (heap_setCell_other _ _ _ _ (by simp; omega)).trans hgz
          have hs4 : Below w.heap.size w (wr.setCell ⟨S, x.toNat, none⟩ (.int .u8 (y.toNat : Int))) := hbw.setCell (by simp; omega) _
          have HSP := Lib.hid hsp
          have HS1 := Lib.hid hs1
          have HS2 := Lib.hid hs2
          have HS3 := Lib.hid hs3
          have HS4 := Lib.hid (below_drew' hs4)
          clear hd hr hx hz1 hy hsp hs1 hs2 hs3 hs4 hgs hgp hgz hbw
          go_wp2_with fail
          refine wp_region_still_tail 6 (by kernel_rfl) (by kernel_rfl) ?_
          simp only [List.take_succ_cons, List.take_zero, List.drop_succ_cons, List.drop_zero]
          repeat still_step
          still_call (HSP.out _)
          repeat still_step
          refine wpStill_nil ?_
          go_wp2_with fail
          exact ⟨⟨k + 1, by omega, by go_num, HS1.out, HS2.out, HS3.out, HS4.out⟩, by simp [intOf]; omega⟩
        · obtain rfl : k = 255 := by omega
          have hg2 : wr.heap[S]? = some (.cells PV 98 (0, 0)) := by rw [HPV.out]; exact hgs
          clear hgs hgp
          go_wp2_with (first
            | (refine wpList_load_row rfl 98 (.tmp 4) rfl S rfl 98 PV (0, 0) _ hg2 Tryd.underlying98 rfl HI.out ?_)
            | (refine wpList_store_row rfl 98 (.tmp 0) (.tmp 35) rfl w.heap.size PV rfl rfl 98 _ hgz HI.out (by rw [HZL.out, HPS.out]) HP1.out ?_)
            | fail)
          have hres := setRow_heap _ w.heap.size _ PV _ _ hgz
          refine bodyPost_ret (v := .agg PV) (results_cell_row Tryd.results71 _ _ w.heap.size 98 PV (0, 0) _ (by rfl) hres Tryd.underlying98 rfl HI.out) rfl ?_
          exact ⟨rfl, below_setRow hbw (Nat.le_refl _) _⟩
end Go.Proofs.YtammiehklibadaaDoor.Aes
