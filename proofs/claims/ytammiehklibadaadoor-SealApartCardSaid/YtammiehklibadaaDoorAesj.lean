/-
  THE CONTRACT of aes's after.
-/
import Derived.Test.YtammiehklibadaaDoorAesi
namespace Go.Proofs.YtammiehklibadaaDoor.Aes
open Go.RowKit
open Go.Proofs.YtammiehklibadaaDoor.Kit
set_option linter.unusedVariables false

theorem aftK_succ (n : Nat → UInt8) (m j : Nat) : aftK n (m + 1) j = if j = m then n m + 1 else if n m + 1 = 0 then aftK n m j else n j := rfl
theorem aft_low (n : Nat → UInt8) (k : Nat) : ∀ m, k ≤ m → (∀ j, k ≤ j → j < m → n j + 1 = 0) → ∀ j, j < m → aftK n m j = if j < k then aftK n k j else 0 := by
  intro m
  induction m with
  | zero => intro _ _ j hj; omega
  | succ m ih =>
    intro hkm hz j hj
    by_cases hkm2 : k = m + 1
    · subst hkm2; rw [if_pos hj]
    · have hm := hz m (by omega) (by omega)
      rw [aftK_succ]
      by_cases hjm : j = m
      · rw [if_pos hjm, hm, if_neg (by omega)]
      · rw [if_neg hjm, if_pos hm]
        exact ih (by omega) (fun j h1 h2 => hz j h1 (by omega)) j (by omega)
theorem inc_u8 {x v : UInt8} (h : v = x + 1) : ((x.toNat : Int) + 1) % 256 = (v.toNat : Int) := by
  rw [h, UInt8.toNat_add]
  show ((x.toNat : Int) + 1) % 256 = (((x.toNat + 1) % 2 ^ 8 : Nat) : Int)
  omega

set_option maxRecDepth 100000 in
set_option maxHeartbeats 1000000 in
theorem after_any (n : Nat → UInt8) (w : World) : Calls Tryd.prog 76 #[.agg (A16 n)] w fun e w' => e = .returned (.agg (A16 (aft n))) ∧ Below w.heap.size w w' := by
  obtain ⟨ZV, hZ⟩ : ∃ q, q = Z16 := ⟨_, rfl⟩
  have hz : ∀ w, (zeroValue 32).run Tryd.prog w = .ok (.agg ZV) w := by rw [hZ]; exact z16
  have hzl : ZV.size = 16 := by rw [hZ]; rfl
  obtain ⟨BV, hBV⟩ : ∃ q, q = A16 n := ⟨_, rfl⟩
  obtain ⟨PV, hPV⟩ : ∃ q, q = A16 (aft n) := ⟨_, rfl⟩
  have hPs : PV.size = 16 := by rw [hPV, A16_size]
  have hI : (Tryd.prog.info? 32).map (·.size) = some PV.size := by rw [hPs]; exact info16
  have hP1 : PV.all (·.oneCell') = true := by rw [hPV, A16_one]
  have h3 := heap2 w (.cells BV 32) (.cells ZV 32)
  have hsb : Arr ((w.alloc (.cells BV 32)).alloc (.cells ZV 32)) w.heap.size 32 (fun j => if j < 16 then n j else 0) 16 := by
    have h : Arr ((w.alloc (.cells BV 32)).alloc (.cells ZV 32)) w.heap.size 32 n 16 := by rw [Arr, h3.1, hBV]; rfl
    exact h.congr fun i hi => by rw [if_pos hi]
  have H0 := Lib.hid (And.intro hsb h3.2)
  rw [← hBV, ← hPV]
  have HI := Lib.hid hI
  have HP1 := Lib.hid hP1
  have HPS := Lib.hid hPs
  have HPV := Lib.hid hPV
  have HZL := Lib.hid hzl
  clear hZ hzl hBV hPV hPs hI hP1 h3 hsb
  go_enter Tryd.func76, Tryd.ntmps76
  go_wp2_with fail
  go_loopw [3] (fun i wr => ∃ k : Nat, k ≤ 16 ∧ i = .int .i64 ((k : Int) - 1) ∧ (∀ j, k ≤ j → j < 16 → n j + 1 = 0) ∧ Arr wr w.heap.size 32 (fun j => if j < k then n j else 0) 16 ∧ wr.heap[w.heap.size + 1]? = some (.cells ZV 32 (0, 0)) ∧ Below w.heap.size w wr) (fun i _ => (intOf i + 1).toNat)
  case atStart => exact ⟨16, by omega, rfl, fun j h1 h2 => by omega, H0.out.1, H0.out.2, below2 _ _ _⟩
  case round =>
    obtain ⟨k, hk, rfl, hall, hga, hgz, hbw⟩ := hrel
    rcases k with _ | q
    · have e : aft n = aftK n 16 := rfl
      have hg2 : wr.heap[w.heap.size]? = some (.cells PV 32 (0, 0)) := by
        rw [HPV.out]
        exact hga.congr fun i hi => by rw [if_neg (by omega), e, aft_low n 0 16 (by omega) hall i hi, if_neg (by omega)]
      clear hga hall e
      go_wp2_with (first
        | (refine wpList_load_row rfl 32 (.tmp 1) rfl w.heap.size rfl 32 PV (0, 0) _ hg2 Tryd.underlying32 rfl HI.out ?_)
        | (refine wpList_store_row rfl 32 (.tmp 2) (.tmp 17) rfl (w.heap.size + 1) PV rfl rfl 32 _ hgz HI.out (by rw [HZL.out, HPS.out]) HP1.out ?_)
        | fail)
      have hres := setRow_heap _ (w.heap.size + 1) _ PV _ _ hgz
      refine bodyPost_ret (v := .agg PV) (results_cell_row Tryd.results76 _ _ (w.heap.size + 1) 32 PV (0, 0) _ (by rfl) hres Tryd.underlying32 rfl HI.out) rfl ?_
      exact ⟨rfl, below_setRow hbw (by omega) _⟩
    · rw [show (((q + 1 : Nat) : Int) - 1) = (q : Int) from by omega]
      have l1 : (q : Int) < 16 := by omega
      obtain ⟨x, hx⟩ : ∃ x, x = n q := ⟨_, rfl⟩
      obtain ⟨v, hv⟩ : ∃ u, u = x + 1 := ⟨_, rfl⟩
      have y1 := inc_u8 hv
      have y2 : IntKind.u8.wrap ((x.toNat : Int) + 1) = (v.toNat : Int) := by rw [← y1]; rfl
      have c1 := hga.cell (show q < 16 by omega)
      rw [if_pos (by omega), ← hx] at c1
      have f1 := hga.frozen q
      have hs1 := hga.set' (show q < 16 by omega) v
      have c2 := hs1.cell (show q < 16 by omega)
      rw [if_pos rfl] at c2
      have hs3 : (wr.setCell ⟨w.heap.size, q, none⟩ (.int .u8 (v.toNat : Int))).heap[w.heap.size + 1]? = some (.cells ZV 32 (0, 0)) := (heap_setCell_other _ _ _ _ (by simp)).trans hgz
      have hs4 : Below w.heap.size w (wr.setCell ⟨w.heap.size, q, none⟩ (.int .u8 (v.toNat : Int))) := hbw.setCell (Nat.le_refl _) _
      by_cases hv0 : v = 0
      · have t0 : ((v.toNat : Int) != 0) = false := by rw [hv0]; rfl
        have hs5 : Arr (wr.setCell ⟨w.heap.size, q, none⟩ (.int .u8 (v.toNat : Int))) w.heap.size 32 (fun j => if j < q then n j else 0) 16 := hs1.congr fun i hi => by
          by_cases h : i = q
          · rw [if_pos h, if_neg (by omega), hv0]
          · rw [if_neg h]
            by_cases h2 : i < q
            · rw [if_pos h2, if_pos (by omega)]
            · rw [if_neg h2, if_neg (by omega)]
        have hall2 : ∀ j, q ≤ j → j < 16 → n j + 1 = 0 := fun j h1 h2 => by
          by_cases h : j = q
          · rw [h, ← hx, ← hv, hv0]
          · exact hall j (by omega) h2
        have HS3 := Lib.hid hs3
        have HS4 := Lib.hid hs4
        have HS5 := Lib.hid hs5
        have HA2 := Lib.hid hall2
        clear hx hv hv0 hs1 hs3 hs4 hs5 hall2 hall hga hgz hbw
        go_wp2_with fail
        go_roundw
        case rel =>
          exact ⟨q, by omega, by first | rfl | go_num, HA2.out, HS5.out, HS3.out, HS4.out⟩
        case measure => first | (simp [intOf]; done) | (simp [intOf]; omega)
      · have t0 : ((v.toNat : Int) != 0) = true := by
          rw [bne_iff_ne]; intro h; apply hv0; rw [← UInt8.toNat_inj]; simpa using h
        have e : aft n = aftK n 16 := rfl
        have hg2 : (wr.setCell ⟨w.heap.size, q, none⟩ (.int .u8 (v.toNat : Int))).heap[w.heap.size]? = some (.cells PV 32 (0, 0)) := by
          rw [HPV.out]
          refine hs1.congr fun i hi => ?_
          rw [e, aft_low n (q + 1) 16 (by omega) hall i hi]
          by_cases h : i = q
          · rw [if_pos h, if_pos (by omega), aftK_succ, if_pos h, ← hx, ← hv]
          · rw [if_neg h]
            by_cases h2 : i < q + 1
            · rw [if_pos h2, if_pos h2, aftK_succ, if_neg h, ← hx, ← hv, if_neg hv0]
            · rw [if_neg h2, if_neg h2]
        have HG2 := Lib.hid hg2
        have HS3 := Lib.hid hs3
        have HS4 := Lib.hid hs4
        clear hx hv hv0 hs1 hs3 hs4 hall hga hgz hbw e hg2
        go_wp2_with (first
          | (refine wpList_load_row rfl 32 (.tmp 1) rfl w.heap.size rfl 32 PV (0, 0) _ HG2.out Tryd.underlying32 rfl HI.out ?_)
          | (refine wpList_store_row rfl 32 (.tmp 2) (.tmp 17) rfl (w.heap.size + 1) PV rfl rfl 32 _ HS3.out HI.out (by rw [HZL.out, HPS.out]) HP1.out ?_)
          | fail)
        have hres := setRow_heap _ (w.heap.size + 1) _ PV _ _ HS3.out
        refine bodyPost_ret (v := .agg PV) (results_cell_row Tryd.results76 _ _ (w.heap.size + 1) 32 PV (0, 0) _ (by rfl) hres Tryd.underlying32 rfl HI.out) rfl ?_
        exact ⟨rfl, below_setRow HS4.out (by omega) _⟩
end Go.Proofs.YtammiehklibadaaDoor.Aes
