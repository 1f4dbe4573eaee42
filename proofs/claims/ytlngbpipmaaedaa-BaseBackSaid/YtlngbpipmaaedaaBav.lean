/-
  base: where a name stands (the closure, slices.IndexFunc, place), New, lives.
-/
import Derived.Test.YtlngbpipmaaedaaBau
import Derived.Deep.Onto
import Derived.BigCall
import Derived.Lib.Hide
namespace Go.Proofs.Ytlngbpipmaaedaa.Ba
open Go.RowKit
open Go.Proofs.Ytlngbpipmaaedaa.Kit
set_option linter.unusedVariables false

/-- the closure: is this the name? -/
theorem clos_any {w : World} {p : Nat} {u : Us} {s : ByteArray} (hu : u.key.length = 16) (hp : w.cell? ⟨p, 0, none⟩ = some (.string s)) :
    Calls Try.prog 34 #[.agg u.arr, .pointer (some ⟨p, 0, none⟩)] w fun e w' => e = .returned (.bool (decide (u.nm = s))) ∧ Below w.heap.size w w' := by
  have k3 := bs_eq u.nm s
  obtain ⟨V, hV⟩ : ∃ z, z = decide (u.nm = s) := ⟨_, rfl⟩
  rw [← hV] at k3 ⊢
  obtain ⟨UV, hUV⟩ : ∃ z, z = u.arr := ⟨_, rfl⟩
  have hU20 : UV.size = 20 := by rw [hUV]; exact Us.size hu
  obtain ⟨W1, hW1⟩ : ∃ q, q = w.alloc (.cells UV 30) := ⟨_, rfl⟩
  have hb : Below w.heap.size w W1 := by rw [hW1]; exact below_of_new _ _
  have hr : W1.heap[w.heap.size]? = some (.cells UV 30 (0, 0)) := by rw [hW1]; exact heap_alloc_new _ _
  have c0 : W1.cell? ⟨w.heap.size, 0, none⟩ = some (.string u.nm) := by rw [cell_of_row _ _ _ _ _ _ hr, hUV]; rfl
  have hpl : p < w.heap.size := World.block_lt_of_cell? w _ hp
  have c1 : W1.cell? ⟨p, 0, none⟩ = some (.string s) := (hb.cell (p := ⟨p, 0, none⟩) hpl).trans hp
  have HB := Lib.hid hb
  have HW := Lib.hid hW1.symm
  rw [← hUV]
  clear hV hUV hr hb hp hW1
  go_enter Try.func34, Try.ntmps34
  go_wp2_with (rw [HW.out])
  go_ret
  exact ⟨rfl, HB.out⟩
set_option maxRecDepth 100000 in
set_option maxHeartbeats 2000000 in
theorem idx_any {w : World} {p n c : Nat} {A : Option Addr} {L : List Us} {s : ByteArray} (hn : L.length = n) (hz : n ≤ 1000000) (hl : ∀ (j : Nat) (u : Us), L[j]? = some u → ∃ g, A = some ⟨g, 0, none⟩ ∧ g < w.heap.size ∧ w.rangeAt g (j * 20) u.cells) (hk : ∀ u ∈ L, u.key.length = 16) (hp : w.cell? ⟨p, 0, none⟩ = some (.string s)) :
    Calls Try.prog 33 #[.slice A n c, .func (Fn.func 34) #[] #[.pointer (some ⟨p, 0, none⟩)]] w fun e w' => e = .returned (.int .i64 (findU L s)) ∧ Below w.heap.size w w' := by
  have hpl : p < w.heap.size := World.block_lt_of_cell? w _ hp
  have HL := Lib.hid hl
  have HK := Lib.hid hk
  have HP := Lib.hid (show ∀ W, Below w.heap.size w W → W.cell? ⟨p, 0, none⟩ = some (.string s) from fun W h => (h.cell (p := ⟨p, 0, none⟩) hpl).trans hp)
  clear hl hp hpl hk
  go_enter Try.func33, Try.ntmps33
  go_wp2
  go_loopw [8] (fun v wr => ∃ k : Nat, k ≤ n ∧ v = .int .i64 k ∧ Below w.heap.size w wr ∧ ∀ (j : Nat) (x : Us), j < k → L[j]? = some x → x.nm ≠ s) (fun v _ => n - (intOf v).toNat)
  case atStart => exact ⟨0, by omega, rfl, Below.refl _ _, fun j x h => absurd h (by omega)⟩
  case round =>
    obtain ⟨k, hk, e8, hb, hno⟩ := hrel
    subst e8
    have HB := Lib.hid hb
    have HNO := Lib.hid hno
    clear hno hb
    by_cases hlt : k < n
    · have hd : decide ((k : Int) < (n : Int)) = true := decide_eq_true (by omega)
      obtain ⟨u, hu⟩ : ∃ u, L[k]? = some u := ⟨L[k]'(by omega), List.getElem?_eq_getElem _⟩
      obtain ⟨g, rfl, hg, hrg⟩ := HL.out k u hu
      have hu16 := HK.out u (List.mem_of_getElem? hu)
      have HR := Lib.hid (show wr.rangeAt g (k * 20) u.cells from fun j v hj => (HB.out.cell (p := ⟨g, k * 20 + j, none⟩) hg).trans (hrg j v hj))
      have HI := Lib.hid (show (Try.prog.info? 30).map (·.size) = some u.cells.length from by rw [Us.len hu16]; exact infoU)
      have hcl := clos_any (w := wr) hu16 (HP.out _ HB.out)
      have HU := Lib.hid hu
      obtain ⟨UV, hUV⟩ : ∃ z, z = u.arr := ⟨_, rfl⟩
      have hu2 : u.cells.toArray = UV := hUV.symm
      rw [← hUV] at hcl
      clear hu hrg hg hu16 hUV
      by_cases hq : u.nm = s
      · rw [decide_eq_true hq] at hcl
        have HQ := Lib.hid hq
        clear hq
        go_wp2_with (refine wpList_load_mid (op := ⟨some 15, _, _, _, _, _⟩) rfl 30 (.tmp 14) rfl g (k * 20) rfl u.cells _ HR.out Try.underlying30 rfl HI.out ?_; rw [hu2])
        refine hcl.mono ?_
        rintro e w' ⟨rfl, hb'⟩
        have hfi := Lib.hid (findU_at L s k u HU.out HQ.out HNO.out)
        have HB' := Lib.hid (below_seq HB.out hb')
        go_wp2
        go_ret
        exact ⟨by rw [hfi.out]; rfl, HB'.out⟩
      · rw [decide_eq_false hq] at hcl
        have HQ := Lib.hid hq
        clear hq
        go_wp2_with (refine wpList_load_mid (op := ⟨some 15, _, _, _, _, _⟩) rfl 30 (.tmp 14) rfl g (k * 20) rfl u.cells _ HR.out Try.underlying30 rfl HI.out ?_; rw [hu2])
        refine hcl.mono ?_
        rintro e w' ⟨rfl, hb'⟩
        have HB' := Lib.hid (below_seq HB.out hb')
        go_wp2
        go_roundw
        case rel =>
          refine ⟨k + 1, by omega, by go_num, HB'.out, fun j x hj hx => ?_⟩
          rcases (by omega : j < k ∨ j = k) with h | rfl
          · exact HNO.out j x h hx
          · rw [HU.out] at hx; cases hx; exact HQ.out
        case measure => simp [intOf]; omega
    · obtain rfl : k = n := by omega
      have hfi := Lib.hid (findU_no L s fun j x hj => HNO.out j x (by have := (List.getElem?_eq_some_iff.1 hj).1; omega) hj)
      have hlt : ¬ (k : Int) < (k : Int) := by omega
      go_wp2
      go_ret
      exact ⟨by rw [hfi.out]; rfl, HB.out⟩
end Go.Proofs.Ytlngbpipmaaedaa.Ba
