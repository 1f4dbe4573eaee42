/-
  THE CONTRACT of sha's expanded.
-/
import Derived.Test.YtgebdkbbdabomaaDoorShas
import Derived.Test.YtgebdkbbdabomaaDoorOctm
import Derived.Test.YtgebdkbbdabomaaDoorWorda
import Derived.Deep.RegionLaw
import Derived.Deep.RegionWith
import Derived.StillTactics
import Derived.StillTailTactics
import Derived.Outline
namespace Go.Proofs.YtgebdkbbdabomaaDoor.Sha
open Go.RowKit
open Go.Proofs.YtgebdkbbdabomaaDoor.Kit
open Go.Proofs.YtgebdkbbdabomaaDoor.Oct
set_option linter.unusedVariables false
attribute [local go_sem] w_xor w_and w_or w_add w_not

theorem wrow_nil : wrow [] = List.replicate 64 (.int .u32 0) := by unfold wrow; rfl
theorem info66 : (Tryd.prog.info? 91).map (·.size) = some 64 := by kernel_rfl
theorem info53 : (Tryd.prog.info? 52).map (·.size) = some 64 := by kernel_rfl
theorem info52 : (Tryd.prog.info? 74).map (·.size) = some 8 := by kernel_rfl

theorem und53 : Tryd.prog.underlying 52 = some (.array (Tryd.prog.arrayLen 52) (Tryd.prog.elem 52)) := by kernel_rfl
theorem len53 : Tryd.prog.arrayLen 52 = 64 := by kernel_rfl
theorem el53 (w : World) : (sizeOf (Tryd.prog.elem 52)).run Tryd.prog w = .ok 1 w := by kernel_rfl
/-- four bytes of a block, as a slice -/
theorem slice53 (g k : Nat) (h : k < 16) (w : World) : (Instr.sliceAt 52 (.pointer (some ⟨g, 0, none⟩)) (some (.int .i64 (4 * (k : Int)))) (some (.int .i64 (4 * ((k : Int) + 1)))) none).run Tryd.prog w = .ok (.slice (some ⟨g, 4 * k, none⟩) 4 (64 - 4 * k)) w := by
  rw [run_sliceAt_array_lh w 52 ⟨g, 0, none⟩ und53 .i64 .i64 (4 * (k : Int)) (4 * ((k : Int) + 1)) (by omega) (by omega) (by rw [len53]; omega), el53]
  have e1 : (4 * (k : Int)).toNat = 4 * k := by omega
  have e2 : (4 * ((k : Int) + 1)).toNat = 4 * (k + 1) := by omega
  simp only [Result.andThen_ok, slicedAt, len53, e1, e2]
  rw [if_neg (by omega), show 4 * (k + 1) - 4 * k = 4 from by omega, Nat.mul_one, add_off, Nat.zero_add]
def ExpRel (bs : List UInt8) (w : World) (k : Nat) (wr : World) : Prop :=
  wr.heap[w.heap.size + 1 + 1]? = some (.cells (wrow (sched bs k)).toArray 91 (0, 0)) ∧ wr.heap[w.heap.size + 1]? = some (.cells (wrow []).toArray 91 (0, 0)) ∧
  wr.heap[w.heap.size]? = some (.cells (bs.map bv).toArray 52 (0, 0)) ∧ Below w.heap.size w wr

theorem ExpRel.step {bs : List UInt8} {w wr : World} {k : Nat} (h : ExpRel bs w k wr) (hk : k < 64) (x : UInt32) (hx : x = if k < 16 then word bs k else nextW (sched bs k) k) :
    ExpRel bs w (k + 1) (wr.setCell ⟨w.heap.size + 1 + 1, k, none⟩ (.int .u32 (wi x))) := by
  obtain ⟨h1, h2, h3, h4⟩ := h
  have hl := sched_len bs k
  refine ⟨?_, ?_, ?_, h4.setCell (by simp; omega) _⟩
  · rw [heap_setCell_same wr _ k _ _ _ h1]
    have := wrow_set (l := sched bs k) (by omega) x
    rw [hl] at this
    rw [this, sched_succ, hx]
  · rw [heap_setCell_other _ _ _ _ (by simp)]; exact h2
  · rw [heap_setCell_other _ _ _ _ (by simp; omega)]; exact h3
theorem ExpRel.drew {bs : List UInt8} {w wr : World} {k : Nat} (h : ExpRel bs w k wr) : ExpRel bs w k wr.drew :=
  ⟨h.1, h.2.1, h.2.2.1, below_seq h.2.2.2 (below_of_drew ⟨1, rfl⟩ _)⟩
theorem ExpRel.at_ {bs : List UInt8} {w wr : World} {k : Nat} (h : ExpRel bs w k wr) {i j : Nat} (hi : i < k) (hj : j = i) : wr.cell? ⟨w.heap.size + 1 + 1, j, none⟩ = some (.int .u32 (wi (wd (sched bs k) i))) := by
  subst hj
  rw [cell_of_row wr _ j _ _ (0, 0) h.1, List.getElem?_toArray]
  exact wrow_at (by rw [sched_len]; exact hi)

set_option maxRecDepth 100000 in
set_option maxHeartbeats 2000000 in
theorem exp_any (bs : List UInt8) (w : World) (hl : bs.length = 64) :
    Calls Tryd.prog 62 #[.agg (bs.map bv).toArray] w fun e w' => e = .returned (.agg ((sched bs 64).map wv).toArray) ∧ Below w.heap.size w w' := by
  have HL := Lib.hid hl
  clear hl
  go_enter Tryd.func62, Tryd.ntmps62
  go_wp2_with fail
  go_loopw [4, 5, 6, 8] (fun s4 s5 s6 i wr => ∃ k : Nat, k ≤ 16 ∧ i = .int .i64 k ∧ ExpRel bs w k wr) (fun _ _ _ i _ => 16 - (intOf i).toNat)
  case atStart =>
    refine ⟨0, by omega, rfl, ?_, ?_, ?_, ?_⟩
    · rw [sched_zero, wrow_nil]
      have := heap_alloc_new ((w.alloc (.cells (bs.map bv).toArray 52)).alloc (.cells (List.replicate 64 (.int .u32 0)).toArray 91)) (.cells (List.replicate 64 (.int .u32 0)).toArray 91)
      rw [World.size_alloc, World.size_alloc] at this
      exact this
    · rw [heap_alloc_old _ _ (by simp), wrow_nil]
      have := heap_alloc_new (w.alloc (.cells (bs.map bv).toArray 52)) (.cells (List.replicate 64 (.int .u32 0)).toArray 91)
      rw [World.size_alloc] at this
      exact this
    · rw [heap_alloc_old _ _ (by simp; omega), heap_alloc_old _ _ (by simp)]
      exact heap_alloc_new w _
    · exact ((below_of_new w _).alloc (by simp) _).alloc (by simp; omega) _
  case round =>
    obtain ⟨k, hk, rfl, hE⟩ := hrel
    have HE := Lib.hid hE
    obtain ⟨hG, hR, hB, hb⟩ := hE
    have hsl := sched_len bs k
    have hb0 : RdB wr wr.heap.size (some ⟨w.heap.size, 0, none⟩) 64 64 bs := by
      refine ⟨by rw [List.length_map]; exact HL.out, by omega, by omega, fun _ => ⟨w.heap.size, 0, rfl, ?_, fun j u hu => ?_⟩⟩
      · exact block_lt_of_cell (a := ⟨w.heap.size, 0, none⟩) ((cell_of_row wr _ 0 _ _ (0, 0) hB).trans (by simp; exact ⟨_, List.getElem?_eq_getElem (by rw [HL.out]; omega), rfl⟩))
      · rw [Nat.zero_add, cell_of_row wr _ j _ _ (0, 0) hB]
        simpa using hu
    by_cases hlt : k < 16
    · have hfr0 := Rd.front (k := 4) (Rd.cut (k := 4 * k) hb0 (by omega)) (by omega)
      rw [if_neg (by omega), ← List.map_drop, ← List.map_take] at hfr0
      simp only [Option.map_some, add_off, Nat.zero_add] at hfr0
      have hfr : RdB _ _ _ _ _ ((bs.drop (4 * k)).take 4) := hfr0
      have hw := Lib.hid (word_wi bs k)
      have hwl := wi_lt (word bs k)
      have hcell := (cell_of_row wr _ k _ _ (0, 0) hG).trans (show (wrow (sched bs k)).toArray[k]? = some (.int .u32 0) by
        have := wrow_next (l := sched bs k) (by rw [hsl]; omega)
        rw [hsl] at this
        simpa using this)
      have hfz := frozen_of_row wr _ k _ _ hG
      have HG := Lib.hid hG
      have HR := Lib.hid hR
      have HB := Lib.hid hB
      have HSL := Lib.hid hsl
      have hsl53 := slice53 w.heap.size k hlt wr
      clear hfr0 hb0 hG hR hB hsl
      go_wp2_with fail
      refine (get_yes _ _ _ _ _ _ hfr (by omega) (by omega)).mono ?_
      rintro e w1 ⟨rfl, rfl⟩
      rw [hw.out]
      go_wp2
      go_roundw
      case rel =>
        exact ⟨k + 1, by omega, by go_num, HE.out.step (by omega) _ (by rw [if_pos hlt])⟩
      case measure => simp [intOf]; omega
    · obtain rfl : k = 16 := by omega
      clear hG hR hB hsl hb0 hb
      rw [show ((16 : Nat) : Int) = 16 from rfl]
      go_wp2_with fail
      go_loopw [7] (fun i wr => ∃ k : Nat, 16 ≤ k ∧ k ≤ 64 ∧ i = .int .i64 k ∧ ExpRel bs w k wr) (fun i _ => 64 - (intOf i).toNat)
      case atStart => exact ⟨16, by omega, by omega, rfl, HE.out⟩
      case round =>
        clear HE hk hlt
        obtain ⟨k, hk16, hk, rfl, hE⟩ := hrel
        have HE := Lib.hid hE
        by_cases hlt : k < 64
        · have c1 := hE.at_ (i := k - 16) (j := k - 16) (by omega) rfl
          have c2 := hE.at_ (i := k - 15) (j := k - 15) (by omega) rfl
          have c3 := hE.at_ (i := k - 7) (j := k - 7) (by omega) rfl
          have c4 := hE.at_ (i := k - 2) (j := k - 2) (by omega) rfl
          have hsl := sched_len bs k
          have hcell := (cell_of_row wr _ k _ _ (0, 0) hE.1).trans (show (wrow (sched bs k)).toArray[k]? = some (.int .u32 0) by
            have := wrow_next (l := sched bs k) (by rw [hsl]; omega)
            rw [hsl] at this
            simpa using this)
          have hfz := frozen_of_row wr _ k _ _ hE.1
          have b1 := wi_lt (wd (sched bs k) (k - 16))
          have b2 := wi_lt (sm0 (wd (sched bs k) (k - 15)))
          have i0 : (0 : Int) ≤ (k : Int) := by omega
          have i1 : (k : Int) < 64 := by omega
          have s16 : IntKind.i64.wrap ((k : Int) - 16) = (k : Int) - 16 := IntWalk.i64_in _ (by omega)
          have z16 : (0 : Int) ≤ (k : Int) - 16 := by omega
          have y16 : (16 : Int) ≤ (k : Int) := by omega
          have l16 : (k : Int) - 16 < 64 := by omega
          have t16 : ((k : Int) - 16).toNat = k - 16 := by omega
          have s15 : IntKind.i64.wrap ((k : Int) - 15) = (k : Int) - 15 := IntWalk.i64_in _ (by omega)
          have z15 : (0 : Int) ≤ (k : Int) - 15 := by omega
          have y15 : (15 : Int) ≤ (k : Int) := by omega
          have l15 : (k : Int) - 15 < 64 := by omega
          have t15 : ((k : Int) - 15).toNat = k - 15 := by omega
          have s7 : IntKind.i64.wrap ((k : Int) - 7) = (k : Int) - 7 := IntWalk.i64_in _ (by omega)
          have z7 : (0 : Int) ≤ (k : Int) - 7 := by omega
          have y7 : (7 : Int) ≤ (k : Int) := by omega
          have l7 : (k : Int) - 7 < 64 := by omega
          have t7 : ((k : Int) - 7).toNat = k - 7 := by omega
          have s2 : IntKind.i64.wrap ((k : Int) - 2) = (k : Int) - 2 := IntWalk.i64_in _ (by omega)
          have z2 : (0 : Int) ≤ (k : Int) - 2 := by omega
          have y2 : (2 : Int) ≤ (k : Int) := by omega
          have l2 : (k : Int) - 2 < 64 := by omega
          have t2 : ((k : Int) - 2).toNat = k - 2 := by omega
          clear hE hsl
          go_wp2_with fail
          refine wp_region_still_tail 23 (by kernel_rfl) (by kernel_rfl) ?_
          simp only [List.take_succ_cons, List.take_zero, List.drop_succ_cons, List.drop_zero]
          repeat still_step
          still_call ((sm0_any _ _).mono (fun e w' h => ⟨h.1, h.2.symm⟩))
          repeat still_step
          still_call ((sm1_any _ _).mono (fun e w' h => ⟨h.1, h.2.symm⟩))
          repeat still_step
          refine wpStill_nil ?_
          go_wp2
          go_roundw
          case rel => exact ⟨k + 1, by omega, by omega, by go_num, (HE.out.step hlt _ (by rw [if_neg (by omega)]; rfl)).drew⟩
          case measure => simp [intOf]; omega
        · obtain rfl : k = 64 := by omega
          clear hlt hk hk16
          obtain ⟨hG, hR, hB, hb⟩ := hE
          have HBB := Lib.hid hb
          have hfin : wrow (sched bs 64) = (sched bs 64).map wv := wrow_full (sched_len bs 64)
          obtain ⟨L, hL⟩ : ∃ L, L = wrow (sched bs 64) := ⟨_, rfl⟩
          obtain ⟨Z, hZ⟩ : ∃ Z, Z = wrow [] := ⟨_, rfl⟩
          rw [← hL] at hG hfin
          rw [← hZ] at hR
          have hsz : L.toArray.size = 64 := by rw [List.size_toArray, hL]; exact wrow_len (by rw [sched_len]; omega)
          have hsz0 : Z.toArray.size = 64 := by rw [List.size_toArray, hZ]; exact wrow_len (by simp)
          have ho : L.toArray.all (·.oneCell') = true := by
            rw [hfin]; exact all_oneCell_toArray (fun v hv => by obtain ⟨x, _, rfl⟩ := List.mem_map.1 hv; rfl)
          have hi1 : (Tryd.prog.info? 91).map (·.size) = some L.toArray.size := by rw [hsz]; exact info66
          have HF := Lib.hid hfin
          have HG := Lib.hid hG
          have HR := Lib.hid hR
          have HS := Lib.hid (hsz0.trans hsz.symm)
          have HI := Lib.hid hi1
          have HO := Lib.hid ho
          clear hL hZ hG hR hB hb hfin hsz hsz0 ho hi1 HE
          go_wp2_with (first
            | (refine wpList_load_row rfl 91 (.tmp 3) rfl (w.heap.size + 1 + 1) rfl 91 L.toArray (0, 0) _ HG.out Tryd.underlying91 rfl HI.out ?_)
            | (refine wpList_store_row rfl 91 (.tmp 2) (.tmp 53) rfl (w.heap.size + 1) L.toArray rfl rfl 91 Z.toArray HR.out HI.out HS.out HO.out ?_))
          have hbel : Below w.heap.size w (wr.setRow (w.heap.size + 1) L.toArray) := below_setRow HBB.out (by omega) _
          refine bodyPost_ret (v := .agg L.toArray) ?_ rfl ⟨by rw [HF.out], hbel⟩
          exact results_cell_row Tryd.results62 _ _ (w.heap.size + 1) 91 L.toArray (0, 0) _ rfl (setRow_heap wr _ _ _ _ _ HR.out) Tryd.underlying91 rfl HI.out
end Go.Proofs.YtgebdkbbdabomaaDoor.Sha
