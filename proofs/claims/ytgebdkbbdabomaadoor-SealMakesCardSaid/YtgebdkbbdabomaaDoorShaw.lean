/-
  THE CONTRACTS of sha's Sum: begun, Write.
-/
import Derived.Test.YtgebdkbbdabomaaDoorShap
import Derived.Test.YtgebdkbbdabomaaDoorCuts
import Derived.Deep.RegionHeld3
import Derived.Deep.RegionLaw
import Derived.Deep.DeepCutAuto
namespace Go.Proofs.YtgebdkbbdabomaaDoor.Sha
open Go.RowKit
open Go.Proofs.YtgebdkbbdabomaaDoor.Kit
open Go.Proofs.YtgebdkbbdabomaaDoor.Oct
set_option linter.unusedVariables false

theorem begun_any (g N : Nat) (w : World) (hN : N ≤ 1152921504606846976) (h : w.cell? ⟨g, 72, none⟩ = some (.int .u64 N)) :
    Calls Tryd.prog 49 #[.pointer (some ⟨g, 0, none⟩)] w fun e w' => e = .returned (.int .i64 ((N % 64 : Nat) : Int)) ∧ w = w' := by
  go_enter Tryd.func49, Tryd.ntmps49
  go_wp2
  go_ret
  exact ⟨rfl, rfl⟩
theorem slice53m (g m : Nat) (hm : m < 64) (w : World) : (Instr.sliceAt 52 (.pointer (some ⟨g, 8, none⟩)) (some (.int .i64 ((m : Nat) : Int))) none none).run Tryd.prog w = .ok (.slice (some ⟨g, 8 + m, none⟩) (64 - m) (64 - m)) w := by
  rw [run_sliceAt_array_l w 52 ⟨g, 8, none⟩ und53 .i64 (m : Int) (by omega) (by rw [len53]; omega), el53]
  simp only [Result.andThen_ok, slicedAt, len53, Int.toNat_natCast, Nat.mul_one, add_off]
  rw [if_neg (by omega)]

theorem und22 : Tryd.prog.underlying 22 = some (.slice (Tryd.prog.elem 22)) := by kernel_rfl
theorem el22 (w : World) : (sizeOf (Tryd.prog.elem 22)).run Tryd.prog w = .ok 1 w := by kernel_rfl
theorem info5s : (Tryd.prog.info? 5).map (·.size) = some 1 := by kernel_rfl
/-- a row of cells as it stands in a world -/
def rowOf (w : World) (g o n : Nat) : List Value := (List.range n).map fun j => (w.cell? ⟨g, o + j, none⟩).getD undef
def HasRow (w : World) (g o n : Nat) : Prop := ∀ j, j < n → (w.cell? ⟨g, o + j, none⟩).isSome = true
theorem rowOf_eq {w : World} {g o n : Nat} {cs : List Value} (h : w.rangeAt g o cs) (hn : cs.length = n) : rowOf w g o n = cs ∧ HasRow w g o n := by
  refine ⟨?_, fun j hj => h.isSome j (by omega)⟩
  apply List.ext_getElem?
  intro j
  rw [rowOf, List.getElem?_map]
  by_cases hj : j < n
  · rw [List.getElem?_range hj, Option.map_some, List.getElem?_eq_getElem (by omega), h j _ (List.getElem?_eq_getElem (by omega))]
    rfl
  · rw [List.getElem?_eq_none (by simp; omega), List.getElem?_eq_none (by omega)]; rfl
theorem run_load53 {w : World} {g o : Nat} (h : HasRow w g o 64) : (Instr.loadAt 52 (.pointer (some ⟨g, o, none⟩))).run Tryd.prog w = .ok (.agg (rowOf w g o 64).toArray) w := by
  refine run_loadAt_mid w g o 52 (rowOf w g o 64) _ (fun j v hv => ?_) Tryd.underlying52 rfl (by rw [rowOf, List.length_map, List.length_range]; exact info53)
  rw [rowOf, List.getElem?_map] at hv
  have hj : j < 64 := by
    rcases Nat.lt_or_ge j 64 with h' | h'
    · exact h'
    · rw [List.getElem?_eq_none (by simpa using h')] at hv; cases hv
  rw [List.getElem?_range hj, Option.map_some] at hv
  obtain ⟨u, hu⟩ := Option.isSome_iff_exists.1 (h j hj)
  rw [hu] at hv
  rw [hu, ← hv]; rfl
def rowAt (w : World) (v : Value) (n : Nat) : List Value := match v with
  | .pointer (some ⟨g, o, none⟩) => rowOf w g o n
  | _ => []
def HasRowAt (w : World) (v : Value) (n : Nat) : Prop := match v with
  | .pointer (some ⟨g, o, none⟩) => HasRow w g o n
  | _ => False
theorem HasRowAt_mk (w : World) (g o n : Nat) : HasRowAt w (.pointer (some ⟨g, o, none⟩)) n = HasRow w g o n := rfl
theorem rowAt_mk (w : World) (g o n : Nat) : rowAt w (.pointer (some ⟨g, o, none⟩)) n = rowOf w g o n := rfl
theorem wp_load53 (d : Option Nat) (ty : TypeId) (pos : String) (after : Array Edge) (x : Operand) (a : Act) (w : World) (K : Act → World → Prop) (Q : Exit → Act → World → Prop) (h : HasRowAt w (a.eval x) 64) :
    Oper.wp Tryd.prog ⟨d, .load 52 x, ty, pos, after, none⟩ a w K Q = K (a.put d (.agg (rowAt w (a.eval x) 64).toArray)) w := by
  unfold HasRowAt at h
  split at h
  · rename_i g o he
    have hrun := run_load53 h
    unfold Oper.wp execOp
    simp only [he, hrun, Result.andThen_ok, rowAt_mk, Sem.run_bind, Sem.run_pure]
    rfl
  · cases h
theorem setC8_heap {w : World} {g : Nat} {v : S8} {blk : List UInt8} {n : Nat} {t : TypeId} (u : S8) (h : w.heap[g]? = some (.cells (sumC v blk n).toArray t (0, 0))) : (w.setCells g 0 (C8 u).toList).heap[g]? = some (.cells (sumC u blk n).toArray t (0, 0)) := by
  have e : w.setCells g 0 (C8 u).toList = ((((((((w.setCell ⟨g, 0, none⟩ (.int .u32 (wi u.a))).setCell ⟨g, 1, none⟩ (.int .u32 (wi u.b))).setCell ⟨g, 2, none⟩ (.int .u32 (wi u.c))).setCell ⟨g, 3, none⟩ (.int .u32 (wi u.d))).setCell ⟨g, 4, none⟩ (.int .u32 (wi u.e))).setCell ⟨g, 5, none⟩ (.int .u32 (wi u.f))).setCell ⟨g, 6, none⟩ (.int .u32 (wi u.g))).setCell ⟨g, 7, none⟩ (.int .u32 (wi u.h))) := rfl
  rw [e]
  have h0 := heap_setCell_same w g 0 _ _ (.int .u32 (wi u.a)) h
  have h1 := heap_setCell_same _ g 1 _ _ (.int .u32 (wi u.b)) h0
  have h2 := heap_setCell_same _ g 2 _ _ (.int .u32 (wi u.c)) h1
  have h3 := heap_setCell_same _ g 3 _ _ (.int .u32 (wi u.d)) h2
  have h4 := heap_setCell_same _ g 4 _ _ (.int .u32 (wi u.e)) h3
  have h5 := heap_setCell_same _ g 5 _ _ (.int .u32 (wi u.f)) h4
  have h6 := heap_setCell_same _ g 6 _ _ (.int .u32 (wi u.g)) h5
  have h7 := heap_setCell_same _ g 7 _ _ (.int .u32 (wi u.h)) h6
  rw [h7]
  simp [sumC, C8]
theorem setC8_gb (w : World) (g : Nat) (vs : List Value) : ∀ o, w.grownBy (w.setCells g o vs) (some g) := by
  induction vs generalizing w with
  | nil => intro o; exact World.grownBy.refl _ _
  | cons v r ih => intro o; exact grown_trans (gb_setCell w g o v) (ih _ (o + 1))
def WrRel (g : Nat) (x cs : List UInt8) (n : Nat) (w : World) (s1 : Value) (wr : World) : Prop :=
  ∃ k A c, k ≤ n ∧ s1 = .slice A (n - k) c ∧ RdS wr (fun b => b < w.heap.size ∧ b ≠ g) A (n - k) c ((cs.drop k).map bv) ∧ SumAt wr g (x ++ cs.take k) ∧ w.grownBy wr (some g)
def sliceLen : Value → Nat
  | .slice _ n _ => n
  | _ => 0

attribute [local go_sem ↓] wp_load53
attribute [local go_sem] HasRowAt_mk rowAt_mk
set_option maxRecDepth 100000 in
set_option maxHeartbeats 2000000 in
theorem write_any (g n c : Nat) (A : Option Addr) (x cs : List UInt8) (w : World) (hs : SumAt w g x) (hr : RdS w (fun b => b < w.heap.size ∧ b ≠ g) A n c (cs.map bv)) (hR : Roots w) (hg : g ≠ 0)
    (hb : x.length + n ≤ 1152921504606846976) :
    Calls Tryd.prog 31 #[.pointer (some ⟨g, 0, none⟩), .slice A n c] w fun e w' => e = .returned (.tuple #[]) ∧ SumAt w' g (x ++ cs) ∧ w.grownBy w' (some g) := by
  have HR := Lib.hid hR
  have hcl : cs.length = n := by simpa using hr.1
  have HCL := Lib.hid hcl
  have hst : WrRel g x cs n w (.slice A n c) w := ⟨0, A, c, Nat.zero_le _, rfl, by simpa using hr, by simpa using hs, World.grownBy.refl _ _⟩
  have HST := Lib.hid hst
  clear hR hcl hst hs hr
  go_enter Tryd.func31, Tryd.ntmps31
  go_wp2_with fail
  go_loopw [1, 4] (fun s1 _ wr => WrRel g x cs n w s1 wr) (fun s1 _ _ => sliceLen s1)
  case atStart => exact HST.out
  case round =>
    obtain ⟨k, A', c', hk, rfl, hrd, hsum, hgb⟩ := hrel
    obtain ⟨y, hy⟩ : ∃ y, y = x ++ cs.take k := ⟨_, rfl⟩
    rw [← hy] at hsum
    have hyl : y.length = x.length + k := by rw [hy, List.length_append, List.length_take, HCL.out]; omega
    have hrm : n - k ≤ c' ∧ c' ≤ 9223372036854775807 := ⟨hrd.2.1, hrd.2.2.1⟩
    by_cases hm0 : n - k = 0
    · have hkn : k = n := by omega
      have HFIN := Lib.hid (show SumAt wr g (x ++ cs) by rw [← show y = x ++ cs by rw [hy, hkn, List.take_of_length_le (by rw [HCL.out]; exact Nat.le_refl _)]]; exact hsum)
      rw [hm0]
      clear hm0 hkn hy hyl hsum hrd
      go_wp2
      go_end0
      exact ⟨rfl, HFIN.out, hgb⟩
    · obtain ⟨blk, hblk, hG⟩ := hsum
      obtain ⟨m, hm⟩ : ∃ m, m = y.length % 64 := ⟨_, rfl⟩
      have hm64 : m < 64 := by omega
      have hN : wr.cell? ⟨g, 72, none⟩ = some (.int .u64 y.length) := by rw [cell_of_row wr g 72 _ _ (0, 0) hG, List.getElem?_toArray]; exact sumC_size _ _ hblk.1
      have hF := frozen_of_row wr g 72 _ _ hG
      have hbg := begun_any g y.length wr.drew (by omega) hN
      rw [← hm] at hbg
      have HBG := Lib.hid hbg
      have hsl := slice53m g m hm64
      have HG := Lib.hid hG
      have HBLK := Lib.hid hblk
      have HM := Lib.hid hm
      have HY := Lib.hid hy
      have HYL := Lib.hid hyl
      have HRD := Lib.hid hrd
      have g0 : decide ((0 : Int) < ((n - k : Nat) : Int)) = true := by simp; omega
      clear hbg hG hblk hm hy hyl hrd
      go_wp2_with fail
      refine wp_region_still_tail 7 (by kernel_rfl) (by kernel_rfl) ?_
      simp only [List.take_succ_cons, List.take_zero, List.drop_succ_cons, List.drop_zero]
      repeat still_step
      still_call (HBG.out.mono (fun e w' h => ⟨h.1, h.2.symm⟩))
      repeat still_step
      refine wpStill_nil ?_
      obtain ⟨j, hj⟩ : ∃ j, j = min (n - k) (64 - m) := ⟨_, rfl⟩
      have hj1 : 1 ≤ j ∧ j ≤ n - k ∧ j ≤ 64 - m := by omega
      obtain ⟨ch, hch⟩ : ∃ ch, ch = (cs.drop k).take j := ⟨_, rfl⟩
      have hchl : ch.length = j := by rw [hch, List.length_take, List.length_drop, HCL.out]; omega
      obtain ⟨SC, hSC⟩ : ∃ SC, SC = sumC (blocksS H0 (y.length / 64) y) blk y.length := ⟨_, rfl⟩
      have hG2 := HG.out
      rw [← hSC] at hG2
      have hscl : SC.length = 73 := by rw [hSC]; exact sumC_len _ _ HBLK.out.1
      have hsrc : ∃ b o, A' = some ⟨b, o, none⟩ ∧ ∀ i v, (ch.map bv)[i]? = some v → wr.cell? ((⟨b, o, none⟩ : Addr).add i) = some v := by
        obtain ⟨b, o, e, _, hc⟩ := HRD.out.2.2.2 (by omega)
        refine ⟨b, o, e, fun i v hv => ?_⟩
        rw [add_off]
        refine hc i v ?_
        have hi : i < j := by have := (List.getElem?_eq_some_iff.1 hv).1; rw [List.length_map, hchl] at this; exact this
        rw [← hv, hch, List.map_take, List.getElem?_take_of_lt hi]
      obtain ⟨b, o, rfl, hsrc⟩ := hsrc
      have hlay := sumC_lay (blocksS H0 (y.length / 64) y) y.length m ch HBLK.out.1 (by rw [hchl]; omega)
      rw [← hSC] at hlay
      have HLAY := Lib.hid hlay
      have HCHL := Lib.hid hchl
      have HCH := Lib.hid hch
      have HJ := Lib.hid hj
      have HSRC := Lib.hid hsrc
      clear hlay hchl hch hj hSC hsrc
      refine wpList_copy_gb rfl (.tmp 13) (.tmp 14) 22 22 rfl 5 Tryd.underlying22 info5s g (8 + m) _ _ ⟨b, o, none⟩ _ _ rfl rfl SC 76 hG2 (ch.map bv) (by rw [List.length_map, HCHL.out, HJ.out]) HSRC.out (by rw [List.length_map, HCHL.out, hscl]; omega) (fun v hv => bv_one _ v hv) ?_
      intro w2 hg2 hb2
      rw [show (List.map bv ch).length = j from by rw [List.length_map]; exact HCHL.out]
      have hx := hg2
      rw [HLAY.out] at hx
      have hcl2 := lay_len (blk := blk) (m := m) (c := ch) HBLK.out.1 (by rw [HCHL.out]; omega)
      obtain ⟨bl2, hbl2⟩ : ∃ q, q = lay blk m ch := ⟨_, rfl⟩
      rw [← hbl2] at hx hcl2
      have hN2 : w2.cell? ⟨g, 72, none⟩ = some (.int .u64 y.length) := by rw [cell_of_row w2 g 72 _ _ (0, 0) hx, List.getElem?_toArray]; exact sumC_size _ _ hcl2
      have hF2 := frozen_of_row w2 g 72 _ _ hx
      have hcut := run_cut (P := Tryd.prog) und22 el22 (some ⟨b, o, none⟩) (n - k) c' j hj1.2.1 hrm.1
      have hrd2 := RdS.cut HRD.out (k := j) hj1.2.1
      obtain ⟨A2, hA2⟩ : ∃ q, q = (if c' = j then some (⟨b, o, none⟩ : Addr) else (some (⟨b, o, none⟩ : Addr)).map (·.add j)) := ⟨_, rfl⟩
      rw [← hA2] at hcut hrd2
      have HRD2 := Lib.hid hrd2
      have HX := Lib.hid hx
      have HCL2 := Lib.hid hcl2
      have HBL2 := Lib.hid hbl2
      have hyb : y.length + j ≤ 1152921504606846976 := by have := HYL.out; omega
      clear hg2 hG2 hscl hx hcl2 hbl2 hN hF hsl hrd2 hA2
      go_wp2_with fail
      have hw3 : (w2.setCell ⟨g, 72, none⟩ (.int .u64 ((y.length : Int) + (j : Int)))).heap[g]? = some (.cells (sumC (blocksS H0 (y.length / 64) y) bl2 (y.length + j)).toArray 76 (0, 0)) := by
        rw [heap_setCell_same w2 g 72 _ _ _ HX.out]
        rw [← sumC_set _ y.length (y.length + j) HCL2.out]
        rw [Int.natCast_add]
      have hgb3 : wr.grownBy (w2.setCell ⟨g, 72, none⟩ (.int .u64 ((y.length : Int) + (j : Int)))) (some g) := grown_trans (grown_trans (gb_drew wr 1 _) hb2) (gb_setCell _ _ _ _)
      obtain ⟨w3, hww3⟩ : ∃ q, q = (w2.setCell ⟨g, 72, none⟩ (.int .u64 ((y.length : Int) + (j : Int)))) := ⟨_, rfl⟩
      rw [← hww3] at hw3 hgb3 ⊢
      have hN3 : w3.cell? ⟨g, 72, none⟩ = some (.int .u64 ((y.length + j : Nat) : Int)) := by rw [cell_of_row w3 g 72 _ _ (0, 0) hw3, List.getElem?_toArray]; exact sumC_size _ _ HCL2.out
      have hgbw := grown_trans hgb hgb3
      have HW3 := Lib.hid hw3
      have hyj : (y ++ ch).length = y.length + j := by rw [List.length_append, HCHL.out]
      have hycs : y ++ ch = x ++ cs.take (k + j) := by rw [HY.out, HCH.out, List.append_assoc, List.take_add]
      have hrd3 : RdS w3 (fun b => b < w.heap.size ∧ b ≠ g) A2 (n - (k + j)) (c' - j) ((cs.drop (k + j)).map bv) := by
        have h := HRD2.out.keep (w' := w3) (S' := fun b => b < w.heap.size ∧ b ≠ g) (fun p hp => World.cell?_of_block (gb_block hgb3 (Nat.lt_of_lt_of_le hp.1 hgb.size) hp.2)) (fun _ h => h)
        rw [← List.map_drop, List.drop_drop, show n - k - j = n - (k + j) by omega] at h
        exact h
      have HYJ := Lib.hid hyj
      have HYCS := Lib.hid hycs
      have HRD3 := Lib.hid hrd3
      clear hww3 hw3 hN2 hF2 hcut hyj hycs hrd3 HRD2
      refine (begun_any g (y.length + j) w3 hyb hN3).mono ?_
      rintro e w4 ⟨rfl, rfl⟩
      by_cases hz : m + j = 64
      · have g1 : ((((y.length + j) % 64 : Nat) : Int) == 0) = true := by rw [beq_iff_eq]; have := HM.out; omega
        obtain ⟨v, hv⟩ : ∃ v, v = blocksS H0 (y.length / 64) y := ⟨_, rfl⟩
        have hw3 := HW3.out
        rw [← hv] at hw3
        have hr1 := sumC_words _ _ _ hw3
        have hr2 := sumC_block _ _ HCL2.out hw3
        have hr3 : w3.there g 0 8 := fun i hi => by
          have h := hr1 i _ (List.getElem?_eq_getElem (by simpa [C8] using hi))
          exact ⟨by rw [h]; rfl, frozen_of_row w3 g _ _ _ hw3⟩
        obtain ⟨BL, hBL'⟩ : ∃ q, q = bl2.map bv := ⟨_, rfl⟩
        have hfin : ∀ w5, Below w3.heap.size w3 w5 → SumAt (w5.setCells g 0 (C8 (comp v bl2)).toList) g (x ++ cs.take (k + j)) ∧ w3.grownBy (w5.setCells g 0 (C8 (comp v bl2)).toList) (some g) := by
          intro w5 hb5
          have hlt : g < w3.heap.size := by
            rcases Nat.lt_or_ge g w3.heap.size with h | h
            · exact h
            · rw [Array.getElem?_eq_none h] at hw3; cases hw3
          have h := lay_full (c := ch) HBLK.out (by rw [← HM.out, HCHL.out]; exact hz)
          rw [← HM.out, ← HBL2.out, ← hv, HYJ.out] at h
          refine ⟨?_, grown_trans (gb_of_below hb5 _) (setC8_gb _ _ _ _)⟩
          rw [← HYCS.out]
          refine ⟨bl2, h.1, ?_⟩
          rw [HYJ.out, h.2.2]
          exact setC8_heap _ ((hb5.block g hlt).trans hw3)
        have hmix : ∀ W, Roots W → Calls Tryd.prog 50 #[.agg #[.int .u32 (wi v.a), .int .u32 (wi v.b), .int .u32 (wi v.c), .int .u32 (wi v.d), .int .u32 (wi v.e), .int .u32 (wi v.f), .int .u32 (wi v.g), .int .u32 (wi v.h)], .agg (bl2.map bv).toArray] W fun e w' => e = .returned (.agg (C8 (comp v bl2))) ∧ Below W.heap.size W w' := fun W hW => mix_any v bl2 W HCL2.out hW
        have hrt : Roots w3.drew := fun i hi => (HR.out.gb hgbw hg) i hi
        obtain ⟨u, hu⟩ : ∃ u, u = comp v bl2 := ⟨_, rfl⟩
        rw [← hu] at hmix hfin
        unfold C8 at hmix
        have hlt3 : g < w3.heap.size := block_lt_of_cell hN3
        have hu53 := Tryd.underlying52
        have hC8 : ∀ w4 : World, (w4.heap[g]? = w3.heap[g]?) → (w4.cell? ⟨g, 0, none⟩ = some (.int .u32 (wi v.a)) ∧ w4.cell? ⟨g, 1, none⟩ = some (.int .u32 (wi v.b)) ∧ w4.cell? ⟨g, 2, none⟩ = some (.int .u32 (wi v.c)) ∧ w4.cell? ⟨g, 3, none⟩ = some (.int .u32 (wi v.d)) ∧ w4.cell? ⟨g, 4, none⟩ = some (.int .u32 (wi v.e)) ∧ w4.cell? ⟨g, 5, none⟩ = some (.int .u32 (wi v.f)) ∧ w4.cell? ⟨g, 6, none⟩ = some (.int .u32 (wi v.g)) ∧ w4.cell? ⟨g, 7, none⟩ = some (.int .u32 (wi v.h)) ∧ w4.frozen? ⟨g, 0, none⟩ = false ∧ w4.frozen? ⟨g, 1, none⟩ = false ∧ w4.frozen? ⟨g, 2, none⟩ = false ∧ w4.frozen? ⟨g, 3, none⟩ = false ∧ w4.frozen? ⟨g, 4, none⟩ = false ∧ w4.frozen? ⟨g, 5, none⟩ = false ∧ w4.frozen? ⟨g, 6, none⟩ = false ∧ w4.frozen? ⟨g, 7, none⟩ = false ∧ w4.rangeAt g 8 BL) := fun w4 h4 => by
          have hv4 := h4.trans hw3
          have hc := sumC_words _ _ _ hv4
          exact ⟨hc 0 _ rfl, hc 1 _ rfl, hc 2 _ rfl, hc 3 _ rfl, hc 4 _ rfl, hc 5 _ rfl, hc 6 _ rfl, hc 7 _ rfl, frozen_of_row w4 g 0 _ _ hv4, frozen_of_row w4 g 1 _ _ hv4, frozen_of_row w4 g 2 _ _ hv4, frozen_of_row w4 g 3 _ _ hv4, frozen_of_row w4 g 4 _ _ hv4, frozen_of_row w4 g 5 _ _ hv4, frozen_of_row w4 g 6 _ _ hv4, frozen_of_row w4 g 7 _ _ hv4, by rw [hBL']; exact sumC_block _ _ HCL2.out hv4⟩
        have hi53 : (Tryd.prog.info? 52).map (·.size) = some BL.length := by rw [hBL', List.length_map, HCL2.out]; exact info53
        rw [← hBL'] at hmix
        obtain ⟨c0, c1, c2, c3, c4, c5, c6, c7, f0, f1, f2, f3, f4, f5, f6, f7, hrg⟩ := hC8 w3 rfl
        obtain ⟨hrow, hhas⟩ := rowOf_eq (w := w3.drew) (g := g) (o := 8) (n := 64) (cs := BL) hrg (by rw [hBL', List.length_map]; exact HCL2.out)
        have HC8 := Lib.hid hC8
        have HFIN := Lib.hid hfin
        have HMIX := Lib.hid hmix
        have HRT := Lib.hid hrt
        clear hv hw3 hfin hmix hrt hBL' hu hC8 hr1 hr2 hr3 hrg
        go_wp2_with fail
        go_region_law ((first
            | (go_simp; go_at_call 50; refine (HMIX.out _ HRT.out).mono ?_; rintro e w5 ⟨rfl, hb4⟩; have hb5 : Below w3.heap.size w3 w5 := below_seq (below_of_drew ⟨1, rfl⟩ _) hb4; obtain ⟨d0, d1, d2, d3, d4, d5, d6, d7, e0, e1, e2, e3, e4, e5, e6, e7, _⟩ := HC8.out w5 (hb5.block g hlt3))))
        all_goals
          go_wp2_with fail
          have hF := HFIN.out w5 hb5
          have hR4 : RdS (w5.setCells g 0 (C8 u).toList) (fun b => b < w.heap.size ∧ b ≠ g) A2 (n - (k + j)) (c' - j) ((cs.drop (k + j)).map bv) :=
            HRD3.out.keep (fun p hp => World.cell?_of_block (gb_block hF.2 (Nat.lt_of_lt_of_le hp.1 hgbw.size) hp.2)) (fun _ h => h)
          exact ⟨⟨k + j, A2, c' - j, by omega, by rw [Nat.sub_sub], hR4, hF.1, grown_trans hgbw hF.2⟩, by simp [sliceLen]; omega⟩
      · have g1 : ((((y.length + j) % 64 : Nat) : Int) == 0) = false := by rw [beq_eq_false_iff_ne]; have := HM.out; omega
        have hfin : SumAt w3 g (x ++ cs.take (k + j)) := by
          have h := lay_some (c := ch) HBLK.out (by rw [← HM.out, HCHL.out]; omega)
          rw [← HM.out, ← HBL2.out, HYJ.out] at h
          rw [← HYCS.out]
          refine ⟨bl2, h.1, ?_⟩
          rw [HYJ.out, h.2.2]
          exact HW3.out
        have HFIN := Lib.hid hfin
        clear hfin
        go_wp2_with fail
        exact ⟨⟨k + j, A2, c' - j, by omega, by rw [Nat.sub_sub], HRD3.out, HFIN.out, hgbw⟩, by simp [sliceLen]; omega⟩
end Go.Proofs.YtgebdkbbdabomaaDoor.Sha
