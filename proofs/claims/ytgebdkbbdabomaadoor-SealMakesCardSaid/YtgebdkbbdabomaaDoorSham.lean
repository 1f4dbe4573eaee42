/-
  THE CONTRACT of sha's mixed.
-/
import Derived.Test.YtgebdkbbdabomaaDoorShae
import Derived.Laws.CopyOwn
namespace Go.Proofs.YtgebdkbbdabomaaDoor.Sha
open Go.RowKit
open Go.Proofs.YtgebdkbbdabomaaDoor.Kit
open Go.Proofs.YtgebdkbbdabomaaDoor.Oct
set_option linter.unusedVariables false
attribute [local go_sem] w_xor w_and w_or w_add w_not

/-- the package's constants lie where they were laid -/
def Roots (w : World) : Prop := ∀ i, i < 64 → w.cell? ⟨0, i, none⟩ = some (.int .u32 (wi (wd shaK i)))
theorem Roots.lt {w : World} (h : Roots w) : 0 < w.heap.size := block_lt_of_cell (h 0 (by omega))
theorem Roots.on {w w' : World} (h : Roots w) (hb : Below w.heap.size w w') : Roots w' := fun i hi => (hb.cell (p := ⟨0, i, none⟩) h.lt).trans (h i hi)
theorem Roots.lit {w : World} (h : Roots w) (o : Obj) : Roots (w.alloc o) := h.on (below_of_new w o)
/-- eight words' cells -/
def C8 (v : S8) : Array Value := #[.int .u32 (wi v.a), .int .u32 (wi v.b), .int .u32 (wi v.c), .int .u32 (wi v.d), .int .u32 (wi v.e), .int .u32 (wi v.f), .int .u32 (wi v.g), .int .u32 (wi v.h)]
/-- the first k of x's words added to v's -/
def addK (v x : S8) (k : Nat) : S8 := ⟨if 0 < k then v.a + x.a else v.a, if 1 < k then v.b + x.b else v.b, if 2 < k then v.c + x.c else v.c, if 3 < k then v.d + x.d else v.d, if 4 < k then v.e + x.e else v.e, if 5 < k then v.f + x.f else v.f, if 6 < k then v.g + x.g else v.g, if 7 < k then v.h + x.h else v.h⟩
def S8.at_ (v : S8) (k : Nat) : UInt32 := if k = 0 then v.a else if k = 1 then v.b else if k = 2 then v.c else if k = 3 then v.d else if k = 4 then v.e else if k = 5 then v.f else if k = 6 then v.g else v.h
theorem C8_at (v : S8) (k : Nat) (h : k < 8) : (C8 v)[k]? = some (.int .u32 (wi (S8.at_ v k))) := by
  obtain rfl | rfl | rfl | rfl | rfl | rfl | rfl | rfl : k = 0 ∨ k = 1 ∨ k = 2 ∨ k = 3 ∨ k = 4 ∨ k = 5 ∨ k = 6 ∨ k = 7 := by omega
  all_goals rfl
theorem addK_zero (v x : S8) : addK v x 0 = v := by cases v; simp [addK]
theorem addK_full (v x : S8) : addK v x 8 = v.add x := by simp [addK, S8.add]
theorem addK_set (v x : S8) (k : Nat) (h : k < 8) : (C8 (addK v x k)).setIfInBounds k (.int .u32 (wi (S8.at_ (addK v x k) k + S8.at_ x k))) = C8 (addK v x (k + 1)) := by
  obtain rfl | rfl | rfl | rfl | rfl | rfl | rfl | rfl : k = 0 ∨ k = 1 ∨ k = 2 ∨ k = 3 ∨ k = 4 ∨ k = 5 ∨ k = 6 ∨ k = 7 := by omega
  all_goals simp [addK, S8.at_, C8]

def MixRel (v : S8) (ws : List UInt32) (w : World) (X : Nat) (r : S8) (wr : World) : Prop :=
  wr.heap[X + 1]? = some (.cells (C8 r) 74 (0, 0)) ∧ wr.heap[X]? = some (.cells (ws.map wv).toArray 91 (0, 0)) ∧ wr.heap[w.heap.size]? = some (.cells (C8 v) 74 (0, 0)) ∧
  wr.heap[w.heap.size + 1 + 1]? = some (.cells (C8 ⟨0, 0, 0, 0, 0, 0, 0, 0⟩) 74 (0, 0)) ∧ Below w.heap.size w wr ∧ w.heap.size + 3 ≤ X ∧ X + 2 ≤ wr.heap.size

theorem cells8 {w : World} {g : Nat} {r : S8} {t : TypeId} (h : w.heap[g]? = some (.cells (C8 r) t (0, 0))) :
    (w.cell? ⟨g, 0, none⟩ = some (.int .u32 (wi r.a)) ∧ w.cell? ⟨g, 1, none⟩ = some (.int .u32 (wi r.b)) ∧ w.cell? ⟨g, 2, none⟩ = some (.int .u32 (wi r.c)) ∧ w.cell? ⟨g, 3, none⟩ = some (.int .u32 (wi r.d)) ∧
     w.cell? ⟨g, 4, none⟩ = some (.int .u32 (wi r.e)) ∧ w.cell? ⟨g, 5, none⟩ = some (.int .u32 (wi r.f)) ∧ w.cell? ⟨g, 6, none⟩ = some (.int .u32 (wi r.g)) ∧ w.cell? ⟨g, 7, none⟩ = some (.int .u32 (wi r.h))) :=
  ⟨cell_of_row w g 0 _ _ (0, 0) h, cell_of_row w g 1 _ _ (0, 0) h, cell_of_row w g 2 _ _ (0, 0) h, cell_of_row w g 3 _ _ (0, 0) h, cell_of_row w g 4 _ _ (0, 0) h, cell_of_row w g 5 _ _ (0, 0) h, cell_of_row w g 6 _ _ (0, 0) h, cell_of_row w g 7 _ _ (0, 0) h⟩
theorem C8_one (v : S8) : (C8 v).all (·.oneCell') = true := by simp [C8, Value.oneCell']
def cs7 (r : S8) : List Value := [.int .u32 (wi r.a), .int .u32 (wi r.b), .int .u32 (wi r.c), .int .u32 (wi r.d), .int .u32 (wi r.e), .int .u32 (wi r.f), .int .u32 (wi r.g)]
def shift (r : S8) : S8 := ⟨r.a, r.a, r.b, r.c, r.d, r.e, r.f, r.g⟩
theorem splice7 (r : S8) : (splice (C8 r).toList 1 (cs7 r)).toArray = C8 (shift r) := rfl
theorem src7 {w : World} {g : Nat} {r : S8} {t : TypeId} (h : w.heap[g]? = some (.cells (C8 r) t (0, 0))) : ∀ j v, (cs7 r)[j]? = some v → w.cell? ((⟨g, 0, none⟩ : Addr).add j) = some v := by
  intro j v hv
  have hj : j < 7 := (List.getElem?_eq_some_iff.1 hv).1
  rw [add_off, Nat.zero_add, cell_of_row w g j _ _ (0, 0) h, ← hv]
  obtain rfl | rfl | rfl | rfl | rfl | rfl | rfl : j = 0 ∨ j = 1 ∨ j = 2 ∨ j = 3 ∨ j = 4 ∨ j = 5 ∨ j = 6 := by omega
  all_goals rfl
theorem und52 : Tryd.prog.underlying 74 = some (.array (Tryd.prog.arrayLen 74) (Tryd.prog.elem 74)) := by kernel_rfl
theorem len52 : Tryd.prog.arrayLen 74 = 8 := by kernel_rfl
theorem el52 (w : World) : (sizeOf (Tryd.prog.elem 74)).run Tryd.prog w = .ok 1 w := by kernel_rfl
theorem info47 : (Tryd.prog.info? 63).map (·.size) = some 1 := by kernel_rfl
theorem slice52a (g : Nat) (w : World) : (Instr.sliceAt 74 (.pointer (some ⟨g, 0, none⟩)) (some (.int .i64 1)) none none).run Tryd.prog w = .ok (.slice (some ⟨g, 1, none⟩) 7 7) w := by
  rw [run_sliceAt_array_l w 74 ⟨g, 0, none⟩ und52 .i64 1 (by omega) (by rw [len52]; omega), el52]
  simp only [Result.andThen_ok, slicedAt, len52]
  rfl
theorem slice52b (g : Nat) (w : World) : (Instr.sliceAt 74 (.pointer (some ⟨g, 0, none⟩)) none none none).run Tryd.prog w = .ok (.slice (some ⟨g, 0, none⟩) 8 8) w := by
  rw [run_sliceAt_array_all w 74 ⟨g, 0, none⟩ und52, el52]
  simp only [Result.andThen_ok, slicedAt, len52]
  rfl
theorem MixRel.step {v r : S8} {ws : List UInt32} {w wr w2 : World} {X : Nat} (kk ww : UInt32) (h : MixRel v ws w X r wr) (hx : w2.heap[X + 1]? = some (.cells (C8 (shift r)) 74 (0, 0))) (hb : Below (X + 1) wr w2) :
    MixRel v ws w X (stepS r kk ww) ((w2.setCell ⟨X + 1, 4, none⟩ (.int .u32 (wi (r.d + t1of r kk ww)))).setCell ⟨X + 1, 0, none⟩ (.int .u32 (wi (t1of r kk ww + t2of r)))) := by
  obtain ⟨h1, h2, h3, h4, h5, h6, h7⟩ := h
  refine ⟨?_, ?_, ?_, ?_, ?_, h6, ?_⟩
  · rw [heap_setCell_same _ _ 0 _ _ _ (heap_setCell_same w2 _ 4 _ _ _ hx)]; rfl
  · rw [heap_setCell_other _ _ _ _ (by simp), heap_setCell_other _ _ _ _ (by simp), hb.block _ (by omega)]; exact h2
  · rw [heap_setCell_other _ _ _ _ (by simp; omega), heap_setCell_other _ _ _ _ (by simp; omega), hb.block _ (by omega)]; exact h3
  · rw [heap_setCell_other _ _ _ _ (by simp; omega), heap_setCell_other _ _ _ _ (by simp; omega), hb.block _ (by omega)]; exact h4
  · have : Below w.heap.size w w2 := h5.trans (hb.mono (by omega))
    exact (this.setCell (by simp; omega) _).setCell (by simp; omega) _
  · have := hb.size
    simp [World.setCell]; omega
theorem MixRel.drew {v r : S8} {ws : List UInt32} {w wr : World} {X : Nat} (h : MixRel v ws w X r wr) : MixRel v ws w X r wr.drew :=
  ⟨h.1, h.2.1, h.2.2.1, h.2.2.2.1, below_seq h.2.2.2.2.1 (below_of_drew ⟨1, rfl⟩ _), h.2.2.2.2.2.1, h.2.2.2.2.2.2⟩
theorem MixRel.add {v R : S8} {ws : List UInt32} {w wr : World} {X k : Nat} (h : MixRel v ws w X (addK R v k) wr) (hk : k < 8) :
    MixRel v ws w X (addK R v (k + 1)) (wr.setCell ⟨X + 1, k, none⟩ (.int .u32 (wi (S8.at_ (addK R v k) k + S8.at_ v k)))) := by
  obtain ⟨h1, h2, h3, h4, h5, h6, h7⟩ := h
  refine ⟨?_, ?_, ?_, ?_, h5.setCell (by simp; omega) _, h6, by simp [World.setCell]; omega⟩
  · rw [heap_setCell_same _ _ k _ _ _ h1, addK_set _ _ _ hk]
  · rw [heap_setCell_other _ _ _ _ (by simp)]; exact h2
  · rw [heap_setCell_other _ _ _ _ (by simp; omega)]; exact h3
  · rw [heap_setCell_other _ _ _ _ (by simp; omega)]; exact h4

set_option maxRecDepth 100000 in
set_option maxHeartbeats 2000000 in
theorem mix_any (v : S8) (bs : List UInt8) (w : World) (hl : bs.length = 64) (hR : Roots w) :
    Calls Tryd.prog 50 #[.agg (C8 v), .agg (bs.map bv).toArray] w fun e w' => e = .returned (.agg (C8 (comp v bs))) ∧ Below w.heap.size w w' := by
  have HL := Lib.hid hl
  have HR := Lib.hid hR
  have hi53 : (Tryd.prog.info? 52).map (·.size) = some (bs.map bv).toArray.size := by rw [List.size_toArray, List.length_map, hl]; exact info53
  have HI53 := Lib.hid hi53
  obtain ⟨BS, hBS⟩ : ∃ BS, BS = (bs.map bv).toArray := ⟨_, rfl⟩
  rw [← hBS] at HI53 ⊢
  have HBS := Lib.hid hBS
  clear hl hR hi53 hBS
  unfold C8
  go_enter Tryd.func50, Tryd.ntmps50
  have hg3 : ∀ (o : Obj) (o2 : Obj), (((w.alloc o).alloc (.cells BS 52)).alloc o2).heap[w.heap.size + 1]? = some (.cells BS 52 (0, 0)) := fun o o2 => by
    rw [heap_alloc_old _ _ (by simp)]
    have := heap_alloc_new (w.alloc o) (.cells BS 52)
    rw [World.size_alloc] at this
    exact this
  have HG3 := Lib.hid hg3
  clear hg3
  go_wp2_with (first
    | (refine wpList_load_row rfl 52 (.tmp 3) rfl (w.heap.size + 1) rfl 52 BS (0, 0) _ (HG3.out _ _) Tryd.underlying52 rfl HI53.out ?_)
    | fail)
  have hcall := exp_any bs (((w.alloc (.cells #[.int .u32 (wi v.a), .int .u32 (wi v.b), .int .u32 (wi v.c), .int .u32 (wi v.d), .int .u32 (wi v.e), .int .u32 (wi v.f), .int .u32 (wi v.g), .int .u32 (wi v.h)] 74)).alloc (.cells BS 52)).alloc (.cells #[.int .u32 0, .int .u32 0, .int .u32 0, .int .u32 0, .int .u32 0, .int .u32 0, .int .u32 0, .int .u32 0] 74)) HL.out
  rw [← HBS.out] at hcall
  refine hcall.mono ?_
  rintro e w1 ⟨rfl, hb1⟩
  obtain ⟨ws, hws⟩ : ∃ ws, ws = sched bs 64 := ⟨_, rfl⟩
  rw [← hws]
  have hwl : ws.length = 64 := by rw [hws, sched_len]
  obtain ⟨WS, hWS⟩ : ∃ WS, WS = (ws.map wv).toArray := ⟨_, rfl⟩
  rw [← hWS]
  have hsz : WS.size = 64 := by rw [hWS, List.size_toArray, List.length_map, hwl]
  have hi66 : (Tryd.prog.info? 91).map (·.size) = some WS.size := by rw [hsz]; exact info66
  have ho66 : WS.all (·.oneCell') = true := by
    rw [hWS]; exact all_oneCell_toArray (fun v hv => by obtain ⟨x, _, rfl⟩ := List.mem_map.1 hv; rfl)
  have hbw1 : Below w.heap.size w w1 := below_seq (((below_of_new w _).alloc (by simp) _).alloc (by simp; omega) _) hb1
  have hz1 : w.heap.size + 3 ≤ w1.heap.size := by have := hb1.size; simp at this; omega
  have q0 : w1.heap[w.heap.size]? = some (.cells (C8 v) 74 (0, 0)) := by
    rw [hb1.block _ (by simp; omega), heap_alloc_old _ _ (by simp; omega), heap_alloc_old _ _ (by simp)]; exact heap_alloc_new w _
  have q2 : w1.heap[w.heap.size + 1 + 1]? = some (.cells (C8 ⟨0, 0, 0, 0, 0, 0, 0, 0⟩) 74 (0, 0)) := by
    rw [hb1.block _ (by simp)]
    have := heap_alloc_new ((w.alloc (.cells #[.int .u32 (wi v.a), .int .u32 (wi v.b), .int .u32 (wi v.c), .int .u32 (wi v.d), .int .u32 (wi v.e), .int .u32 (wi v.f), .int .u32 (wi v.g), .int .u32 (wi v.h)] 74)).alloc (.cells BS 52)) (.cells #[.int .u32 0, .int .u32 0, .int .u32 0, .int .u32 0, .int .u32 0, .int .u32 0, .int .u32 0, .int .u32 0] 74)
    rw [World.size_alloc, World.size_alloc] at this
    exact this
  have hcomp := comp_eq v bs
  rw [← hws] at hcomp
  have HCOMP := Lib.hid hcomp
  have HWS := Lib.hid hWS
  have HI66 := Lib.hid hi66
  have HO66 := Lib.hid ho66
  have HSZ := Lib.hid hsz
  have HWL := Lib.hid hwl
  have HB1 := Lib.hid hbw1
  have HQ0 := Lib.hid q0
  have HQ2 := Lib.hid q2
  have hnew8 : ∀ (W : World), W.heap.size = w1.heap.size + 1 → (W.alloc (.cells #[.int .u32 0, .int .u32 0, .int .u32 0, .int .u32 0, .int .u32 0, .int .u32 0, .int .u32 0, .int .u32 0] 74)).heap[w1.heap.size + 1]? = some (.cells #[.int .u32 0, .int .u32 0, .int .u32 0, .int .u32 0, .int .u32 0, .int .u32 0, .int .u32 0, .int .u32 0] 74 (0, 0)) := fun W h => by
    rw [← h]; exact heap_alloc_new W _
  have HN8 := Lib.hid hnew8
  clear hcall hb1 hWS hsz hi66 ho66 hbw1 q0 q2 HG3 hwl hws hcomp hnew8
  go_wp2_with (first
    | (refine wpList_store_row rfl 91 (.tmp 5) (.tmp 12) rfl w1.heap.size WS rfl rfl 91 _ (heap_alloc_new w1 _) HI66.out (by rw [HSZ.out]; rfl) HO66.out ?_)
    | (refine wpList_load_row rfl 74 (.tmp 2) rfl w.heap.size rfl 74 (C8 v) (0, 0) _ ?h8 Tryd.underlying74 rfl info52 ?_; case h8 => (rw [setRow_other _ _ _ _ (by omega), heap_alloc_old _ _ (by omega)]; exact HQ0.out))
    | (refine wpList_store_row rfl 74 (.tmp 6) (.tmp 13) rfl (w1.heap.size + 1) (C8 v) rfl rfl 74 _ (HN8.out _ (by simp)) info52 rfl (C8_one v) ?_)
    | fail)
  go_loopw [7, 8, 9, 14] (fun _ _ _ i wr => ∃ k : Nat, k ≤ 64 ∧ i = .int .i64 k ∧ MixRel v ws w w1.heap.size (runS ws v k) wr) (fun _ _ _ i _ => 64 - (intOf i).toNat)
  case atStart =>
    refine ⟨0, by omega, rfl, ?_⟩
    rw [runS_zero]
    refine ⟨?_, ?_, ?_, ?_, ?_, hz1, by simp⟩
    · exact setRow_heap _ _ _ _ _ _ (HN8.out _ (by simp))
    · rw [setRow_other _ _ _ _ (by omega), heap_alloc_old _ _ (by simp), ← HWS.out]
      exact setRow_heap _ _ _ _ _ _ (heap_alloc_new w1 _)
    · rw [setRow_other _ _ _ _ (by omega), heap_alloc_old _ _ (by simp; omega), setRow_other _ _ _ _ (by omega), heap_alloc_old _ _ (by omega)]
      exact HQ0.out
    · rw [setRow_other _ _ _ _ (by omega), heap_alloc_old _ _ (by simp; omega), setRow_other _ _ _ _ (by omega), heap_alloc_old _ _ (by omega)]
      exact HQ2.out
    · exact below_setRow ((below_setRow (below_alloc HB1.out _) (by omega) _).alloc (by simp; omega) _) (by omega) _
  case round =>
    obtain ⟨k, hk, rfl, hM⟩ := hrel
    obtain ⟨X, hX⟩ : ∃ X, X = w1.heap.size := ⟨_, rfl⟩
    rw [← hX] at hM hz1 ⊢
    have HM := Lib.hid hM
    by_cases hlt : k < 64
    · obtain ⟨h1, h2, h3, h4, h5, h6, h7⟩ := hM
      obtain ⟨r, hr⟩ : ∃ r, r = runS ws v k := ⟨_, rfl⟩
      rw [← hr] at h1
      obtain ⟨c0, c1, c2, c3, c4, c5, c6, c7⟩ := cells8 h1
      have hroot := (h5.cell (p := ⟨0, k, none⟩) HR.out.lt).trans (HR.out k hlt)
      have hwc := (cell_of_row wr X k _ _ (0, 0) h2).trans (show (ws.map wv).toArray[k]? = some (.int .u32 (wi (wd ws k))) by
        rw [List.getElem?_toArray, List.getElem?_map, List.getElem?_eq_getElem (by rw [HWL.out]; exact hlt), wd, List.getD_eq_getElem?_getD, List.getElem?_eq_getElem (by rw [HWL.out]; exact hlt)]; rfl)
      have hsa := slice52a (X + 1)
      have hsb := slice52b (X + 1)
      have i0 : (0 : Int) ≤ (k : Int) := by omega
      have i1 : (k : Int) < 64 := by omega
      have H1 := Lib.hid h1
      have HRR := Lib.hid hr
      clear h1 h2 h3 h4 h5 h6 h7 hr hX
      go_wp2_with fail
      refine wp_region_still_lit (by kernel_rfl) (by kernel_rfl) ?_
      repeat still_step
      still_call ((la1_any _ _).mono (fun e w' h => ⟨h.1, h.2.symm⟩))
      repeat still_step
      still_call ((cho_any _ _ _ _).mono (fun e w' h => ⟨h.1, h.2.symm⟩))
      repeat still_step
      refine wpStill_nil ?_
      go_wp2_with fail
      have HM3 := Lib.hid (show MixRel v ws w X r wr by rw [HRR.out]; exact HM.out)
      clear c0 c1 c2 c3 c4 c5 c6 c7 H1 hroot hwc
      change Code.wp _ _ _ _ wr.drew
      have hM2 := HM3.out.drew
      obtain ⟨wr2, hwr2⟩ : ∃ q, q = wr.drew := ⟨_, rfl⟩
      rw [← hwr2] at hM2 ⊢
      have HM2 := Lib.hid hM2
      obtain ⟨h1, _⟩ := hM2
      obtain ⟨c0, c1, c2, c3, c4, c5, c6, c7⟩ := cells8 h1
      have H1 := Lib.hid h1
      clear h1 hwr2
      refine wp_region_still_lit (by kernel_rfl) (by kernel_rfl) ?_
      repeat still_step
      still_call ((la0_any _ _).mono (fun e w' h => ⟨h.1, h.2.symm⟩))
      repeat still_step
      still_call ((mst_any _ _ _ _).mono (fun e w' h => ⟨h.1, h.2.symm⟩))
      repeat still_step
      refine wpStill_nil ?_
      go_wp2_with fail
      clear c0 c1 c2 c3 c4 c5 c6 c7 H1
      change Code.wp _ _ _ _ wr2.drew
      have hM3 := HM2.out.drew
      obtain ⟨wr3, hwr3⟩ : ∃ q, q = wr2.drew := ⟨_, rfl⟩
      rw [← hwr3] at hM3 ⊢
      have HM4 := Lib.hid hM3
      obtain ⟨h1, _⟩ := hM3
      obtain ⟨c0, c1, c2, c3, c4, c5, c6, c7⟩ := cells8 h1
      have H1 := Lib.hid h1
      clear h1 hwr3
      refine wp_region_still_tail 2 (by kernel_rfl) (by kernel_rfl) ?_
      simp only [List.take_succ_cons, List.take_zero, List.drop_succ_cons, List.drop_zero]
      repeat still_step
      refine wpStill_nil ?_
      refine wpList_copy_splice rfl (.tmp 50) (.tmp 51) 27 27 rfl 63 Tryd.underlying27 info47 _ _ _ _ _ _ rfl rfl (X + 1) 1 (C8 r).toList 74 H1.out (cs7 r) rfl (fun _ => ⟨rfl, ⟨X + 1, 0, none⟩, rfl, src7 H1.out⟩) (by simp [C8, cs7]) (fun v hv => by obtain rfl | rfl | rfl | rfl | rfl | rfl | rfl | h := (by simpa [cs7] using hv) <;> rfl) (X + 1) wr3 (below_of_drew ⟨1, rfl⟩ _) (Nat.le_refl _) ?_
      intro w2 hg2 hb2
      have hx := hg2.out
      rw [splice7] at hx
      have HX := Lib.hid hx
      clear c0 c1 c2 c3 c4 c5 c6 c7 H1 hg2
      obtain ⟨c0, c1, c2, c3, c4, c5, c6, c7⟩ := cells8 hx
      have f0 := frozen_of_row w2 (X + 1) 0 _ _ hx
      have f4 := frozen_of_row w2 (X + 1) 4 _ _ hx
      clear hx
      unfold shift at c0 c1 c2 c3 c4 c5 c6 c7
      simp only [] at c0 c1 c2 c3 c4 c5 c6 c7
      go_wp2
      go_roundw
      case rel =>
        refine ⟨k + 1, by omega, by go_num, ?_⟩
        rw [runS_succ, ← HRR.out]
        exact HM4.out.step (wd shaK k) (wd ws k) HX.out hb2
      case measure => simp [intOf]; omega
    · obtain rfl : k = 64 := by omega
      obtain ⟨R, hR⟩ : ∃ R, R = runS ws v 64 := ⟨_, rfl⟩
      rw [← hR] at hM HCOMP
      have hM0 : MixRel v ws w X (addK R v 0) wr := by rw [addK_zero]; exact hM
      have HM0 := Lib.hid hM0
      clear hR hM hM0 HM hk hlt hX
      rw [show ((64 : Nat) : Int) = 64 from rfl]
      go_wp2_with fail
      go_loopw [10, 63] (fun _ i wr => ∃ k : Nat, k ≤ 8 ∧ i = .int .i64 k ∧ MixRel v ws w X (addK R v k) wr) (fun _ i _ => 8 - (intOf i).toNat)
      case atStart => exact ⟨0, by omega, rfl, HM0.out⟩
      case round =>
        clear HM0
        obtain ⟨k, hk, rfl, hM⟩ := hrel
        have HM := Lib.hid hM
        by_cases hlt : k < 8
        · obtain ⟨h1, h2, h3, h4, h5, h6, h7⟩ := hM
          have c1 := (cell_of_row wr (X + 1) k _ _ (0, 0) h1).trans (C8_at _ k hlt)
          have c2 := (cell_of_row wr w.heap.size k _ _ (0, 0) h3).trans (C8_at _ k hlt)
          have f1 := frozen_of_row wr (X + 1) k _ _ h1
          have i0 : (0 : Int) ≤ (k : Int) := by omega
          have i1 : (k : Int) < 8 := by omega
          clear h1 h2 h3 h4 h5 h6 h7
          go_wp2_with fail
          refine wp_region_still_tail 8 (by kernel_rfl) (by kernel_rfl) ?_
          simp only [List.take_succ_cons, List.take_zero, List.drop_succ_cons, List.drop_zero]
          repeat still_step
          refine wpStill_nil ?_
          go_wp2
          go_roundw
          case rel => exact ⟨k + 1, by omega, by go_num, (HM.out.add hlt).drew⟩
          case measure => simp [intOf]; omega
        · obtain rfl : k = 8 := by omega
          rw [addK_full] at hM
          obtain ⟨C, hC⟩ : ∃ C, C = R.add v := ⟨_, rfl⟩
          rw [← hC] at hM HCOMP
          obtain ⟨h1, h2, h3, h4, h5, h6, h7⟩ := hM
          have HV := Lib.hid h1
          have HO := Lib.hid h4
          have HBL := Lib.hid h5
          clear h1 h2 h3 h4 h5 hC HM hk hlt
          obtain ⟨AC, hAC⟩ : ∃ AC, AC = C8 C := ⟨_, rfl⟩
          rw [← hAC] at HV
          have hsz : AC.size = 8 := by rw [hAC]; rfl
          have hio : (Tryd.prog.info? 74).map (·.size) = some AC.size := by rw [hsz]; exact info52
          have hone : AC.all (·.oneCell') = true := by rw [hAC]; exact C8_one C
          have HAC := Lib.hid hAC
          have HSZ := Lib.hid hsz
          have HIO := Lib.hid hio
          have HONE := Lib.hid hone
          clear hAC hsz hio hone
          go_wp2_with (first
            | (refine wpList_load_row rfl 74 (.tmp 6) rfl (X + 1) rfl 74 AC (0, 0) _ HV.out Tryd.underlying74 rfl HIO.out ?_)
            | (refine wpList_store_row rfl 74 (.tmp 4) (.tmp 75) rfl (w.heap.size + 1 + 1) AC rfl rfl 74 _ HO.out HIO.out (by rw [HSZ.out]; rfl) HONE.out ?_)
            | fail)
          have hbel : Below w.heap.size w (wr.setRow (w.heap.size + 1 + 1) AC) := below_setRow HBL.out (by omega) _
          refine bodyPost_ret (v := .agg AC) ?_ rfl ⟨by rw [HCOMP.out, HAC.out]; rfl, hbel⟩
          exact results_cell_row Tryd.results50 _ _ (w.heap.size + 1 + 1) 74 AC (0, 0) _ rfl (setRow_heap wr _ _ _ _ _ HO.out) Tryd.underlying74 rfl HIO.out
end Go.Proofs.YtgebdkbbdabomaaDoor.Sha
