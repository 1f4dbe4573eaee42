/-
  base: Get and Add.
-/
import Derived.Test.YtlngbpipmaaedaaBaw
import Derived.Test.YtlngbpipmaaedaaNamq
import Derived.Deep.RegionHeldLaw
import Derived.Deep.AppendLies
namespace Go.Proofs.Ytlngbpipmaaedaa.Ba
open Go.RowKit
open Go.Proofs.Ytlngbpipmaaedaa.Kit
set_option linter.unusedVariables false

def zU : Us := ⟨⟨#[]⟩, List.replicate 16 0, 0, 0, false⟩
def ZU : Array Value := #[.string ⟨#[]⟩, .int .u8 0, .int .u8 0, .int .u8 0, .int .u8 0, .int .u8 0, .int .u8 0, .int .u8 0, .int .u8 0, .int .u8 0, .int .u8 0, .int .u8 0, .int .u8 0, .int .u8 0, .int .u8 0, .int .u8 0, .int .u8 0, .int .i64 0, .int .i64 0, .bool false]
theorem zU_arr : zU.arr = ZU := rfl
theorem zU_zero (w : World) : (zeroValue 30).run Try.prog w = .ok (.agg ZU) w := by kernel_rfl
theorem zU_built : Try.prog.built 30 [] = some ZU := by kernel_rfl
/-- who is found, and the error's number -/
def getU (L : List Us) (s : ByteArray) : Us × Int := if findU L s < 0 then (zU, 9) else (L.getD (findU L s).toNat zU, 0)
theorem getU_k16 {L : List Us} (h : ∀ u ∈ L, u.key.length = 16) (s : ByteArray) : (getU L s).1.key.length = 16 := by
  unfold getU
  by_cases h0 : findU L s < 0
  · rw [if_pos h0]; rfl
  · rw [if_neg h0]
    have := findU_lt L s
    show (L.getD _ zU).key.length = 16
    rw [List.getD_eq_getElem?_getD, List.getElem?_eq_getElem (by omega)]
    exact h _ (List.getElem_mem _)
theorem results_row_tmp {fn : Func} {p u : Tmp} {ty : TypeId} (h : fn.results = #[.cell p ty, .tmp u]) (tmps : Array Value) (w : World) (g : Nat) (t : TypeId) (cs : Array Value) (fr : Nat × Nat) {v : Value} (fs : Array Field)
    (hp : tmps.getD p undef = .pointer (some ⟨g, 0, none⟩)) (hv : tmps.getD u undef = v) (hg : w.heap[g]? = some (.cells cs t fr))
    (hu : Try.prog.underlying ty = some (.struct fs)) (hi : (Try.prog.info? ty).map (·.size) = some cs.size) :
    (results fn tmps).run Try.prog w = .ok (.tuple #[.agg cs, v]) w := by
  rw [results_cell_tmp h, hp, hv]
  simp [asAddr, run_loadVar_row w g t ty cs fr _ hg hu rfl hi, Result.andThen]
set_option maxRecDepth 100000 in
set_option maxHeartbeats 2000000 in
theorem get_any {w : World} {bb B c : Nat} {A : Option Addr} {L : List Us} (h : BsAt w bb B A c L) (hz : L.length ≤ 1000000) (s : ByteArray) :
    Calls Try.prog 13 #[.pointer (some ⟨bb, 0, none⟩), .string s] w fun e w' => e = .returned (.tuple #[.agg (getU L s).1.arr, .int .i64 (getU L s).2]) ∧ Below w.heap.size w w' := by
  obtain ⟨ZV, hZ⟩ : ∃ q, q = ZU := ⟨_, rfl⟩
  have hz30 : ∀ w, (zeroValue 30).run Try.prog w = .ok (.agg ZV) w := fun w => by rw [hZ]; exact zU_zero w
  have hZs : ZV.size = 20 := by rw [hZ]; rfl
  have HZV := Lib.hid hZ
  obtain ⟨W1, hW1⟩ : ∃ q, q = w.alloc (.cells ZV 30) := ⟨_, rfl⟩
  have hb : Below w.heap.size w W1 := by rw [hW1]; exact below_of_new _ _
  have hr : W1.heap[w.heap.size]? = some (.cells ZV 30 (0, 0)) := by rw [hW1]; exact heap_alloc_new _ _
  have h1 := h.below hb
  have hpl := place_any h1 hz s
  have hlt := findU_lt L s
  obtain ⟨V, hV⟩ : ∃ z, z = findU L s := ⟨_, rfl⟩
  rw [← hV] at hpl hlt
  have hg : getU L s = if V < 0 then (zU, 9) else (L.getD V.toNat zU, 0) := by rw [hV]; rfl
  obtain ⟨G, hG⟩ : ∃ z, z = getU L s := ⟨_, rfl⟩
  rw [← hG] at hg ⊢
  have HG := Lib.hid hg
  have HB := Lib.hid hb
  have HW := Lib.hid hW1.symm
  have HR := Lib.hid hr
  have H1 := Lib.hid h1
  clear hb hr h1 hW1 hV h hg hG hZ
  by_cases h0 : V < 0
  · have d0 : decide (V < 0) = true := decide_eq_true h0
    have HI := Lib.hid (show (Try.prog.info? 30).map (·.size) = some ZV.size from by rw [hZs]; exact infoU)
    have HO := Lib.hid (show ZV.all (·.oneCell') = true from by rw [HZV.out, ← zU_arr]; exact all_oneCell_toArray (Us.one _))
    have HBU := Lib.hid (show Try.prog.built 30 [] = some ZV from by rw [HZV.out]; exact zU_built)
    have e := HG.out
    rw [if_pos h0] at e
    have e1 : G.1.arr = ZV := by rw [e, HZV.out]; rfl
    have e2 : G.2 = 9 := by rw [e]
    rw [e1, e2]
    clear e e1 e2
    go_enter Try.func13, Try.ntmps13
    go_wp2_with (rw [HW.out])
    refine hpl.mono ?_
    rintro e w2 ⟨rfl, hb2⟩
    have hr2 := (hb2.block _ (Array.getElem?_eq_some_iff.1 HR.out).1).trans HR.out
    have hb3 := below_setRow (below_seq HB.out hb2) (Nat.le_refl _) ZV
    have HR2 := Lib.hid hr2
    have HB3 := Lib.hid hb3
    have HR3 := Lib.hid (setRow_heap _ w.heap.size _ ZV _ _ hr2)
    clear hr2 hb3 hb2
    go_wp2_with (first
      | (refine wpList_buildTo rfl 30 #[] rfl (some 12) rfl ZV HBU.out ?_)
      | (refine wpList_store_row (o := ⟨none, _, _, _, _, _⟩) rfl 30 (.tmp 4) (.tmp 12) rfl w.heap.size ZV rfl rfl 30 _ HR2.out HI.out rfl HO.out ?_))
    refine bodyPost_ret (v := .tuple #[.agg ZV, .int .i64 9]) (results_row_tmp Try.results13 _ _ w.heap.size 30 ZV (0, 0) _ (by rfl) (by rfl) HR3.out Try.underlying30 HI.out) rfl ?_
    exact ⟨rfl, HB3.out⟩
  · have d0 : decide (V < 0) = false := decide_eq_false h0
    obtain ⟨k, rfl⟩ : ∃ k : Nat, V = k := ⟨V.toNat, by omega⟩
    have hkl : k < L.length := by omega
    have hko : decide ((k : Int) < (L.length : Int)) = true := decide_eq_true (by omega)
    obtain ⟨u, hu⟩ : ∃ u, L[k]? = some u := ⟨L[k]'hkl, List.getElem?_eq_getElem _⟩
    have hu16 := H1.out.k16 u (List.mem_of_getElem? hu)
    obtain ⟨g, rfl, hgl, hrg⟩ := own_us H1.out.own H1.out.k16 hu
    have e := HG.out
    rw [if_neg h0] at e
    have e1 : G.1.arr = u.cells.toArray := by
      rw [e]
      show (L.getD (Int.toNat k) zU).arr = _
      rw [Int.toNat_natCast, List.getD_eq_getElem?_getD, hu]
      rfl
    have e2 : G.2 = 0 := by rw [e]
    rw [e1, e2]
    have HUI := Lib.hid (show (Try.prog.info? 30).map (·.size) = some u.cells.length from by rw [Us.len hu16]; exact infoU)
    have HIL := Lib.hid (show u.cells.length = 20 from Us.len hu16)
    obtain ⟨UV, hUV⟩ : ∃ z, z = u.cells.toArray := ⟨_, rfl⟩
    rw [← hUV]
    have hU2 : u.cells.toArray = UV := hUV.symm
    have HI := Lib.hid (show (Try.prog.info? 30).map (·.size) = some UV.size from by rw [hUV, List.size_toArray, HIL.out]; exact infoU)
    have HZ2 := Lib.hid (show ZV.size = UV.size from by rw [hZs, hUV, List.size_toArray, HIL.out])
    have HO := Lib.hid (show UV.all (·.oneCell') = true from by rw [hUV]; exact all_oneCell_toArray (Us.one _))
    have HRG := Lib.hid hrg
    clear e e1 e2 hu hrg hUV
    go_enter Try.func13, Try.ntmps13
    go_wp2_with (rw [HW.out])
    refine hpl.mono ?_
    rintro e w2 ⟨rfl, hb2⟩
    have hr2 := (hb2.block _ (Array.getElem?_eq_some_iff.1 HR.out).1).trans HR.out
    have hb3 := below_setRow (below_seq HB.out hb2) (Nat.le_refl _) UV
    have c0 : w2.cell? ⟨bb, 0, none⟩ = some (.slice (some ⟨g, 0, none⟩) L.length c) := by rw [cell_of_row _ _ _ _ _ _ (H1.out.below hb2).row]; rfl
    have HRG2 := Lib.hid (show w2.rangeAt g (k * 20) u.cells from fun j v hj => (hb2.cell (p := ⟨g, k * 20 + j, none⟩) hgl).trans (HRG.out j v hj))
    have HR2 := Lib.hid hr2
    have HB3 := Lib.hid hb3
    have HR3 := Lib.hid (setRow_heap _ w.heap.size _ UV _ _ hr2)
    clear hr2 hb3 hb2
    go_wp2_with (first
      | (refine wpList_load_mid (op := ⟨some 19, _, _, _, _, _⟩) rfl 30 (.tmp 18) rfl g (k * 20) rfl u.cells _ HRG2.out Try.underlying30 rfl HUI.out ?_; rw [hU2])
      | (refine wpList_store_row (o := ⟨none, _, _, _, _, _⟩) rfl 30 (.tmp 4) (.tmp 19) rfl w.heap.size UV rfl rfl 30 _ HR2.out HI.out HZ2.out HO.out ?_))
    refine bodyPost_ret (v := .tuple #[.agg UV, .int .i64 0]) (results_row_tmp Try.results13 _ _ w.heap.size 30 UV (0, 0) _ (by rfl) (by rfl) HR3.out Try.underlying30 HI.out) rfl ?_
    exact ⟨rfl, HB3.out⟩
end Go.Proofs.Ytlngbpipmaaedaa.Ba
