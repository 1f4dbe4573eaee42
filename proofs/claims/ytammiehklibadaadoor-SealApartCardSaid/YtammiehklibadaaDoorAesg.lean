/-
  A CIPHER's struct, as it is built.
-/
import Derived.Test.YtammiehklibadaaDoorAesf
namespace Go.Proofs.YtammiehklibadaaDoor.Aes
open Go.RowKit
open Go.Proofs.YtammiehklibadaaDoor.Kit
set_option linter.unusedVariables false

def Z432 : Array Value := (List.replicate 432 (Value.int .u8 0)).toArray
theorem built_fill (SV : Array Value) : Tryd.prog.built 102 [(1, .agg SV)] = Instr.fill (#[((0 : Nat), (176 : Nat)), (176, 256)][·]?) Z432 [(1, .agg SV)] := by kernel_rfl
theorem built_eq {SV : Array Value} (hs : SV.size = 256) (CV : Array Value) (hc : CV.size = 432) (h0 : ∀ k, k < 176 → CV[k]? = some (.int .u8 0)) (h1 : ∀ k, k < 256 → CV[176 + k]? = SV[k]?) : Tryd.prog.built 102 [(1, .agg SV)] = some CV := by
  rw [built_fill]
  unfold Instr.fill
  have hz : Z432.size = 432 := by rw [Z432, List.size_toArray, List.length_replicate]
  have hv : (Value.agg SV).cells = SV := rfl
  simp only [hv, hs, hz, List.getElem?_toArray, List.getElem?_cons_succ, List.getElem?_cons_zero]
  rw [if_neg (by simp)]
  unfold Instr.fill
  congr 1
  have h2 := Great.foldl_set 176 SV.toList 0 Z432
  rw [← Array.foldl_toList, Array.toList_zipIdx]
  apply Array.ext_getElem?
  intro i
  rw [h2.2 i, hz, Nat.add_zero, Array.length_toList, hs]
  by_cases hi : 176 ≤ i ∧ i < 176 + 256 ∧ i < 432
  · rw [if_pos hi]
    have := h1 (i - 176) (by omega)
    rw [show 176 + (i - 176) = i from by omega] at this
    rw [this, Array.getElem?_toList]
  · rw [if_neg hi]
    by_cases h176 : i < 176
    · rw [h0 i h176, Z432, List.getElem?_toArray, List.getElem?_replicate, if_pos (by omega)]
    · rw [Array.getElem?_eq_none (by omega), Array.getElem?_eq_none (by omega)]
/-- a cipher's cells, so many rounds' keys being laid -/
def A432 (key : Nat → UInt8) (r : Nat) : Array Value := ((row (cfK key r) 432).map bv).toArray
theorem A432_built (key : Nat → UInt8) : Tryd.prog.built 102 [(1, .agg A256)] = some (A432 key 0) := by
  refine built_eq A256_size _ (by simp [A432, row_len]) (fun k hk => ?_) (fun k hk => ?_)
  · rw [A432, List.getElem?_toArray, List.getElem?_map, row_at _ (by omega), cfK, if_neg (by omega), if_pos hk]; rfl
  · rw [A432, List.getElem?_toArray, List.getElem?_map, row_at _ (by omega), cfK, if_neg (by omega), if_neg (by omega), A256, List.getElem?_toArray, List.getElem?_map, row_at _ (by omega), show 176 + k - 176 = k from by omega]
theorem run_built (key : Nat → UInt8) (w : World) : (Instr.build 102 #[(1, .agg A256)]).run Tryd.prog w = .ok (.agg (A432 key 0)) w := run_build w _ _ _ (A432_built key)
/-- a cipher in memory -/
def CipherAt (w : World) (G : Nat) (key : Nat → UInt8) : Prop := Arr w G 102 (cf key) 432
theorem cf_subs (key : Nat → UInt8) (r n : Nat) (hr : r ≤ 11) : cfK key r (176 + n) = sbN n := by
  rw [cfK, if_neg (by omega), if_neg (by omega), show 176 + n - 176 = n from by omega]
theorem subs_of {w : World} {G r : Nat} {key : Nat → UInt8} {t : TypeId} (hr : r ≤ 11) (h : Arr w G t (cfK key r) 432) : SubsAt w G := fun n hn => by
  rw [h.cell (show 176 + n < 432 by omega), cf_subs _ _ _ hr]
theorem cf_key (key : Nat → UInt8) (r j n : Nat) (hj : j < n) (hr : r < 16) : cfK key n (16 * j + r) = rk key j r := by
  rw [cfK, if_pos (by omega), show (16 * j + r) / 16 = j from by omega, show (16 * j + r) % 16 = r from by omega]
/-- the next round's key is laid -/
theorem cf_more (key : Nat → UInt8) (r : Nat) (hr : r < 11) (i : Nat) : (if 16 * r ≤ i ∧ i < 16 * r + 16 then rk key r (i - 16 * r) else cfK key r i) = cfK key (r + 1) i := by
  by_cases h : 16 * r ≤ i ∧ i < 16 * r + 16
  · rw [if_pos h, cfK, if_pos (by omega), show i / 16 = r from by omega, show i % 16 = i - 16 * r from by omega]
  · rw [if_neg h, cfK, cfK]
    by_cases h1 : i < 16 * r
    · rw [if_pos h1, if_pos (show i < 16 * (r + 1) by omega)]
    · rw [if_neg h1, if_neg (show ¬ i < 16 * (r + 1) by omega)]
end Go.Proofs.YtammiehklibadaaDoor.Aes
