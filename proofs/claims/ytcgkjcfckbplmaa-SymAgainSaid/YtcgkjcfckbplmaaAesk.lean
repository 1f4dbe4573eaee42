/-
  AES: loads and stores of rows of sixteen bytes; the field's functions; the substitution of a byte.
-/
import Derived.Test.YtcgkjcfckbplmaaAesp
import Derived.Test.YtcgkjcfckbplmaaChecked
import Derived.Test.YtcgkjcfckbplmaaKit3
import Derived.Test.YtcgkjcfckbplmaaCuts
import Derived.Deep.MidRow
import Derived.Laws.Tables
import Derived.Laws.CopyOwn
import Derived.Great.FillDense
import Derived.Deep.RegionHeld3
import Derived.Deep.RegionLaw
import Derived.Deep.DeepCutAuto
namespace Go.Proofs.Ytcgkjcfckbplmaa.Aes
open Go.RowKit
open Go.Proofs.Ytcgkjcfckbplmaa.Kit
set_option linter.unusedVariables false

theorem info16 : (Try.prog.info? 32).map (·.size) = some 16 := by kernel_rfl
theorem info16k : (Try.prog.info? 36).map (·.size) = some 16 := by kernel_rfl
/-- a row of cells as it stands in a world -/
def rowOf (w : World) (g o n : Nat) : List Value := (List.range n).map fun j => (w.cell? ⟨g, o + j, none⟩).getD undef
def HasRow (w : World) (g o n : Nat) : Prop := ∀ j, j < n → (w.cell? ⟨g, o + j, none⟩).isSome = true
theorem rowOf_eq {w : World} {g o n : Nat} {cs : List Value} (h : w.rangeAt g o cs) (hn : cs.length = n) : rowOf w g o n = cs ∧ HasRow w g o n := by
  refine ⟨?_, fun j hj => h.isSome j (by omega)⟩
  apply List.ext_getElem?
  intro j
  rw [rowOf, List.getElem?_map]
  by_cases hj : j < n
  · rw [List.getElem?_range hj, Option.map_some, List.getElem?_eq_getElem (by omega), h j _ (List.getElem?_eq_getElem (by omega))]
    rfl
  · rw [List.getElem?_eq_none (by simp; omega), List.getElem?_eq_none (by omega)]; rfl
theorem range_rowOf {w : World} {g o n : Nat} (h : HasRow w g o n) : w.rangeAt g o (rowOf w g o n) := fun j v hv => by
  rw [rowOf, List.getElem?_map] at hv
  have hj : j < n := by
    rcases Nat.lt_or_ge j n with h' | h'
    · exact h'
    · rw [List.getElem?_eq_none (by simpa using h')] at hv; cases hv
  rw [List.getElem?_range hj, Option.map_some] at hv
  obtain ⟨u, hu⟩ := Option.isSome_iff_exists.1 (h j hj)
  rw [hu] at hv
  rw [hu, ← hv]; rfl
def rowAt (w : World) (v : Value) (n : Nat) : List Value := match v with
  | .pointer (some ⟨g, o, none⟩) => rowOf w g o n
  | _ => []
def HasRowAt (w : World) (v : Value) (n : Nat) : Prop := match v with
  | .pointer (some ⟨g, o, none⟩) => HasRow w g o n
  | _ => False
theorem HasRowAt_mk (w : World) (g o n : Nat) : HasRowAt w (.pointer (some ⟨g, o, none⟩)) n = HasRow w g o n := rfl
theorem rowAt_mk (w : World) (g o n : Nat) : rowAt w (.pointer (some ⟨g, o, none⟩)) n = rowOf w g o n := rfl
theorem wp_load16 (d : Option Nat) (ty : TypeId) (pos : String) (after : Array Edge) (x : Operand) (a : Act) (w : World) (K : Act → World → Prop) (Q : Exit → Act → World → Prop) (h : HasRowAt w (a.eval x) 16) :
    Oper.wp Try.prog ⟨d, .load 32 x, ty, pos, after, none⟩ a w K Q = K (a.put d (.agg (rowAt w (a.eval x) 16).toArray)) w := by
  unfold HasRowAt at h
  split at h
  · rename_i g o he
    have hrun := run_loadAt_mid (P := Try.prog) w g o 32 (rowOf w g o 16) _ (range_rowOf h) Try.underlying32 rfl (by rw [rowOf, List.length_map, List.length_range]; exact info16)
    unfold Oper.wp execOp
    simp only [he, hrun, Result.andThen_ok, rowAt_mk, Sem.run_bind, Sem.run_pure]
    rfl
  · cases h
theorem wp_load16k (d : Option Nat) (ty : TypeId) (pos : String) (after : Array Edge) (x : Operand) (a : Act) (w : World) (K : Act → World → Prop) (Q : Exit → Act → World → Prop) (h : HasRowAt w (a.eval x) 16) :
    Oper.wp Try.prog ⟨d, .load 36 x, ty, pos, after, none⟩ a w K Q = K (a.put d (.agg (rowAt w (a.eval x) 16).toArray)) w := by
  unfold HasRowAt at h
  split at h
  · rename_i g o he
    have hrun := run_loadAt_mid (P := Try.prog) w g o 36 (rowOf w g o 16) _ (range_rowOf h) Try.underlying36 rfl (by rw [rowOf, List.length_map, List.length_range]; exact info16k)
    unfold Oper.wp execOp
    simp only [he, hrun, Result.andThen_ok, rowAt_mk, Sem.run_bind, Sem.run_pure]
    rfl
  · cases h
def StOk (w : World) (v u : Value) : Prop := match v, u with
  | .pointer (some ⟨g, o, none⟩), .agg cs => w.there g o 16 ∧ cs.size = 16 ∧ cs.all (·.oneCell') = true
  | _, _ => False
def stAt (w : World) (v u : Value) : World := match v, u with
  | .pointer (some ⟨g, o, none⟩), .agg cs => w.setCells g o cs.toList
  | _, _ => w
theorem StOk_mk (w : World) (g o : Nat) (cs : Array Value) : StOk w (.pointer (some ⟨g, o, none⟩)) (.agg cs) = (w.there g o 16 ∧ cs.size = 16 ∧ cs.all (·.oneCell') = true) := rfl
theorem stAt_mk (w : World) (g o : Nat) (cs : Array Value) : stAt w (.pointer (some ⟨g, o, none⟩)) (.agg cs) = w.setCells g o cs.toList := rfl
theorem wp_store16 (d : Option Nat) (ty : TypeId) (pos : String) (after : Array Edge) (x y : Operand) (a : Act) (w : World) (K : Act → World → Prop) (Q : Exit → Act → World → Prop) (h : StOk w (a.eval x) (a.eval y)) :
    Oper.wp Try.prog ⟨d, .store 32 x y, ty, pos, after, none⟩ a w K Q = K (a.put d undef) (stAt w (a.eval x) (a.eval y)) := by
  unfold StOk at h
  split at h
  · rename_i g o cs he hy
    have hrun := run_storeVar_mid (P := Try.prog) w g o 32 cs (by rw [h.2.1]; exact h.1) (by rw [h.2.1]; exact info16) h.2.2
    unfold Oper.wp execOp
    simp only [he, hy, Instr.storeAt, Instr.sureAddr, Sem.run_bind, Sem.run_pure, Result.andThen_ok, hrun, stAt_mk]
    rfl
  · cases h
/-- cells laid into a block, one behind the other -/
theorem setCells_heap {g : Nat} {t : TypeId} : ∀ (vs : List Value) (o : Nat) (cur : List Value) (w : World), w.heap[g]? = some (.cells cur.toArray t (0, 0)) → o + vs.length ≤ cur.length → (w.setCells g o vs).heap[g]? = some (.cells (splice cur o vs).toArray t (0, 0))
  | [], o, cur, w, h, hl => by
    have e : splice cur o ([] : List Value) = cur := by simp [splice]
    rw [e]; exact h
  | v :: r, o, cur, w, h, hl => by
    have h1 := heap_setCell_same w g o _ _ v h
    rw [List.setIfInBounds_toArray] at h1
    have hl' : o + (r.length + 1) ≤ cur.length := by simpa using hl
    have h2 := setCells_heap r (o + 1) (cur.set o v) _ h1 (by rw [List.length_set]; omega)
    have e : splice (cur.set o v) (o + 1) r = splice cur o (v :: r) := by
      simp only [splice]
      rw [List.take_set, List.take_add_one, List.drop_set_of_lt (by omega)]
      rw [List.getElem?_eq_getElem (by omega), List.set_append_right _ _ (by rw [List.length_take]; omega)]
      simp only [Option.toList_some, List.length_take, Nat.min_eq_left (show o ≤ cur.length by omega), Nat.sub_self, List.set_cons_zero, List.length_cons, List.append_assoc, List.cons_append, List.nil_append]
      rw [show o + 1 + r.length = o + (r.length + 1) from by omega]
    rw [e] at h2
    exact h2
theorem setCells_other {g b : Nat} (hne : b ≠ g) : ∀ (vs : List Value) (o : Nat) (w : World), (w.setCells g o vs).heap[b]? = w.heap[b]?
  | [], o, w => rfl
  | v :: r, o, w => (setCells_other hne r (o + 1) _).trans (heap_setCell_other _ _ _ _ hne)
theorem setCells_size (vs : List Value) : ∀ (g o : Nat) (w : World), (w.setCells g o vs).heap.size = w.heap.size := by
  induction vs with
  | nil => intro g o w; rfl
  | cons v r ih => intro g o w; exact (ih _ _ _).trans (by simp [World.setCell])
theorem setCells_below {B g : Nat} {w0 w : World} (hb : Below B w0 w) (hg : B ≤ g) (vs : List Value) : ∀ o, Below B w0 (w.setCells g o vs) := by
  induction vs generalizing w with
  | nil => intro o; exact hb
  | cons v r ih => intro o; exact ih (hb.setCell hg _) (o + 1)
/-- a row in memory -/
def Arr (w : World) (g : Nat) (t : TypeId) (f : Nat → UInt8) (n : Nat) : Prop := w.heap[g]? = some (.cells ((row f n).map bv).toArray t (0, 0))
theorem Arr.cell {w : World} {g : Nat} {t : TypeId} {f : Nat → UInt8} {n i : Nat} (h : Arr w g t f n) (hi : i < n) : w.cell? ⟨g, i, none⟩ = some (.int .u8 ((f i).toNat : Int)) := by
  rw [cell_of_row w g i _ _ (0, 0) h, List.getElem?_toArray, List.getElem?_map, row_at f hi]; rfl
theorem Arr.frozen {w : World} {g : Nat} {t : TypeId} {f : Nat → UInt8} {n : Nat} (h : Arr w g t f n) (i : Nat) : w.frozen? ⟨g, i, none⟩ = false := frozen_of_row w g i _ _ h
theorem Arr.set {w : World} {g : Nat} {t : TypeId} {T O : Nat → UInt8} {n k : Nat} (h : Arr w g t (upto k T O) n) (hk : k < n) : Arr (w.setCell ⟨g, k, none⟩ (.int .u8 ((T k).toNat : Int))) g t (upto (k + 1) T O) n := by
  rw [Arr, heap_setCell_same w g k _ _ _ h, List.setIfInBounds_toArray, ← upto_set T O hk, List.map_set]; rfl
theorem Arr.set' {w : World} {g : Nat} {t : TypeId} {f : Nat → UInt8} {n k : Nat} (h : Arr w g t f n) (hk : k < n) (x : UInt8) : Arr (w.setCell ⟨g, k, none⟩ (.int .u8 (x.toNat : Int))) g t (fun j => if j = k then x else f j) n := by
  rw [Arr, heap_setCell_same w g k _ _ _ h, List.setIfInBounds_toArray, ← row_set f hk, List.map_set]; rfl
theorem Arr.block {w w' : World} {g : Nat} {t : TypeId} {f : Nat → UInt8} {n : Nat} (h : Arr w g t f n) (e : w'.heap[g]? = w.heap[g]?) : Arr w' g t f n := e.trans h
theorem Arr.lt {w : World} {g : Nat} {t : TypeId} {f : Nat → UInt8} {n : Nat} (h : Arr w g t f n) : g < w.heap.size := block_lt_of_heap h
theorem Arr.on {w w' : World} {g B : Nat} {t : TypeId} {f : Nat → UInt8} {n : Nat} (h : Arr w g t f n) (hb : Below B w w') (hg : g < B) : Arr w' g t f n := h.block (hb.block g hg)
theorem Arr.range {w : World} {g : Nat} {t : TypeId} {f : Nat → UInt8} {n : Nat} (h : Arr w g t f n) : w.rangeAt g 0 ((row f n).map bv) := fun j u hu => by
  rw [cell_of_row w g _ _ _ (0, 0) h, List.getElem?_toArray, Nat.zero_add]; exact hu
theorem Arr.rangeMid {w : World} {g : Nat} {t : TypeId} {f : Nat → UInt8} {n : Nat} (h : Arr w g t f n) {o m : Nat} (hm : o + m ≤ n) : w.rangeAt g o ((row (fun j => f (o + j)) m).map bv) := fun j u hu => by
  have hj : j < m := by have := (List.getElem?_eq_some_iff.1 hu).1; rw [List.length_map, row_len] at this; exact this
  rw [h.cell (show o + j < n by omega), ← hu, List.getElem?_map, row_at _ hj]; rfl
theorem Arr.there {w : World} {g : Nat} {t : TypeId} {f : Nat → UInt8} {n : Nat} (h : Arr w g t f n) {o m : Nat} (hm : o + m ≤ n) : w.there g o m := fun i hi => ⟨by rw [h.cell (show o + i < n by omega)]; rfl, h.frozen _⟩
theorem Arr.setMid {w : World} {g : Nat} {t : TypeId} {f T : Nat → UInt8} {n : Nat} (h : Arr w g t f n) {o m : Nat} (hm : o + m ≤ n) : Arr (w.setCells g o ((row T m).map bv)) g t (fun j => if o ≤ j ∧ j < o + m then T (j - o) else f j) n := by
  rw [Arr, setCells_heap _ _ _ _ h (by rw [List.length_map, row_len, List.length_map, row_len]; exact hm)]
  congr 3
  rw [splice, ← List.map_take, List.length_map, row_len, ← List.map_drop, ← List.map_append, ← List.map_append]
  congr 1
  apply List.ext_getElem?
  intro i
  by_cases hi : i < n
  · rw [row_at _ hi]
    by_cases h1 : i < o
    · rw [List.getElem?_append_left (by rw [List.length_take, row_len]; omega), List.getElem?_take_of_lt h1, row_at _ hi, if_neg (by omega)]
    · rw [List.getElem?_append_right (by rw [List.length_take, row_len]; omega), List.length_take, row_len, Nat.min_eq_left (by omega)]
      by_cases h2 : i < o + m
      · rw [List.getElem?_append_left (by rw [row_len]; omega), row_at _ (by omega), if_pos (by omega)]
      · rw [List.getElem?_append_right (by rw [row_len]; omega), row_len, List.getElem?_drop, show o + m + (i - o - m) = i from by omega, row_at _ hi, if_neg (by omega)]
  · rw [List.getElem?_eq_none (by simp [row_len]; omega), List.getElem?_eq_none (by rw [row_len]; omega)]
theorem arr_new (w : World) (t : TypeId) (f : Nat → UInt8) (n : Nat) : Arr (w.alloc (.cells ((row f n).map bv).toArray t)) w.heap.size t f n := heap_alloc_new w _
theorem agg_one (f : Nat → UInt8) (n : Nat) : ((row f n).map bv).toArray.all (·.oneCell') = true := all_oneCell_toArray (bv_one _)
theorem agg_size (f : Nat → UInt8) (n : Nat) : ((row f n).map bv).toArray.size = n := by simp [row_len]
end Go.Proofs.Ytcgkjcfckbplmaa.Aes
