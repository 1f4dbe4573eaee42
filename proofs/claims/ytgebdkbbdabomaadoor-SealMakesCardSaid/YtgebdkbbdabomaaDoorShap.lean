/-
  SUMS of layer 3 in memory, and what taking bytes in leaves, plainly.
-/
import Derived.Test.YtgebdkbbdabomaaDoorSham
import Derived.Test.YtgebdkbbdabomaaDoorValx
namespace Go.Proofs.YtgebdkbbdabomaaDoor.Sha
open Go.RowKit
open Go.Proofs.YtgebdkbbdabomaaDoor.Kit
open Go.Proofs.YtgebdkbbdabomaaDoor.Oct
set_option linter.unusedVariables false

theorem blocksS_app (n : Nat) : ∀ (v : S8) (b c : List UInt8), 64 * n ≤ b.length → blocksS v n (b ++ c) = blocksS v n b := by
  induction n with
  | zero => intro v b c _; rw [blocksS_zero, blocksS_zero]
  | succ n ih =>
    intro v b c h
    rw [blocksS_succ, blocksS_succ, List.take_append_of_le_length (by omega), List.drop_append_of_le_length (by omega), ih _ _ _ (by rw [List.length_drop]; omega)]
theorem blocksS_last (n : Nat) : ∀ (v : S8) (b : List UInt8), 64 * (n + 1) ≤ b.length → blocksS v (n + 1) b = comp (blocksS v n b) ((b.drop (64 * n)).take 64) := by
  induction n with
  | zero => intro v b _; rw [blocksS_succ, blocksS_zero, blocksS_zero]; rfl
  | succ n ih =>
    intro v b h
    rw [blocksS_succ, ih _ _ (by rw [List.length_drop]; omega), blocksS_succ, List.drop_drop, show 64 + 64 * n = 64 * (n + 1) from by omega]

/-- the cells of a Sum -/
def sumC (v : S8) (blk : List UInt8) (n : Nat) : List Value := (C8 v).toList ++ (blk.map bv ++ [.int .u64 n])
def BlkOf (x blk : List UInt8) : Prop := blk.length = 64 ∧ blk.take (x.length % 64) = x.drop (64 * (x.length / 64))
def SumAt (w : World) (g : Nat) (x : List UInt8) : Prop :=
  ∃ blk : List UInt8, BlkOf x blk ∧ w.heap[g]? = some (.cells (sumC (blocksS H0 (x.length / 64) x) blk x.length).toArray 76 (0, 0))
theorem sumC_len (v : S8) {blk : List UInt8} (n : Nat) (h : blk.length = 64) : (sumC v blk n).length = 73 := by simp [sumC, C8, h]
theorem sumC_size (v : S8) {blk : List UInt8} (n : Nat) (h : blk.length = 64) : (sumC v blk n)[72]? = some (.int .u64 n) := by
  rw [sumC, List.getElem?_append_right (by simp [C8]), List.getElem?_append_right (by simp [C8, h])]
  simp [C8, h]
theorem sumC_set (v : S8) {blk : List UInt8} (n m : Nat) (h : blk.length = 64) : (sumC v blk n).toArray.setIfInBounds 72 (.int .u64 m) = (sumC v blk m).toArray := by
  rw [List.setIfInBounds_toArray]
  congr 1
  rw [sumC, List.set_append_right _ _ (by simp [C8]), List.set_append_right _ _ (by simp [C8, h])]
  simp [C8, h, sumC]
theorem sumC_words (v : S8) (blk : List UInt8) (n : Nat) {w : World} {g : Nat} {t : TypeId} (h : w.heap[g]? = some (.cells (sumC v blk n).toArray t (0, 0))) : w.rangeAt g 0 (C8 v).toList := fun j u hu => by
  have hj : j < 8 := (List.getElem?_eq_some_iff.1 hu).1
  rw [cell_of_row w g _ _ t (0, 0) h, Nat.zero_add, List.getElem?_toArray, sumC, List.getElem?_append_left (by simpa [C8] using hj)]
  exact hu
theorem sumC_block (v : S8) {blk : List UInt8} (n : Nat) (hl : blk.length = 64) {w : World} {g : Nat} {t : TypeId} (h : w.heap[g]? = some (.cells (sumC v blk n).toArray t (0, 0))) : w.rangeAt g 8 (blk.map bv) := fun j u hu => by
  have hj : j < 64 := by have := (List.getElem?_eq_some_iff.1 hu).1; simp at this; omega
  rw [cell_of_row w g _ _ t (0, 0) h, List.getElem?_toArray, sumC, List.getElem?_append_right (by simp [C8]), List.getElem?_append_left (by simp [C8, hl]; omega)]
  rw [← hu]
  congr 1
  simp [C8]
/-- bytes laid into the block -/
def lay (blk : List UInt8) (m : Nat) (c : List UInt8) : List UInt8 := blk.take m ++ (c ++ blk.drop (m + c.length))
theorem lay_len {blk : List UInt8} {m : Nat} {c : List UInt8} (hl : blk.length = 64) (h : m + c.length ≤ 64) : (lay blk m c).length = 64 := by simp [lay, hl]; omega
theorem sumC_lay (v : S8) {blk : List UInt8} (n m : Nat) (c : List UInt8) (hl : blk.length = 64) (h : m + c.length ≤ 64) : splice (sumC v blk n) (8 + m) (c.map bv) = sumC v (lay blk m c) n := by
  have h8 : (C8 v).toList.length = 8 := by simp [C8]
  have hm : (blk.map bv).length = 64 := by simpa using hl
  rw [splice, sumC, sumC, lay, List.take_append, List.drop_append, h8, show 8 + m - 8 = m from by omega, List.take_of_length_le (by rw [h8]; omega), List.drop_eq_nil_of_le (by rw [h8]; omega)]
  rw [List.take_append_of_le_length (by rw [hm]; omega), List.length_map, show 8 + m + c.length - 8 = m + c.length from by omega, List.drop_append_of_le_length (by rw [hm]; omega)]
  simp [List.map_take, List.map_drop]
theorem lay_some {x blk c : List UInt8} (h : BlkOf x blk) (hc : x.length % 64 + c.length < 64) : BlkOf (x ++ c) (lay blk (x.length % 64) c) ∧ (x ++ c).length / 64 = x.length / 64 ∧ blocksS H0 ((x ++ c).length / 64) (x ++ c) = blocksS H0 (x.length / 64) x := by
  obtain ⟨h1, h2⟩ := h
  have e1 : (x ++ c).length / 64 = x.length / 64 := by rw [List.length_append]; omega
  have e2 : (x ++ c).length % 64 = x.length % 64 + c.length := by rw [List.length_append]; omega
  refine ⟨⟨lay_len h1 (by omega), ?_⟩, e1, ?_⟩
  · rw [e1, e2, List.drop_append_of_le_length (by omega), ← h2, lay, List.take_append, List.length_take, h1, show min (x.length % 64) 64 = x.length % 64 from by omega, List.take_of_length_le (by rw [List.length_take]; omega), show x.length % 64 + c.length - x.length % 64 = c.length from by omega, List.take_append_of_le_length (Nat.le_refl _), List.take_of_length_le (Nat.le_refl _)]
  · rw [e1, blocksS_app _ _ _ _ (by omega)]
theorem lay_full {x blk c : List UInt8} (h : BlkOf x blk) (hc : x.length % 64 + c.length = 64) : BlkOf (x ++ c) (lay blk (x.length % 64) c) ∧ (x ++ c).length % 64 = 0 ∧ blocksS H0 ((x ++ c).length / 64) (x ++ c) = comp (blocksS H0 (x.length / 64) x) (lay blk (x.length % 64) c) := by
  obtain ⟨h1, h2⟩ := h
  have e1 : (x ++ c).length / 64 = x.length / 64 + 1 := by rw [List.length_append]; omega
  have e2 : (x ++ c).length % 64 = 0 := by rw [List.length_append]; omega
  refine ⟨⟨lay_len h1 (by omega), ?_⟩, e2, ?_⟩
  · rw [e2, List.take_zero, e1, List.drop_eq_nil_of_le (by rw [List.length_append]; omega)]
  · rw [e1, blocksS_last _ _ _ (by rw [List.length_append]; omega), blocksS_app _ _ _ _ (by omega)]
    congr 1
    rw [List.drop_append_of_le_length (by omega), ← h2, lay, List.take_of_length_le (by rw [List.length_append, List.length_take]; omega), List.drop_eq_nil_of_le (by omega), List.append_nil]
/-- s[k:], in blocks of S -/
theorem RdS.cut {w : World} {S : Nat → Prop} {A : Option Addr} {n c : Nat} {xs : List Value} (h : RdS w S A n c xs) {k : Nat} (hk : k ≤ n) : RdS w S (if c = k then A else A.map (·.add k)) (n - k) (c - k) (xs.drop k) := by
  obtain ⟨h1, h2, h3, h4⟩ := h
  refine ⟨by rw [List.length_drop, h1], by omega, by omega, fun hn => ?_⟩
  obtain ⟨b, o, rfl, hb, hcell⟩ := h4 (by omega)
  rw [if_neg (by omega)]
  refine ⟨b, o + k, by rw [Option.map_some, add_off], hb, fun j u hu => ?_⟩
  rw [Nat.add_assoc]
  exact hcell _ u (by rw [← hu, List.getElem?_drop])
/-- nothing but block g and new blocks turned -/
theorem gb_of_below {w w' : World} (h : Below w.heap.size w w') (r : Option Nat) : w.grownBy w' r := ⟨h.os, h.tape, h.output, h.size, fun i hi _ => h.block i hi⟩
theorem gb_setCell (w : World) (g j : Nat) (v : Value) : w.grownBy (w.setCell ⟨g, j, none⟩ v) (some g) :=
  ⟨rfl, rfl, rfl, by simp [World.setCell], fun i _ hne => heap_setCell_other _ _ _ _ (fun e => hne (by rw [e]))⟩
theorem gb_drew (w : World) (k : Nat) (r : Option Nat) : w.grownBy (w.drewN k) r := ⟨rfl, rfl, rfl, Nat.le_refl _, fun _ _ _ => rfl⟩
theorem gb_block {w w' : World} {g k : Nat} (h : w.grownBy w' (some g)) (hk : k < w.heap.size) (hne : k ≠ g) : w'.heap[k]? = w.heap[k]? := h.block k hk (fun e => hne (by injection e))
theorem Roots.gb {w w' : World} {g : Nat} (h : Roots w) (hg : w.grownBy w' (some g)) (hne : g ≠ 0) : Roots w' := fun i hi => by
  have h1 : w'.cell? ⟨0, i, none⟩ = w.cell? ⟨0, i, none⟩ := World.cell?_of_block (gb_block hg h.lt (fun e => hne e.symm))
  exact h1.trans (h i hi)
theorem below_of_gb {w w' : World} {g B : Nat} (h : w.grownBy w' (some g)) (hB : B ≤ g) (hBs : B ≤ w.heap.size) : Below B w w' := ⟨h.os, h.tape, h.output, h.size, fun k hk => gb_block h (by omega) (by omega)⟩
end Go.Proofs.YtgebdkbbdabomaaDoor.Sha
