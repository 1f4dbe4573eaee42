/-
  cache, plainly: what is shown, and what is kept.
-/
import Derived.Test.YtpdbdlaoeidflaaKit
import Derived.Laws.StructEq
namespace Go.Proofs.Ytpdbdlaoeidflaa.Ch
open Go.RowKit
open Go.Proofs.Ytpdbdlaoeidflaa.Kit
set_option linter.unusedVariables false

structure It where
  cl : ByteArray
  tm : Int
  sq : Int
def It.cells (x : It) : List Value := [.string x.cl, .int .i64 x.tm, .int .i64 x.sq]
def It.arr (x : It) : Array Value := #[.string x.cl, .int .i64 x.tm, .int .i64 x.sq]
theorem It.arr_list (x : It) : x.arr.toList = x.cells := rfl
def It.eq (x y : It) : Bool := (x.cl.toList == y.cl.toList) && ((x.tm == y.tm) && (x.sq == y.sq))
theorem toList_inj {a b : ByteArray} (h : a.toList = b.toList) : a = b := by
  rw [ByteArray.toList_eq, ByteArray.toList_eq] at h
  obtain ⟨⟨x⟩⟩ := a
  obtain ⟨⟨y⟩⟩ := b
  have h' : x = y := h
  rw [h']
theorem It.eq_iff {x y : It} : It.eq x y = true ↔ x = y := by
  constructor
  · intro h
    simp only [It.eq, Bool.and_eq_true, beq_iff_eq] at h
    obtain ⟨h1, h2, h3⟩ := h
    cases x; cases y
    simp only at h1 h2 h3
    rw [toList_inj h1, h2, h3]
  · rintro rfl
    simp [It.eq]
theorem It.eq_comm (x y : It) : It.eq x y = It.eq y x := by
  rw [Bool.eq_iff_iff, It.eq_iff, It.eq_iff]
  exact ⟨fun h => h.symm, fun h => h.symm⟩
def cellsI (l : List It) : List Value := l.flatMap It.cells
theorem cellsI_app (l m : List It) : cellsI (l ++ m) = cellsI l ++ cellsI m := by simp [cellsI]
theorem cellsI_len (l : List It) : (cellsI l).length = l.length * 3 := by
  induction l with
  | nil => rfl
  | cons x r ih =>
    rw [show cellsI (x :: r) = x.cells ++ cellsI r from by simp [cellsI], List.length_append, ih]
    simp [It.cells]; omega
theorem cellsI_at (l : List It) (i : Nat) (h : i < l.length) : ((cellsI l).drop (i * 3)).take 3 = l[i].cells := by
  induction l generalizing i with
  | nil => simp at h
  | cons x r ih =>
    rw [show cellsI (x :: r) = x.cells ++ cellsI r from by simp [cellsI]]
    rcases i with _ | i
    · rfl
    · rw [show (i + 1) * 3 = 3 + i * 3 from by omega, ← List.drop_drop, show (x.cells ++ cellsI r).drop 3 = cellsI r from rfl]
      exact ih i (by simpa using h)
theorem cellsI_get (l : List It) (i : Nat) (h : i < l.length) (j : Nat) (hj : j < 3) : (cellsI l)[i * 3 + j]? = l[i].cells[j]? := by
  rw [← cellsI_at l i h, List.getElem?_take_of_lt hj, List.getElem?_drop]
theorem It.one (x : It) : ∀ u ∈ x.cells, u.oneCell' = true := by
  intro u hu
  simp only [It.cells, List.mem_cons, List.not_mem_nil, or_false] at hu
  rcases hu with rfl | rfl | rfl <;> rfl

def isT (n : Int) : Bool := decide (0 ≤ n ∧ n ≤ 1099511627776)
def nearS (a b : Int) : Bool := isT a && (isT b && decide (a - b ≤ 30 ∧ b - a ≤ 30))
theorem nearS_iff {a b : Int} : nearS a b = true ↔ (0 ≤ a ∧ a ≤ 1099511627776) ∧ (0 ≤ b ∧ b ≤ 1099511627776) ∧ a - b ≤ 30 ∧ b - a ≤ 30 := by
  simp only [nearS, isT, Bool.and_eq_true, decide_eq_true_eq]
theorem nearS_comm (a b : Int) : nearS a b = nearS b a := by
  rw [Bool.eq_iff_iff, nearS_iff, nearS_iff]
  constructor <;> rintro ⟨h1, h2, h3, h4⟩ <;> exact ⟨h2, h1, h4, h3⟩
def most (m : Int) : Nat := (min (max m 1) 64).toNat
theorem most_bd (m : Int) : 1 ≤ most m ∧ most m ≤ 64 := by unfold most; omega
def old (now : Int) (x : It) : Bool := decide (now - x.tm > 30)
def keepS (now : Int) (l : List It) : List It := l.filter fun x => !old now x
theorem keep_len (now : Int) (l : List It) : (keepS now l).length ≤ l.length := List.length_filter_le _ _
/-- what is kept behind something shown, and the error -/
def showS (M : Nat) (l : List It) (now : Int) (x : It) : List It × Int :=
  if nearS now x.tm = true then
    if l.any (fun y => It.eq x y) = true then (l, 14)
    else if M ≤ (keepS now l).length then (keepS now l, 8) else (keepS now l ++ [x], 0)
  else (l, 11)
theorem show_le {M : Nat} (hM : 1 ≤ M) {l : List It} (h : l.length ≤ M) (now : Int) (x : It) : (showS M l now x).1.length ≤ M := by
  unfold showS
  have := keep_len now l
  split
  · split
    · exact h
    · split
      · show (keepS now l).length ≤ M; omega
      · show (keepS now l ++ [x]).length ≤ M; rw [List.length_append, List.length_singleton]; omega
  · exact h
def okT (l : List It) : Prop := ∀ x ∈ l, 0 ≤ x.tm ∧ x.tm ≤ 1099511627776
theorem show_ok {M : Nat} {l : List It} (h : okT l) (now : Int) (x : It) : okT (showS M l now x).1 := by
  unfold showS
  split
  · rename_i hn
    have hk : okT (keepS now l) := fun y hy => h y (List.mem_filter.1 hy).1
    split
    · exact h
    · split
      · exact hk
      · intro y hy
        rcases List.mem_append.1 hy with h1 | h1
        · exact hk y h1
        · rw [List.mem_singleton.1 h1]
          exact (nearS_iff.1 hn).2.1
  · exact h
end Go.Proofs.Ytpdbdlaoeidflaa.Ch
