/-
  base, plainly: somebody, all of them in a row, where a name stands.
-/
import Derived.Test.YtlngbpipmaaedaaKit3
import Derived.Test.YtlngbpipmaaedaaCuts
import Derived.Test.YtlngbpipmaaedaaFin
import Derived.Deep.MidRow
import Derived.Test.YtlngbpipmaaedaaProg
namespace Go.Proofs.Ytlngbpipmaaedaa.Ba
open Go.RowKit
open Go.Proofs.Ytlngbpipmaaedaa.Kit
set_option linter.unusedVariables false

structure Us where
  nm : ByteArray
  key : List UInt8
  life : Int
  ren : Int
  mesh : Bool
def Us.cells (u : Us) : List Value := .string u.nm :: (u.key.map bv ++ [.int .i64 u.life, .int .i64 u.ren, .bool u.mesh])
def Us.arr (u : Us) : Array Value := u.cells.toArray
def cellsU (l : List Us) : List Value := l.flatMap Us.cells
theorem cellsU_app (l m : List Us) : cellsU (l ++ m) = cellsU l ++ cellsU m := by simp [cellsU]
theorem cellsU_one (u : Us) : cellsU [u] = u.cells := by simp [cellsU]
theorem Us.len {u : Us} (h : u.key.length = 16) : u.cells.length = 20 := by simp [Us.cells, h]
theorem Us.size {u : Us} (h : u.key.length = 16) : u.arr.size = 20 := by simp [Us.arr, Us.len h]
theorem Us.one (u : Us) : ∀ v ∈ u.cells, v.oneCell' = true := by
  intro v hv
  simp only [Us.cells, List.mem_cons, List.mem_append, List.not_mem_nil, or_false] at hv
  rcases hv with rfl | h | rfl | rfl | rfl
  · rfl
  · exact bv_one _ v h
  · rfl
  · rfl
  · rfl
theorem cellsU_len : ∀ (l : List Us), (∀ u ∈ l, u.key.length = 16) → (cellsU l).length = l.length * 20
  | [], _ => rfl
  | x :: r, h => by
    have e : x.cells.length = 20 := Us.len (h x (List.mem_cons_self ..))
    rw [show cellsU (x :: r) = x.cells ++ cellsU r from by simp [cellsU], List.length_append, e, cellsU_len r fun u hu => h u (List.mem_cons_of_mem _ hu), List.length_cons]
    omega
theorem cellsU_at : ∀ (l : List Us) (i : Nat) (h : i < l.length), (∀ u ∈ l, u.key.length = 16) → ((cellsU l).drop (i * 20)).take 20 = l[i].cells
  | x :: r, 0, _, hl => by
    have e : x.cells.length = 20 := Us.len (hl x (List.mem_cons_self ..))
    rw [show cellsU (x :: r) = x.cells ++ cellsU r from by simp [cellsU], Nat.zero_mul, List.drop_zero, List.take_append_of_le_length (by omega), List.take_of_length_le (by omega)]
    rfl
  | x :: r, i + 1, h, hl => by
    have e : x.cells.length = 20 := Us.len (hl x (List.mem_cons_self ..))
    rw [show cellsU (x :: r) = x.cells ++ cellsU r from by simp [cellsU], show (i + 1) * 20 = x.cells.length + i * 20 from by omega, ← List.drop_drop, List.drop_left]
    exact cellsU_at r i (by simpa using h) fun u hu => hl u (List.mem_cons_of_mem _ hu)
/-- somebody's cells in the row -/
theorem own_us {w : World} {base n c : Nat} {A : Option Addr} {L : List Us} (h : w.ownsRow base 30 20 (.slice A n c) n (cellsU L)) (hl : ∀ u ∈ L, u.key.length = 16) {j : Nat} {u : Us} (hj : L[j]? = some u) : ∃ g, A = some ⟨g, 0, none⟩ ∧ g < w.heap.size ∧ w.rangeAt g (j * 20) u.cells := by
  obtain ⟨hjl, rfl⟩ := List.getElem?_eq_some_iff.1 hj
  have hn : n * 20 = L.length * 20 := by rw [← cellsU_len L hl]; exact h.1.symm
  rcases h.2 with ⟨hv, h0⟩ | ⟨g, cap, cur, hv, _⟩
  · omega
  · cases hv
    refine ⟨g, rfl, (h.lt g rfl).2, fun i v hi => ?_⟩
    have hi20 : i < 20 := by
      have := (List.getElem?_eq_some_iff.1 hi).1
      rwa [Us.len (hl _ (List.getElem_mem hjl))] at this
    rw [h.cellAt (j * 20 + i) (by omega), ← List.getElem?_drop, ← hi, ← cellsU_at L j hjl hl, List.getElem?_take_of_lt hi20]
theorem bs_eq (a b : ByteArray) : (a.toList == b.toList) = decide (a = b) := by
  have e : ∀ l : ByteArray, l.toList = l.data.toList := fun l => by first | exact ByteArray.toList_eq _ | simp [ByteArray.toList] | rfl
  rw [e, e]
  by_cases h : a = b
  · subst h; simp
  · rw [decide_eq_false h]
    have : a.data.toList ≠ b.data.toList := fun q => h (by
      cases a; cases b
      simp only [ByteArray.mk.injEq]
      exact Array.toList_inj.1 q)
    simpa using this
/-- where a name stands; less than 0: nowhere -/
def findU : List Us → ByteArray → Int
  | [], _ => -1
  | u :: r, s => if u.nm = s then 0 else if findU r s < 0 then -1 else findU r s + 1
theorem findU_lt : ∀ (L : List Us) (s : ByteArray), -1 ≤ findU L s ∧ findU L s < L.length
  | [], s => ⟨Int.le_refl _, by simp [findU]⟩
  | u :: r, s => by
    have := findU_lt r s
    unfold findU
    by_cases h : u.nm = s
    · rw [if_pos h]; simp only [List.length_cons]; omega
    · rw [if_neg h]
      by_cases h2 : findU r s < 0
      · rw [if_pos h2]; simp only [List.length_cons]; omega
      · rw [if_neg h2]; simp only [List.length_cons]; omega
/-- found: the first of this name -/
theorem findU_at : ∀ (L : List Us) (s : ByteArray) (k : Nat) (u : Us), L[k]? = some u → u.nm = s → (∀ (j : Nat) (x : Us), j < k → L[j]? = some x → x.nm ≠ s) → findU L s = k
  | [], s, k, u, h, _, _ => by simp at h
  | x :: r, s, k, u, h, hu, hno => by
    unfold findU
    cases k with
    | zero =>
      have e : x = u := by simpa using h
      rw [if_pos (by rw [e]; exact hu)]
      rfl
    | succ k =>
      have hx : x.nm ≠ s := hno 0 x (by omega) rfl
      have ih := findU_at r s k u (by simpa using h) hu fun j y hj hy => hno (j + 1) y (by omega) (by simpa using hy)
      rw [if_neg hx, ih, if_neg (by omega)]
      omega
theorem findU_no : ∀ (L : List Us) (s : ByteArray), (∀ (j : Nat) (x : Us), L[j]? = some x → x.nm ≠ s) → findU L s = -1
  | [], _, _ => rfl
  | x :: r, s, h => by
    unfold findU
    rw [if_neg (h 0 x rfl), findU_no r s fun j y hy => h (j + 1) y (by simpa using hy), if_pos (by omega)]
theorem infoU : (Try.prog.info? 30).map (·.size) = some 20 := by kernel_rfl
end Go.Proofs.Ytlngbpipmaaedaa.Ba
