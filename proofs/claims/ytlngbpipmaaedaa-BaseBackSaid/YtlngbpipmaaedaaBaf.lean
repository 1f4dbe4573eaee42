/-
  base: slices.Delete of one of the users.
-/
import Derived.Test.YtlngbpipmaaedaaBae
import Derived.Deep.RegionLaw
import Derived.Shelf.RegionOpenPlain
namespace Go.Proofs.Ytlngbpipmaaedaa.Ba
open Go.RowKit
open Go.Proofs.Ytlngbpipmaaedaa.Kit
set_option linter.unusedVariables false

/-- cells written into a row, told by the row -/
theorem setCells_row {w : World} {g : Nat} {cur : Array Value} {e : TypeId} (hg : w.heap[g]? = some (.cells cur e (0, 0))) (o : Nat) (vs : List Value) (hfit : o + vs.length ≤ cur.size) (h1 : ∀ u ∈ vs, u.oneCell' = true) :
    w.setCells g o vs = w.setRow g (cur.toList.take o ++ vs ++ cur.toList.drop (o + vs.length)).toArray := by
  have a := run_storeCells_at Try.prog g o e vs 0 cur w hg (by simpa using hfit) h1
  have b := run_storeCells_cells (P := Try.prog) g o vs 0 w (fun j hj => by
    rw [Nat.add_zero, cell_of_row _ _ _ _ _ _ hg, Array.getElem?_eq_getElem (by omega)]; rfl) (fun j hj => by rw [Nat.add_zero]; exact frozen_of_row _ _ _ _ _ hg) h1
  simp only [Nat.add_zero] at a b
  rw [a] at b
  injection b with _ b
  exact b.symm
theorem run_clear_u (w : World) (ty : TypeId) (b o c : Nat) (hc : ∀ j, j < 20 → (w.cell? ⟨b, o + j, none⟩).isSome = true) (hf : ∀ j, j < 20 → w.frozen? ⟨b, o + j, none⟩ = false) :
    (Builtin.clear_ #[62] ty #[.slice (some ⟨b, o, none⟩) 1 c]).run Try.prog w = .ok (.tuple #[]) (w.setCells b o ZU.toList) := by
  have hzc0 : (Builtin.zeroCells ZU 1).toList = ZU.toList := by kernel_rfl
  have h20 : ZU.toList.length = 20 := rfl
  have h1 : ∀ u ∈ ZU.toList, u.oneCell' = true := by rw [← zU_arr]; intro v hv; exact Us.one zU v (by simpa [Us.arr] using hv)
  obtain ⟨ZV, hZ⟩ : ∃ q, q = ZU := ⟨_, rfl⟩
  have hz30 : ∀ w, (zeroValue 30).run Try.prog w = .ok (.agg ZV) w := fun w => by rw [hZ]; exact zU_zero w
  rw [← hZ] at hzc0 h20 h1 ⊢
  have hzc : (Builtin.zeroCells (Value.agg ZV).cells 1).toList = ZV.toList := hzc0
  have hst := run_storeCells_cells (P := Try.prog) b o ZV.toList 0 w (fun j hj => hc j (by omega)) (fun j hj => hf j (by omega)) h1
  simp only [Nat.add_zero] at hst
  clear hZ
  simp [Builtin.clear_, run_underlying Try.underlying62, hz30, hzc, hst]
theorem cellsU_take (L : List Us) (h : ∀ u ∈ L, u.key.length = 16) (i : Nat) : (cellsU L).take (i * 20) = cellsU (L.take i) := by
  induction L generalizing i with
  | nil => simp [cellsU]
  | cons x r ih =>
    cases i with
    | zero => simp [cellsU]
    | succ i =>
      have e : x.cells.length = 20 := Us.len (h x (List.mem_cons_self ..))
      rw [show cellsU (x :: r) = x.cells ++ cellsU r from by simp [cellsU], List.take_succ_cons, show cellsU (x :: r.take i) = x.cells ++ cellsU (r.take i) from by simp [cellsU], List.take_append, List.take_of_length_le (by omega), ← ih (fun u hu => h u (List.mem_cons_of_mem _ hu)) i]
      congr 2
      omega
theorem cellsU_drop (L : List Us) (h : ∀ u ∈ L, u.key.length = 16) (i : Nat) : (cellsU L).drop (i * 20) = cellsU (L.drop i) := by
  induction L generalizing i with
  | nil => simp [cellsU]
  | cons x r ih =>
    cases i with
    | zero => simp [cellsU]
    | succ i =>
      have e : x.cells.length = 20 := Us.len (h x (List.mem_cons_self ..))
      rw [show cellsU (x :: r) = x.cells ++ cellsU r from by simp [cellsU], List.drop_succ_cons, show (i + 1) * 20 = x.cells.length + i * 20 from by omega, ← List.drop_drop, List.drop_left]
      exact ih (fun u hu => h u (List.mem_cons_of_mem _ hu)) i
/-- all but one -/
def cutU (L : List Us) (i : Nat) : List Us := L.take i ++ L.drop (i + 1)
theorem cutU_len {L : List Us} {i : Nat} (h : i < L.length) : (cutU L i).length + 1 = L.length := by simp [cutU]; omega
theorem cutU_mem {L : List Us} {i : Nat} {u : Us} (h : u ∈ cutU L i) : u ∈ L := by
  rcases List.mem_append.1 h with h | h
  · exact List.mem_of_mem_take h
  · exact List.mem_of_mem_drop h
/-- the row behind the cut -/
theorem own_cut {w : World} {B g c m i : Nat} {L : List Us} (hk : ∀ u ∈ L, u.key.length = 16) (hL : L.length = m + 1) (hi : i ≤ m) (h : w.ownsRow B 30 20 (.slice (some ⟨g, 0, none⟩) (m + 1) c) (m + 1) (cellsU L)) :
    ((w.setCells g (i * 20) ((cellsU L).drop ((i + 1) * 20))).setCells g (m * 20) ZU.toList).ownsRow B 30 20 (.slice (some ⟨g, 0, none⟩) m c) m (cellsU (cutU L i)) ∧ w.grownBy ((w.setCells g (i * 20) ((cellsU L).drop ((i + 1) * 20))).setCells g (m * 20) ZU.toList) (some g) := by
  rcases h.2 with ⟨hv, hn0⟩ | ⟨g', cap, cur, hv, hb, hh, hc, hm, hs, ht⟩
  · cases hv
  injection hv with h1 h2 h3
  injection h1 with h1
  injection h1 with h1
  subst h1 h3
  have hlen : (cellsU L).length = (m + 1) * 20 := by rw [cellsU_len L hk, hL]
  have hnl : ((cellsU L).drop ((i + 1) * 20)).length = (m - i) * 20 := by rw [List.length_drop, hlen]; omega
  have hone : ∀ u ∈ (cellsU L).drop ((i + 1) * 20), u.oneCell' = true := fun u hu => by
    obtain ⟨x, _, hx⟩ := List.mem_flatMap.1 (List.mem_of_mem_drop hu)
    exact Us.one x u hx
  have hz : ∀ u ∈ ZU.toList, u.oneCell' = true := by rw [← zU_arr]; intro v hv; exact Us.one zU v (by simpa [Us.arr] using hv)
  have e1 := setCells_row hh (i * 20) _ (by rw [hnl, hs]; have : m + 1 ≤ c := hc; omega) hone
  obtain ⟨N, hN⟩ : ∃ q, q = (cellsU L).drop ((i + 1) * 20) := ⟨_, rfl⟩
  rw [← hN] at e1 hnl hone ⊢
  obtain ⟨C1, hC1⟩ : ∃ q, q = (cur.toList.take (i * 20) ++ N ++ cur.toList.drop (i * 20 + N.length)).toArray := ⟨_, rfl⟩
  rw [← hC1] at e1
  have hC1s : C1.size = cur.size := by
    rw [hC1]; simp only [List.size_toArray, List.length_append, List.length_take, List.length_drop, Array.length_toList]
    rw [hnl, hs]; have : m + 1 ≤ c := hc; omega
  have hh1 : (w.setRow g C1).heap[g]? = some (.cells C1 30 (0, 0)) := setRow_heap _ _ _ _ _ _ hh
  have hz20 : ZU.toList.length = 20 := rfl
  have e2 := setCells_row hh1 (m * 20) ZU.toList (by rw [hC1s, hs, hz20]; have : m + 1 ≤ c := hc; omega) hz
  rw [e1, e2]
  obtain ⟨C2, hC2⟩ : ∃ q, q = (C1.toList.take (m * 20) ++ ZU.toList ++ C1.toList.drop (m * 20 + ZU.toList.length)).toArray := ⟨_, rfl⟩
  rw [← hC2]
  have hk2 : ∀ u ∈ cutU L i, u.key.length = 16 := fun u hu => hk u (cutU_mem hu)
  have hcl : (cutU L i).length = m := by have := cutU_len (L := L) (i := i) (by omega); omega
  have ht1 : C1.toList.take (m * 20) = cellsU (cutU L i) := by
    have hp : cur.toList.take (i * 20) = cellsU (L.take i) := by
      rw [← cellsU_take L hk i, ← ht, List.take_take, Nat.min_eq_left (by omega)]
    rw [hC1, List.toList_toArray, hp, hN, cellsU_drop L hk (i + 1), ← cellsU_app]
    show (cellsU (cutU L i) ++ _).take (m * 20) = _
    rw [List.take_append_of_le_length (by rw [cellsU_len _ hk2, hcl]; exact Nat.le_refl _), List.take_of_length_le (by rw [cellsU_len _ hk2, hcl]; exact Nat.le_refl _)]
  refine ⟨⟨by rw [cellsU_len _ hk2, hcl], .inr ⟨g, c, C2, rfl, hb, setRow_heap _ _ _ _ _ _ hh1, by omega, hm, ?_, ?_⟩⟩, ⟨rfl, rfl, rfl, by rw [setRow_size, setRow_size]; exact Nat.le_refl _, fun k hk' hne => ?_⟩⟩
  · rw [hC2]; simp only [List.size_toArray, List.length_append, List.length_take, List.length_drop, Array.length_toList, hz20]
    rw [hC1s, hs]; have : m + 1 ≤ c := hc; omega
  · rw [hC2, List.toList_toArray, List.append_assoc, List.take_append_of_le_length (by rw [ht1, cellsU_len _ hk2, hcl]; exact Nat.le_refl _), ht1, List.take_of_length_le (by rw [cellsU_len _ hk2, hcl]; exact Nat.le_refl _)]
  · have hkg : k ≠ g := fun e => hne (by rw [e])
    rw [setRow_other _ _ _ _ hkg, setRow_other _ _ _ _ hkg]
end Go.Proofs.Ytlngbpipmaaedaa.Ba
