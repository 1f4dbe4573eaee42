/-
  base: slices.Delete walked.
-/
import Derived.Test.YtlngbpipmaaedaaBaf
namespace Go.Proofs.Ytlngbpipmaaedaa.Ba
open Go.RowKit
open Go.Proofs.Ytlngbpipmaaedaa.Kit
set_option linter.unusedVariables false

set_option maxRecDepth 1000000 in
set_option maxHeartbeats 4000000 in
theorem delete_any {w : World} {B g c n m i j : Nat} {L : List Us} (hk : ∀ u ∈ L, u.key.length = 16) (hL : L.length = m + 1) (hi : i ≤ m) (hn : n = m + 1) (hj : j = i + 1) (h : w.ownsRow B 30 20 (.slice (some ⟨g, 0, none⟩) n c) n (cellsU L)) (hz : m ≤ 1000000) :
    Calls Try.prog 26 #[.slice (some ⟨g, 0, none⟩) n c, .int .i64 i, .int .i64 j] w fun e w' => e = .returned (.slice (some ⟨g, 0, none⟩) m c) ∧
      w'.ownsRow B 30 20 (.slice (some ⟨g, 0, none⟩) m c) m (cellsU (cutU L i)) ∧ w.grownBy w' (some g) := by
  have mixed : Try.prog.follows .mixedOrders = true := by kernel_rfl
  obtain ⟨ii, hii, hz0, hz1, hz2⟩ := info_parts infoUz
  have hlen : (cellsU L).length = n * 20 := by rw [cellsU_len L hk, hL, hn]
  have hown := h.drew
  have hfin := own_cut hk hL hi (by rw [← hn]; exact hown)
  have hcc : n ≤ c := by
    rcases h.2 with ⟨hv, _⟩ | ⟨_, _, _, hv, _, _, hc, _⟩
    · cases hv
    · cases hv; exact hc
  have hcell : ∀ k, k < n * 20 → w.drew.cell? ⟨g, k, none⟩ = (cellsU L)[k]? ∧ w.drew.frozen? ⟨g, k, none⟩ = false := fun k hk => ⟨hown.cellAt k hk, hown.frozenAt k⟩
  rw [← hj] at hfin
  obtain ⟨news, hnews⟩ : ∃ q, q = (cellsU L).drop (j * 20) := ⟨_, rfl⟩
  rw [← hnews] at hfin
  have hnl : news.length = (n - j) * 20 := by rw [hnews, List.length_drop, hlen]; omega
  obtain ⟨A, hA, hsrc⟩ : ∃ A : Addr, (if c = j then some (⟨g, 0, none⟩ : Addr) else some ⟨g, j * 20, none⟩) = some A ∧ Hid (∀ t u, news[t]? = some u → w.drew.cell? (A.add t) = some u) := by
    by_cases hc : c = j
    · refine ⟨⟨g, 0, none⟩, by simp [hc], Lib.hid fun t u hu => ?_⟩
      have h0 : news.length = 0 := by rw [hnl, show n - j = 0 from by omega]
      rw [List.length_eq_zero_iff.1 h0] at hu
      simp at hu
    · refine ⟨⟨g, j * 20, none⟩, by simp [hc], Lib.hid fun t u hu => ?_⟩
      have ht : t < (n - j) * 20 := by
        have := (List.getElem?_eq_some_iff.1 hu).1
        rwa [hnl] at this
      rw [Addr.add_lit, (hcell _ (by omega)).1, ← hu, hnews, List.getElem?_drop]
  have s1 := Lib.hid hnl
  have s2 := Lib.hid (show ∀ u ∈ news, u.oneCell' = true from fun u hu => by
    rw [hnews] at hu
    obtain ⟨x, _, hx⟩ := List.mem_flatMap.1 (List.mem_of_mem_drop hu)
    exact Us.one x u hx)
  have s3 := Lib.hid (show ∀ t, t < news.length → (w.drew.cell? ⟨g, 0 + i * 20 + t, none⟩).isSome = true ∧ w.drew.frozen? ⟨g, 0 + i * 20 + t, none⟩ = false from fun t ht => by
    rw [hnl] at ht
    rw [(hcell _ (by omega)).1, List.getElem?_eq_getElem (by omega)]
    exact ⟨rfl, (hcell _ (by omega)).2⟩)
  obtain ⟨W1, hW1⟩ : ∃ W1, W1 = w.drew.setCells g (i * 20) news := ⟨_, rfl⟩
  have hrow : ∃ C : Array Value, W1.heap[g]? = some (.cells C 30 (0, 0)) ∧ n * 20 ≤ C.size := by
    rcases hown.2 with ⟨hv, _⟩ | ⟨g', cap, cur, hv, hb, hh, hc, hm, hs, ht⟩
    · cases hv
    cases hv
    rw [hW1, setCells_row hh (i * 20) news (by rw [hnl, hs]; omega) s2.out]
    refine ⟨_, setRow_heap _ _ _ _ _ _ hh, ?_⟩
    simp only [List.size_toArray, List.length_append, List.length_take, List.length_drop, Array.length_toList]
    rw [hnl, hs]; omega
  obtain ⟨C, hC, hCs⟩ := hrow
  rw [← hW1] at hfin
  have hcl : ∀ ty, (Builtin.clear_ #[62] ty #[.slice (some ⟨g, (i + (n - j)) * 20, none⟩) (n - (i + (n - j))) (c - (i + (n - j)))]).run Try.prog W1 = .ok (.tuple #[]) (W1.setCells g (m * 20) ZU.toList) := fun ty => by
    rw [show n - (i + (n - j)) = 1 from by omega, show i + (n - j) = m from by omega]
    exact run_clear_u W1 ty g (m * 20) _ (fun k hk => by rw [cell_of_row _ _ _ _ _ _ hC, Array.getElem?_eq_getElem (by omega)]; rfl) (fun k hk => frozen_of_row _ _ _ _ _ hC)
  have HFIN := Lib.hid hfin
  have hW := Lib.hid (show w.drew.setCells g (0 + i * 20) news = W1 from by rw [hW1, Nat.zero_add])
  have him := Lib.hid (show i + (n - j) = m from by omega)
  have hic : i ≤ c := by omega
  have hjc : j ≤ c := by omega
  have hij : i ≤ j := by omega
  have hlt : i < j := by omega
  have hjn : j ≤ n := by omega
  have hmn : i + (n - j) ≤ n := by omega
  have hmn2 : i + (n - j) < n := by omega
  clear hW1 hfin hcell hown h hnews hnl hlen hk hL hC hCs hn hj hi
  go_enter Try.func26, Try.ntmps26
  go_wp2_with fail
  go_region_law_o (refine step_append_room rfl (.tmp 22) (.tmp 25) 62 rfl 30 ii 20 Try.underlying62 hii hz1 g 0 i c (by simp [Act.eval, Act.put]) A (n - j) (c - j) news (by simp [Act.eval, Act.put]) s1.out hsrc.out s2.out (by omega) s3.out ?_; rw [hW.out])
  go_wp2
  go_ret
  exact ⟨by rw [← him.out]; rfl, HFIN.out.1, ⟨HFIN.out.2.os, HFIN.out.2.tape, HFIN.out.2.output, HFIN.out.2.size, fun b hb hne => HFIN.out.2.block b hb hne⟩⟩
end Go.Proofs.Ytlngbpipmaaedaa.Ba
