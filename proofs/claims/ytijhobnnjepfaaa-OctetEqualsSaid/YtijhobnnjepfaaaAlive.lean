/-
  THE CONTRACT of alive of layer 1.
-/
import Derived.Test.YtijhobnnjepfaaaOctc
import Derived.Test.YtijhobnnjepfaaaOctd
import Derived.Test.YtijhobnnjepfaaaOctn
namespace Go.Proofs.Ytijhobnnjepfaaa.Oct
open Go.RowKit
open Go.Proofs.Ytijhobnnjepfaaa.Kit
set_option linter.unusedVariables false

theorem alive_any (w : World) : Calls Try.prog 9 #[] w fun e w' => e = .returned (.bool true) ∧ Below w.heap.size w w' := by
  have heq16 : ∀ W : World, (Op.equalIn 10000 32 (.agg #[Value.int .u8 0, Value.int .u8 0, Value.int .u8 0, Value.int .u8 0, Value.int .u8 0, Value.int .u8 0, Value.int .u8 0, Value.int .u8 0, Value.int .u8 0, Value.int .u8 0, Value.int .u8 0, Value.int .u8 0, Value.int .u8 0, Value.int .u8 0, Value.int .u8 0, Value.int .u8 0]) (.agg #[Value.int .u8 0, Value.int .u8 0, Value.int .u8 0, Value.int .u8 0, Value.int .u8 0, Value.int .u8 0, Value.int .u8 0, Value.int .u8 0, Value.int .u8 0, Value.int .u8 0, Value.int .u8 0, Value.int .u8 0, Value.int .u8 0, Value.int .u8 0, Value.int .u8 0, Value.int .u8 0])).run Try.prog W = .ok true W := fun _ => by kernel_rfl
  have hmk : ∀ W : World, (Instr.makeSlice 23 (.int .i64 16) (.int .i64 16)).run Try.prog W = .ok (.slice (some ⟨W.heap.size, 0, none⟩) 16 16) (W.alloc (.cells #[Value.int .u8 0, Value.int .u8 0, Value.int .u8 0, Value.int .u8 0, Value.int .u8 0, Value.int .u8 0, Value.int .u8 0, Value.int .u8 0, Value.int .u8 0, Value.int .u8 0, Value.int .u8 0, Value.int .u8 0, Value.int .u8 0, Value.int .u8 0, Value.int .u8 0, Value.int .u8 0] 5)) := fun _ => by kernel_rfl
  go_enter Try.func9, Try.ntmps9
  go_wp2_with fail
  refine (get_yes _ 2 2 (w.heap.size + 1) [1, 2] _ ?h1 (by omega) (by omega)).mono ?_
  case h1 => exact rd_new w rfl rfl rfl (by omega)
  rintro e w1 ⟨rfl, rfl⟩
  rw [show num [1, 2] = 258 from rfl]
  go_wp2_with fail
  refine (zero_own 0 (w.heap.size + 1) 2 2 [.int .u8 7, .int .u8 8] _ (by
    have := own_new (w.alloc (.cells #[.int .u8 1, .int .u8 2] 5)) (base := 0) (n := 2) (e := 5) (arr := #[.int .u8 7, .int .u8 8]) (Nat.zero_le _) rfl (by omega)
    rw [World.size_alloc] at this
    exact this) (by omega)).mono ?_
  rintro e w2 ⟨rfl, ho, hg⟩
  have hs2 : w.heap.size + 2 ≤ w2.heap.size := by have := hg.size; simp at this; omega
  have hb2 : Below w.heap.size w w2 := (((Below.refl _ _).alloc (Nat.le_refl _) _).alloc (by simp) _).grown hg (by simp; omega) (by intro k hk; simp at hk; omega)
  obtain ⟨hc, _⟩ := own_cells ho
  have hc0 := hc 0 _ rfl
  have hc1 := hc 1 _ rfl
  clear hc ho hg
  go_wp2_with fail
  refine (key_yes _ 16 (w2.heap.size + 1) [0, 0, 0, 0, 0, 0, 0, 0, 0, 0, 0, 0, 0, 0, 0, 0] _ ?h2 ?h3).mono ?_
  case h2 => exact rd_new w2 rfl rfl rfl (by omega)
  case h3 => simp
  rintro e w3 ⟨rfl, hb3⟩
  rw [show (List.map bv [0, 0, 0, 0, 0, 0, 0, 0, 0, 0, 0, 0, 0, 0, 0, 0]).toArray = #[Value.int .u8 0, Value.int .u8 0, Value.int .u8 0, Value.int .u8 0, Value.int .u8 0, Value.int .u8 0, Value.int .u8 0, Value.int .u8 0, Value.int .u8 0, Value.int .u8 0, Value.int .u8 0, Value.int .u8 0, Value.int .u8 0, Value.int .u8 0, Value.int .u8 0, Value.int .u8 0] from rfl]
  have hs3 : w2.heap.size + 1 ≤ w3.heap.size := by have := hb3.size; simpa using this
  have hb3' : Below w.heap.size w w3 := (hb2.alloc hb2.size _).trans (hb3.mono (by simp; omega))
  have hc0' : w3.cell? ⟨w.heap.size + 1, 0, none⟩ = some (.int .u8 0) := by rw [hb3.cell (by simp; omega), World.cell?_alloc_lt _ _ _ (by simp; omega)]; exact hc0
  have hc1' : w3.cell? ⟨w.heap.size + 1, 1, none⟩ = some (.int .u8 0) := by rw [hb3.cell (by simp; omega), World.cell?_alloc_lt _ _ _ (by simp; omega)]; exact hc1
  clear hc0 hc1 hb3
  go_wp2_with fail
  refine (put_new 258 _ (by omega)).mono ?_
  rintro e w4 ⟨A4, c4, rfl, hn4⟩
  have hB4 := hn4.bl
  go_wp2_with fail
  refine (rsame_new _ _ _ _ _ _ (be 8 258) [0, 0, 0, 0, 0, 0, 1, 2] _ ?h4 ?h5).mono ?_
  case h4 => exact hn4.rd.lit _
  case h5 => exact rd_lit w4 rfl rfl (by omega)
  rintro e w5 ⟨rfl, hb5⟩
  rw [show decide (be 8 258 = [0, 0, 0, 0, 0, 0, 1, 2]) = true from rfl]
  have hB5 := below_seq (below_alloc hB4 _) hb5
  clear hn4 hb5 hB4
  go_wp2_with fail
  refine (short_new 258 _ (by omega)).mono ?_
  rintro e w6 ⟨A6, c6, rfl, hn6⟩
  have hB6 := below_seq hB5 hn6.bl
  rw [show nb 258 = 2 from rfl] at hn6 ⊢
  clear hB5
  go_wp2_with fail
  refine (rsame_new _ _ _ _ _ _ (short 258) [1, 2] _ ?h6 ?h7).mono ?_
  case h6 => exact hn6.rd.lit _
  case h7 => exact rd_lit w6 rfl rfl (by omega)
  rintro e w7 ⟨rfl, hb7⟩
  rw [show decide (short 258 = [1, 2]) = true from rfl]
  have hB7 := below_seq (below_alloc hB6 _) hb7
  clear hn6 hb7 hB6
  have hz7 : w3.heap.size + 1 ≤ w7.heap.size := by have := hB7.size; simpa using this
  have hd0 : w7.cell? ⟨w.heap.size + 1, 0, none⟩ = some (.int .u8 0) := by rw [hB7.cell (by simp; omega), World.cell?_alloc_lt _ _ _ (by simp; omega)]; exact hc0'
  have hd1 : w7.cell? ⟨w.heap.size + 1, 1, none⟩ = some (.int .u8 0) := by rw [hB7.cell (by simp; omega), World.cell?_alloc_lt _ _ _ (by simp; omega)]; exact hc1'
  have hk7 : w7.heap[w3.heap.size]? = some (.cells #[Value.int .u8 0, Value.int .u8 0, Value.int .u8 0, Value.int .u8 0, Value.int .u8 0, Value.int .u8 0, Value.int .u8 0, Value.int .u8 0, Value.int .u8 0, Value.int .u8 0, Value.int .u8 0, Value.int .u8 0, Value.int .u8 0, Value.int .u8 0, Value.int .u8 0, Value.int .u8 0] 32 (0, 0)) := by rw [hB7.block _ (by simp)]; exact heap_alloc_new w3 _
  have hB := below_seq hb3' (below_seq (below_of_new w3 _) hB7)
  clear hc0' hc1' hB7
  go_wp2_with fail
  refine (equal_new _ _ _ _ _ _ [1] [1] _ ?h8 ?h9).mono ?_
  case h8 => exact rd_lit2 _ _ rfl rfl rfl (by omega)
  case h9 => exact rd_lit' _ (by simp) rfl rfl (by omega)
  rintro e w8 ⟨rfl, hb8⟩
  rw [show decide (([1] : List UInt8) = [1]) = true from rfl]
  have hB8 := below_seq (below_alloc (below_alloc (Below.refl w7.heap.size w7) _) _) hb8
  clear hb8
  go_wp2_with fail
  refine (equal_new _ _ _ _ _ _ [1] [1, 0] _ ?h10 ?h11).mono ?_
  case h10 => exact rd_lit2 _ _ rfl rfl rfl (by omega)
  case h11 => exact rd_lit' _ (by simp) rfl rfl (by omega)
  rintro e w9 ⟨rfl, hb9⟩
  rw [show decide (([1] : List UInt8) = [1, 0]) = false from rfl]
  have hB9 := below_seq (below_alloc (below_alloc hB8 _) _) hb9
  have hz9 : w3.heap.size + 1 ≤ w9.heap.size := by have := hB9.size; omega
  have he0 : w9.cell? ⟨w.heap.size + 1, 0, none⟩ = some (.int .u8 0) := by rw [hB9.cell (by simp; omega)]; exact hd0
  have he1 : w9.cell? ⟨w.heap.size + 1, 1, none⟩ = some (.int .u8 0) := by rw [hB9.cell (by simp; omega)]; exact hd1
  have hk9 : w9.heap[w3.heap.size]? = some (.cells #[Value.int .u8 0, Value.int .u8 0, Value.int .u8 0, Value.int .u8 0, Value.int .u8 0, Value.int .u8 0, Value.int .u8 0, Value.int .u8 0, Value.int .u8 0, Value.int .u8 0, Value.int .u8 0, Value.int .u8 0, Value.int .u8 0, Value.int .u8 0, Value.int .u8 0, Value.int .u8 0] 32 (0, 0)) := by rw [hB9.block _ (by omega)]; exact hk7
  have hBB := below_seq hB hB9
  have hq : ∀ j, j < 16 → w9.cell? ⟨w3.heap.size, j, none⟩ = some (.int .u8 0) := fun j hj => by
    rw [cell_of_row w9 _ j _ 32 (0, 0) hk9]
    obtain rfl | rfl | rfl | rfl | rfl | rfl | rfl | rfl | rfl | rfl | rfl | rfl | rfl | rfl | rfl | rfl : j = 0 ∨ j = 1 ∨ j = 2 ∨ j = 3 ∨ j = 4 ∨ j = 5 ∨ j = 6 ∨ j = 7 ∨ j = 8 ∨ j = 9 ∨ j = 10 ∨ j = 11 ∨ j = 12 ∨ j = 13 ∨ j = 14 ∨ j = 15 := by omega
    all_goals rfl
  clear hb9 hB8 hB9 hd0 hd1 hk7 hB hk9
  go_wp2_with fail
  clear hq he0 he1 hmk heq16
  refine (joined_new _ _ _ _ [⟨some ⟨w9.heap.size, 0, none⟩, 1, 1, [1]⟩, ⟨none, 0, 0, []⟩, ⟨some ⟨w9.heap.size + 1, 0, none⟩, 2, 2, [2, 3]⟩] _ ?h12 ?h13 (Nat.le_refl _) (by simp [joinL])).mono ?_
  case h12 => exact rd_cells _ (by simp) rfl rfl (by omega)
  case h13 =>
    intro r hr
    simp only [List.mem_cons, List.not_mem_nil, or_false] at hr
    rcases hr with rfl | rfl | rfl
    · exact ((rd_lit' w9 (n := 1) rfl rfl rfl (by omega)).lit _).lit _
    · exact Rd.nil _ _
    · exact (rd_lit' _ (n := 2) (by simp) rfl rfl (by omega)).lit _
  rintro e w10 ⟨A10, c10, rfl, hn10⟩
  have hB10 := below_seq (below_alloc (below_alloc (below_alloc hBB _) _) _) hn10.bl
  clear hBB
  go_wp2_with fail
  refine (rsame_new _ _ _ _ _ _ [1, 2, 3] [1, 2, 3] _ ?h14 ?h15).mono ?_
  case h14 => exact hn10.rd.lit _
  case h15 => exact rd_lit' _ rfl rfl rfl (by omega)
  rintro e w11 ⟨rfl, hb11⟩
  rw [show decide (([1, 2, 3] : List UInt8) = [1, 2, 3]) = true from rfl]
  have hB11 := below_seq (below_alloc hB10 _) hb11
  clear hb11 hB10
  go_wp2
  go_ret
  exact ⟨rfl, hB11⟩
end Go.Proofs.Ytijhobnnjepfaaa.Oct
