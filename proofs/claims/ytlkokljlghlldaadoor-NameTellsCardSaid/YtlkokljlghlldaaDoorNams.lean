/-
  The document's example of layer 9.
-/
import Derived.Test.YtlkokljlghlldaaDoorNamr
import Derived.Test.YtlkokljlghlldaaDoorKit
namespace Go.Proofs.YtlkokljlghlldaaDoor.Nam
open Go.RowKit
open Go.Proofs.YtlkokljlghlldaaDoor.Kit
set_option linter.unusedVariables false

/-- the library's variable holds some number -/
def MaxL (w : World) : Prop := ∃ m, w.cell? ⟨0, 0, none⟩ = some (.int .i64 m)
theorem MaxL.on {w w' : World} (h : MaxL w) (hb : Below w.heap.size w w') : MaxL w' := by
  obtain ⟨m, hm⟩ := h
  exact ⟨m, (hb.cell (p := ⟨0, 0, none⟩) (World.block_lt_of_cell? _ _ hm)).trans hm⟩
def ana : ByteArray := ⟨#[195, 129, 110, 97, 45, 49]⟩
theorem ana1 : foldS ⟨#[195, 129, 110, 97, 45, 49]⟩ = ⟨#[195, 161, 110, 97, 45, 49]⟩ := by decide +kernel
theorem ana2 : rightS (foldS ⟨#[195, 129, 110, 97, 45, 49]⟩) = true := by decide +kernel
theorem one1 : rightS (foldS ⟨#[49, 97]⟩) = false := by decide +kernel
theorem aab : wordsS ⟨#[97, 32, 32, 98]⟩ = [⟨#[97]⟩, ⟨#[]⟩, ⟨#[98]⟩] := by decide +kernel
theorem aabn : Lib.countB ⟨#[97, 32, 32, 98]⟩ ⟨#[32]⟩ = 2 := by decide +kernel
theorem om : rightS ⟨#[207, 137, 50]⟩ = true := by decide +kernel
theorem big : rightS ⟨#[65]⟩ = false := by decide +kernel
theorem emp : rightS ⟨#[]⟩ = false := by decide +kernel
theorem ue : textS ⟨#[195, 188, 33]⟩ 2 = true := by decide +kernel
theorem xff : textS ⟨#[255]⟩ 9 = false := by decide +kernel
theorem abt : textS ⟨#[97, 98]⟩ 1 = false := by decide +kernel
theorem ya : letN 1103 = true := by decide +kernel
theorem sig : bigN 931 = true := by decide +kernel

set_option maxRecDepth 100000 in
set_option maxHeartbeats 4000000 in
theorem alive9_any (w : World) (hM : MaxL w) : Calls Tryd.prog 6 #[] w fun e w' => e = .returned (.bool true) ∧ Below w.heap.size w w' := by
  have HM := Lib.hid hM
  clear hM
  go_enter Tryd.func6, Tryd.ntmps6
  go_wp2_with fail
  refine (fold_any ⟨#[195, 129, 110, 97, 45, 49]⟩ (by decide) w).mono ?_
  rintro e w1 ⟨rfl, hb1⟩
  rw [ana2, ana1]
  have HB1 := Lib.hid hb1
  clear hb1
  go_wp2_with fail
  refine (fold_any ⟨#[49, 97]⟩ (by decide) w1).mono ?_
  rintro e w2 ⟨rfl, hb2⟩
  rw [one1]
  have HB2 := Lib.hid (below_seq HB1.out hb2)
  clear hb2
  go_wp2_with fail
  obtain ⟨m, hm⟩ := HM.out.on HB2.out
  have hw := words_any ⟨#[97, 32, 32, 98]⟩ (by decide) m w2 hm
  rw [aabn, aab] at hw
  refine hw.mono ?_
  rintro e w3 ⟨rfl, hw3⟩
  have hg3 : w3.heap[w2.heap.size]? = some (.cells #[.string ⟨#[97]⟩, .string ⟨#[]⟩, .string ⟨#[98]⟩] 9 (0, 0)) := by rw [hw3]; exact heap_alloc_new w2 _
  have HG3 := Lib.hid hg3
  have hb3 : Below w2.heap.size w2 w3 := by rw [hw3]; exact below_of_new w2 _
  have HB3 := Lib.hid (below_seq HB2.out hb3)
  have hlt : w2.heap.size < w3.heap.size := by rw [hw3]; simp
  clear hw hw3 hb3 hg3 hm
  go_wp2_with fail
  refine (right_any ⟨#[207, 137, 50]⟩ (by decide) w3).mono ?_
  rintro e w4 ⟨rfl, hb4⟩
  rw [om]
  go_wp2_with fail
  refine (right_any ⟨#[65]⟩ (by decide) w4).mono ?_
  rintro e w5 ⟨rfl, hb5⟩
  rw [big]
  go_wp2_with fail
  refine (right_any ⟨#[]⟩ (by decide) w5).mono ?_
  rintro e w6 ⟨rfl, hb6⟩
  rw [emp]
  go_wp2_with fail
  refine (text_any ⟨#[195, 188, 33]⟩ (by decide) 2 w6).mono ?_
  rintro e w7 ⟨rfl, hb7⟩
  rw [ue]
  go_wp2_with fail
  refine (text_any ⟨#[255]⟩ (by decide) 9 w7).mono ?_
  rintro e w8 ⟨rfl, hb8⟩
  rw [xff]
  go_wp2_with fail
  refine (text_any ⟨#[97, 98]⟩ (by decide) 1 w8).mono ?_
  rintro e w9 ⟨rfl, hb9⟩
  rw [abt]
  have hb39 : Below w3.heap.size w3 w9 := below_seq (below_seq (below_seq (below_seq (below_seq hb4 hb5) hb6) hb7) hb8) hb9
  have hg9 : w9.heap[w2.heap.size]? = some (.cells #[.string ⟨#[97]⟩, .string ⟨#[]⟩, .string ⟨#[98]⟩] 9 (0, 0)) := (hb39.block _ hlt).trans HG3.out
  have hc9 : w9.cell? ⟨w2.heap.size, 1, none⟩ = some (.string ⟨#[]⟩) := (cell_of_row w9 w2.heap.size 1 _ _ (0, 0) hg9).trans rfl
  have HB9 := Lib.hid (below_seq HB3.out hb39)
  clear hb39 hg9 hb4 hb5 hb6 hb7 hb8 hb9
  go_wp2_with fail
  refine (letter_any 1103 (by decide) (by decide) w9).mono ?_
  rintro e wx ⟨rfl, rfl⟩
  rw [ya]
  go_wp2_with fail
  refine (big_any 931 (by decide) (by decide) w9).mono ?_
  rintro e wx ⟨rfl, rfl⟩
  rw [sig]
  go_wp2_with fail
  go_ret
  exact ⟨rfl, HB9.out⟩
end Go.Proofs.YtlkokljlghlldaaDoor.Nam
