/-
  sym's Nth.
-/
import Derived.Test.YtcgkjcfckbplmaaSymb
namespace Go.Proofs.Ytcgkjcfckbplmaa.Sym
open Go.RowKit
open Go.Proofs.Ytcgkjcfckbplmaa.Kit
open Go.Proofs.Ytcgkjcfckbplmaa.Oct
set_option linter.unusedVariables false

set_option maxRecDepth 100000 in
set_option maxHeartbeats 1000000 in
theorem nth_any (v : Value) (n : Nat) (w : World) (hn : n ≤ 1099511627776) :
    Calls Try.prog 23 #[v, .int .i64 n] w fun e w' => e = .returned (.agg (kv (mk 107 n))) ∧ Below w.heap.size w w' := by
  obtain ⟨ZA, hZA⟩ : ∃ q : Array Value, q = #[.int .u8 0, .int .u8 0, .int .u8 0, .int .u8 0, .int .u8 0, .int .u8 0, .int .u8 0, .int .u8 0, .int .u8 0, .int .u8 0, .int .u8 0, .int .u8 0, .int .u8 0, .int .u8 0, .int .u8 0, .int .u8 0] := ⟨_, rfl⟩
  obtain ⟨PV, hPV⟩ : ∃ q, q = kv (mk 107 n) := ⟨_, rfl⟩
  have hPs : PV.size = 16 := by rw [hPV, kv_size, mk_len]
  have HPI := Lib.hid (show (Try.prog.info? 36).map (·.size) = some PV.size from by rw [hPs]; exact infoK)
  have HPA := Lib.hid (show PV.all (·.oneCell') = true from by rw [hPV]; exact kv_one _)
  have HZS := Lib.hid (show ZA.size = PV.size from by rw [hZA, hPs]; rfl)
  have HM := Lib.hid (show Calls Try.prog 43 #[.int .u8 107, .int .i64 n] (w.alloc (.cells ZA 36)) fun e w' => e = .returned (.agg PV) ∧ Below (w.alloc (.cells ZA 36)).heap.size (w.alloc (.cells ZA 36)) w' from by rw [hPV]; exact smark_any 107 n _ (by omega))
  have HZA := Lib.hid hZA
  have HPV := Lib.hid hPV
  have g1 : decide ((n : Int) < 0) = false := by simp
  have g2 : decide ((1099511627776 : Int) < (n : Int)) = false := by simp; omega
  have p2 : ¬ ((1099511627776 : Int) < (n : Int)) := by omega
  clear hZA hPV hPs
  go_enter Try.func23, Try.ntmps23
  go_wp2_with fail
  rw [← HZA.out]
  refine HM.out.mono ?_
  rintro e w1 ⟨rfl, hb1⟩
  have hg : w1.heap[w.heap.size]? = some (.cells ZA 36 (0, 0)) := (hb1.block _ (by simp)).trans (heap_alloc_new w _)
  have HG := Lib.hid hg
  have HB := Lib.hid (below_seq (below_of_new w _) hb1)
  clear hg hb1 HM
  go_wp2_with (refine wpList_store_row (o := ⟨none, _, _, _, _, _⟩) rfl 36 (.tmp 4) (.tmp 13) rfl w.heap.size PV rfl rfl 36 _ HG.out HPI.out HZS.out HPA.out ?_)
  have hres := setRow_heap _ w.heap.size _ PV _ _ HG.out
  refine bodyPost_ret (v := .agg PV) (results_cell_row Try.results23 _ _ w.heap.size 36 PV (0, 0) _ (by rfl) hres Try.underlying36 rfl HPI.out) rfl ?_
  exact ⟨by rw [HPV.out], below_setRow HB.out (Nat.le_refl _) _⟩
end Go.Proofs.Ytcgkjcfckbplmaa.Sym
