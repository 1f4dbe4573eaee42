/-
  THE CONTRACTS of der's Seq, Num, Raw, and of the document's Whole.
-/
import Derived.Test.YtfinonfkpmlfeaaDerco
namespace Go.Proofs.Ytfinonfkpmlfeaa.Der
open Go.RowKit
open Go.Proofs.Ytfinonfkpmlfeaa.Kit
open Go.Proofs.Ytfinonfkpmlfeaa.Oct
set_option linter.unusedVariables false

theorem cop_all (N : Nat) : CopC N := by
  induction N with
  | zero => intro l room A n c w hs; omega
  | succ N ih => exact cop_of ih

set_option maxRecDepth 100000 in
theorem Seq_new (tag : Int) (l : List V) (A : Option Addr) (n c : Nat) (w : World) (hl : RdVs w w.heap.size l A n c) (hs : V.size.sizes l < 131072) :
    Calls Try.prog 21 #[.int .i64 tag, .slice A n c] w fun e w' => ∃ A2 c2, e = .returned (.agg #[.int .i64 2, .int .i64 tag, .int .u64 0, .slice none 0 0, .slice A2 n c2]) ∧
      RdVsS w' (fun b => w.heap.size ≤ b ∧ b < w'.heap.size) l A2 n c2 ∧ Below w.heap.size w w' := by
  have hw1 : Below w.heap.size w (w.alloc (.cells #[.int .i64 0, .int .i64 0, .int .u64 0, .slice none 0 0, .slice none 0 0] 26)) := below_of_new _ _
  have HCALL := Lib.hid (cop_all _ l 131072 A n c _ (Nat.lt_succ_self _) (hl.on hw1) (by omega) (by omega))
  clear hl hs
  go_enter Try.func21, Try.ntmps21
  go_wp2_with fail
  refine HCALL.out.mono ?_
  rintro e w2 ⟨A2, c2, rfl, hrd, hb⟩
  have hx := box1 hb
  obtain ⟨⟨q0, q1, q2, q3, q4⟩, ⟨s0, s1, s2, s3, s4⟩⟩ := cells5 hx
  have hbl := below_seq hw1 hb
  have HRD := Lib.hid hrd
  have hlt : w.heap.size < w2.heap.size := by have := hb.size; simp at this; omega
  clear hrd hx hw1 HCALL
  go_wp2
  refine bodyPost_ret (v := .agg #[.int .i64 2, .int .i64 tag, .int .u64 0, .slice none 0 0, .slice A2 n c2]) ?_ rfl ⟨A2, c2, rfl, HRD.out.keep (fun p hp => five_cell _ _ _ _ _ p (by have := hp.1; simp at this; omega)) (fun b hb => ⟨by have := hb.1; simp at this; omega, by rw [five_size]; exact hb.2⟩), five hbl _ _ _ _ _⟩
  simp [results, Try.results21, go_sem, q0, q1, q2, q3, q4]

theorem Num_new (n : Nat) (w : World) :
    Calls Try.prog 30 #[.int .u64 n] w fun e w' => e = .returned (.agg #[.int .i64 0, .int .i64 0, .int .u64 n, .slice none 0 0, .slice none 0 0]) ∧ Below w.heap.size w w' := by
  go_enter Try.func30, Try.ntmps30
  go_wp2
  refine bodyPost_ret (v := .agg #[.int .i64 0, .int .i64 0, .int .u64 n, .slice none 0 0, .slice none 0 0]) ?_ rfl ⟨rfl, below_of_new _ _⟩
  simp [results, Try.results30, go_sem]

set_option maxRecDepth 100000 in
theorem Raw_new (A : Option Addr) (n c : Nat) (bs : List UInt8) (w : World) (h : RdB w w.heap.size A n c bs) (hn : n ≤ 100000) :
    Calls Try.prog 31 #[.slice A n c] w fun e w' => ∃ A2 c2, e = .returned (.agg #[.int .i64 1, .int .i64 0, .int .u64 0, .slice A2 n c2, .slice none 0 0]) ∧
      RdS w' (fun b => w.heap.size ≤ b ∧ b < w'.heap.size) A2 n c2 (bs.map bv) ∧ Below w.heap.size w w' := by
  have hw1 : Below w.heap.size w (w.alloc (.cells #[.int .i64 0, .int .i64 0, .int .u64 0, .slice none 0 0, .slice none 0 0] 26)) := below_of_new _ _
  have hl := h.len
  have HB := Lib.hid (h.on hw1)
  have HL := Lib.hid hl
  clear h hl
  go_enter Try.func31, Try.ntmps31
  go_wp2_with fail
  refine (joined_any _ _ _ _ [⟨A, n, c, bs⟩] _ ?h1 ?h2 (Nat.le_refl _) ?h3).mono ?_
  case h1 => exact rd_cells _ (by simp) rfl rfl (by simp)
  case h2 =>
    intro r hr
    simp only [List.mem_cons, List.not_mem_nil, or_false] at hr
    subst hr
    exact HB.out.lit _
  case h3 =>
    have := HL.out
    simp [joinL]; omega
  rintro e w3 ⟨A5, c5, rfl, ho, hb3⟩
  have hj : joinL [⟨A, n, c, bs⟩] = bs := by simp [joinL]
  rw [hj, HL.out] at ho ⊢
  have hb := below_seq (below_of_new _ _) hb3
  have hx := box1 hb
  obtain ⟨⟨q0, q1, q2, q3, q4⟩, ⟨s0, s1, s2, s3, s4⟩⟩ := cells5 hx
  have hbl := below_seq hw1 hb
  have HRD := Lib.hid (RdS.of_own (by rw [← HL.out] at ho; exact ho))
  clear hx hb hb3 hj ho hw1
  go_wp2
  refine bodyPost_ret (v := .agg #[.int .i64 1, .int .i64 0, .int .u64 0, .slice A5 n c5, .slice none 0 0]) ?_ rfl ⟨A5, c5, rfl, ?_, five hbl _ _ _ _ _⟩
  · simp [results, Try.results31, go_sem, q0, q1, q2, q3, q4]
  · have := HRD.out
    rw [HL.out] at this
    exact this.keep (fun p hp => five_cell _ _ _ _ _ p (by have := hp.1; simp at this; omega)) (fun b hb => ⟨by have := hb.1; simp at this; omega, by rw [five_size]; exact hb.2⟩)
end Go.Proofs.Ytfinonfkpmlfeaa.Der
