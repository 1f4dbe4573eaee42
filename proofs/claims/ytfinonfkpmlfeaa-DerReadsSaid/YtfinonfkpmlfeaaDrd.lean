/-
  DerReads holds: of all bytes the value, or what is wrong, is as the document says; what is read is written as the same bytes. No condition.
-/
import Derived.Test.YtfinonfkpmlfeaaDrw
namespace Go.Proofs.Ytfinonfkpmlfeaa.Drd
open Go.RowKit
open Go.Proofs.Ytfinonfkpmlfeaa.Kit
open Go.Proofs.Ytfinonfkpmlfeaa.Oct
open Go.Proofs.Ytfinonfkpmlfeaa.Der
set_option linter.unusedVariables false
attribute [local go_sem ↓] Go.wp_at_zero Go.wp_at_succ

set_option maxRecDepth 100000 in
set_option maxHeartbeats 2000000 in
theorem walk (A : Option Addr) (len cap : Nat) (bs : List UInt8) (w : World) (hb : RdB w w.heap.size A len cap bs) :
    Calls Try.prog 4 #[.slice A len cap] w fun e w' => e = .returned (.bool true) ∧ Below w.heap.size w w' := by
  have hrm := hb.room
  by_cases h5 : len ≤ 5000
  · go_enter Try.func4, Try.ntmps4
    go_wp2_with fail
    refine (alive2_any _).mono ?_
    rintro e w1 ⟨rfl, hb1⟩
    have hr1 := hb.on hb1
    go_wp2_with fail
    refine (Read_got _ _ _ _ _ hr1).mono ?_
    rintro e w2 ⟨A2, m2, c2, A3, m3, c3, rfl, hv2, hb2⟩
    have hr2 := (hr1.on hb2).on (below_of_new w2 (.cells #[.int .i64 (gotV bs).k, .int .i64 (gotV bs).t, .int .u64 (gotV bs).n, .slice A2 m2 c2, .slice A3 m3 c3] 26))
    have hw := Whole_got _ _ _ _ _ hr2
    unfold GotP at hw
    obtain ⟨y, hy⟩ : ∃ y, y = gotV bs := ⟨_, rfl⟩
    obtain ⟨E, hE⟩ : ∃ E, E = gotE bs := ⟨_, rfl⟩
    rw [← hy, ← hE] at hw
    rw [← hy] at hv2 hr2
    rw [← hy, ← hE]
    have HW := Lib.hid hw
    have HY := Lib.hid hy
    have HE := Lib.hid hE
    have HR1 := Lib.hid hr1
    have HV2 := Lib.hid hv2
    have hB2 := below_seq hb1 hb2
    have HB2 := Lib.hid hb2
    clear hw hy hE hr1 hr2 hb hv2 hb2 hb1
    go_wp2_with fail
    refine HW.out.mono ?_
    rintro e w3 ⟨A4, m4, c4, A5, m5, c5, rfl, hv3, hb3⟩
    have hbx3 := below_seq (below_of_new _ _) hb3
    have hB3 := below_seq hB2 hbx3
    have HV3 := Lib.hid hv3
    have HBX3 := Lib.hid hbx3
    have HX3 := Lib.hid (box1 hb3)
    have hs3 : w2.heap.size < w3.heap.size := by have := hb3.size; simp at this; omega
    clear hv3 hbx3 hb3 hB2 HW
    go_wp2_with fail
    obtain ⟨W7, hW7⟩ : ∃ W, W = w3.alloc (.cells #[.int .i64 y.k, .int .i64 y.t, .int .u64 y.n, .slice A4 m4 c4, .slice A5 m5 c5] 30) := ⟨_, rfl⟩
    have hb37 : Below w3.heap.size w3 W7 := by rw [hW7]; exact below_of_new _ _
    have hx7 : W7.heap[w2.heap.size]? = _ := (hb37.block _ hs3).trans HX3.out
    have hx7' : W7.heap[w3.heap.size]? = _ := (congrArg (fun W : World => W.heap[w3.heap.size]?) hW7).trans (heap_alloc_new w3 _)
    have hs7 : w3.heap.size < W7.heap.size := by rw [hW7]; simp
    have hs27 := Nat.lt_trans hs3 hs7
    rw [← hW7]
    have HB7 := Lib.hid (below_seq hB3 hb37)
    have HB37 := Lib.hid hb37
    have HPL := Lib.hid (Plain_new y A2 m2 c2 A3 m3 c3 W7.drew (RdVS.keep (w' := W7.drew) (S' := fun b => b < W7.heap.size) (fun p hp => show W7.cell? p = _ from (below_seq HBX3.out hb37).cell hp.2) (fun b hb => Nat.lt_of_lt_of_le hb.2 (below_seq HBX3.out hb37).size) _ HV2.out))
    have HW7 := Lib.hid (show ∀ W, Below W7.heap.size W7 W → RdV W W.heap.size y A4 m4 c4 A5 m5 c5 from fun W h => RdVS.keep (fun p hp => (below_seq hb37 h).cell hp.2) (fun b hb => Nat.lt_of_lt_of_le hb.2 (below_seq hb37 h).size) _ HV3.out)
    have HX7 := Lib.hid hx7
    obtain ⟨⟨d0, d1, d2, d3, d4⟩, _⟩ := cells5 hx7
    obtain ⟨⟨f0, f1, f2, f3, f4⟩, _⟩ := cells5 hx7'
    clear hb37 hx7 hx7' hW7 hB3
    go_region_held3 (fun w' => w'.cell? ⟨w2.heap.size, 0, none⟩ = some (.int .i64 y.k) ∧ w'.cell? ⟨w2.heap.size, 1, none⟩ = some (.int .i64 y.t) ∧ w'.cell? ⟨w2.heap.size, 2, none⟩ = some (.int .u64 y.n) ∧ w'.cell? ⟨w2.heap.size, 3, none⟩ = some (.slice A2 m2 c2) ∧ w'.cell? ⟨w2.heap.size, 4, none⟩ = some (.slice A3 m3 c3) ∧
        w'.cell? ⟨w3.heap.size, 0, none⟩ = some (.int .i64 y.k) ∧ w'.cell? ⟨w3.heap.size, 1, none⟩ = some (.int .i64 y.t) ∧ w'.cell? ⟨w3.heap.size, 2, none⟩ = some (.int .u64 y.n) ∧ w'.cell? ⟨w3.heap.size, 3, none⟩ = some (.slice A4 m4 c4) ∧ w'.cell? ⟨w3.heap.size, 4, none⟩ = some (.slice A5 m5 c5))
      (first
        | go_keep
        | (go_split_ands
           refine ⟨?_, ?_, ?_, ?_, ?_, ?_, ?_, ?_, ?_, ?_⟩
           all_goals (first | exact (hb4.cell hs27).trans (by assumption) | exact (hb4.cell hs7).trans (by assumption) | exact (hb5.cell (Nat.lt_of_lt_of_le hs27 hb4.size)).trans (by assumption) | exact (hb5.cell (Nat.lt_of_lt_of_le hs7 hb4.size)).trans (by assumption))))
      ((first
        | (go_at_call 10; (with_reducible refine HPL.out.mono ?_); rintro r w4 ⟨A6, m6, c6, rfl, hrd4, hb4'⟩; have hb4 : Below W7.heap.size W7 w4 := below_seq (below_of_drew ⟨1, rfl⟩ _) hb4'; have hy4 := HW7.out w4 hb4)
        | (go_at_call 19; (with_reducible refine (RSame_new y y _ _ _ _ _ _ _ _ _ _ _ _ _ hrd4 hy4).mono ?_); rintro r w5 ⟨rfl, hb5⟩; rw [show y.same y = true from V.same_self y])))
    have hb57 := below_seq hb4 hb5
    have hx5 := (hb57.block _ hs27).trans HX7.out
    have HR5 := Lib.hid (((HR1.out.on HB2.out).on HBX3.out).on (below_seq HB37.out hb57))
    have hv5 : RdV w5 w5.heap.size y A2 m2 c2 A3 m3 c3 := RdVS.keep (fun p hp => (below_seq HBX3.out (below_seq HB37.out hb57)).cell hp.2) (fun b hb => Nat.lt_of_lt_of_le hb.2 (below_seq HBX3.out (below_seq HB37.out hb57)).size) _ HV2.out
    have HV5 := Lib.hid hv5
    have hB5 := below_seq HB7.out hb57
    clear d0 d1 d2 d3 d4 f0 f1 f2 f3 f4 hb57 hb4 hb5 hb4' hrd4 hy4 hv5
    obtain ⟨⟨d0, d1, d2, d3, d4⟩, _⟩ := cells5 hx5
    clear hx5
    have hfit : y.fit := by rw [HY.out]; exact got_fit bs
    go_wp2_with fail
    refine (Write_new y _ _ _ _ _ _ _ hfit HV5.out).mono ?_
    rintro e w6 ⟨B6, c6, rfl, hn6⟩
    have hB6 := below_seq hB5 hn6.bl
    have hr6 := HR5.out.on hn6.bl
    clear d0 d1 d2 d3 d4 hfit hB5
    by_cases hE0 : E = 0
    · have he := got_wr' (bs := bs) (by rw [← HE.out]; exact hE0)
      rw [← HY.out] at he
      obtain ⟨e1, e2⟩ := he
      have hrd := hn6.rd
      rw [e2] at hrd
      rw [e1, e2]
      subst hE0
      rw [show ((0 : Nat) : Int) = 0 from rfl]
      clear e1 e2 hn6
      go_wp2_with fail
      refine (rsame_new _ _ _ _ _ _ bs bs _ hr6 hrd).mono ?_
      rintro e w7 ⟨rfl, hb7⟩
      rw [show decide (bs = bs) = true from by simp]
      have hB7 := below_seq hB6 hb7
      go_wp2
      go_ret
      exact ⟨rfl, hB7⟩
    · have g1 : ((E : Int) != 0) = true := by simp; omega
      have g2 : ((E : Int) == 0) = false := by simp; omega
      clear hr6 hn6
      go_wp2
      go_ret
      exact ⟨rfl, hB6⟩
  · go_enter Try.func4, Try.ntmps4
    go_wp2_with fail
    refine (alive2_any _).mono ?_
    rintro e w1 ⟨rfl, hb1⟩
    go_wp2
    go_ret
    exact ⟨rfl, hb1⟩
end Go.Proofs.Ytfinonfkpmlfeaa.Drd
