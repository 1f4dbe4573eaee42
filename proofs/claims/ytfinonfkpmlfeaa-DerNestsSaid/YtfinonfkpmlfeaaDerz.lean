/-
  THE CONTRACT of the document's Whole.
-/
import Derived.Test.YtfinonfkpmlfeaaDerv
import Derived.Test.YtfinonfkpmlfeaaDery
namespace Go.Proofs.Ytfinonfkpmlfeaa.Der
open Go.RowKit
open Go.Proofs.Ytfinonfkpmlfeaa.Kit
open Go.Proofs.Ytfinonfkpmlfeaa.Oct
set_option linter.unusedVariables false

set_option maxRecDepth 100000 in
set_option maxHeartbeats 8000000 in
theorem Whole_any (A : Option Addr) (n c : Nat) (bs : List UInt8) (w : World) (h : RdB w w.heap.size A n c bs) :
    Calls Try.prog 20 #[.slice A n c] w (RwPost bs w) := by
  have hl := h.len
  have HL := Lib.hid hl
  have hw1 : Below w.heap.size w (w.alloc (.cells #[.int .i64 0, .int .i64 0, .int .u64 0, .slice none 0 0, .slice none 0 0] 30)) := below_of_new _ _
  have HX := Lib.hid hw1
  by_cases hn : 4096 < n
  · have HE := Lib.hid (show rdW bs = .err 20 by rw [rdW, if_pos (by rw [hl]; exact hn)])
    have g0 : decide (4096 < n) = true := by simp; omega
    have g0' : decide ((4096 : Int) < (n : Int)) = true := by simp; omega
    have p0 : (4096 : Int) < (n : Int) := by omega
    clear hl hw1 h
    go_enter Try.func20, Try.ntmps20
    go_wp2
    refine bodyPost_ret (v := .tuple #[zeroV, .int .i64 20]) ?_ rfl (RwPost.err HE.out HX.out (by omega) rfl)
    simp [results, Try.results20, go_sem, zeroV]
  · have hE := show rdW bs = match rd 8 bs with
      | .err e => .err e
      | .ok x k => if k < bs.length then .err 5 else .ok x k by rw [rdW, if_neg (by rw [hl]; exact hn)]; cases rd 8 bs <;> rfl
    have HE := Lib.hid hE
    have hcall := rr_all 8 (by omega) 1 A n c bs _ rfl (by omega) (h.on hw1)
    have HCALL := Lib.hid hcall
    have g0 : decide (4096 < n) = false := by simp; omega
    have g0' : decide ((4096 : Int) < (n : Int)) = false := by simp; omega
    have p0 : ¬ ((4096 : Int) < (n : Int)) := by omega
    clear hl hw1 h hE hcall
    go_enter Try.func20, Try.ntmps20
    go_wp2_with fail
    refine HCALL.out.mono ?_
    rintro e w4 ⟨hb4, hres⟩
    have hx4 := box1 hb4
    have hlt : w.heap.size < w4.heap.size := by have := hb4.size; simp at this; omega
    have hbl4 := below_seq HX.out hb4
    have HX4 := Lib.hid hx4
    have HB4 := Lib.hid hb4
    obtain ⟨⟨q0, q1, q2, q3, q4⟩, ⟨s0, s1, s2, s3, s4⟩⟩ := cells5 hx4
    clear hx4 hb4 HCALL
    cases hq : rd 8 bs with
    | err z =>
      rw [hq] at hres
      obtain ⟨hz, rfl⟩ := hres
      have HE2 := Lib.hid (show rdW bs = .err z by rw [HE.out, hq])
      have g3 : ((z : Int) != 0) = true := by simp; omega
      have hz' : (z : Int) ≠ 0 := by omega
      clear hq
      unfold zeroV
      go_wp2
      obtain ⟨t0, t1, t2, t3, t4⟩ := five_read (o := .cells #[.int .i64 0, .int .i64 0, .int .u64 0, .slice none 0 0, .slice none 0 0] 30) (a := .int .i64 0) (b := .int .i64 0) (c := .int .u64 0) (d := .slice none 0 0) (e := .slice none 0 0) hlt q0 q1 q2 q3 q4
      refine bodyPost_ret (v := .tuple #[zeroV, .int .i64 z]) ?_ rfl (RwPost.err HE2.out (below_alloc (five hbl4 _ _ _ _ _) _) hz rfl)
      simp [results, Try.results20, go_sem, zeroV, t0, t1, t2, t3, t4]
    | ok y k =>
      rw [hq] at hres
      obtain ⟨hkn, A3, m3, c3, A4, m4, c4, rfl, hrv⟩ := hres
      have HRV := Lib.hid hrv
      by_cases hk : k < n
      · have HE2 := Lib.hid (show rdW bs = .err 5 by rw [HE.out, hq]; simp only []; rw [if_pos (by rw [HL.out]; exact hk)])
        have g3 : decide (k < n) = true := by simp; omega
        have g3' : decide ((k : Int) < (n : Int)) = true := by simp; omega
        clear hq hrv
        go_wp2
        obtain ⟨t0, t1, t2, t3, t4⟩ := five_read (o := .cells #[.int .i64 y.k, .int .i64 y.t, .int .u64 y.n, .slice A3 m3 c3, .slice A4 m4 c4] 30) (a := .int .i64 0) (b := .int .i64 0) (c := .int .u64 0) (d := .slice none 0 0) (e := .slice none 0 0) hlt q0 q1 q2 q3 q4
        refine bodyPost_ret (v := .tuple #[zeroV, .int .i64 5]) ?_ rfl (RwPost.err HE2.out (below_alloc (five hbl4 _ _ _ _ _) _) (by omega) rfl)
        simp [results, Try.results20, go_sem, zeroV, t0, t1, t2, t3, t4]
      · have HE2 := Lib.hid (show rdW bs = .ok y k by rw [HE.out, hq]; simp only []; rw [if_neg (by rw [HL.out]; exact hk)])
        obtain rfl : k = n := by omega
        have g3 : decide (k < k) = false := by simp
        clear hq hrv
        go_wp2
        have hzz : (((((w4.setCell ⟨w.heap.size, 0, none⟩ (.int .i64 y.k)).setCell ⟨w.heap.size, 1, none⟩ (.int .i64 y.t)).setCell ⟨w.heap.size, 2, none⟩ (.int .u64 y.n)).setCell ⟨w.heap.size, 3, none⟩ (.slice A3 m3 c3)).setCell ⟨w.heap.size, 4, none⟩ (.slice A4 m4 c4)).heap.size = w4.heap.size := five_size _ _ _ _ _
        obtain ⟨t0, t1, t2, t3, t4⟩ := five_read (o := .cells #[.int .i64 y.k, .int .i64 y.t, .int .u64 y.n, .slice A3 m3 c3, .slice A4 m4 c4] 30) (a := .int .i64 y.k) (b := .int .i64 y.t) (c := .int .u64 y.n) (d := .slice A3 m3 c3) (e := .slice A4 m4 c4) hlt q0 q1 q2 q3 q4
        refine bodyPost_ret (v := .tuple #[.agg #[.int .i64 y.k, .int .i64 y.t, .int .u64 y.n, .slice A3 m3 c3, .slice A4 m4 c4], .int .i64 0]) ?_ rfl (RwPost.ok HE2.out (below_alloc (five hbl4 _ _ _ _ _) _) ⟨A3, m3, c3, A4, m4, c4, rfl, RdVS.keep (fun p hp => ?_) (fun b hb => ⟨by have := hb.1; simp at this; omega, by rw [World.size_alloc, hzz]; have := hb.2; omega⟩) _ HRV.out⟩)
        · simp [results, Try.results20, go_sem, t0, t1, t2, t3, t4]
        · exact (World.cell?_alloc_lt _ _ _ (by rw [hzz]; exact hp.2)).trans (five_cell _ _ _ _ _ p (by have := hp.1; simp at this; omega))
end Go.Proofs.Ytfinonfkpmlfeaa.Der
