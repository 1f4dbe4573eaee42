/-
  THE CONTRACT of der's Read.
-/
import Derived.Test.YtfinonfkpmlfeaaDerg
namespace Go.Proofs.Ytfinonfkpmlfeaa.Der
open Go.RowKit
open Go.Proofs.Ytfinonfkpmlfeaa.Kit
open Go.Proofs.Ytfinonfkpmlfeaa.Oct
set_option linter.unusedVariables false

theorem first_all : ∀ d, d ≤ 8 → FirstC d
  | 0, _ => first_zero
  | d + 1, h => first_of (fill_of (all_of (by omega) (first_all d (by omega))))
/-- what Read answers -/
def rdW (b : List UInt8) : Rs := if 4096 < b.length then .err 20 else match rd 8 b with
  | .err e => .err e
  | .ok x k => if k < b.length then .err 5 else .ok x k
def RwPost (bs : List UInt8) (w : World) (e : Ending) (w' : World) : Prop :=
  Below w.heap.size w w' ∧ match rdW bs with
    | .err x => 0 < x ∧ e = .returned (.tuple #[zeroV, .int .i64 x])
    | .ok x _ => ∃ A m c A' m' c', e = .returned (.tuple #[.agg #[.int .i64 x.k, .int .i64 x.t, .int .u64 x.n, .slice A m c, .slice A' m' c'], .int .i64 0]) ∧ RdVS w' (fun b => w.heap.size ≤ b ∧ b < w'.heap.size) x A m c A' m' c'
theorem RwPost.err {bs : List UInt8} {w w' : World} {e : Ending} {x : Nat} (hr : rdW bs = .err x) (hb : Below w.heap.size w w') (hx : 0 < x) (he : e = .returned (.tuple #[zeroV, .int .i64 x])) : RwPost bs w e w' := by
  refine ⟨hb, ?_⟩
  rw [hr]; exact ⟨hx, he⟩
theorem RwPost.ok {k : Nat} {bs : List UInt8} {w w' : World} {e : Ending} {x : V} (hr : rdW bs = .ok x k) (hb : Below w.heap.size w w')
    (he : ∃ A m c A' m' c', e = .returned (.tuple #[.agg #[.int .i64 x.k, .int .i64 x.t, .int .u64 x.n, .slice A m c, .slice A' m' c'], .int .i64 0]) ∧ RdVS w' (fun b => w.heap.size ≤ b ∧ b < w'.heap.size) x A m c A' m' c') : RwPost bs w e w' := by
  refine ⟨hb, ?_⟩
  rw [hr]; exact he

set_option maxRecDepth 100000 in
set_option maxHeartbeats 8000000 in
theorem Read_any (A : Option Addr) (n c : Nat) (bs : List UInt8) (w : World) (h : RdB w w.heap.size A n c bs) :
    Calls Try.prog 17 #[.slice A n c] w (RwPost bs w) := by
  have hl := h.len
  have HL := Lib.hid hl
  have hw1 : Below w.heap.size w (w.alloc (.cells #[.int .i64 0, .int .i64 0, .int .u64 0, .slice none 0 0, .slice none 0 0] 26)) := below_of_new _ _
  have HX := Lib.hid hw1
  by_cases hn : 4096 < n
  · have HE := Lib.hid (show rdW bs = .err 20 by rw [rdW, if_pos (by rw [hl]; exact hn)])
    have g0 : decide (4096 < n) = true := by simp; omega
    have g0' : decide ((4096 : Int) < (n : Int)) = true := by simp; omega
    have p0 : (4096 : Int) < (n : Int) := by omega
    clear hl hw1 h
    go_enter Try.func17, Try.ntmps17
    go_wp2
    refine bodyPost_ret (v := .tuple #[zeroV, .int .i64 20]) ?_ rfl (RwPost.err HE.out HX.out (by omega) rfl)
    simp [results, Try.results17, go_sem, zeroV]
  · have hE := show rdW bs = match rd 8 bs with
      | .err e => .err e
      | .ok x k => if k < bs.length then .err 5 else .ok x k by rw [rdW, if_neg (by rw [hl]; exact hn)]
    have HE := Lib.hid hE
    have hcall := first_all 8 (by omega) 0 A n c bs w.heap.size _ rfl (by omega) (h.below hw1) hw1.size
    have HCALL := Lib.hid hcall
    have g0 : decide (4096 < n) = false := by simp; omega
    have g0' : decide ((4096 : Int) < (n : Int)) = false := by simp; omega
    have p0 : ¬ ((4096 : Int) < (n : Int)) := by omega
    clear hl hw1 h hE hcall
    go_enter Try.func17, Try.ntmps17
    go_wp2_with fail
    refine HCALL.out.mono ?_
    rintro e w4 ⟨hb4, hres⟩
    have hx4 := box1 hb4
    have hlt : w.heap.size < w4.heap.size := by have := hb4.size; simp at this; omega
    have hbl4 := below_seq HX.out hb4
    have HX4 := Lib.hid hx4
    have HB4 := Lib.hid hb4
    obtain ⟨⟨q0, q1, q2, q3, q4⟩, ⟨s0, s1, s2, s3, s4⟩⟩ := cells5 hx4
    clear hx4 hb4 HCALL
    cases hq : rd 8 bs with
    | err z =>
      rw [hq] at hres
      obtain ⟨hz, rfl⟩ := hres
      have HE2 := Lib.hid (show rdW bs = .err z by rw [HE.out, hq])
      have g3 : ((z : Int) != 0) = true := by simp; omega
      have hz' : (z : Int) ≠ 0 := by omega
      clear hq
      unfold zeroV
      go_wp2
      obtain ⟨t0, t1, t2, t3, t4⟩ := five_read (o := .cells #[.int .i64 0, .int .i64 0, .int .u64 0, .slice none 0 0, .slice none 0 0] 26) (a := .int .i64 0) (b := .int .i64 0) (c := .int .u64 0) (d := .slice none 0 0) (e := .slice none 0 0) hlt q0 q1 q2 q3 q4
      refine bodyPost_ret (v := .tuple #[zeroV, .int .i64 z]) ?_ rfl (RwPost.err HE2.out (below_alloc (five hbl4 _ _ _ _ _) _) hz rfl)
      simp [results, Try.results17, go_sem, zeroV, t0, t1, t2, t3, t4]
    | ok y k =>
      rw [hq] at hres
      obtain ⟨hkn, A3, m3, c3, A4, m4, c4, A2, c2, rfl, hrv, hrr⟩ := hres
      have HRV := Lib.hid hrv
      by_cases hk : k < n
      · have HE2 := Lib.hid (show rdW bs = .err 5 by rw [HE.out, hq]; simp only []; rw [if_pos (by rw [HL.out]; exact hk)])
        have g3 : decide (0 < n - k) = true := by simp; omega
        have g3' : decide ((0 : Int) < ((n - k : Nat) : Int)) = true := by simp; omega
        clear hq hrv hrr
        go_wp2
        obtain ⟨t0, t1, t2, t3, t4⟩ := five_read (o := .cells #[.int .i64 y.k, .int .i64 y.t, .int .u64 y.n, .slice A3 m3 c3, .slice A4 m4 c4] 26) (a := .int .i64 0) (b := .int .i64 0) (c := .int .u64 0) (d := .slice none 0 0) (e := .slice none 0 0) hlt q0 q1 q2 q3 q4
        refine bodyPost_ret (v := .tuple #[zeroV, .int .i64 5]) ?_ rfl (RwPost.err HE2.out (below_alloc (five hbl4 _ _ _ _ _) _) (by omega) rfl)
        simp [results, Try.results17, go_sem, zeroV, t0, t1, t2, t3, t4]
      · have HE2 := Lib.hid (show rdW bs = .ok y k by rw [HE.out, hq]; simp only []; rw [if_neg (by rw [HL.out]; exact hk)])
        obtain rfl : k = n := by omega
        have g3 : decide (0 < k - k) = false := by simp
        rw [Nat.sub_self] at hrr ⊢
        clear hq hrv hrr
        go_wp2
        have hzz : (((((w4.setCell ⟨w.heap.size, 0, none⟩ (.int .i64 y.k)).setCell ⟨w.heap.size, 1, none⟩ (.int .i64 y.t)).setCell ⟨w.heap.size, 2, none⟩ (.int .u64 y.n)).setCell ⟨w.heap.size, 3, none⟩ (.slice A3 m3 c3)).setCell ⟨w.heap.size, 4, none⟩ (.slice A4 m4 c4)).heap.size = w4.heap.size := five_size _ _ _ _ _
        obtain ⟨t0, t1, t2, t3, t4⟩ := five_read (o := .cells #[.int .i64 y.k, .int .i64 y.t, .int .u64 y.n, .slice A3 m3 c3, .slice A4 m4 c4] 26) (a := .int .i64 y.k) (b := .int .i64 y.t) (c := .int .u64 y.n) (d := .slice A3 m3 c3) (e := .slice A4 m4 c4) hlt q0 q1 q2 q3 q4
        refine bodyPost_ret (v := .tuple #[.agg #[.int .i64 y.k, .int .i64 y.t, .int .u64 y.n, .slice A3 m3 c3, .slice A4 m4 c4], .int .i64 0]) ?_ rfl (RwPost.ok HE2.out (below_alloc (five hbl4 _ _ _ _ _) _) ⟨A3, m3, c3, A4, m4, c4, rfl, RdVS.keep (fun p hp => ?_) (fun b hb => ⟨by have := hb.1; simp at this; omega, by rw [World.size_alloc, hzz]; have := hb.2; omega⟩) _ HRV.out⟩)
        · simp [results, Try.results17, go_sem, t0, t1, t2, t3, t4]
        · exact (World.cell?_alloc_lt _ _ _ (by rw [hzz]; exact hp.2)).trans (five_cell _ _ _ _ _ p (by have := hp.1; simp at this; omega))
end Go.Proofs.Ytfinonfkpmlfeaa.Der
