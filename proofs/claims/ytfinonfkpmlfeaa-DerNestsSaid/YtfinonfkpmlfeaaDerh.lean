/-
  THE CONTRACT of der's first.
-/
import Derived.Test.YtfinonfkpmlfeaaDerf
namespace Go.Proofs.Ytfinonfkpmlfeaa.Der
open Go.RowKit
open Go.Proofs.Ytfinonfkpmlfeaa.Kit
open Go.Proofs.Ytfinonfkpmlfeaa.Oct
set_option linter.unusedVariables false

/-- what first answers -/
def FsPost (B d : Nat) (bs : List UInt8) (n : Nat) (w : World) (e : Ending) (w' : World) : Prop :=
  Below w.heap.size w w' ∧ match rd d bs with
    | .err x => 0 < x ∧ e = .returned (.tuple #[zeroV, .slice none 0 0, .int .i64 x])
    | .ok x k => k ≤ n ∧ ∃ A m c A' m' c' A2 c2, e = .returned (.tuple #[.agg #[.int .i64 x.k, .int .i64 x.t, .int .u64 x.n, .slice A m c, .slice A' m' c'], .slice A2 (n - k) c2, .int .i64 0]) ∧
      RdVS w' (fun b => w.heap.size ≤ b ∧ b < w'.heap.size) x A m c A' m' c' ∧ RdB w' B A2 (n - k) c2 (bs.drop k)
def FirstC (d : Nat) : Prop := ∀ (lists : Nat) (A : Option Addr) (n c : Nat) (bs : List UInt8) (B : Nat) (w : World), lists + d = 8 → n ≤ 4096 → RdB w B A n c bs → B ≤ w.heap.size →
  Calls Try.prog 35 #[.slice A n c, .int .i64 lists] w (FsPost B d bs n w)
theorem FsPost.err {B d n : Nat} {bs : List UInt8} {w w' : World} {e : Ending} {x : Nat} (hr : rd d bs = .err x) (hb : Below w.heap.size w w') (hx : 0 < x) (he : e = .returned (.tuple #[zeroV, .slice none 0 0, .int .i64 x])) : FsPost B d bs n w e w' := by
  refine ⟨hb, ?_⟩
  rw [hr]; exact ⟨hx, he⟩
theorem FsPost.ok {B d k n : Nat} {bs : List UInt8} {w w' : World} {e : Ending} {x : V} (hr : rd d bs = .ok x k) (hb : Below w.heap.size w w') (hk : k ≤ n)
    (he : ∃ A m c A' m' c' A2 c2, e = .returned (.tuple #[.agg #[.int .i64 x.k, .int .i64 x.t, .int .u64 x.n, .slice A m c, .slice A' m' c'], .slice A2 (n - k) c2, .int .i64 0]) ∧
      RdVS w' (fun b => w.heap.size ≤ b ∧ b < w'.heap.size) x A m c A' m' c' ∧ RdB w' B A2 (n - k) c2 (bs.drop k)) : FsPost B d bs n w e w' := by
  refine ⟨hb, ?_⟩
  rw [hr]; exact ⟨hk, he⟩
theorem rdLen_err {bs : List UInt8} {x : Nat} (h : rdLen bs = .err x) : 0 < x := by
  unfold rdLen at h
  repeat' split at h
  all_goals first
    | (injection h with h; omega)
    | (cases h; done)
theorem rdLen_two {bs : List UInt8} {a s : Nat} (h : rdLen bs = .ok a s) : 2 ≤ a ∧ ∃ x r, bs = x :: r := by
  unfold rdLen at h
  repeat' split at h
  all_goals first
    | (injection h with h1 h2; exact ⟨by omega, _, _, rfl⟩)
    | (cases h; done)

set_option maxRecDepth 100000 in
theorem first_zero : FirstC 0 := by
  intro lists A n c bs B w hd hn hbs hBw
  obtain rfl : lists = 8 := by omega
  clear hbs
  rw [show ((8 : Nat) : Int) = 8 from rfl]
  go_enter Try.func35, Try.ntmps35
  go_wp2
  refine bodyPost_ret (v := .tuple #[zeroV, .slice none 0 0, .int .i64 4]) ?_ rfl (FsPost.err rfl (below_of_new _ _) (by omega) rfl)
  simp [results, Try.results35, go_sem, zeroV]

theorem box1 {w w3 : World} {o1 : Obj} (h : Below (w.alloc o1).heap.size (w.alloc o1) w3) : w3.heap[w.heap.size]? = some o1 :=
  (h.block _ (by simp)).trans (heap_alloc_new w o1)
theorem five {w w3 : World} (hbl : Below w.heap.size w w3) (a b c d e : Value) :
    Below w.heap.size w (((((w3.setCell ⟨w.heap.size, 0, none⟩ a).setCell ⟨w.heap.size, 1, none⟩ b).setCell ⟨w.heap.size, 2, none⟩ c).setCell ⟨w.heap.size, 3, none⟩ d).setCell ⟨w.heap.size, 4, none⟩ e) :=
  ((((hbl.setCell (p := ⟨w.heap.size, 0, none⟩) (by simp) a).setCell (p := ⟨w.heap.size, 1, none⟩) (by simp) b).setCell (p := ⟨w.heap.size, 2, none⟩) (by simp) c).setCell (p := ⟨w.heap.size, 3, none⟩) (by simp) d).setCell (p := ⟨w.heap.size, 4, none⟩) (by simp) e
theorem five_cell {w3 : World} {g : Nat} (a b c d e : Value) (p : Addr) (hp : p.block ≠ g) :
    (((((w3.setCell ⟨g, 0, none⟩ a).setCell ⟨g, 1, none⟩ b).setCell ⟨g, 2, none⟩ c).setCell ⟨g, 3, none⟩ d).setCell ⟨g, 4, none⟩ e).cell? p = w3.cell? p := by
  refine World.cell?_of_block ?_
  rw [heap_setCell_other _ _ _ _ hp, heap_setCell_other _ _ _ _ hp, heap_setCell_other _ _ _ _ hp, heap_setCell_other _ _ _ _ hp, heap_setCell_other _ _ _ _ hp]
theorem five_size {w3 : World} {g : Nat} (a b c d e : Value) :
    (((((w3.setCell ⟨g, 0, none⟩ a).setCell ⟨g, 1, none⟩ b).setCell ⟨g, 2, none⟩ c).setCell ⟨g, 3, none⟩ d).setCell ⟨g, 4, none⟩ e).heap.size = w3.heap.size := by simp [World.setCell]

theorem five_read {w4 : World} {g : Nat} {o : Obj} {a b c d e u0 u1 u2 u3 u4 : Value} (hlt : g < w4.heap.size)
    (q0 : w4.cell? ⟨g, 0, none⟩ = some u0) (q1 : w4.cell? ⟨g, 1, none⟩ = some u1) (q2 : w4.cell? ⟨g, 2, none⟩ = some u2) (q3 : w4.cell? ⟨g, 3, none⟩ = some u3) (q4 : w4.cell? ⟨g, 4, none⟩ = some u4) :
    let W := (((((w4.setCell ⟨g, 0, none⟩ a).setCell ⟨g, 1, none⟩ b).setCell ⟨g, 2, none⟩ c).setCell ⟨g, 3, none⟩ d).setCell ⟨g, 4, none⟩ e).alloc o
    W.cell? ⟨g, 0, none⟩ = some a ∧ W.cell? ⟨g, 1, none⟩ = some b ∧ W.cell? ⟨g, 2, none⟩ = some c ∧ W.cell? ⟨g, 3, none⟩ = some d ∧ W.cell? ⟨g, 4, none⟩ = some e := by
  refine ⟨?_, ?_, ?_, ?_, ?_⟩ <;> refine (World.cell?_alloc_lt _ _ _ (by rw [five_size]; exact hlt)).trans ?_ <;> simp [go_sem, q0, q1, q2, q3, q4]

set_option maxRecDepth 100000 in
set_option maxHeartbeats 4000000 in
theorem first_of {d : Nat} (hF : FillC d) : FirstC (d + 1) := by
  intro lists A n c bs B w hd hn hbs hBw
  have HFC := Lib.hid hF
  have HB := Lib.hid hbs
  have hl := hbs.len
  have HL := Lib.hid hl
  have hw1 : Below w.heap.size w (w.alloc (.cells #[.int .i64 0, .int .i64 0, .int .u64 0, .slice none 0 0, .slice none 0 0] 26)) := below_of_new _ _
  have HX := Lib.hid hw1
  have HRB := Lib.hid (show RdB (w.alloc (.cells #[.int .i64 0, .int .i64 0, .int .u64 0, .slice none 0 0, .slice none 0 0] 26)) B A n c bs from hbs.below (hw1.mono hBw))
  have hB1 : B ≤ (w.alloc (.cells #[.int .i64 0, .int .i64 0, .int .u64 0, .slice none 0 0, .slice none 0 0] 26)).heap.size := Nat.le_trans hBw hw1.size
  have HB1 := Lib.hid hB1
  have hRD := rd_fl d bs
  have HRD := Lib.hid hRD
  have p0 : ¬ ((8 : Int) ≤ (lists : Int)) := by omega
  have g0 : decide ((8 : Int) ≤ (lists : Int)) = false := by simp; omega
  clear hF hbs hl hw1 hRD hB1
  go_enter Try.func35, Try.ntmps35
  go_wp2_with fail
  refine (split_any _ _ _ _ _ _ HRB.out HB1.out).mono ?_
  rintro e w3 ⟨hb3, hres⟩
  have hx0 := box1 hb3
  obtain ⟨⟨r0, r1, r2, r3, r4⟩, ⟨z0, z1, z2, z3, z4⟩⟩ := cells5 hx0
  have hbl := below_seq HX.out hb3
  have HX0 := Lib.hid hx0
  clear hx0
  cases hq : rdLen bs with
  | err x =>
    rw [hq] at hres
    have hx := rdLen_err hq
    subst hres
    have HE := Lib.hid (show rd (d + 1) bs = .err x by rw [HRD.out, hq])
    have g3 : ((x : Int) != 0) = true := by simp; omega
    have hx' : (x : Int) ≠ 0 := by omega
    clear hq hb3
    go_wp2
    refine bodyPost_ret (v := .tuple #[zeroV, .slice none 0 0, .int .i64 x]) ?_ rfl (FsPost.err HE.out (five hbl _ _ _ _ _) hx rfl)
    simp [results, Try.results35, go_sem, zeroV, r0, r1, r2, r3, r4]
  | ok a s =>
    rw [hq] at hres
    simp only [] at hres
    by_cases hs : n - a < s
    · rw [if_pos hs] at hres
      subst hres
      have HE := Lib.hid (show rd (d + 1) bs = .err 1 by rw [HRD.out, hq]; simp only []; rw [if_pos (by rw [HL.out]; exact hs)])
      clear hq hb3 hs
      go_wp2
      refine bodyPost_ret (v := .tuple #[zeroV, .slice none 0 0, .int .i64 1]) ?_ rfl (FsPost.err HE.out (five hbl _ _ _ _ _) (by omega) rfl)
      simp [results, Try.results35, go_sem, zeroV, r0, r1, r2, r3, r4]
    · rw [if_neg hs] at hres
      obtain ⟨ha, A1, c1, A2, c2, rfl, hrb, hrr⟩ := hres
      obtain ⟨ha2, x, r, hbsx⟩ := rdLen_two hq
      have HE := Lib.hid (show rd (d + 1) bs = match fl d x.toNat ((bs.drop a).take s) with
          | .err e => .err e
          | .ok y _ => .ok y (a + s) by
        rw [HRD.out, hq]; simp only []; rw [if_neg (by rw [HL.out]; exact hs), hbsx]; rfl)
      have hn0 : 0 < n := by have := HL.out; rw [hbsx] at this; simp at this; omega
      obtain ⟨b, o, rfl⟩ := HB.out.addr hn0
      have hb3B : RdB w3 B (some ⟨b, o, none⟩) n c bs := HB.out.below (hbl.mono hBw)
      have hc0 := hb3B.cell0 (j := 0) (by rw [hbsx]; simp)
      simp only [hbsx, List.getElem_cons_zero, Nat.add_zero] at hc0
      have i0 : (0 : Int) < (n : Int) := by omega
      have hcall := HFC.out lists x A1 s c1 ((bs.drop a).take s) w3 (by omega) (by omega) (hrb.more (Nat.le_trans hBw hbl.size))
      have HCALL := Lib.hid hcall
      have HRR := Lib.hid hrr
      have HS := Lib.hid hs
      have HA := Lib.hid ha
      have HB3 := Lib.hid hb3
      clear hq hs hrb hrr hbsx ha ha2 hcall hb3B hb3
      clear r0 r1 r2 r3 r4 z0 z1 z2 z3 z4
      go_wp2_with fail
      refine HCALL.out.mono ?_
      rintro e w4 ⟨hb4, hres⟩
      have hlt3 : w.heap.size < w3.heap.size := by have := HB3.out.size; simp at this; omega
      have hx4 := (hb4.block w.heap.size hlt3).trans HX0.out
      have hlt : w.heap.size < w4.heap.size := Nat.lt_of_lt_of_le hlt3 hb4.size
      have hbl4 := below_seq hbl hb4
      have HX4 := Lib.hid hx4
      have HB4 := Lib.hid hb4
      clear hx4 hc0 HCALL hbl hlt3
      cases hq : fl d x.toNat ((bs.drop a).take s) with
      | err z =>
        rw [hq] at hres
        obtain ⟨hz, rfl⟩ := hres
        have HE2 := Lib.hid (show rd (d + 1) bs = .err z by rw [HE.out, hq])
        have g3 : ((z : Int) != 0) = true := by simp; omega
        have hz' : (z : Int) ≠ 0 := by omega
        have hx5 : (w4.alloc (.cells #[.int .i64 0, .int .i64 0, .int .u64 0, .slice none 0 0, .slice none 0 0] 26)).heap[w.heap.size]? = _ := (heap_alloc_old w4 _ hlt).trans HX4.out
        obtain ⟨⟨r0, r1, r2, r3, r4⟩, ⟨z0, z1, z2, z3, z4⟩⟩ := cells5 hx5
        obtain ⟨⟨q0, q1, q2, q3, q4⟩, ⟨s0, s1, s2, s3, s4⟩⟩ := cells5 HX4.out
        have hbl5 := below_alloc hbl4 (.cells #[.int .i64 0, .int .i64 0, .int .u64 0, .slice none 0 0, .slice none 0 0] 26)
        clear hq hb4 hx5
        unfold zeroV
        go_wp2
        refine bodyPost_ret (v := .tuple #[zeroV, .slice none 0 0, .int .i64 z]) ?_ rfl (FsPost.err HE2.out (below_alloc (five hbl4 _ _ _ _ _) _) hz rfl)
        obtain ⟨t0, t1, t2, t3, t4⟩ := five_read (o := .cells #[.int .i64 0, .int .i64 0, .int .u64 0, .slice none 0 0, .slice none 0 0] 26) (a := .int .i64 0) (b := .int .i64 0) (c := .int .u64 0) (d := .slice none 0 0) (e := .slice none 0 0) hlt q0 q1 q2 q3 q4
        simp [results, Try.results35, go_sem, zeroV, t0, t1, t2, t3, t4]
      | ok y k0 =>
        rw [hq] at hres
        obtain ⟨A3, m3, c3, A4, m4, c4, rfl, hrv⟩ := hres
        have HE2 := Lib.hid (show rd (d + 1) bs = .ok y (a + s) by rw [HE.out, hq])
        have hx5 : (w4.alloc (.cells #[.int .i64 y.k, .int .i64 y.t, .int .u64 y.n, .slice A3 m3 c3, .slice A4 m4 c4] 26)).heap[w.heap.size]? = _ := (heap_alloc_old w4 _ hlt).trans HX4.out
        obtain ⟨⟨r0, r1, r2, r3, r4⟩, ⟨z0, z1, z2, z3, z4⟩⟩ := cells5 hx5
        obtain ⟨⟨q0, q1, q2, q3, q4⟩, ⟨s0, s1, s2, s3, s4⟩⟩ := cells5 HX4.out
        have hbl5 := below_alloc hbl4 (.cells #[.int .i64 y.k, .int .i64 y.t, .int .u64 y.n, .slice A3 m3 c3, .slice A4 m4 c4] 26)
        have HRV := Lib.hid hrv
        clear hq hb4 hx5 hrv
        go_wp2
        have hzz : (((((w4.setCell ⟨w.heap.size, 0, none⟩ (.int .i64 y.k)).setCell ⟨w.heap.size, 1, none⟩ (.int .i64 y.t)).setCell ⟨w.heap.size, 2, none⟩ (.int .u64 y.n)).setCell ⟨w.heap.size, 3, none⟩ (.slice A3 m3 c3)).setCell ⟨w.heap.size, 4, none⟩ (.slice A4 m4 c4)).heap.size = w4.heap.size := five_size _ _ _ _ _
        have hfin := five hbl4 (.int .i64 y.k) (.int .i64 y.t) (.int .u64 y.n) (.slice A3 m3 c3) (.slice A4 m4 c4)
        have hb3w : w.heap.size < w3.heap.size := by have := HB3.out.size; simp at this; omega
        refine bodyPost_ret (v := .tuple #[.agg #[.int .i64 y.k, .int .i64 y.t, .int .u64 y.n, .slice A3 m3 c3, .slice A4 m4 c4], .slice A2 (n - a - s) c2, .int .i64 0]) ?_ rfl (FsPost.ok HE2.out (below_alloc hfin _) (by have := HS.out; have := HA.out; omega) ⟨A3, m3, c3, A4, m4, c4, A2, c2, ?_, RdVS.keep (fun p hp => ?_) (fun b hb => ⟨by have := hb.1; omega, by rw [World.size_alloc, hzz]; have := hb.2; omega⟩) _ HRV.out, ?_⟩)
        · obtain ⟨t0, t1, t2, t3, t4⟩ := five_read (o := .cells #[.int .i64 y.k, .int .i64 y.t, .int .u64 y.n, .slice A3 m3 c3, .slice A4 m4 c4] 26) (a := .int .i64 y.k) (b := .int .i64 y.t) (c := .int .u64 y.n) (d := .slice A3 m3 c3) (e := .slice A4 m4 c4) hlt q0 q1 q2 q3 q4
          simp [results, Try.results35, go_sem, t0, t1, t2, t3, t4, r0, r1, r2, r3, r4, q0, q1, q2, q3, q4]
        · rw [show n - a - s = n - (a + s) by omega]
        · exact (World.cell?_alloc_lt _ _ _ (by rw [hzz]; exact hp.2)).trans (five_cell _ _ _ _ _ p (by have := hp.1; omega))
        · rw [show n - (a + s) = n - a - s by omega]
          refine (HRR.out.below (HB4.out.mono (by have := HB3.out.size; have := HX.out.size; omega))).below ?_
          refine ⟨rfl, rfl, rfl, by rw [World.size_alloc, hzz]; omega, fun k hk => ?_⟩
          rw [heap_alloc_old _ _ (by rw [hzz]; omega), heap_setCell_other _ _ _ _ (by simp; omega), heap_setCell_other _ _ _ _ (by simp; omega), heap_setCell_other _ _ _ _ (by simp; omega), heap_setCell_other _ _ _ _ (by simp; omega), heap_setCell_other _ _ _ _ (by simp; omega)]
end Go.Proofs.Ytfinonfkpmlfeaa.Der
