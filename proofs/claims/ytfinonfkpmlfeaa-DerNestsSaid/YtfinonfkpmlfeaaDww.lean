/-
  DerWrites: what is needed; the walk.
-/
import Derived.Test.YtfinonfkpmlfeaaDrw
import Derived.Test.YtfinonfkpmlfeaaDopen
namespace Go.Proofs.Ytfinonfkpmlfeaa.Der
open Go.RowKit
open Go.Proofs.Ytfinonfkpmlfeaa.Kit
open Go.Proofs.Ytfinonfkpmlfeaa.Oct
set_option linter.unusedVariables false
attribute [local go_sem ↓] Go.wp_at_zero Go.wp_at_succ

theorem lenB_le (n : Nat) : (lenB n).length ≤ 9 := by
  unfold lenB
  have := nb_bd n
  split <;> simp [short_len] <;> omega
mutual
theorem enc_le : ∀ x : V, x.enc.length ≤ 18 * x.size
  | .mk k t n b l => by
    have h1 := lenB_le (if k = 0 then short n else if k = 2 then V.enc.encs l else b).length
    have h2 := encs_le l
    have h3 := nb_bd n
    rw [V.enc, V.size]
    simp only [List.length_cons, List.length_append]
    by_cases k0 : k = 0
    · simp only [k0, if_true, short_len] at h1 ⊢; omega
    · by_cases k2 : k = 2
      · simp only [k0, k2, if_true, if_false] at h1 ⊢
        rw [if_neg (by omega)] at h1 ⊢
        omega
      · simp only [k0, k2, if_false] at h1 ⊢; omega
theorem encs_le : ∀ l : List V, (V.enc.encs l).length ≤ 18 * V.size.sizes l
  | [] => by simp [V.enc.encs]
  | x :: r => by
    have h1 := enc_le x
    have h2 := encs_le r
    rw [V.enc.encs, V.size.sizes, List.length_append]; omega
end
theorem wr_got {x : V} (h : wrE x = 0) (hf : x.fit) : gotV (wrB x) = x ∧ gotE (wrB x) = 0 := by
  have hb : wrB x = x.enc := by rw [wrB, if_pos h]
  rw [wrE] at h
  cases hr : x.right 0 with
  | false => rw [hr] at h; simp at h
  | true =>
    rw [hr, if_pos rfl] at h
    by_cases hl : x.enc.length ≤ 4096
    · have h2 := rd_enc x.size x (Nat.le_refl _) hf 0 hr (by omega) []
      rw [List.append_nil] at h2
      have h3 : rdW x.enc = .ok x x.enc.length := by
        rw [rdW, if_neg (by omega)]
        have h2' : rd 8 x.enc = .ok x x.enc.length := h2
        rw [h2']
        simp
      rw [hb, gotV, gotE, h3]
      exact ⟨rfl, rfl⟩
    · rw [if_neg hl] at h; omega
theorem wrE_cases {x : V} (h : ¬ wrE x = 0) : wrE x = 7 ∨ wrE x = 20 := by
  unfold wrE at h ⊢
  by_cases h1 : x.right 0 = true
  · rw [if_pos h1] at h ⊢
    by_cases h2 : x.enc.length ≤ 4096
    · rw [if_pos h2] at h; exact absurd rfl h
    · rw [if_neg h2]; exact .inr rfl
  · rw [if_neg h1]; exact .inl rfl
theorem RRight_new (x : V) (A : Option Addr) (m c : Nat) (A' : Option Addr) (m' c' : Nat) (w : World) (hf : x.fit) (h : RdV w w.heap.size x A m c A' m' c') :
    Calls Try.prog 16 #[.agg #[.int .i64 x.k, .int .i64 x.t, .int .u64 x.n, .slice A m c, .slice A' m' c'], .int .i64 1] w fun e w' => e = .returned (.bool (x.right 0)) ∧ Below w.heap.size w w' :=
  rright_all x.size x 0 1 A m c A' m' c' w (Nat.le_refl _) hf h (by omega) rfl
theorem Count_new (x : V) (most : Int) (A : Option Addr) (m c : Nat) (A' : Option Addr) (m' c' : Nat) (w : World) (hl : lim x) (h : RdV w w.heap.size x A m c A' m' c') (h0 : 0 ≤ most) (h1 : most ≤ 100000) :
    Calls Try.prog 11 #[.agg #[.int .i64 x.k, .int .i64 x.t, .int .u64 x.n, .slice A m c, .slice A' m' c'], .int .i64 most] w fun e w' => ∃ r : Int, e = .returned (.int .i64 r) ∧ (1 ≤ r ∧ r ≤ most + 140737488355330) ∧ (r ≤ most → r = x.size) ∧ Below w.heap.size w w' :=
  count_all x.size x most A m c A' m' c' w (Nat.le_refl _) hl h h0 h1

set_option maxRecDepth 100000 in
set_option maxHeartbeats 4000000 in
theorem writes_walk (x : V) (A : Option Addr) (m c : Nat) (A' : Option Addr) (m' c' : Nat) (w : World) (hf : x.fit) (hl : lim x) (h : RdV w w.heap.size x A m c A' m' c') :
    Calls Try.prog 3 #[.agg #[.int .i64 x.k, .int .i64 x.t, .int .u64 x.n, .slice A m c, .slice A' m' c']] w fun e w' => e = .returned (.bool true) ∧ Below w.heap.size w w' := by
  have h0 : RdV (w.alloc (.cells #[.int .i64 x.k, .int .i64 x.t, .int .u64 x.n, .slice A m c, .slice A' m' c'] 26)) (w.alloc (.cells #[.int .i64 x.k, .int .i64 x.t, .int .u64 x.n, .slice A m c, .slice A' m' c'] 26)).heap.size x A m c A' m' c' := h.on (below_of_new _ _)
  have H0 := Lib.hid h0
  have HF := Lib.hid hf
  have HLIM := Lib.hid hl
  clear h h0 hf hl
  go_enter Try.func3, Try.ntmps3
  go_wp2_with fail
  refine (alive2_any _).mono ?_
  rintro e w1 ⟨rfl, hb1⟩
  have hx1 := box1 hb1
  have hs1 : w.heap.size < w1.heap.size := by have := hb1.size; simp at this; omega
  have hB1 := below_seq (below_of_new _ _) hb1
  have HV1 := Lib.hid (H0.out.on hb1)
  have HX1 := Lib.hid hx1
  obtain ⟨⟨d0, d1, d2, d3, d4⟩, _⟩ := cells5 hx1
  clear hb1 hx1 H0
  go_wp2_with fail
  refine (Plain_new x _ _ _ _ _ _ _ HV1.out).mono ?_
  rintro e w2 ⟨A2, m2, c2, rfl, hp2, hb2⟩
  have hs2 : w.heap.size < w2.heap.size := Nat.lt_of_lt_of_le hs1 hb2.size
  have hx2 := (hb2.block _ hs1).trans HX1.out
  have hB2 := below_seq hB1 hb2
  have HV2 := Lib.hid (HV1.out.on hb2)
  have HX2 := Lib.hid hx2
  have HP2 := Lib.hid (hp2.on (below_of_new w2 (.cells #[.int .i64 x.k, .int .i64 x.t, .int .u64 x.n, .slice A m c, .slice A2 m2 c2] 30)))
  clear hb2 hx2 d0 d1 d2 d3 d4 hB1 hp2
  go_wp2_with fail
  refine (Count_new x 6000 _ _ _ _ _ _ _ HLIM.out HP2.out (by omega) (by omega)).mono ?_
  rintro e w3 ⟨r, rfl, hr, hrs, hb3⟩
  have HRS := Lib.hid hrs
  have hs3 : w2.heap.size < w3.heap.size := by have := hb3.size; simp at this; omega
  have hb23 := below_seq (below_of_new _ _) hb3
  have hxa := (hb23.block _ hs2).trans HX2.out
  have hxb := box1 hb3
  have hB3 := below_seq hB2 hb23
  have HV3 := Lib.hid (HV2.out.on hb23)
  have HP3 := Lib.hid (HP2.out.on hb3)
  have HXA := Lib.hid hxa
  have HXB := Lib.hid hxb
  clear hrs hb3 hb23 hxb hB2
  by_cases hr6 : r ≤ 6000
  · have hsz : x.size ≤ 6000 := by have := HRS.out hr6; omega
    have g1 : decide (6000 < r) = false := by simp; omega
    obtain ⟨⟨d0, d1, d2, d3, d4⟩, _⟩ := cells5 hxa
    have hsa : w.heap.size < w3.heap.size := Nat.lt_trans hs2 hs3
    clear hxa
    go_wp2_with fail
    refine (Write_new x _ _ _ _ _ _ _ HF.out HV3.out).mono ?_
    rintro e w4 ⟨B4, c4, rfl, hn4⟩
    have hb4 := hn4.bl
    have hr4 := hn4.rd
    have hs4 : w2.heap.size < w4.heap.size := Nat.lt_of_lt_of_le hs3 hb4.size
    have hxa := (hb4.block _ hsa).trans HXA.out
    have hxb := (hb4.block _ hs3).trans HXB.out
    have hB4 := below_seq hB3 hb4
    have HV4 := Lib.hid (HV3.out.on hb4)
    have HP4 := Lib.hid (HP3.out.on hb4)
    have HXA4 := Lib.hid hxa
    have HXB4 := Lib.hid hxb
    have HR4 := Lib.hid hr4
    clear d0 d1 d2 d3 d4 hn4 hr4 hxa hB3 HXA HXB HV3 HP3 HV2 HP2 HX2 HX1 HV1
    obtain ⟨⟨d0, d1, d2, d3, d4⟩, _⟩ := cells5 hxb
    clear hxb
    have hsz' : x.size ≤ 100000 := by omega
    have hen : x.enc.length ≤ 1000000 := by have := enc_le x; omega
    go_wp2_with fail
    refine (RWrite_new x _ _ _ _ _ _ _ HF.out HP4.out hen).mono ?_
    rintro e w5 ⟨B5, c5, rfl, hn5⟩
    have hb5 := hn5.bl
    have hr5 := hn5.rd
    have hsa5 : w.heap.size < w5.heap.size := by have := hb5.size; have := hb4.size; omega
    have hs5 : w2.heap.size < w5.heap.size := by have := hb5.size; omega
    have hxa := (hb5.block _ (Nat.lt_of_lt_of_le hsa hb4.size)).trans HXA4.out
    have hxb := (hb5.block _ hs4).trans HXB4.out
    have hB5 := below_seq hB4 hb5
    have HVW := Lib.hid (fun W (h : Below w5.heap.size w5 W) => (HV4.out.on hb5).on h)
    have HPW := Lib.hid (fun W (h : Below w5.heap.size w5 W) => (HP4.out.on hb5).on h)
    have HRW := Lib.hid (fun W (h : Below w5.heap.size w5 W) => (HR4.out.on hb5).on h)
    have HR5 := Lib.hid (fun W (h : Below w5.heap.size w5 W) => hr5.on h)
    have HXA5 := Lib.hid hxa
    have HXB5 := Lib.hid hxb
    have HHB := Lib.hid hB5
    have hdr : Below w5.heap.size w5 w5.drew := below_of_drew ⟨1, rfl⟩ _
    clear d0 d1 d2 d3 d4 hn5 hr5 hB4 HV4 HP4 HR4 HXA4 HXB4 hb4 hb5 hB5
    obtain ⟨⟨d0, d1, d2, d3, d4⟩, _⟩ := cells5 hxa
    obtain ⟨⟨f0, f1, f2, f3, f4⟩, _⟩ := cells5 hxb
    clear hxa hxb
    go_wp2_with fail
    go_region_held3 (fun w' => w'.cell? ⟨w.heap.size, 0, none⟩ = some (.int .i64 x.k) ∧ w'.cell? ⟨w.heap.size, 1, none⟩ = some (.int .i64 x.t) ∧ w'.cell? ⟨w.heap.size, 2, none⟩ = some (.int .u64 x.n) ∧ w'.cell? ⟨w.heap.size, 3, none⟩ = some (.slice A m c) ∧ w'.cell? ⟨w.heap.size, 4, none⟩ = some (.slice A' m' c') ∧
        w'.cell? ⟨w2.heap.size, 0, none⟩ = some (.int .i64 x.k) ∧ w'.cell? ⟨w2.heap.size, 1, none⟩ = some (.int .i64 x.t) ∧ w'.cell? ⟨w2.heap.size, 2, none⟩ = some (.int .u64 x.n) ∧ w'.cell? ⟨w2.heap.size, 3, none⟩ = some (.slice A m c) ∧ w'.cell? ⟨w2.heap.size, 4, none⟩ = some (.slice A2 m2 c2))
      (first
        | go_keep
        | (go_split_ands
           refine ⟨?_, ?_, ?_, ?_, ?_, ?_, ?_, ?_, ?_, ?_⟩
           all_goals (first | exact (hb6.cell hsa5).trans (by assumption) | exact (hb6.cell hs5).trans (by assumption) | exact (hb7.cell hsa6).trans (by assumption) | exact (hb7.cell hs6).trans (by assumption) | exact (hb8.cell hsa7).trans (by assumption) | exact (hb8.cell hs7).trans (by assumption))))
      ((first
        | (go_at_call 14; (with_reducible refine (rsame_new _ _ _ _ _ _ (wrB x) (wrB x) _ (HRW.out _ hdr) (HR5.out _ hdr)).mono ?_); rintro r w6 ⟨rfl, hb6'⟩; have hb6 : Below w5.heap.size w5 w6 := below_seq hdr hb6'; have hsa6 := Nat.lt_of_lt_of_le hsa5 hb6.size; have hs6 := Nat.lt_of_lt_of_le hs5 hb6.size; rw [show decide (wrB x = wrB x) = true from by simp])
        | (go_at_call 15; (with_reducible refine (Right_new x _ _ _ _ _ _ _ HF.out (HVW.out _ hb6)).mono ?_); rintro r w7 ⟨rfl, hb7⟩; have hb57 := below_seq hb6 hb7; have hsa7 := Nat.lt_of_lt_of_le hsa6 hb7.size; have hs7 := Nat.lt_of_lt_of_le hs6 hb7.size)
        | (go_at_call 16; (with_reducible refine (RRight_new x _ _ _ _ _ _ _ HF.out (HPW.out _ hb57)).mono ?_); rintro r w8 ⟨rfl, hb8⟩)))
    have hb58 := below_seq hb57 hb8
    have hsa8 := Nat.lt_of_lt_of_le hsa5 hb58.size
    have hs8 := Nat.lt_of_lt_of_le hs5 hb58.size
    have hxa8 := (hb58.block _ hsa5).trans HXA5.out
    have hxb8 := (hb58.block _ hs5).trans HXB5.out
    have hrb8 := HRW.out _ hb58
    have hB8 := below_seq HHB.out hb58
    have hgot := Read_got _ _ _ _ _ hrb8
    unfold GotP at hgot
    have HVW8 := Lib.hid (fun W (h : Below w8.heap.size w8 W) => HVW.out W (below_seq hb58 h))
    have HPW8 := Lib.hid (fun W (h : Below w8.heap.size w8 W) => HPW.out W (below_seq hb58 h))
    have HXA8 := Lib.hid hxa8
    have HXB8 := Lib.hid hxb8
    clear d0 d1 d2 d3 d4 f0 f1 f2 f3 f4 hxa8 hxb8 hrb8 hb6 hb6' hb7 hb8 hb57 hb58 hdr
    by_cases hE : wrE x = 0
    · obtain ⟨e1, e2⟩ := wr_got hE HF.out
      rw [e1, e2] at hgot
      rw [hE, show ((0 : Nat) : Int) = 0 from rfl]
      have HG := Lib.hid hgot
      clear hE e1 e2 hgot
      go_wp2_with fail
      refine HG.out.mono ?_
      rintro e w9 ⟨A9, m9, c9, A8, m8, c8, rfl, hv9, hb9⟩
      rw [show ((0 : Nat) : Int) = 0 from rfl]
      have hbx9 := below_of_new w9 (.cells #[.int .i64 x.k, .int .i64 x.t, .int .u64 x.n, .slice A9 m9 c9, .slice A8 m8 c8] 26)
      obtain ⟨W, hW⟩ : ∃ W, W = w9.alloc (.cells #[.int .i64 x.k, .int .i64 x.t, .int .u64 x.n, .slice A9 m9 c9, .slice A8 m8 c8] 26) := ⟨_, rfl⟩
      have hxc : W.heap[w9.heap.size]? = _ := (congrArg (fun W : World => W.heap[w9.heap.size]?) hW).trans (heap_alloc_new w9 _)
      rw [← hW] at hbx9
      have hsc : w9.heap.size < W.heap.size := by rw [hW]; simp
      have hb8W := below_seq hb9 hbx9
      have hsaW := Nat.lt_of_lt_of_le hsa8 hb8W.size
      have hsW := Nat.lt_of_lt_of_le hs8 hb8W.size
      have hxa := (hb8W.block _ hsa8).trans HXA8.out
      have hxb := (hb8W.block _ hs8).trans HXB8.out
      have hBW := below_seq hB8 hb8W
      have HVWW := Lib.hid (fun Z (h : Below W.heap.size W Z) => HVW8.out Z (below_seq hb8W h))
      have HPWW := Lib.hid (fun Z (h : Below W.heap.size W Z) => HPW8.out Z (below_seq hb8W h))
      have HNWW := Lib.hid (show ∀ Z, Below W.heap.size W Z → RdV Z Z.heap.size x A9 m9 c9 A8 m8 c8 from fun Z h => RdVS.keep (fun p hp => (below_seq hbx9 h).cell hp.2) (fun b hb => Nat.lt_of_lt_of_le hb.2 (below_seq hbx9 h).size) _ hv9)
      have hdr : Below W.heap.size W W.drew := below_of_drew ⟨1, rfl⟩ _
      have HBW := Lib.hid hBW
      clear hv9 hb9 hb8W hbx9 hB8 hBW HG
      have HW := Lib.hid hW
      clear hW
      obtain ⟨⟨d0, d1, d2, d3, d4⟩, _⟩ := cells5 hxa
      obtain ⟨⟨f0, f1, f2, f3, f4⟩, _⟩ := cells5 hxb
      obtain ⟨⟨e0, e1, e2, e3, e4⟩, _⟩ := cells5 hxc
      clear hxa hxb hxc
      go_wp2_with fail
      rw [← HW.out]
      go_region_held3 (fun w' => w'.cell? ⟨w.heap.size, 0, none⟩ = some (.int .i64 x.k) ∧ w'.cell? ⟨w.heap.size, 1, none⟩ = some (.int .i64 x.t) ∧ w'.cell? ⟨w.heap.size, 2, none⟩ = some (.int .u64 x.n) ∧ w'.cell? ⟨w.heap.size, 3, none⟩ = some (.slice A m c) ∧ w'.cell? ⟨w.heap.size, 4, none⟩ = some (.slice A' m' c') ∧
        w'.cell? ⟨w2.heap.size, 0, none⟩ = some (.int .i64 x.k) ∧ w'.cell? ⟨w2.heap.size, 1, none⟩ = some (.int .i64 x.t) ∧ w'.cell? ⟨w2.heap.size, 2, none⟩ = some (.int .u64 x.n) ∧ w'.cell? ⟨w2.heap.size, 3, none⟩ = some (.slice A m c) ∧ w'.cell? ⟨w2.heap.size, 4, none⟩ = some (.slice A2 m2 c2) ∧
        w'.cell? ⟨w9.heap.size, 0, none⟩ = some (.int .i64 x.k) ∧ w'.cell? ⟨w9.heap.size, 1, none⟩ = some (.int .i64 x.t) ∧ w'.cell? ⟨w9.heap.size, 2, none⟩ = some (.int .u64 x.n) ∧ w'.cell? ⟨w9.heap.size, 3, none⟩ = some (.slice A9 m9 c9) ∧ w'.cell? ⟨w9.heap.size, 4, none⟩ = some (.slice A8 m8 c8))
        (first
          | go_keep
          | (go_split_ands
             refine ⟨?_, ?_, ?_, ?_, ?_, ?_, ?_, ?_, ?_, ?_, ?_, ?_, ?_, ?_, ?_⟩
             all_goals (first | exact (hb10.cell hsaW).trans (by assumption) | exact (hb10.cell hsW).trans (by assumption) | exact (hb10.cell hsc).trans (by assumption) | exact (hb11.cell hsa10).trans (by assumption) | exact (hb11.cell hs10).trans (by assumption) | exact (hb11.cell hsc10).trans (by assumption) | exact (hb12.cell hsa11).trans (by assumption) | exact (hb12.cell hs11).trans (by assumption) | exact (hb12.cell hsc11).trans (by assumption))))
        ((first
          | (go_at_call 18; (with_reducible refine (Same_new x x _ _ _ _ _ _ _ _ _ _ _ _ _ hsz' (HVWW.out _ hdr) (HNWW.out _ hdr)).mono ?_); rintro r w10 ⟨rfl, hb10'⟩; have hb10 : Below W.heap.size W w10 := below_seq hdr hb10'; have hsa10 := Nat.lt_of_lt_of_le hsaW hb10.size; have hs10 := Nat.lt_of_lt_of_le hsW hb10.size; have hsc10 := Nat.lt_of_lt_of_le hsc hb10.size; rw [show x.same x = true from V.same_self x])
          | (go_at_call 10; (with_reducible refine (Plain_new x _ _ _ _ _ _ _ (HNWW.out _ hb10)).mono ?_); rintro r w11 ⟨A11, m11, c11, rfl, hp11, hb11⟩; have hbW11 := below_seq hb10 hb11; have hsa11 := Nat.lt_of_lt_of_le hsa10 hb11.size; have hs11 := Nat.lt_of_lt_of_le hs10 hb11.size; have hsc11 := Nat.lt_of_lt_of_le hsc10 hb11.size)
          | (go_at_call 19; (with_reducible refine (RSame_new x x _ _ _ _ _ _ _ _ _ _ _ _ _ (HPWW.out _ hbW11) hp11).mono ?_); rintro r w12 ⟨rfl, hb12⟩; rw [show x.same x = true from V.same_self x])))
      have hB12 := below_seq (below_seq HBW.out hbW11) hb12
      go_wp2
      go_ret
      exact ⟨rfl, hB12⟩
    · have HG := Lib.hid hgot
      clear hgot
      rcases wrE_cases hE with h7 | h7
      all_goals
        rw [h7]
        first | rw [show ((7 : Nat) : Int) = 7 from rfl] | rw [show ((20 : Nat) : Int) = 20 from rfl]
        clear h7 hE
        go_wp2_with fail
        refine HG.out.mono ?_
        rintro e w9 ⟨A9, m9, c9, A8, m8, c8, rfl, hv9, hb9⟩
        have hB9 := below_seq hB8 hb9
        clear hv9 HG
        go_wp2_with fail
        go_quiet ((fail))
        go_wp2
        go_ret
        exact ⟨rfl, below_seq (below_alloc hB9 _) (below_of_drew ⟨_, rfl⟩ _)⟩
  · have g1 : decide (6000 < r) = true := by simp; omega
    have p1 : (6000 : Int) < r := by omega
    clear hxa
    go_wp2
    go_ret
    exact ⟨rfl, hB3⟩
end Go.Proofs.Ytfinonfkpmlfeaa.Der
