/-
  THE CONTRACTS of der's encoded, and of Write.
-/
import Derived.Test.YtfinonfkpmlfeaaDer
import Derived.Test.YtfinonfkpmlfeaaDerw
namespace Go.Proofs.Ytfinonfkpmlfeaa.Der
open Go.RowKit
open Go.Proofs.Ytfinonfkpmlfeaa.Kit
open Go.Proofs.Ytfinonfkpmlfeaa.Oct
set_option linter.unusedVariables false

set_option maxRecDepth 100000 in
set_option maxHeartbeats 1000000 in
theorem enc_of {N : Nat} (hC : ContC N) : EncC N := by
  intro x d A m c A' m' c' w hs hf hr h
  obtain ⟨hd, ht0, ht1, hc⟩ := right_cases hr
  have hcall := hC x d A m c A' m' c' (w.alloc (.cells #[.int .i64 x.k, .int .i64 x.t, .int .u64 x.n, .slice A m c, .slice A' m' c'] 26)) hs hf hr (h.on (below_of_new _ _))
  have HC := Lib.hid hcall
  have htwo := x.enc_two
  have hel := Lib.hid x.enc_len
  have hee := Lib.hid x.enc_eq
  have hk3 : x.k = 0 ∨ x.k = 1 ∨ x.k = 2 := by rcases hc with h | h | h <;> omega
  obtain ⟨k, hk⟩ : ∃ k, k = x.k := ⟨_, rfl⟩
  obtain ⟨t, ht⟩ : ∃ t, t = x.t := ⟨_, rfl⟩
  obtain ⟨body, hbody⟩ : ∃ q, q = x.body := ⟨_, rfl⟩
  obtain ⟨enc, henc⟩ : ∃ q, q = x.enc := ⟨_, rfl⟩
  rw [← hk] at HC hee hk3
  rw [← ht] at HC hee ht0 ht1
  rw [← hbody] at HC htwo hel hee
  rw [← henc] at htwo hel hee
  rw [← hk, ← ht, ← henc]
  have hH : ∀ X : Int, X = k * 64 + t → #[Value.int .u8 X].toList = [headB k t].map bv := fun X hX => head_bv hk3 ht0 ht1 hX
  obtain ⟨hb, hhb⟩ : ∃ q, q = headB k t := ⟨_, rfl⟩
  rw [← hhb] at hH hee
  have HH := Lib.hid hH
  clear hcall hc hk ht hbody henc hs hf hr h hC hH hhb
  rcases Nat.lt_or_ge 4096 body.length with hbig | hsm
  · go_enter Try.func32, Try.ntmps32
    go_wp2_with fail
    refine HC.out.mono ?_
    rintro e w1 ⟨hb1, hyes, hno⟩
    have hB1 := below_seq (below_of_new _ _) hb1
    by_cases h2 : k = 2
    · obtain ⟨D, nn, cc, rfl⟩ := hno ⟨h2, hbig⟩
      clear hyes hno hb1 h2
      go_wp2
      go_ret2
      exact ⟨hB1, fun hh => absurd hh (by omega), fun _ => ⟨_, _, _, rfl⟩⟩
    · obtain ⟨D, cc, rfl, hrd⟩ := hyes (.inl h2)
      have g1 : decide ((4096 : Int) < body.length) = true := by simp; omega
      have hrm : body.length ≤ 9223372036854775807 := by have := hrd.room; omega
      clear hyes hno hb1 h2 hrd
      go_wp2
      go_ret2
      exact ⟨hB1, fun hh => absurd hh (by omega), fun _ => ⟨_, _, _, rfl⟩⟩
  · have g1 : decide ((4096 : Int) < body.length) = false := by simp; omega
    rcases hk3 with rfl | rfl | rfl
    all_goals
      go_enter Try.func32, Try.ntmps32
      go_wp2_with fail
      refine HC.out.mono ?_
      rintro e w1 ⟨hb1, hyes, hno⟩
      obtain ⟨D, cc, rfl, hrd⟩ := hyes (.inr hsm)
      have hB1 := below_seq (below_of_new _ _) hb1
      have hc0 : w1.cell? ⟨w.heap.size, 0, none⟩ = _ := (hb1.cell (by simp)).trans (World.cell?_alloc_new w _ _ 0)
      have hc1 : w1.cell? ⟨w.heap.size, 1, none⟩ = _ := (hb1.cell (by simp)).trans (World.cell?_alloc_new w _ _ 1)
      simp at hc0 hc1
      clear hyes hno hb1 HC
      go_wp2_with fail
      refine (length_new body.length _ (by omega)).mono ?_
      rintro e w2 ⟨L, cl, rfl, hnl⟩
      have hB2 := below_seq (below_alloc hB1 _) hnl.bl
      have hD2 := (hrd.lit _).on hnl.bl
      have hH2 : RdB w2 w2.heap.size (some ⟨w1.heap.size, 0, none⟩) 1 1 [hb] := (rd_lit' w1 (n := 1) rfl (HH.out _ (by omega)) rfl (by omega)).on hnl.bl
      have hL2 := hnl.rd
      have hrmD := hrd.room
      have hll := Lib.hid hL2.len
      clear hc0 hc1 hrd hnl hB1
      go_wp2_with fail
      refine (joined_new _ _ _ _ [⟨some ⟨w1.heap.size, 0, none⟩, 1, 1, [hb]⟩, ⟨L, (lenB body.length).length, cl, lenB body.length⟩, ⟨D, body.length, cc, body⟩] _ ?h1 ?h2 (Nat.le_refl _) ?h3).mono ?_
      case h1 => exact rd_cells _ rfl rfl rfl (by simp)
      case h2 =>
        intro r hr
        simp only [List.mem_cons, List.not_mem_nil, or_false] at hr
        rcases hr with rfl | rfl | rfl
        · exact hH2.lit _
        · exact hL2.lit _
        · exact hD2.lit _
      case h3 =>
        have := lenB_len (n := body.length) (by omega)
        rw [joinL_three]
        simp
        split at this
        · omega
        · split at this <;> omega
      rintro e w3 ⟨E, ce, rfl, hn3⟩
      rw [joinL_three] at hn3 ⊢
      have hB3 := below_seq (below_alloc hB2 _) hn3.bl
      have hrd3 := hn3.rd
      have hje : [hb] ++ (lenB body.length ++ body) = enc := hee.out.symm
      have hje2 : ([hb] ++ (lenB body.length ++ body)).length = enc.length := by rw [hje]
      rw [hje2]
      rw [hje2, hje] at hrd3
      clear hH2 hL2 hD2 hB2 hn3 hje hje2
      rcases Nat.lt_or_ge 4096 enc.length with hen | hen
      · have g2 : decide ((enc.length : Int) ≤ 4096) = false := by simp; omega
        go_wp2
        go_ret2
        exact ⟨hB3, fun hh => absurd hh (by omega), fun _ => ⟨_, _, _, rfl⟩⟩
      · have g2 : decide ((enc.length : Int) ≤ 4096) = true := by simp; omega
        go_wp2
        go_ret2
        exact ⟨hB3, fun _ => ⟨E, ce, rfl, hrd3, hB3⟩, fun hh => absurd hh (by omega)⟩

theorem right_all (N : Nat) : RightC N := by
  induction N with
  | zero => intro x d A m c A' m' c' w hs; have := x.size_pos; omega
  | succ N ih => exact right_of (allRight_of ih)
theorem enc_all (N : Nat) : EncC N := by
  have h : ∀ N, ContC N := by
    intro N
    induction N with
    | zero => intro x d A m c A' m' c' w hs; have := x.size_pos; omega
    | succ N ih => exact cont_of (enc_of ih)
  exact enc_of (h N)

theorem Right_new (x : V) (A : Option Addr) (m c : Nat) (A' : Option Addr) (m' c' : Nat) (w : World) (hf : x.fit) (h : RdV w w.heap.size x A m c A' m' c') :
    Calls Try.prog 15 #[.agg #[.int .i64 x.k, .int .i64 x.t, .int .u64 x.n, .slice A m c, .slice A' m' c']] w fun e w' => e = .returned (.bool (x.right 0)) ∧ Below w.heap.size w w' := by
  go_enter Try.func15, Try.ntmps15
  go_wp2_with fail
  refine (right_all x.size x 0 _ _ _ _ _ _ _ (Nat.le_refl _) hf (h.on (below_of_new _ _)) (by omega)).mono ?_
  rintro e w1 ⟨rfl, hb1⟩
  have hB1 := below_seq (below_of_new _ _) hb1
  go_wp2
  go_ret
  exact ⟨rfl, hB1⟩

/-- what Write answers: bytes, the error's number -/
def wrE (x : V) : Nat := if x.right 0 = true then (if x.enc.length ≤ 4096 then 0 else 20) else 7
def wrB (x : V) : List UInt8 := if wrE x = 0 then x.enc else []
theorem Write_new (x : V) (A : Option Addr) (m c : Nat) (A' : Option Addr) (m' c' : Nat) (w : World) (hf : x.fit) (h : RdV w w.heap.size x A m c A' m' c') :
    Calls Try.prog 12 #[.agg #[.int .i64 x.k, .int .i64 x.t, .int .u64 x.n, .slice A m c, .slice A' m' c']] w fun e w' => ∃ B cc, e = .returned (.tuple #[.slice B (wrB x).length cc, .int .i64 (wrE x)]) ∧ New w w' B (wrB x).length cc (wrB x) := by
  have h1 := h.on (below_of_new w (.cells #[.int .i64 x.k, .int .i64 x.t, .int .u64 x.n, .slice A m c, .slice A' m' c'] 26))
  go_enter Try.func12, Try.ntmps12
  go_wp2_with fail
  refine (Right_new x _ _ _ _ _ _ _ hf h1).mono ?_
  rintro e w1 ⟨rfl, hb1⟩
  have hB1 := below_seq (below_of_new _ _) hb1
  have hx1 := h1.on hb1
  have hc0 : w1.cell? ⟨w.heap.size, 0, none⟩ = some (.int .i64 x.k) := (hb1.cell (by simp)).trans (World.cell?_alloc_new w _ _ 0)
  have hc1 : w1.cell? ⟨w.heap.size, 1, none⟩ = some (.int .i64 x.t) := (hb1.cell (by simp)).trans (World.cell?_alloc_new w _ _ 1)
  have hc2 : w1.cell? ⟨w.heap.size, 2, none⟩ = some (.int .u64 x.n) := (hb1.cell (by simp)).trans (World.cell?_alloc_new w _ _ 2)
  have hc3 : w1.cell? ⟨w.heap.size, 3, none⟩ = some (.slice A m c) := (hb1.cell (by simp)).trans (World.cell?_alloc_new w _ _ 3)
  have hc4 : w1.cell? ⟨w.heap.size, 4, none⟩ = some (.slice A' m' c') := (hb1.cell (by simp)).trans (World.cell?_alloc_new w _ _ 4)
  have HF := Lib.hid hf
  clear h h1 hb1 hf
  cases hr : x.right 0
  · have e1 : wrE x = 7 := by rw [wrE, hr]; rfl
    have e2 : wrB x = [] := by rw [wrB, e1]; rfl
    have E1 := Lib.hid e1
    have E2 := Lib.hid e2
    clear e1 e2 hr hx1
    go_wp2
    go_ret2
    exact ⟨none, 0, by rw [E1.out, E2.out]; rfl, by rw [E2.out]; exact ⟨Rd.nil _ _, hB1⟩⟩
  · have HR := Lib.hid hr
    clear hr
    go_wp2_with fail
    refine (enc_all x.size x 0 _ _ _ _ _ _ _ (Nat.le_refl _) HF.out HR.out hx1).mono ?_
    rintro e w2 ⟨hb2, hyes, hno⟩
    have hB2 := below_seq hB1 hb2
    clear hc0 hc1 hc2 hc3 hc4 hx1 hb2
    rcases Nat.lt_or_ge 4096 x.enc.length with hen | hen
    · obtain ⟨B, nn, cc, rfl⟩ := hno hen
      have e1 : wrE x = 20 := by rw [wrE, HR.out, if_pos rfl, if_neg (by omega)]
      have e2 : wrB x = [] := by rw [wrB, e1]; rfl
      have E1 := Lib.hid e1
      have E2 := Lib.hid e2
      clear e1 e2 hyes hno
      go_wp2
      go_ret2
      exact ⟨none, 0, by rw [E1.out, E2.out]; rfl, by rw [E2.out]; exact ⟨Rd.nil _ _, hB2⟩⟩
    · obtain ⟨B, cc, rfl, hnew⟩ := hyes hen
      have e1 : wrE x = 0 := by rw [wrE, HR.out, if_pos rfl, if_pos hen]
      have e2 : wrB x = x.enc := by rw [wrB, e1]; rfl
      have E1 := Lib.hid e1
      have E2 := Lib.hid e2
      have hrd := hnew.rd
      clear e1 e2 hyes hno hnew
      go_wp2
      go_ret2
      exact ⟨B, cc, by rw [E1.out, E2.out]; rfl, by rw [E2.out]; exact ⟨hrd, hB2⟩⟩
end Go.Proofs.Ytfinonfkpmlfeaa.Der
