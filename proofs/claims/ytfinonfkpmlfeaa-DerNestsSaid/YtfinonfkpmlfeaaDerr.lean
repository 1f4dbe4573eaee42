/-
  THE CONTRACT of the document's Right.
-/
import Derived.Test.YtfinonfkpmlfeaaOctn
import Derived.Test.YtfinonfkpmlfeaaValm
namespace Go.Proofs.Ytfinonfkpmlfeaa.Der
open Go.RowKit
open Go.Proofs.Ytfinonfkpmlfeaa.Kit
open Go.Proofs.Ytfinonfkpmlfeaa.Oct
set_option linter.unusedVariables false

def RRightC (N : Nat) : Prop := ∀ (x : V) (d : Nat) (D : Int) (A : Option Addr) (m c : Nat) (A' : Option Addr) (m' c' : Nat) (w : World), x.size ≤ N → x.fit → RdV w w.heap.size x A m c A' m' c' → d ≤ 9 → D = d + 1 →
  Calls Try.prog 16 #[.agg #[.int .i64 x.k, .int .i64 x.t, .int .u64 x.n, .slice A m c, .slice A' m' c'], .int .i64 D] w fun e w' => e = .returned (.bool (x.right d)) ∧ Below w.heap.size w w'

set_option maxHeartbeats 1000000 in
theorem rright_of {N : Nat} (hR : RRightC N) : RRightC (N + 1) := by
  intro x d D A m c A' m' c' w hs hf h hd hD
  subst hD
  obtain ⟨hb, hl⟩ := h.split
  have hlb := hb.len
  have hll := hl.1
  cases x with
  | mk k t n b l =>
    simp only [V.k, V.t, V.n, V.b, V.l] at *
    have hsl : ∀ y ∈ l, y.size ≤ N := fun y hy => by have := V.size_l (x := .mk k t n b l) hy; omega
    have hfl : V.fit.fits l := hf.2.2.2
    have HSL := Lib.hid hsl
    have HFL := Lib.hid hfl
    have hk := hf.1
    have ht := hf.2.1
    have HA := Lib.hid hR
    have hm : m ≤ 9223372036854775807 := by have := hb.room; omega
    have hm' : m' ≤ 9223372036854775807 := by have := hl.2; omega
    clear hR hsl hfl hs hf
    have hR : V.right (.mk k t n b l) d = (!decide (t < 0) && !decide ((30 : Int) < t) && !decide ((8 : Int) < (d : Int) + 1) && !decide (k < 0) && !decide ((2 : Int) < k) &&
        (if k = 0 then !decide (0 < m) && !decide (0 < m') else if k = 1 then !((n : Int) != 0) && !decide (0 < m') else !((n : Int) != 0) && !decide (0 < m)) && V.right.rights l (d + 1)) := by
      have e1 : decide (b = []) = !decide (0 < m) := nil_len' hlb
      have e2 : decide (l = []) = !decide (0 < m') := nil_len' hll.symm
      have e3 : decide (n = 0) = !((n : Int) != 0) := by rw [Bool.eq_iff_iff]; simp
      have e4 : decide (d < 8) = !decide ((8 : Int) < (d : Int) + 1) := by rw [Bool.eq_iff_iff]; simp; omega
      have e5 : decide (0 ≤ t) = !decide (t < 0) := by rw [Bool.eq_iff_iff]; simp
      have e6 : decide (t ≤ 30) = !decide ((30 : Int) < t) := by rw [Bool.eq_iff_iff]; simp
      have e7 : (!decide (0 < m')) = true → V.right.rights l (d + 1) = true := by
        intro h0
        rw [← e2, decide_eq_true_iff] at h0
        rw [h0]; rfl
      rw [V.right, e1, e2, e3, e4, e5, e6]
      exact right_shape e7
    obtain ⟨R, hR2⟩ : ∃ R, R = V.right (.mk k t n b l) d := ⟨_, rfl⟩
    rw [← hR2] at hR ⊢
    have HR := Lib.hid hR
    have hle : m' ≤ l.length ∧ l.length ≤ m' := by omega
    clear hR hR2 hll hlb
    have hd2 : d + 1 ≤ 10 := by omega
    cases g1 : decide (t < 0)
    case true =>
      have hr := HR.out
      simp [g1] at hr
      have HRR := Lib.hid hr
      clear hr
      go_enter Try.func16, Try.ntmps16
      go_wp2_with fail
      go_ret
      exact ⟨by rw [HRR.out]; rfl, below_of_new _ _⟩
    cases g2 : decide ((30 : Int) < t)
    case true =>
      have hr := HR.out
      simp [g1, g2] at hr
      have HRR := Lib.hid hr
      clear hr
      go_enter Try.func16, Try.ntmps16
      go_wp2_with fail
      go_ret
      exact ⟨by rw [HRR.out]; rfl, below_of_new _ _⟩
    cases g3 : decide ((8 : Int) < (d : Int) + 1)
    case true =>
      have hr := HR.out
      simp [g1, g2, g3] at hr
      have HRR := Lib.hid hr
      clear hr
      go_enter Try.func16, Try.ntmps16
      go_wp2_with fail
      go_ret
      exact ⟨by rw [HRR.out]; rfl, below_of_new _ _⟩
    have hd8 : d < 8 := by have h := of_decide_eq_false g3; omega
    cases g4 : decide (k < 0)
    case true =>
      have hr := HR.out
      simp [g1, g2, g3, g4] at hr
      have HRR := Lib.hid hr
      clear hr
      go_enter Try.func16, Try.ntmps16
      go_wp2_with fail
      go_ret
      exact ⟨by rw [HRR.out]; rfl, below_of_new _ _⟩
    cases g5 : decide ((2 : Int) < k)
    case true =>
      have hr := HR.out
      simp [g1, g2, g3, g4, g5] at hr
      have HRR := Lib.hid hr
      clear hr
      go_enter Try.func16, Try.ntmps16
      go_wp2_with fail
      go_ret
      exact ⟨by rw [HRR.out]; rfl, below_of_new _ _⟩
    have hk3 : k = 0 ∨ k = 1 ∨ k = 2 := by have h1 := of_decide_eq_false g4; have h2 := of_decide_eq_false g5; omega
    clear g4 g5
    rcases hk3 with rfl | rfl | rfl
    · cases g6 : decide (0 < m)
      case true =>
        have hr := HR.out
        simp [g1, g2, g3, g6] at hr
        have HRR := Lib.hid hr
        clear hr
        go_enter Try.func16, Try.ntmps16
        go_wp2_with fail
        go_ret
        exact ⟨by rw [HRR.out]; rfl, below_of_new _ _⟩
      cases g7 : decide (0 < m')
      case true =>
        have hr := HR.out
        simp [g1, g2, g3, g6, g7] at hr
        have HRR := Lib.hid hr
        clear hr
        go_enter Try.func16, Try.ntmps16
        go_wp2_with fail
        go_ret
        exact ⟨by rw [HRR.out]; rfl, below_of_new _ _⟩
      have hr := HR.out
      simp [g1, g2, g3, g6, g7] at hr
      have HRR := Lib.hid hr
      clear hr
      go_enter Try.func16, Try.ntmps16
      go_wp2_with fail
      go_loopw [5] (fun i wr => ∃ q : Nat, q ≤ m' ∧ i = .int .i64 q ∧ V.right.rights (l.take q) (d + 1) = true ∧ Below w.heap.size w wr ∧ Below (w.heap.size + 1) (w.alloc (.cells #[.int .i64 0, .int .i64 t, .int .u64 n, .slice A m c, .slice A' m' c'] 30)) wr) (fun i _ => m' - (intOf i).toNat)
      case atStart => exact ⟨0, Nat.zero_le _, rfl, rfl, below_of_new _ _, Below.refl _ _⟩
      case round =>
        obtain ⟨q, hq, rfl, ht2, hbw, hbx⟩ := hrel
        have HT := Lib.hid ht2
        clear ht2
        have hbox : wr.cell? ⟨w.heap.size, 4, none⟩ = some (.slice A' m' c') := by rw [hbx.cell (by simp)]; exact World.cell?_alloc_new w _ _ _
        by_cases hlt : q < m'
        · have hlk : q < l.length := by omega
          have h' := hl.on hbw
          obtain ⟨bb, o, rfl, hbb, hl2⟩ := h'.2.2.2.2 (by omega)
          obtain ⟨B, m2, c1, B', m2', c2, e0, e1, e2, e3, e4, hrd⟩ := RdVl.at_ l hl2 q hlk
          have hsz := Lib.hid (HSL.out _ (List.getElem_mem (l := l) (n := q) hlk))
          have hft := Lib.hid (V.fits_mem HFL.out (List.getElem_mem (l := l) (n := q) hlk))
          have hsucc := Lib.hid (rights_take_succ l (d + 1) q hlk)
          have hfal := Lib.hid (fun hh : l[q].right (d + 1) = false => rights_false hlk hh)
          obtain ⟨x, hx⟩ : ∃ x, x = l[q] := ⟨_, rfl⟩
          rw [← hx] at e0 e1 e2 hrd hsz hft hsucc hfal
          clear hx hl2 h'
          go_wp2_with fail
          refine (HA.out x (d + 1) _ _ _ _ _ _ _ _ hsz.out hft.out hrd (by omega) (by omega)).mono ?_
          rintro e w1 ⟨rfl, hb1⟩
          have hB1 := below_seq hbw hb1
          have hB2 := hbx.trans (hb1.mono (by have := hbx.size; simpa using this))
          cases hxr : x.right (d + 1)
          · have hf := Lib.hid (hfal.out hxr)
            clear hxr hsucc hfal hb1 e0 e1 e2 e3 e4 hrd hbox
            go_wp2
            go_ret
            exact ⟨by rw [HRR.out, hf.out]; rfl, hB1⟩
          · have hs := hsucc.out
            rw [HT.out, hxr] at hs
            have HSU := Lib.hid hs
            clear hxr hs hsucc hfal hb1 e0 e1 e2 e3 e4 hrd hbox
            go_wp2
            go_roundw
            case rel => exact ⟨q + 1, by omega, by go_num, HSU.out, hB1, hB2⟩
            case measure => simp [intOf]; omega
        · obtain rfl : q = m' := by omega
          have e := HT.out
          rw [List.take_of_length_le hle.2] at e
          have E := Lib.hid e
          clear e
          go_wp2
          go_ret
          exact ⟨by rw [HRR.out, E.out]; rfl, hbw⟩
    · cases g6 : ((n : Int) != 0)
      case true =>
        have hr := HR.out
        simp [g1, g2, g3, g6] at hr
        have HRR := Lib.hid hr
        clear hr
        go_enter Try.func16, Try.ntmps16
        go_wp2_with fail
        go_ret
        exact ⟨by rw [HRR.out]; rfl, below_of_new _ _⟩
      cases g7 : decide (0 < m')
      case true =>
        have hr := HR.out
        simp [g1, g2, g3, g6, g7] at hr
        have HRR := Lib.hid hr
        clear hr
        go_enter Try.func16, Try.ntmps16
        go_wp2_with fail
        go_ret
        exact ⟨by rw [HRR.out]; rfl, below_of_new _ _⟩
      have hr := HR.out
      simp [g1, g2, g3, g6, g7] at hr
      have HRR := Lib.hid hr
      clear hr
      go_enter Try.func16, Try.ntmps16
      go_wp2_with fail
      go_loopw [5] (fun i wr => ∃ q : Nat, q ≤ m' ∧ i = .int .i64 q ∧ V.right.rights (l.take q) (d + 1) = true ∧ Below w.heap.size w wr ∧ Below (w.heap.size + 1) (w.alloc (.cells #[.int .i64 1, .int .i64 t, .int .u64 n, .slice A m c, .slice A' m' c'] 30)) wr) (fun i _ => m' - (intOf i).toNat)
      case atStart => exact ⟨0, Nat.zero_le _, rfl, rfl, below_of_new _ _, Below.refl _ _⟩
      case round =>
        obtain ⟨q, hq, rfl, ht2, hbw, hbx⟩ := hrel
        have HT := Lib.hid ht2
        clear ht2
        have hbox : wr.cell? ⟨w.heap.size, 4, none⟩ = some (.slice A' m' c') := by rw [hbx.cell (by simp)]; exact World.cell?_alloc_new w _ _ _
        by_cases hlt : q < m'
        · have hlk : q < l.length := by omega
          have h' := hl.on hbw
          obtain ⟨bb, o, rfl, hbb, hl2⟩ := h'.2.2.2.2 (by omega)
          obtain ⟨B, m2, c1, B', m2', c2, e0, e1, e2, e3, e4, hrd⟩ := RdVl.at_ l hl2 q hlk
          have hsz := Lib.hid (HSL.out _ (List.getElem_mem (l := l) (n := q) hlk))
          have hft := Lib.hid (V.fits_mem HFL.out (List.getElem_mem (l := l) (n := q) hlk))
          have hsucc := Lib.hid (rights_take_succ l (d + 1) q hlk)
          have hfal := Lib.hid (fun hh : l[q].right (d + 1) = false => rights_false hlk hh)
          obtain ⟨x, hx⟩ : ∃ x, x = l[q] := ⟨_, rfl⟩
          rw [← hx] at e0 e1 e2 hrd hsz hft hsucc hfal
          clear hx hl2 h'
          go_wp2_with fail
          refine (HA.out x (d + 1) _ _ _ _ _ _ _ _ hsz.out hft.out hrd (by omega) (by omega)).mono ?_
          rintro e w1 ⟨rfl, hb1⟩
          have hB1 := below_seq hbw hb1
          have hB2 := hbx.trans (hb1.mono (by have := hbx.size; simpa using this))
          cases hxr : x.right (d + 1)
          · have hf := Lib.hid (hfal.out hxr)
            clear hxr hsucc hfal hb1 e0 e1 e2 e3 e4 hrd hbox
            go_wp2
            go_ret
            exact ⟨by rw [HRR.out, hf.out]; rfl, hB1⟩
          · have hs := hsucc.out
            rw [HT.out, hxr] at hs
            have HSU := Lib.hid hs
            clear hxr hs hsucc hfal hb1 e0 e1 e2 e3 e4 hrd hbox
            go_wp2
            go_roundw
            case rel => exact ⟨q + 1, by omega, by go_num, HSU.out, hB1, hB2⟩
            case measure => simp [intOf]; omega
        · obtain rfl : q = m' := by omega
          have e := HT.out
          rw [List.take_of_length_le hle.2] at e
          have E := Lib.hid e
          clear e
          go_wp2
          go_ret
          exact ⟨by rw [HRR.out, E.out]; rfl, hbw⟩
    · cases g6 : ((n : Int) != 0)
      case true =>
        have hr := HR.out
        simp [g1, g2, g3, g6] at hr
        have HRR := Lib.hid hr
        clear hr
        go_enter Try.func16, Try.ntmps16
        go_wp2_with fail
        go_ret
        exact ⟨by rw [HRR.out]; rfl, below_of_new _ _⟩
      cases g7 : decide (0 < m)
      case true =>
        have hr := HR.out
        simp [g1, g2, g3, g6, g7] at hr
        have HRR := Lib.hid hr
        clear hr
        go_enter Try.func16, Try.ntmps16
        go_wp2_with fail
        go_ret
        exact ⟨by rw [HRR.out]; rfl, below_of_new _ _⟩
      have hr := HR.out
      simp [g1, g2, g3, g6, g7] at hr
      have HRR := Lib.hid hr
      clear hr
      go_enter Try.func16, Try.ntmps16
      go_wp2_with fail
      go_loopw [5] (fun i wr => ∃ q : Nat, q ≤ m' ∧ i = .int .i64 q ∧ V.right.rights (l.take q) (d + 1) = true ∧ Below w.heap.size w wr ∧ Below (w.heap.size + 1) (w.alloc (.cells #[.int .i64 2, .int .i64 t, .int .u64 n, .slice A m c, .slice A' m' c'] 30)) wr) (fun i _ => m' - (intOf i).toNat)
      case atStart => exact ⟨0, Nat.zero_le _, rfl, rfl, below_of_new _ _, Below.refl _ _⟩
      case round =>
        obtain ⟨q, hq, rfl, ht2, hbw, hbx⟩ := hrel
        have HT := Lib.hid ht2
        clear ht2
        have hbox : wr.cell? ⟨w.heap.size, 4, none⟩ = some (.slice A' m' c') := by rw [hbx.cell (by simp)]; exact World.cell?_alloc_new w _ _ _
        by_cases hlt : q < m'
        · have hlk : q < l.length := by omega
          have h' := hl.on hbw
          obtain ⟨bb, o, rfl, hbb, hl2⟩ := h'.2.2.2.2 (by omega)
          obtain ⟨B, m2, c1, B', m2', c2, e0, e1, e2, e3, e4, hrd⟩ := RdVl.at_ l hl2 q hlk
          have hsz := Lib.hid (HSL.out _ (List.getElem_mem (l := l) (n := q) hlk))
          have hft := Lib.hid (V.fits_mem HFL.out (List.getElem_mem (l := l) (n := q) hlk))
          have hsucc := Lib.hid (rights_take_succ l (d + 1) q hlk)
          have hfal := Lib.hid (fun hh : l[q].right (d + 1) = false => rights_false hlk hh)
          obtain ⟨x, hx⟩ : ∃ x, x = l[q] := ⟨_, rfl⟩
          rw [← hx] at e0 e1 e2 hrd hsz hft hsucc hfal
          clear hx hl2 h'
          go_wp2_with fail
          refine (HA.out x (d + 1) _ _ _ _ _ _ _ _ hsz.out hft.out hrd (by omega) (by omega)).mono ?_
          rintro e w1 ⟨rfl, hb1⟩
          have hB1 := below_seq hbw hb1
          have hB2 := hbx.trans (hb1.mono (by have := hbx.size; simpa using this))
          cases hxr : x.right (d + 1)
          · have hf := Lib.hid (hfal.out hxr)
            clear hxr hsucc hfal hb1 e0 e1 e2 e3 e4 hrd hbox
            go_wp2
            go_ret
            exact ⟨by rw [HRR.out, hf.out]; rfl, hB1⟩
          · have hs := hsucc.out
            rw [HT.out, hxr] at hs
            have HSU := Lib.hid hs
            clear hxr hs hsucc hfal hb1 e0 e1 e2 e3 e4 hrd hbox
            go_wp2
            go_roundw
            case rel => exact ⟨q + 1, by omega, by go_num, HSU.out, hB1, hB2⟩
            case measure => simp [intOf]; omega
        · obtain rfl : q = m' := by omega
          have e := HT.out
          rw [List.take_of_length_le hle.2] at e
          have E := Lib.hid e
          clear e
          go_wp2
          go_ret
          exact ⟨by rw [HRR.out, E.out]; rfl, hbw⟩

end Go.Proofs.Ytfinonfkpmlfeaa.Der
