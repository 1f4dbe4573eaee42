/-
  THE CONTRACTS of der's functions: which values may be.
-/
import Derived.Test.YtfinonfkpmlfeaaOctn
import Derived.Test.YtfinonfkpmlfeaaValm
namespace Go.Proofs.Ytfinonfkpmlfeaa.Der
open Go.RowKit
open Go.Proofs.Ytfinonfkpmlfeaa.Kit
open Go.Proofs.Ytfinonfkpmlfeaa.Oct
set_option linter.unusedVariables false

def RightC (N : Nat) : Prop := ∀ (x : V) (d : Nat) (A : Option Addr) (m c : Nat) (A' : Option Addr) (m' c' : Nat) (w : World), x.size ≤ N → x.fit → RdV w w.heap.size x A m c A' m' c' → d ≤ 9 →
  Calls Try.prog 34 #[.agg #[.int .i64 x.k, .int .i64 x.t, .int .u64 x.n, .slice A m c, .slice A' m' c'], .int .i64 d] w fun e w' => e = .returned (.bool (x.right d)) ∧ Below w.heap.size w w'
def AllRightC (N : Nat) : Prop := ∀ (l : List V) (d : Nat) (A : Option Addr) (n c : Nat) (w : World), (∀ x ∈ l, x.size ≤ N) → V.fit.fits l → RdVs w w.heap.size l A n c → d ≤ 9 →
  Calls Try.prog 45 #[.slice A n c, .int .i64 d] w fun e w' => e = .returned (.bool (V.right.rights l d)) ∧ Below w.heap.size w w'

theorem allRight_of {N : Nat} (hR : RightC N) : AllRightC N := by
  intro l d A n c w hs hf h hd
  have hn := h.1
  have hcc := h.2.1
  have hcm := h.2.2.1
  obtain ⟨hle, hge⟩ : n ≤ l.length ∧ l.length ≤ n := by omega
  have HR := Lib.hid hR
  have HS := Lib.hid hs
  have HF := Lib.hid hf
  clear hR hs hf hn
  go_enter Try.func45, Try.ntmps45
  go_wp2
  go_loopw [9] (fun i wr => ∃ k : Nat, k ≤ n ∧ i = .int .i64 k ∧ V.right.rights (l.take k) d = true ∧ Below w.heap.size w wr) (fun i _ => n - (intOf i).toNat)
  case atStart => exact ⟨0, Nat.zero_le _, rfl, rfl, Below.refl _ _⟩
  case round =>
    obtain ⟨k, hk, rfl, ht, hbw⟩ := hrel
    have HT := Lib.hid ht
    clear ht
    by_cases hlt : k < n
    · have hlk : k < l.length := by omega
      have h' := h.on hbw
      obtain ⟨bb, o, rfl, hbb, hl⟩ := h'.2.2.2.2 (by omega)
      obtain ⟨B, m, c1, B', m', c2, e0, e1, e2, e3, e4, hrd⟩ := RdVl.at_ l hl k (by omega)
      have hsz := Lib.hid (HS.out _ (List.getElem_mem (l := l) (n := k) (by omega)))
      have hft := Lib.hid (V.fits_mem HF.out (List.getElem_mem (l := l) (n := k) (by omega)))
      have hsucc := Lib.hid (rights_take_succ l d k (by omega))
      have hfal := Lib.hid (fun hh : l[k].right d = false => rights_false hlk hh)
      obtain ⟨x, hx⟩ : ∃ x, x = l[k] := ⟨_, rfl⟩
      rw [← hx] at e0 e1 e2 hrd hsz hft hsucc hfal
      clear hx hl h'
      go_wp2_with fail
      refine (HR.out x d _ _ _ _ _ _ _ hsz.out hft.out (hrd.on (below_of_new _ _)) hd).mono ?_
      rintro e w1 ⟨rfl, hb1⟩
      have hB1 := below_seq (below_alloc hbw _) hb1
      cases hxr : x.right d
      · have hf := Lib.hid (hfal.out hxr)
        clear hxr hsucc hfal hb1 e0 e1 e2 e3 e4 hrd
        go_wp2
        go_ret
        exact ⟨by rw [hf.out]; rfl, hB1⟩
      · have hs := hsucc.out
        rw [HT.out, hxr] at hs
        have HSU := Lib.hid hs
        clear hxr hs hsucc hfal hb1 e0 e1 e2 e3 e4 hrd
        go_wp2
        go_roundw
        case rel => exact ⟨k + 1, by omega, by go_num, HSU.out, hB1⟩
        case measure => simp [intOf]; omega
    · obtain rfl : k = n := by omega
      have e := HT.out
      rw [List.take_of_length_le hge] at e
      have E := Lib.hid e
      clear e
      go_wp2
      go_ret
      exact ⟨by rw [E.out]; rfl, hbw⟩

theorem right_of {N : Nat} (hA : AllRightC N) : RightC (N + 1) := by
  intro x d A m c A' m' c' w hs hf h hd
  obtain ⟨hb, hl⟩ := h.split
  have hlb := hb.len
  have hll := hl.1
  cases x with
  | mk k t n b l =>
    simp only [V.k, V.t, V.n, V.b, V.l] at *
    have hsl : ∀ y ∈ l, y.size ≤ N := fun y hy => by have := V.size_l (x := .mk k t n b l) hy; omega
    have hfl : V.fit.fits l := hf.2.2.2
    have HSL := Lib.hid hsl
    have HFL := Lib.hid hfl
    have hk := hf.1
    have ht := hf.2.1
    have HA := Lib.hid hA
    have hm : m ≤ 9223372036854775807 := by have := hb.room; omega
    have hm' : m' ≤ 9223372036854775807 := by have := hl.2; omega
    clear hA hsl hfl hs hf
    have hR : V.right (.mk k t n b l) d = (!decide ((8 : Int) ≤ d) && !decide (t < 0) && !decide ((30 : Int) < t) && (if (k == 0) = true then ((m : Int) == 0) && ((m' : Int) == 0) else if (k == 1) = true then ((n : Int) == 0) && ((m' : Int) == 0) else if (k == 2) = true then ((n : Int) == 0) && ((m : Int) == 0) && V.right.rights l (d + 1) else false)) := by
      have e1 : decide (b = []) = ((m : Int) == 0) := nil_len hlb
      have e2 : decide (l = []) = ((m' : Int) == 0) := nil_len hll.symm
      have e3 : decide (n = 0) = ((n : Int) == 0) := by rw [Bool.eq_iff_iff]; simp
      have e4 : decide (d < 8) = !decide ((8 : Int) ≤ d) := by rw [Bool.eq_iff_iff]; simp; omega
      have e5 : decide (0 ≤ t) = !decide (t < 0) := by rw [Bool.eq_iff_iff]; simp
      have e6 : decide (t ≤ 30) = !decide ((30 : Int) < t) := by rw [Bool.eq_iff_iff]; simp
      rw [V.right, e1, e2, e3, e4, e5, e6]
      simp only [beq_iff_eq]
    obtain ⟨R, hR2⟩ : ∃ R, R = V.right (.mk k t n b l) d := ⟨_, rfl⟩
    rw [← hR2] at hR ⊢
    have HR := Lib.hid hR
    have hll2 : m' = l.length := hll
    have HLL := Lib.hid hll2
    have HLB := Lib.hid hlb
    clear hR hR2 hll hll2 hlb
    cases g1 : decide ((8 : Int) ≤ d)
    case true =>
      have hr := HR.out
      simp [g1] at hr
      have HRR := Lib.hid hr
      clear hr
      go_enter Try.func34, Try.ntmps34
      go_wp2_with fail
      go_ret
      exact ⟨by rw [HRR.out]; rfl, below_of_new _ _⟩
    cases g2 : decide (t < 0)
    case true =>
      have hr := HR.out
      simp [g1, g2] at hr
      have HRR := Lib.hid hr
      clear hr
      go_enter Try.func34, Try.ntmps34
      go_wp2_with fail
      go_ret
      exact ⟨by rw [HRR.out]; rfl, below_of_new _ _⟩
    cases g3 : decide ((30 : Int) < t)
    case true =>
      have hr := HR.out
      simp [g1, g2, g3] at hr
      have HRR := Lib.hid hr
      clear hr
      go_enter Try.func34, Try.ntmps34
      go_wp2_with fail
      go_ret
      exact ⟨by rw [HRR.out]; rfl, below_of_new _ _⟩
    cases g4 : (k == 0)
    case true =>
      cases g5 : ((m : Int) == 0)
      case false =>
        have hr := HR.out
        simp [g1, g2, g3, g4, g5] at hr
        have HRR := Lib.hid hr
        clear hr
        go_enter Try.func34, Try.ntmps34
        go_wp2_with fail
        go_ret
        exact ⟨by rw [HRR.out]; rfl, below_of_new _ _⟩
      cases g6 : ((m' : Int) == 0)
      case false =>
        have hr := HR.out
        simp [g1, g2, g3, g4, g5, g6] at hr
        have HRR := Lib.hid hr
        clear hr
        go_enter Try.func34, Try.ntmps34
        go_wp2_with fail
        go_ret
        exact ⟨by rw [HRR.out]; rfl, below_of_new _ _⟩
      case true =>
        have hr := HR.out
        simp [g1, g2, g3, g4, g5, g6] at hr
        have HRR := Lib.hid hr
        clear hr
        go_enter Try.func34, Try.ntmps34
        go_wp2_with fail
        go_ret
        exact ⟨by rw [HRR.out]; rfl, below_of_new _ _⟩
    cases g5 : (k == 1)
    case true =>
      cases g7 : ((n : Int) == 0)
      case false =>
        have hr := HR.out
        simp [g1, g2, g3, g4, g5, g7] at hr
        have HRR := Lib.hid hr
        clear hr
        go_enter Try.func34, Try.ntmps34
        go_wp2_with fail
        go_ret
        exact ⟨by rw [HRR.out]; rfl, below_of_new _ _⟩
      cases g6 : ((m' : Int) == 0)
      case false =>
        have hr := HR.out
        simp [g1, g2, g3, g4, g5, g6, g7] at hr
        have HRR := Lib.hid hr
        clear hr
        go_enter Try.func34, Try.ntmps34
        go_wp2_with fail
        go_ret
        exact ⟨by rw [HRR.out]; rfl, below_of_new _ _⟩
      case true =>
        have hr := HR.out
        simp [g1, g2, g3, g4, g5, g6, g7] at hr
        have HRR := Lib.hid hr
        clear hr
        go_enter Try.func34, Try.ntmps34
        go_wp2_with fail
        go_ret
        exact ⟨by rw [HRR.out]; rfl, below_of_new _ _⟩
    cases g8 : (k == 2)
    case false =>
      have hr := HR.out
      simp [g1, g2, g3, g4, g5, g8] at hr
      have HRR := Lib.hid hr
      clear hr
      go_enter Try.func34, Try.ntmps34
      go_wp2_with fail
      go_ret
      exact ⟨by rw [HRR.out]; rfl, below_of_new _ _⟩
    cases g7 : ((n : Int) == 0)
    case false =>
      have hr := HR.out
      simp [g1, g2, g3, g4, g5, g7, g8] at hr
      have HRR := Lib.hid hr
      clear hr
      go_enter Try.func34, Try.ntmps34
      go_wp2_with fail
      go_ret
      exact ⟨by rw [HRR.out]; rfl, below_of_new _ _⟩
    cases g6 : ((m : Int) == 0)
    case false =>
      have hr := HR.out
      simp [g1, g2, g3, g4, g5, g6, g7, g8] at hr
      have HRR := Lib.hid hr
      clear hr
      go_enter Try.func34, Try.ntmps34
      go_wp2_with fail
      go_ret
      exact ⟨by rw [HRR.out]; rfl, below_of_new _ _⟩
    have hr := HR.out
    simp [g1, g2, g3, g4, g5, g6, g7, g8] at hr
    have HRR := Lib.hid hr
    have hd8 : d < 8 := by have h := of_decide_eq_false g1; omega
    clear hr
    go_enter Try.func34, Try.ntmps34
    go_wp2_with fail
    refine (HA.out l (d + 1) _ _ _ _ HSL.out HFL.out (hl.on (below_of_new _ _)) (by omega)).mono ?_
    rintro e w1 ⟨rfl, hb1⟩
    have hB1 := below_seq (below_of_new _ _) hb1
    rw [← HRR.out]
    clear hb1
    go_wp2
    go_ret
    exact ⟨rfl, hB1⟩
end Go.Proofs.Ytfinonfkpmlfeaa.Der
