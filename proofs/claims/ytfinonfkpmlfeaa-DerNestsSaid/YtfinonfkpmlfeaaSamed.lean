/-
  THE CONTRACTS of der's same, and of Same.
-/
import Derived.Test.YtfinonfkpmlfeaaOctn
import Derived.Test.YtfinonfkpmlfeaaValn
import Derived.Deep.RegionHeld3
import Derived.Deep.DrawnRows
import Derived.StillTactics
namespace Go.Proofs.Ytfinonfkpmlfeaa.Der
open Go.RowKit
open Go.Proofs.Ytfinonfkpmlfeaa.Kit
open Go.Proofs.Ytfinonfkpmlfeaa.Oct
set_option linter.unusedVariables false
attribute [local go_sem ↓] Go.wp_at_zero Go.wp_at_succ

def SameC (N : Nat) : Prop := ∀ (x y : V) (A : Option Addr) (m c : Nat) (A' : Option Addr) (m' c' : Nat) (D : Option Addr) (p e : Nat) (D' : Option Addr) (p' e' : Nat) (ρ : Int) (w : World), x.size ≤ N → (x.size : Int) ≤ ρ → ρ ≤ 200000 → RdV w w.heap.size x A m c A' m' c' → RdV w w.heap.size y D p e D' p' e' →
  Calls Try.prog 36 #[.agg #[.int .i64 x.k, .int .i64 x.t, .int .u64 x.n, .slice A m c, .slice A' m' c'], .agg #[.int .i64 y.k, .int .i64 y.t, .int .u64 y.n, .slice D p e, .slice D' p' e'], .int .i64 ρ] w fun r w' => r = .returned (.bool (x.same y)) ∧ Below w.heap.size w w'

set_option maxRecDepth 100000 in
set_option maxHeartbeats 2000000 in
theorem same_of {N : Nat} (hR : SameC N) : SameC (N + 1) := by
  intro x y A m c A' m' c' D p e D' p' e' ρ w hs hρ1 hρ2 hx hy
  have hsz1 : ∀ z ∈ x.l, (z.size : Int) ≤ ρ - 1 := fun z hz => by have := V.size_l hz; omega
  have HRO := Lib.hid hsz1
  have hρ0 : 1 ≤ ρ := by have := x.size_pos; omega
  have g0 : (ρ == 0) = false := by rw [beq_eq_false_iff_ne]; omega
  obtain ⟨hxb, hxl⟩ := hx.split
  obtain ⟨hyb, hyl⟩ := hy.split
  have hsl : ∀ z ∈ x.l, z.size ≤ N := fun z hz => by have := V.size_l hz; omega
  have HSL := Lib.hid hsl
  have HA := Lib.hid hR
  obtain ⟨R, hR2⟩ : ∃ R, R = x.same y := ⟨_, rfl⟩
  have hsh := same_shape2 x y
  rw [← hR2, ← hxl.1, ← hyl.1] at hsh
  rw [← hR2]
  obtain ⟨k, hk⟩ : ∃ k, k = x.k := ⟨_, rfl⟩
  obtain ⟨t, ht⟩ : ∃ t, t = x.t := ⟨_, rfl⟩
  obtain ⟨n, hn⟩ : ∃ t, t = x.n := ⟨_, rfl⟩
  obtain ⟨l, hl⟩ : ∃ q, q = x.l := ⟨_, rfl⟩
  obtain ⟨b, hb⟩ : ∃ q, q = x.b := ⟨_, rfl⟩
  obtain ⟨k2, hk2⟩ : ∃ k, k = y.k := ⟨_, rfl⟩
  obtain ⟨t2, ht2⟩ : ∃ t, t = y.t := ⟨_, rfl⟩
  obtain ⟨n2, hn2⟩ : ∃ t, t = y.n := ⟨_, rfl⟩
  obtain ⟨l2, hl2⟩ : ∃ q, q = y.l := ⟨_, rfl⟩
  obtain ⟨b2, hb2⟩ : ∃ q, q = y.b := ⟨_, rfl⟩
  rw [← hk, ← ht, ← hn, ← hl, ← hb, ← hk2, ← ht2, ← hn2, ← hl2, ← hb2] at hsh
  rw [← hl] at HSL HRO hxl
  rw [← hb] at hxb
  rw [← hb2] at hyb
  rw [← hl2] at hyl
  rw [← hk, ← ht, ← hn, ← hk2, ← ht2, ← hn2]
  have HR := Lib.hid hsh
  have hle : m' ≤ l.length ∧ l.length ≤ m' := by have := hxl.1; omega
  have hle2 : p' ≤ l2.length ∧ l2.length ≤ p' := by have := hyl.1; omega
  have hmax : m' ≤ 9223372036854775807 := Nat.le_trans hxl.2.1 hxl.2.2.1
  have hmax2 : p' ≤ 9223372036854775807 := Nat.le_trans hyl.2.1 hyl.2.2.1
  clear hs hx hy hsl hsz1 hρ1 hR hR2 hsh hk ht hn hl hb hk2 ht2 hn2 hl2 hb2
  cases g1 : (k != k2)
  case true =>
    have hr : R = false := by have := HR.out; rw [g1] at this; simpa using this
    have HRR := Lib.hid hr
    clear hr
    go_enter Try.func36, Try.ntmps36
    go_wp2
    go_ret
    exact ⟨by rw [HRR.out]; rfl, (below_of_new _ _).alloc (by simp) _⟩
  cases g2 : (t != t2)
  case true =>
    have hr : R = false := by have := HR.out; rw [g1, g2] at this; simpa using this
    have HRR := Lib.hid hr
    clear hr
    go_enter Try.func36, Try.ntmps36
    go_wp2
    go_ret
    exact ⟨by rw [HRR.out]; rfl, (below_of_new _ _).alloc (by simp) _⟩
  cases g3 : ((n : Int) != n2)
  case true =>
    have hr : R = false := by have := HR.out; rw [g1, g2, g3] at this; simpa using this
    have HRR := Lib.hid hr
    clear hr
    go_enter Try.func36, Try.ntmps36
    go_wp2
    go_ret
    exact ⟨by rw [HRR.out]; rfl, (below_of_new _ _).alloc (by simp) _⟩
  cases g5 : ((m' : Int) != p')
  case true =>
    have hr : R = false := by have := HR.out; rw [g5] at this; simpa using this
    have HRR := Lib.hid hr
    clear hr
    go_enter Try.func36, Try.ntmps36
    go_wp2
    go_ret
    exact ⟨by rw [HRR.out]; rfl, (below_of_new _ _).alloc (by simp) _⟩
  have hbx2 : Below w.heap.size w ((w.alloc (.cells #[.int .i64 k, .int .i64 t, .int .u64 n, .slice A m c, .slice A' m' c'] 26)).alloc (.cells #[.int .i64 k2, .int .i64 t2, .int .u64 n2, .slice D p e, .slice D' p' e'] 26)) := (below_of_new _ _).alloc (by simp) _
  have hcall := equal_new _ _ _ _ _ _ _ _ _ (hxb.on hbx2) (hyb.on hbx2)
  have HC := Lib.hid hcall
  clear hcall hxb hyb
  have HBX2 := Lib.hid hbx2
  clear hbx2
  go_enter Try.func36, Try.ntmps36
  go_wp2_with fail
  refine HC.out.mono ?_
  rintro r w1 ⟨rfl, hb1⟩
  have hB1 := below_seq HBX2.out hb1
  have hbx : Below (w.heap.size + 2) ((w.alloc (.cells #[.int .i64 k, .int .i64 t, .int .u64 n, .slice A m c, .slice A' m' c'] 26)).alloc (.cells #[.int .i64 k2, .int .i64 t2, .int .u64 n2, .slice D p e, .slice D' p' e'] 26)) w1 := hb1.mono (by simp)
  have c1 : w1.cell? ⟨w.heap.size, 4, none⟩ = some (.slice A' m' c') := by rw [hbx.cell (by simp)]; exact World.cell?_alloc2_first _ _ _ 4
  have c2 : w1.cell? ⟨w.heap.size + 1, 4, none⟩ = some (.slice D' p' e') := by rw [hbx.cell (by simp)]; exact World.cell?_alloc2_new _ _ _ 4
  clear HC hb1
  cases g4 : decide (b = b2)
  · have hr : R = false := by have := HR.out; rw [g4] at this; simpa using this
    have HRR := Lib.hid hr
    clear hr
    go_wp2
    go_ret
    exact ⟨by rw [HRR.out]; rfl, hB1⟩
  have hr : R = V.same.sames l l2 := by have := HR.out; rw [g1, g2, g3, g4, g5] at this; simpa using this
  have hmp : m' = p' := by have h := g5; simp at h; omega
  have HRR := Lib.hid hr
  have HMP := Lib.hid hmp
  have hbw1 := HBX2.out
  have HBX := Lib.hid hbx
  clear hr hmp hbw1
  go_wp2_with fail
  clear c1 c2 hbx
  go_loopw [49] (fun i wr => ∃ q : Nat, q ≤ m' ∧ i = .int .i64 q ∧ V.same.sames (l.take q) (l2.take q) = true ∧ Below w.heap.size w wr ∧ Below (w.heap.size + 2) ((w.alloc (.cells #[.int .i64 k, .int .i64 t, .int .u64 n, .slice A m c, .slice A' m' c'] 26)).alloc (.cells #[.int .i64 k2, .int .i64 t2, .int .u64 n2, .slice D p e, .slice D' p' e'] 26)) wr) (fun i _ => m' - (intOf i).toNat)
  case atStart => exact ⟨0, Nat.zero_le _, rfl, rfl, hB1, HBX.out⟩
  case round =>
    obtain ⟨q, hq, rfl, ht2, hbw, hbx⟩ := hrel
    have HT := Lib.hid ht2
    have hszr : w.heap.size + 2 ≤ wr.heap.size := by have := hbx.size; simpa using this
    have a1 : wr.cell? ⟨w.heap.size, 4, none⟩ = some (.slice A' m' c') := by rw [hbx.cell (by simp)]; exact World.cell?_alloc2_first _ _ _ 4
    have a2 : wr.cell? ⟨w.heap.size + 1, 4, none⟩ = some (.slice D' p' e') := by rw [hbx.cell (by simp)]; exact World.cell?_alloc2_new _ _ _ 4
    clear ht2
    by_cases hlt : q < m'
    · have hlk : q < l.length := by omega
      have hmp2 : m' = p' := HMP.out
      have hltp : q < p' := by omega
      have hlk2 : q < l2.length := by omega
      clear hmp2
      have hx' := hxl.on hbw
      have hy' := hyl.on hbw
      obtain ⟨bb, o, rfl, hbb, hlx⟩ := hx'.2.2.2.2 (by omega)
      obtain ⟨bb2, o2, rfl, hbb2, hly⟩ := hy'.2.2.2.2 (by omega)
      obtain ⟨B1, n1, d1, B1', n1', d1', e0, e1, e2, e3, e4, hrd⟩ := RdVl.at_ l hlx q hlk
      obtain ⟨B2, n3, d2, B2', n2', d2', f0, f1, f2, f3, f4, hrd2⟩ := RdVl.at_ l2 hly q hlk2
      have hsz := Lib.hid (HSL.out _ (List.getElem_mem (l := l) (n := q) hlk))
      have hroq := HRO.out _ (List.getElem_mem (l := l) (n := q) hlk)
      have hsucc := Lib.hid (sames_take_succ l l2 q hlk hlk2)
      have hfal := Lib.hid (fun hh : l[q].same l2[q] = false => sames_false hlk hlk2 hh)
      obtain ⟨u, hu⟩ : ∃ u, u = l[q] := ⟨_, rfl⟩
      obtain ⟨v, hv⟩ : ∃ u, u = l2[q] := ⟨_, rfl⟩
      rw [← hu] at e0 e1 e2 hrd hsz hsucc hfal hroq
      rw [← hv] at f0 f1 f2 hrd2 hsucc hfal
      have HCALL := Lib.hid (HA.out u v B1 n1 d1 B1' n1' d1' B2 n3 d2 B2' n2' d2' (ρ - 1) wr.drew hsz.out hroq (by omega) (hrd.on (below_of_drew ⟨1, rfl⟩ _)) (hrd2.on (below_of_drew ⟨1, rfl⟩ _)))
      have i1 : (0 : Int) ≤ (q : Int) := by omega
      have i2 : (q : Int) < (m' : Int) := by omega
      have i3 : (q : Int) < (p' : Int) := by omega
      clear hu hv hlx hly hx' hy' hrd hrd2 hroq
      go_wp2_with fail
      have hwr : IntKind.i64.wrap (ρ - 1) = ρ - 1 := IntWalk.i64_in _ (by omega)
      go_region_held3 (fun w' => w'.cell? ⟨w.heap.size, 4, none⟩ = some (.slice (some ⟨bb, o, none⟩) m' c') ∧ w'.cell? ⟨w.heap.size + 1, 4, none⟩ = some (.slice (some ⟨bb2, o2, none⟩) p' e') ∧
          w'.cell? ⟨bb, o + q * 5, none⟩ = some (.int .i64 u.k) ∧ w'.cell? ⟨bb, o + q * 5 + 1, none⟩ = some (.int .i64 u.t) ∧ w'.cell? ⟨bb, o + q * 5 + 2, none⟩ = some (.int .u64 u.n) ∧ w'.cell? ⟨bb, o + q * 5 + 3, none⟩ = some (.slice B1 n1 d1) ∧ w'.cell? ⟨bb, o + q * 5 + 4, none⟩ = some (.slice B1' n1' d1') ∧
          w'.cell? ⟨bb2, o2 + q * 5, none⟩ = some (.int .i64 v.k) ∧ w'.cell? ⟨bb2, o2 + q * 5 + 1, none⟩ = some (.int .i64 v.t) ∧ w'.cell? ⟨bb2, o2 + q * 5 + 2, none⟩ = some (.int .u64 v.n) ∧ w'.cell? ⟨bb2, o2 + q * 5 + 3, none⟩ = some (.slice B2 n3 d2) ∧ w'.cell? ⟨bb2, o2 + q * 5 + 4, none⟩ = some (.slice B2' n2' d2'))
        (first
          | go_keep
          | (go_split_ands
             refine ⟨?_, ?_, ?_, ?_, ?_, ?_, ?_, ?_, ?_, ?_, ?_, ?_⟩
             all_goals (rw [hb2.cell (by simp; omega)]; assumption)))
        ((go_at_call 36; (with_reducible refine HCALL.out.mono ?_); rintro r w2 ⟨rfl, hb2⟩))
      have hbw2 : Below w.heap.size w w2 := below_seq hbw (below_seq (below_of_drew ⟨1, rfl⟩ _) hb2)
      have hbx2 := hbx.trans ((below_seq (below_of_drew (w := wr) ⟨1, rfl⟩ _) hb2).mono hszr)
      clear hwr a1 a2 e0 e1 e2 e3 e4 f0 f1 f2 f3 f4 hb2
      cases hxr : u.same v
      · have hf := Lib.hid (hfal.out hxr)
        clear hxr hsucc hfal
        go_wp2
        go_ret
        exact ⟨by rw [HRR.out, hf.out]; rfl, hbw2⟩
      · have hs := hsucc.out
        rw [HT.out, hxr] at hs
        have HSU := Lib.hid hs
        clear hxr hs hsucc hfal
        go_wp2
        go_roundw
        case rel => exact ⟨q + 1, by omega, by go_num, HSU.out, hbw2, hbx2⟩
        case measure => simp [intOf]; omega
    · obtain rfl : q = m' := by omega
      have e := HT.out
      have hmp2 : q = p' := HMP.out
      rw [List.take_of_length_le hle.2, List.take_of_length_le (by omega)] at e
      have E := Lib.hid e
      clear e hmp2
      go_wp2
      go_ret
      exact ⟨by rw [HRR.out, E.out]; rfl, hbw⟩
theorem samev_all (N : Nat) : SameC N := by
  induction N with
  | zero => intro x y A m c A' m' c' D p e D' p' e' ρ w hs; have := x.size_pos; omega
  | succ N ih => exact same_of ih
theorem Same_new (x y : V) (A : Option Addr) (m c : Nat) (A' : Option Addr) (m' c' : Nat) (D : Option Addr) (p e : Nat) (D' : Option Addr) (p' e' : Nat) (w : World) (hs : x.size ≤ 100000) (hx : RdV w w.heap.size x A m c A' m' c') (hy : RdV w w.heap.size y D p e D' p' e') :
    Calls Try.prog 18 #[.agg #[.int .i64 x.k, .int .i64 x.t, .int .u64 x.n, .slice A m c, .slice A' m' c'], .agg #[.int .i64 y.k, .int .i64 y.t, .int .u64 y.n, .slice D p e, .slice D' p' e']] w fun r w' => r = .returned (.bool (x.same y)) ∧ Below w.heap.size w w' := by
  have hbx2 : Below w.heap.size w ((w.alloc (.cells #[.int .i64 x.k, .int .i64 x.t, .int .u64 x.n, .slice A m c, .slice A' m' c'] 26)).alloc (.cells #[.int .i64 y.k, .int .i64 y.t, .int .u64 y.n, .slice D p e, .slice D' p' e'] 26)) := (below_of_new _ _).alloc (by simp) _
  have hcall := samev_all x.size x y A m c A' m' c' D p e D' p' e' 131072 _ (Nat.le_refl _) (by omega) (by omega) (hx.on hbx2) (hy.on hbx2)
  have HC := Lib.hid hcall
  have HB := Lib.hid hbx2
  clear hcall hbx2 hx hy hs
  go_enter Try.func18, Try.ntmps18
  go_wp2_with fail
  refine HC.out.mono ?_
  rintro r w1 ⟨rfl, hb1⟩
  have hB1 := below_seq HB.out hb1
  clear hb1
  go_wp2
  go_ret
  exact ⟨rfl, hB1⟩
end Go.Proofs.Ytfinonfkpmlfeaa.Der
