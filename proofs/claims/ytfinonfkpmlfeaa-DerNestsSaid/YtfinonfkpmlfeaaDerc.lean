/-
  THE CONTRACTS of the document's Count and Write.
-/
import Derived.Test.YtfinonfkpmlfeaaDerr
import Derived.Test.YtfinonfkpmlfeaaDerb
import Derived.Test.YtfinonfkpmlfeaaDere
namespace Go.Proofs.Ytfinonfkpmlfeaa.Der
open Go.RowKit
open Go.Proofs.Ytfinonfkpmlfeaa.Kit
open Go.Proofs.Ytfinonfkpmlfeaa.Oct
set_option linter.unusedVariables false

/-- no bytes are more than a machine bears -/
def lim : V → Prop
  | .mk _ _ _ b l => b.length ≤ 140737488355328 ∧ lims l
where lims : List V → Prop
  | [] => True
  | x :: r => lim x ∧ lims r
theorem lims_mem {l : List V} (h : lim.lims l) {x : V} (hx : x ∈ l) : lim x := by
  induction l with
  | nil => cases hx
  | cons y r ih =>
    rw [lim.lims] at h
    rcases List.mem_cons.1 hx with rfl | hx
    · exact h.1
    · exact ih h.2 hx
theorem sizes_take_succ (l : List V) (k : Nat) (h : k < l.length) : V.size.sizes (l.take (k + 1)) = V.size.sizes (l.take k) + l[k].size := by
  induction l generalizing k with
  | nil => simp at h
  | cons x r ih =>
    rcases k with _ | k
    · simp [V.size.sizes]
    · simp only [List.take_succ_cons, V.size.sizes, List.getElem_cons_succ]
      rw [ih k (by simpa using h)]
      omega

def CountC (N : Nat) : Prop := ∀ (x : V) (most : Int) (A : Option Addr) (m c : Nat) (A' : Option Addr) (m' c' : Nat) (w : World), x.size ≤ N → lim x → RdV w w.heap.size x A m c A' m' c' → 0 ≤ most → most ≤ 100000 →
  Calls Try.prog 11 #[.agg #[.int .i64 x.k, .int .i64 x.t, .int .u64 x.n, .slice A m c, .slice A' m' c'], .int .i64 most] w fun e w' => ∃ r : Int, e = .returned (.int .i64 r) ∧ (1 ≤ r ∧ r ≤ most + 140737488355330) ∧ (r ≤ most → r = x.size) ∧ Below w.heap.size w w'

set_option maxHeartbeats 1000000 in
theorem count_of {N : Nat} (hR : CountC N) : CountC (N + 1) := by
  intro x most A m c A' m' c' w hs hlim h h0 h1
  obtain ⟨hbs, hl⟩ := h.split
  have hsl : ∀ y ∈ x.l, y.size ≤ N := fun y hy => by have := V.size_l hy; omega
  have hlm : lim.lims x.l ∧ x.b.length ≤ 140737488355328 := by cases x; exact ⟨hlim.2, hlim.1⟩
  have hsx : x.size = 1 + x.b.length + V.size.sizes x.l := by cases x; rw [V.size]; rfl
  have hlb := hbs.len
  have hmm : m ≤ 140737488355328 := by omega
  rw [hlb] at hsx
  have HSX := Lib.hid hsx
  have HSL := Lib.hid hsl
  have HLM := Lib.hid hlm.1
  have HA := Lib.hid hR
  obtain ⟨l, hl0⟩ : ∃ q, q = x.l := ⟨_, rfl⟩
  rw [← hl0] at HSL HLM HSX hl
  obtain ⟨k, hk⟩ : ∃ k, k = x.k := ⟨_, rfl⟩
  obtain ⟨t, ht⟩ : ∃ t, t = x.t := ⟨_, rfl⟩
  obtain ⟨n, hn⟩ : ∃ t, t = x.n := ⟨_, rfl⟩
  rw [← hk, ← ht, ← hn]
  have hle : m' ≤ l.length ∧ l.length ≤ m' := by have := hl.1; omega
  have hmax : m' ≤ 9223372036854775807 := Nat.le_trans hl.2.1 hl.2.2.1
  clear hs hlim hbs hsl hlm hsx hlb hl0 hk ht hn hR h
  go_enter Try.func11, Try.ntmps11
  go_wp2_with fail
  go_loopw [5, 6] (fun v i wr => ∃ (q : Nat) (r : Int), q ≤ m' ∧ i = .int .i64 q ∧ v = .int .i64 r ∧ (1 ≤ r ∧ r ≤ most + 140737488355330) ∧ (r ≤ most → r = 1 + m + V.size.sizes (l.take q)) ∧ Below w.heap.size w wr ∧
      Below (w.heap.size + 1) (w.alloc (.cells #[.int .i64 k, .int .i64 t, .int .u64 n, .slice A m c, .slice A' m' c'] 30)) wr) (fun _ i _ => m' - (intOf i).toNat)
  case atStart => exact ⟨0, 1 + (m : Int), Nat.zero_le _, rfl, by go_num, by omega, fun _ => by simp [V.size.sizes], below_of_new _ _, Below.refl _ _⟩
  case round =>
    obtain ⟨q, r, hq, rfl, rfl, hr, hsum, hbw, hbx⟩ := hrel
    have HSUM := Lib.hid hsum
    have hbox : wr.cell? ⟨w.heap.size, 4, none⟩ = some (.slice A' m' c') := by rw [hbx.cell (by simp)]; exact World.cell?_alloc_new w _ _ _
    clear hsum
    by_cases hlt : q < m'
    · by_cases hrm : r ≤ most
      · have g2 : decide (r ≤ most) = true := by simp; omega
        have hlk : q < l.length := by omega
        have h' := hl.on hbw
        obtain ⟨bb, o, rfl, hbb, hl2⟩ := h'.2.2.2.2 (by omega)
        obtain ⟨B, m2, c1, B', m2', c2, e0, e1, e2, e3, e4, hrd⟩ := RdVl.at_ l hl2 q hlk
        have hsz := Lib.hid (HSL.out _ (List.getElem_mem (l := l) (n := q) hlk))
        have hlmy := Lib.hid (lims_mem HLM.out (List.getElem_mem (l := l) (n := q) hlk))
        have hsucc := Lib.hid (sizes_take_succ l q hlk)
        obtain ⟨y, hy⟩ : ∃ y, y = l[q] := ⟨_, rfl⟩
        rw [← hy] at e0 e1 e2 hrd hsz hlmy hsucc
        clear hy hl2 h'
        go_wp2_with fail
        refine (HA.out y (most - r) _ _ _ _ _ _ _ hsz.out hlmy.out hrd (by omega) (by omega)).mono ?_
        rintro e w1 ⟨r2, rfl, hr2, hsum2, hb1⟩
        have hB1 := below_seq hbw hb1
        have hB2 := hbx.trans (hb1.mono (by have := hbx.size; simpa using this))
        have hnew : r + r2 ≤ most → r + r2 = 1 + m + V.size.sizes (l.take (q + 1)) := fun hh => by
          rw [hsucc.out, hsum2 (by omega)]
          have := HSUM.out hrm
          omega
        have HNEW := Lib.hid hnew
        have hbd : 1 ≤ r + r2 ∧ r + r2 ≤ most + 140737488355330 := by omega
        clear hsum2 hnew hb1 e0 e1 e2 e3 e4 hrd hbox
        go_wp2
        go_roundw
        case rel => exact ⟨q + 1, r + r2, by omega, by go_num, rfl, hbd, HNEW.out, hB1, hB2⟩
        case measure => simp [intOf]; omega
      · have g2 : decide (r ≤ most) = false := by simp; omega
        go_wp2
        go_ret
        exact ⟨r, rfl, hr, fun hh => absurd hh (by omega), hbw⟩
    · obtain rfl : q = m' := by omega
      have e := HSUM.out
      rw [List.take_of_length_le hle.2] at e
      have E : Hid (r ≤ most → r = (x.size : Int)) := fun hh => by rw [e hh, HSX.out]; omega
      clear e
      go_wp2
      go_ret
      exact ⟨r, rfl, hr, E.out, hbw⟩
theorem count_all (N : Nat) : CountC N := by
  induction N with
  | zero => intro x most A m c A' m' c' w hs; have := x.size_pos; omega
  | succ N ih => exact count_of ih
theorem rright_all (N : Nat) : RRightC N := by
  induction N with
  | zero => intro x d D A m c A' m' c' w hs; have := x.size_pos; omega
  | succ N ih => exact rright_of ih
theorem rbytes_all (N : Nat) : RBytC N := by
  induction N with
  | zero => intro x d A m c A' m' c' w hs; have := x.size_pos; omega
  | succ N ih => exact rbytes_of ih

set_option maxHeartbeats 1000000 in
theorem RWrite_new (x : V) (A : Option Addr) (m c : Nat) (A' : Option Addr) (m' c' : Nat) (w : World) (hf : x.fit) (h : RdV w w.heap.size x A m c A' m' c') (hlen : x.enc.length ≤ 1000000) :
    Calls Try.prog 13 #[.agg #[.int .i64 x.k, .int .i64 x.t, .int .u64 x.n, .slice A m c, .slice A' m' c']] w fun e w' => ∃ B cc, e = .returned (.tuple #[.slice B (wrB x).length cc, .int .i64 (wrE x)]) ∧ New w w' B (wrB x).length cc (wrB x) := by
  have h1 := h.on (below_of_new w (.cells #[.int .i64 x.k, .int .i64 x.t, .int .u64 x.n, .slice A m c, .slice A' m' c'] 30))
  go_enter Try.func13, Try.ntmps13
  go_wp2_with fail
  refine (rright_all x.size x 0 1 _ _ _ _ _ _ _ (Nat.le_refl _) hf h1 (by omega) rfl).mono ?_
  rintro e w1 ⟨rfl, hb1⟩
  have hB1 := below_seq (below_of_new _ _) hb1
  have hx1 := h1.on hb1
  have hc0 : w1.cell? ⟨w.heap.size, 0, none⟩ = some (.int .i64 x.k) := (hb1.cell (by simp)).trans (World.cell?_alloc_new w _ _ 0)
  have hc1 : w1.cell? ⟨w.heap.size, 1, none⟩ = some (.int .i64 x.t) := (hb1.cell (by simp)).trans (World.cell?_alloc_new w _ _ 1)
  have hc2 : w1.cell? ⟨w.heap.size, 2, none⟩ = some (.int .u64 x.n) := (hb1.cell (by simp)).trans (World.cell?_alloc_new w _ _ 2)
  have hc3 : w1.cell? ⟨w.heap.size, 3, none⟩ = some (.slice A m c) := (hb1.cell (by simp)).trans (World.cell?_alloc_new w _ _ 3)
  have hc4 : w1.cell? ⟨w.heap.size, 4, none⟩ = some (.slice A' m' c') := (hb1.cell (by simp)).trans (World.cell?_alloc_new w _ _ 4)
  have HF := Lib.hid hf
  clear h h1 hb1 hf
  cases hr : x.right 0
  · have e1 : wrE x = 7 := by rw [wrE, hr]; rfl
    have e2 : wrB x = [] := by rw [wrB, e1]; rfl
    have E1 := Lib.hid e1
    have E2 := Lib.hid e2
    clear e1 e2 hr hx1
    go_wp2
    go_ret2
    exact ⟨none, 0, by rw [E1.out, E2.out]; rfl, by rw [E2.out]; exact ⟨Rd.nil _ _, hB1⟩⟩
  · have HR := Lib.hid hr
    clear hr
    go_wp2_with fail
    refine (rbytes_all x.size x 0 _ _ _ _ _ _ _ (Nat.le_refl _) HF.out HR.out hx1 hlen).mono ?_
    rintro e w2 ⟨B, cc, rfl, hnew⟩
    have hB2 := below_seq hB1 hnew.bl
    have hrd := hnew.rd
    clear hc0 hc1 hc2 hc3 hc4 hx1 hnew
    rcases Nat.lt_or_ge 4096 x.enc.length with hen | hen
    · have g1 : decide ((4096 : Int) < x.enc.length) = true := by simp; omega
      have e1 : wrE x = 20 := by rw [wrE, HR.out, if_pos rfl, if_neg (by omega)]
      have e2 : wrB x = [] := by rw [wrB, e1]; rfl
      have E1 := Lib.hid e1
      have E2 := Lib.hid e2
      clear e1 e2
      go_wp2
      go_ret2
      exact ⟨none, 0, by rw [E1.out, E2.out]; rfl, by rw [E2.out]; exact ⟨Rd.nil _ _, hB2⟩⟩
    · have g1 : decide ((4096 : Int) < x.enc.length) = false := by simp; omega
      have e1 : wrE x = 0 := by rw [wrE, HR.out, if_pos rfl, if_pos hen]
      have e2 : wrB x = x.enc := by rw [wrB, e1]; rfl
      have E1 := Lib.hid e1
      have E2 := Lib.hid e2
      clear e1 e2
      go_wp2
      go_ret2
      exact ⟨B, cc, by rw [E1.out, E2.out]; rfl, by rw [E2.out]; exact ⟨hrd, hB2⟩⟩
end Go.Proofs.Ytfinonfkpmlfeaa.Der
