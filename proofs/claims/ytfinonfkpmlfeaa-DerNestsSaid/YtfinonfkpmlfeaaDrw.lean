/-
  DerReads: what is needed of both ways of reading; the walk.
-/
import Derived.Test.YtfinonfkpmlfeaaDal
import Derived.Test.YtfinonfkpmlfeaaDerz
import Derived.Test.YtfinonfkpmlfeaaSame
import Derived.Deep.RegionHeld3
namespace Go.Proofs.Ytfinonfkpmlfeaa.Der
open Go.RowKit
open Go.Proofs.Ytfinonfkpmlfeaa.Kit
open Go.Proofs.Ytfinonfkpmlfeaa.Oct
set_option linter.unusedVariables false
attribute [local go_sem ↓] Go.wp_at_zero Go.wp_at_succ

theorem plain_all (N : Nat) : PlainC N := by
  induction N with
  | zero => intro x T A m c A' m' c' w hs; have := x.size_pos; omega
  | succ N ih => exact plain_of ih
theorem RSame_new (x y : V) (A : Option Addr) (m c : Nat) (A' : Option Addr) (m' c' : Nat) (D : Option Addr) (p e : Nat) (D' : Option Addr) (p' e' : Nat) (w : World) (hx : RdV w w.heap.size x A m c A' m' c') (hy : RdV w w.heap.size y D p e D' p' e') :
    Calls Try.prog 19 #[.agg #[.int .i64 x.k, .int .i64 x.t, .int .u64 x.n, .slice A m c, .slice A' m' c'], .agg #[.int .i64 y.k, .int .i64 y.t, .int .u64 y.n, .slice D p e, .slice D' p' e']] w fun r w' => r = .returned (.bool (x.same y)) ∧ Below w.heap.size w w' :=
  rsamev_all x.size x y A m c A' m' c' D p e D' p' e' w (Nat.le_refl _) hx hy
theorem Plain_new (x : V) (A : Option Addr) (m c : Nat) (A' : Option Addr) (m' c' : Nat) (w : World) (hx : RdV w w.heap.size x A m c A' m' c') :
    Calls Try.prog 10 #[.agg #[.int .i64 x.k, .int .i64 x.t, .int .u64 x.n, .slice A m c, .slice A' m' c']] w fun e w' => ∃ A2 m2 c2, e = .returned (.agg #[.int .i64 x.k, .int .i64 x.t, .int .u64 x.n, .slice A m c, .slice A2 m2 c2]) ∧ RdV w' w'.heap.size x A m c A2 m2 c2 ∧ Below w.heap.size w w' :=
  (plain_all x.size x (fun b => b < w.heap.size) A m c A' m' c' w (Nat.le_refl _) hx (fun b hb => hb)).mono (by
    rintro e w' ⟨A6, m6, c6, he, hrd, hb⟩
    exact ⟨A6, m6, c6, he, RdVS.keep (fun _ _ => rfl) (fun b hbb => by
      rcases hbb with h | h
      · exact Nat.lt_of_lt_of_le h hb.size
      · exact h.2) _ hrd, hb⟩)
def z0 : V := .mk 0 0 0 [] []
/-- what is read: the value, the error's number -/
def gotV (b : List UInt8) : V := match rdW b with
  | .err _ => z0
  | .ok x _ => x
def gotE (b : List UInt8) : Nat := match rdW b with
  | .err e => e
  | .ok _ _ => 0
def GotP (bs : List UInt8) (w : World) (e : Ending) (w' : World) : Prop :=
  ∃ A m c A' m' c', e = .returned (.tuple #[.agg #[.int .i64 (gotV bs).k, .int .i64 (gotV bs).t, .int .u64 (gotV bs).n, .slice A m c, .slice A' m' c'], .int .i64 (gotE bs)]) ∧ RdVS w' (fun b => w.heap.size ≤ b ∧ b < w'.heap.size) (gotV bs) A m c A' m' c' ∧ Below w.heap.size w w'
theorem GotP.of {bs : List UInt8} {w w' : World} {e : Ending} (h : RwPost bs w e w') : GotP bs w e w' := by
  obtain ⟨hb, h⟩ := h
  unfold GotP gotV gotE
  cases hr : rdW bs with
  | err x =>
    rw [hr] at h
    exact ⟨none, 0, 0, none, 0, 0, h.2, RdVS.join (RdS.nil _ _) (RdVsS.nil _ _), hb⟩
  | ok x k =>
    rw [hr] at h
    obtain ⟨A, m, c, A', m', c', he, hrd⟩ := h
    exact ⟨A, m, c, A', m', c', he, hrd, hb⟩
theorem Read_got (A : Option Addr) (n c : Nat) (bs : List UInt8) (w : World) (h : RdB w w.heap.size A n c bs) :
    Calls Try.prog 17 #[.slice A n c] w (GotP bs w) := (Read_any A n c bs w h).mono fun _ _ => GotP.of
theorem Whole_got (A : Option Addr) (n c : Nat) (bs : List UInt8) (w : World) (h : RdB w w.heap.size A n c bs) :
    Calls Try.prog 20 #[.slice A n c] w (GotP bs w) := (Whole_any A n c bs w h).mono fun _ _ => GotP.of
theorem rdW_ok {bs : List UInt8} {x : V} {k : Nat} (h : rdW bs = .ok x k) : x.right 0 = true ∧ x.fit ∧ bs = x.enc ∧ bs.length ≤ 4096 := by
  rw [rdW] at h
  by_cases h1 : 4096 < bs.length
  · rw [if_pos h1] at h; cases h
  · rw [if_neg h1] at h
    cases hr : rd 8 bs with
    | err e => rw [hr] at h; cases h
    | ok y n =>
      rw [hr] at h
      simp only [] at h
      by_cases h2 : n < bs.length
      · rw [if_pos h2] at h; cases h
      · rw [if_neg h2] at h
        injection h with e1 e2
        subst e1
        obtain ⟨g1, g2, g3, r, g4⟩ := rd_ok 8 (Nat.le_refl _) bs y n hr
        refine ⟨g1, g2, ?_, by omega⟩
        have hl := congrArg List.length g4
        rw [List.length_append] at hl
        have : r = [] := List.eq_nil_of_length_eq_zero (by omega)
        rw [g4, this, List.append_nil]
theorem got_fit (bs : List UInt8) : (gotV bs).fit := by
  unfold gotV
  cases hr : rdW bs with
  | err e => exact ⟨by constructor <;> omega, by constructor <;> omega, by omega, trivial⟩
  | ok x k => exact (rdW_ok hr).2.1
theorem got_wr {bs : List UInt8} (h : gotE bs = 0) (hn : ∀ e, rdW bs = .err e → 0 < e) : wrE (gotV bs) = 0 ∧ wrB (gotV bs) = bs := by
  unfold gotE at h
  unfold gotV
  cases hr : rdW bs with
  | err e => rw [hr] at h; have := hn e hr; simp only [] at h; omega
  | ok x k =>
    obtain ⟨g1, g2, g3, g4⟩ := rdW_ok hr
    have e1 : wrE x = 0 := by rw [wrE, g1, if_pos rfl, if_pos (by rw [← g3]; exact g4)]
    exact ⟨e1, by simp only []; rw [wrB, e1, if_pos rfl, g3]⟩
theorem rdLen_pos {b : List UInt8} {e : Nat} (h : rdLen b = .err e) : 0 < e := rdLen_err h
theorem rdW_err {bs : List UInt8} {e : Nat} (h : rdW bs = .err e) (hp : ∀ e, rd 8 bs = .err e → 0 < e) : 0 < e := by
  rw [rdW] at h
  by_cases h1 : 4096 < bs.length
  · rw [if_pos h1] at h; injection h with h; omega
  · rw [if_neg h1] at h
    cases hr : rd 8 bs with
    | err e => rw [hr] at h; injection h with h; have := hp _ hr; omega
    | ok y n =>
      rw [hr] at h
      simp only [] at h
      by_cases h2 : n < bs.length
      · rw [if_pos h2] at h; injection h with h; omega
      · rw [if_neg h2] at h; cases h
theorem rd_err : ∀ (d : Nat) (b : List UInt8) (e : Nat), rd d b = .err e → 0 < e
  | 0, b, e, h => by rw [rd] at h; injection h with h; omega
  | d + 1, b, e, h => by
    rw [rd] at h
    cases hL : rdLen b with
    | err x => rw [hL] at h; injection h with h; have := rdLen_err hL; omega
    | ok a m =>
      rw [hL] at h
      simp only [] at h
      have hall : ∀ (g : Nat) (c : List UInt8) (e : Nat), rdAll (rd d) g c = .err e → 0 < e := by
        intro g
        induction g with
        | zero => intro c e h; rw [rdAll] at h; cases h
        | succ g ih =>
          intro c e h
          rw [rdAll] at h
          by_cases hc : c = []
          · rw [if_pos hc] at h; cases h
          · rw [if_neg hc] at h
            cases hf : rd d c with
            | err x => rw [hf] at h; injection h with h; have := rd_err d c x hf; omega
            | ok x n =>
              rw [hf] at h
              simp only [] at h
              cases hq : rdAll (rd d) g (c.drop n) with
              | err y => rw [hq] at h; injection h with h; have := ih _ _ hq; omega
              | ok l => rw [hq] at h; cases h
      by_cases h1 : b.length - a < m
      · rw [if_pos h1] at h; injection h with h; omega
      · rw [if_neg h1] at h
        by_cases h2 : (b.headD 0).toNat / 64 > 2 ∨ (b.headD 0).toNat % 64 > 30
        · rw [if_pos h2] at h; injection h with h; omega
        · rw [if_neg h2] at h
          by_cases h3 : (b.headD 0).toNat / 64 = 0
          · rw [if_pos h3] at h
            split at h
            · cases h
            · injection h with h; omega
          · rw [if_neg h3] at h
            by_cases h4 : (b.headD 0).toNat / 64 = 1
            · rw [if_pos h4] at h; cases h
            · rw [if_neg h4] at h
              cases hq : rdAll (rd d) ((b.drop a).take m).length ((b.drop a).take m) with
              | err y => rw [hq] at h; injection h with h; have := hall _ _ _ hq; omega
              | ok l => rw [hq] at h; cases h
theorem got_wr' {bs : List UInt8} (h : gotE bs = 0) : wrE (gotV bs) = 0 ∧ wrB (gotV bs) = bs := got_wr h fun e he => rdW_err he fun e he => rd_err 8 bs e he
end Go.Proofs.Ytfinonfkpmlfeaa.Der
