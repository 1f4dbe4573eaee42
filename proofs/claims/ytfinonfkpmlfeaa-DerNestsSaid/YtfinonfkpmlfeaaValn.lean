/-
  VALUES of layer 2: the same values.
-/
import Derived.Test.YtfinonfkpmlfeaaValm
namespace Go.Proofs.Ytfinonfkpmlfeaa.Kit
open Go.RowKit
set_option linter.unusedVariables false

def V.same : V → V → Bool
  | .mk k t n b l, y => (k == y.k) && (t == y.t) && (n == y.n) && decide (b = y.b) && sames l y.l
where sames : List V → List V → Bool
  | [], [] => true
  | x :: r, y :: s => x.same y && sames r s
  | _, _ => false
mutual
theorem V.same_eq : ∀ (x y : V), x.same y = true → x = y
  | .mk k t n b l, y, h => by
    rw [V.same] at h
    simp only [Bool.and_eq_true, beq_iff_eq, decide_eq_true_eq] at h
    obtain ⟨⟨⟨⟨h1, h2⟩, h3⟩, h4⟩, h5⟩ := h
    have h6 := V.sames_eq l y.l h5
    rw [V.eta y, h1, h2, h3, h4, h6]
theorem V.sames_eq : ∀ (l m : List V), V.same.sames l m = true → l = m
  | [], [], _ => rfl
  | [], _ :: _, h => by simp [V.same.sames] at h
  | _ :: _, [], h => by simp [V.same.sames] at h
  | x :: r, y :: s, h => by
    rw [V.same.sames, Bool.and_eq_true] at h
    rw [V.same_eq x y h.1, V.sames_eq r s h.2]
end
mutual
theorem V.same_self : ∀ (x : V), x.same x = true
  | .mk k t n b l => by
    rw [V.same]
    simp only [V.k, V.t, V.n, V.b, V.l, beq_self_eq_true, decide_true, Bool.and_self, Bool.true_and]
    exact V.sames_self l
theorem V.sames_self : ∀ (l : List V), V.same.sames l l = true
  | [] => rfl
  | x :: r => by rw [V.same.sames, V.same_self x, V.sames_self r]; rfl
end
theorem V.same_iff (x y : V) : x.same y = true ↔ x = y := ⟨V.same_eq x y, fun h => h ▸ V.same_self x⟩
theorem sames_len {l m : List V} (h : l.length ≠ m.length) : V.same.sames l m = false := by
  rw [← Bool.not_eq_true]
  intro e
  exact h (by rw [V.sames_eq l m e])
theorem sames_take_succ (l m : List V) (q : Nat) (h : q < l.length) (h2 : q < m.length) : V.same.sames (l.take (q + 1)) (m.take (q + 1)) = (V.same.sames (l.take q) (m.take q) && l[q].same m[q]) := by
  induction l generalizing m q with
  | nil => simp at h
  | cons x r ih =>
    match m, h2 with
    | y :: s, h2 =>
      rcases q with _ | q
      · simp [V.same.sames]
      · simp only [List.take_succ_cons, V.same.sames, List.getElem_cons_succ]
        rw [ih s q (by simpa using h) (by simpa using h2), Bool.and_assoc]
theorem sames_false {l m : List V} {q : Nat} (h : q < l.length) (h2 : q < m.length) (hr : l[q].same m[q] = false) : V.same.sames l m = false := by
  rw [← Bool.not_eq_true]
  intro e
  have := V.sames_eq l m e
  subst this
  rw [V.same_self] at hr
  cases hr
theorem same_shape (x y : V) : x.same y = (!(x.k != y.k) && !(x.t != y.t) && !((x.n : Int) != y.n) && decide (x.b = y.b) && !((x.l.length : Int) != y.l.length) && V.same.sames x.l y.l) := by
  have e : ∀ a b : Nat, ((a : Int) != b) = (a != b) := fun a b => by rw [Bool.eq_iff_iff]; simp; omega
  rw [e, e]
  cases x with
  | mk k t n b l =>
    cases y with
    | mk k2 t2 n2 b2 l2 =>
      rw [V.same]
      simp only [V.k, V.t, V.n, V.b, V.l]
      by_cases hl : l.length = l2.length
      · have : (l.length != l2.length) = false := by simp [hl]
        rw [this]
        cases h1 : (k == k2) <;> cases h2 : (t == t2) <;> cases h3 : (n == n2) <;> simp [bne, h1, h2, h3] <;> congr
      · rw [sames_len hl]; simp
theorem same_shape2 (x y : V) : x.same y = (!(x.k != y.k) && !(x.t != y.t) && !((x.n : Int) != y.n) && !((x.l.length : Int) != y.l.length) && decide (x.b = y.b) && V.same.sames x.l y.l) := by
  rw [same_shape]
  cases ((x.l.length : Int) != y.l.length) <;> cases decide (x.b = y.b) <;> simp
end Go.Proofs.Ytfinonfkpmlfeaa.Kit
