/-
  der's all: what its loop keeps, plainly.
-/
import Derived.Test.YtfinonfkpmlfeaaDerh
import Derived.Test.YtfinonfkpmlfeaaPlain
namespace Go.Proofs.Ytfinonfkpmlfeaa.Der
open Go.RowKit
open Go.Proofs.Ytfinonfkpmlfeaa.Kit
open Go.Proofs.Ytfinonfkpmlfeaa.Oct
set_option linter.unusedVariables false

def pre (l : List V) : Rl → Rl
  | .err e => .err e
  | .ok r => .ok (l ++ r)
theorem pre_nil (r : Rl) : pre [] r = r := by cases r <;> rfl
theorem pre_pre (a b : List V) (r : Rl) : pre a (pre b r) = pre (a ++ b) r := by cases r <;> simp [pre]
theorem rdAll_none (f : List UInt8 → Rs) (g : Nat) : rdAll f g [] = .ok [] := by cases g <;> simp [rdAll]
theorem rdAll_more (f : List UInt8 → Rs) (g : Nat) (b : List UInt8) (hb : b ≠ []) : rdAll f (g + 1) b = match f b with
    | .err e => .err e
    | .ok x n => pre [x] (rdAll f g (b.drop n)) := by
  rw [rdAll, if_neg hb]
  cases f b with
  | err e => rfl
  | ok x n =>
    simp only []
    cases rdAll f g (b.drop n) <;> rfl
/-- what the loop keeps: the values so far stand in front of what is still to be read -/
def AllRel (d : Nat) (bs : List UInt8) (l : List V) (rest : List UInt8) : Prop :=
  ∃ g, rdAll (rd d) bs.length bs = pre l (rdAll (rd d) g rest) ∧ rest.length ≤ g ∧ l.length * 2 + rest.length ≤ bs.length
theorem AllRel.start (d : Nat) (bs : List UInt8) : AllRel d bs [] bs := ⟨bs.length, by rw [pre_nil], Nat.le_refl _, by simp⟩
theorem AllRel.done {d : Nat} {bs : List UInt8} {l : List V} (h : AllRel d bs l []) : rdAll (rd d) bs.length bs = .ok l := by
  obtain ⟨g, h1, _, _⟩ := h
  rw [h1, rdAll_none, pre, List.append_nil]
theorem AllRel.err {d e : Nat} {bs rest : List UInt8} {l : List V} (h : AllRel d bs l rest) (hr : rest ≠ []) (he : rd d rest = .err e) : rdAll (rd d) bs.length bs = .err e := by
  obtain ⟨g, h1, h2, _⟩ := h
  have hp : 0 < rest.length := List.length_pos_iff.2 hr
  obtain ⟨g', rfl⟩ : ∃ g', g = g' + 1 := ⟨g - 1, by omega⟩
  rw [h1, rdAll_more _ _ _ hr, he]; rfl
theorem rd_two {d n : Nat} {b : List UInt8} {x : V} (hd : d ≤ 8) (h : rd d b = .ok x n) : 2 ≤ n ∧ n ≤ b.length := by
  obtain ⟨_, _, h3, r, hr⟩ := rd_ok d hd b x n h
  have := x.enc_two
  refine ⟨by omega, ?_⟩
  rw [hr, List.length_append]; omega
theorem AllRel.step {d n : Nat} {bs rest : List UInt8} {l : List V} {x : V} (hd : d ≤ 8) (h : AllRel d bs l rest) (hr : rest ≠ []) (hx : rd d rest = .ok x n) : AllRel d bs (l ++ [x]) (rest.drop n) := by
  obtain ⟨g, h1, h2, h3⟩ := h
  have hp : 0 < rest.length := List.length_pos_iff.2 hr
  obtain ⟨g', rfl⟩ : ∃ g', g = g' + 1 := ⟨g - 1, by omega⟩
  have hn := rd_two hd hx
  refine ⟨g', ?_, by rw [List.length_drop]; omega, by rw [List.length_drop, List.length_append]; simp; omega⟩
  rw [h1, rdAll_more _ _ _ hr, hx]
  simp only []
  rw [pre_pre]
/-- the row of values, one more at its end -/
theorem rows_more {wr w3 : World} {S S' : Nat → Prop} {l : List V} {xs : List Value} {y : V} {C : Option Addr} {m2 c3 : Nat} {A2 : Option Addr} {m3 c4 : Nat}
    (h : Rows5 wr S l xs) (hk : ∀ p : Addr, S p.block → w3.cell? p = wr.cell? p) (hS : ∀ b, S b → S' b) (hrd : RdVS w3 S' y C m2 c3 A2 m3 c4) :
    Rows5 w3 S' (l ++ [y]) (xs ++ [.int .i64 y.k, .int .i64 y.t, .int .u64 y.n, .slice C m2 c3, .slice A2 m3 c4]) := by
  have h1 : (l ++ [y]).take l.length = l := by simp
  have h2 : (l ++ [y]).take (l.length + 1) = l ++ [y] := by rw [List.take_of_length_le (by simp)]
  have := rows_step (l := l ++ [y]) (q := l.length) (y := y) (by rw [h1]; exact h) (by simp) (by simp) hk hS hrd
  rw [h2] at this
  exact this
end Go.Proofs.Ytfinonfkpmlfeaa.Der
