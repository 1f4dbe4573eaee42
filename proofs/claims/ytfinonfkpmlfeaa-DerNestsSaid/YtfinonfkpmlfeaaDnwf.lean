/-
  DerNests holds: the bytes of a list end with those of its values, one behind the other; read again each value is what it was; another tag turns the first byte alone. No condition.
-/
import Derived.Test.YtfinonfkpmlfeaaRows
import Derived.Test.YtfinonfkpmlfeaaDnw
import Derived.Test.YtfinonfkpmlfeaaFin
import Derived.Test.YtfinonfkpmlfeaaDopen
import Derived.SizedLaws
namespace Go.Proofs.Ytfinonfkpmlfeaa.Dnwf
open Go.ChangeShapes Go.WideShapes Go.ChangeAt Go.RowKit
open Go.Proofs.Ytfinonfkpmlfeaa Go.Proofs.Ytfinonfkpmlfeaa.Kit
open Go.Proofs.Ytfinonfkpmlfeaa.Oct
set_option linter.unusedVariables false

theorem walk (x : V) (A : Option Addr) (m c : Nat) (A' : Option Addr) (m' c' : Nat) (y : V) (D : Option Addr) (p q : Nat) (D' : Option Addr) (p' q' : Nat) (tag : Int) (w : World)
    (hfx : x.fit) (hlx : Der.lim x) (hx : RdV w w.heap.size x A m c A' m' c') (hfy : y.fit) (hly : Der.lim y) (hy : RdV w w.heap.size y D p q D' p' q') (htag : -9223372036854775808 ≤ tag ∧ tag ≤ 9223372036854775807) :
    Calls Try.prog 6 #[.agg #[.int .i64 x.k, .int .i64 x.t, .int .u64 x.n, .slice A m c, .slice A' m' c'], .agg #[.int .i64 y.k, .int .i64 y.t, .int .u64 y.n, .slice D p q, .slice D' p' q'], .int .i64 tag] w fun e w' => e = .returned (.bool true) ∧ Below w.heap.size w w' :=
  Der.nests_walk x A m c A' m' c' y D p q D' p' q' tag w hfx hlx hx hfy hly hy htag

theorem own : ownKnob Try.prog.godebug = none := by kernel_rfl
theorem laidOut : laidOutB Try.prog = true := by kernel_rfl

set_option maxRecDepth 100000 in
theorem lifted (os : Os) (started : os.Started) (H : Type) (enc : TypeId × Value → H) :
    ReturnsInHanded {} Try.checked os 6 .any (Rows.derNestsSpec.pre6 enc Try.prog Try.f6 Rows.derNestsRow.domain false) (Rows.derNestsSpec.post enc Try.prog Try.f6 false true false false) := by
  refine returnsInHanded_of_change_sized (C := Try.checked) own started (by kernel_rfl) Try.func6
    (ChangeSpec.witness6 (enc := enc) (C := Try.checked) false ⟨#[], #[.agg #[.int .i64 0, .int .i64 0, .int .u64 0, .slice none 0 0, .slice none 0 0], .agg #[.int .i64 0, .int .i64 0, .int .u64 0, .slice none 0 0, .slice none 0 0], .int .i64 0], []⟩ 8 (by kernel_rfl) (by kernel_rfl) (by kernel_rfl) (by kernel_rfl)) ?_
  intro W base args ds gs before hval0 hW hcnd hsz _
  have hval : ∀ (j : Nat) t v, Try.f6.params[j]? = some t → args[j]? = some v → Value.okWide Try.prog W .any base t v := hval0
  have hW' := hW
  obtain ⟨p, q, hA0, hV, rfl, hfz, hnd⟩ := hW
  have hA : DataW.TrodAll enc Try.prog W 0 (fun _ => true) true Try.f6.params.toList args.toList ds p := hA0
  rw [Try.params6] at hA hval
  obtain ⟨v0, vs0, d0, ds0, p0, q0, hargs, rfl, rfl, h0, r0⟩ := trodAll_cons hA
  obtain ⟨v1, vs1, d1, ds1, p1, q1, rfl, rfl, rfl, h1, r1⟩ := trodAll_cons r0
  obtain ⟨v2, vs2, d2, ds2, p2, q2, rfl, rfl, rfl, h2, r2⟩ := trodAll_cons r1
  obtain ⟨rfl, rfl, rfl⟩ := trodAll_nil r2
  obtain rfl : args = #[v0, v1, v2] := by cases args; simp_all
  obtain ⟨rfl, rfl⟩ := trodVars_none hV
  have lt0 : ∀ x ∈ p0, x.block < W.heap.size := by obtain ⟨m, hm⟩ := h0; exact DataW.trod_lt m _ _ _ hm
  obtain ⟨y0, A0, m0, c0, A0', m0', c0', rfl, hf0, hl0, hr0⟩ := Der.open_arg (hval 0 26 v0 rfl rfl) h0 (fun n hn => by have := List.all_eq_true.1 hsz n (DataW.weights_mem_each (j := 0) rfl rfl n hn); simpa using this)
  have lt1 : ∀ x ∈ p1, x.block < W.heap.size := by obtain ⟨m, hm⟩ := h1; exact DataW.trod_lt m _ _ _ hm
  obtain ⟨y1, A1, m1, c1, A1', m1', c1', rfl, hf1, hl1, hr1⟩ := Der.open_arg (hval 1 26 v1 rfl rfl) h1 (fun n hn => by have := List.all_eq_true.1 hsz n (DataW.weights_mem_each (j := 1) rfl rfl n hn); simpa using this)
  obtain ⟨a2, rfl, rfl, rfl, w2⟩ := open_int Try.underlying3 (hval 2 3 v2 rfl rfl) h2
  have hn2 := int_i64 w2
  clear hA0 hval0 hsz
  refine (walk y0 A0 m0 c0 A0' m0' c0' y1 A1 m1 c1 A1' m1' c1' a2 W hf0 hl0 hr0 hf1 hl1 hr1 hn2).mono fun e W' ⟨he, bel⟩ => ?_
  subst he
  exact ⟨_, rfl, _, _, _, [], _, [], hW', trodAll_mk1 (shut_bool Try.underlying4 _), (trodAll_cons_mk (Below.trod laidOut (by kernel_rfl) (of_decide_eq_true (by kernel_rfl)) h0 bel lt0) (trodAll_cons_mk (Below.trod laidOut (by kernel_rfl) (of_decide_eq_true (by kernel_rfl)) h1 bel lt1) (trodAll_cons_mk (shut_int Try.underlying3 w2) trodAll_mk0))), rfl, bel.frame _, fun h => by cases h⟩

theorem over : Rows.derNestsRow.holds Try.pinned (OpenSpec.ofChange Rows.derNestsSpec) :=
  OpenClaim.holds_of_wide 6 Try.f6 rfl rfl rfl rfl rfl rfl rfl ⟨rfl, rfl, rfl, rfl, rfl⟩ rfl rfl rfl rfl rfl (by kernel_rfl) Try.func6 (by kernel_rfl)
    (of_decide_eq_true (by kernel_rfl)) (by unfold Func.isWrapper; first | (rw [if_pos (by decide +kernel)]; kernel_rfl) | (rw [if_neg (by decide +kernel)]; exact ⟨rfl, rfl⟩))
    (fun os started H enc _ => lifted os started H enc)

theorem proved : Rows.DerNestsSaid := over
end Go.Proofs.Ytfinonfkpmlfeaa.Dnwf
