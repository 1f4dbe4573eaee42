/-
  s[k:] and s[j:k] of a slice, as one equation each, whatever the capacity. Any program.
-/
import Derived.Test.YtlngbpipmaaedaaKit2
import Derived.Laws.Slices
import Derived.Laws.CopyOwn
namespace Go.Proofs.Ytlngbpipmaaedaa.Kit
open Go.RowKit
set_option linter.unusedVariables false

section
variable {P : Program} {t : TypeId} (ht : P.underlying t = some (.slice (P.elem t))) (hs : ∀ w, (sizeOf (P.elem t)).run P w = .ok 1 w)
include ht hs
theorem run_cut (A : Option Addr) (n c k : Nat) (hk : k ≤ n) (hnc : n ≤ c) (w : World) : (Instr.slice t (.slice A n c) (some (.int .i64 (k : Int))) none none).run P w = .ok (.slice (if c = k then A else A.map (·.add k)) (n - k) (c - k)) w := by
  rw [run_slice_l w t A n c ht .i64 (k : Int) (by omega) (by omega), hs]
  simp [sliced]
theorem run_cut2 (A : Option Addr) (n c j k : Nat) (hjk : j ≤ k) (hkc : k ≤ c) (hk : IntKind.i64.wrap (k : Int) = k) (w : World) (e : Int) (he : e = (k : Int)) : (Instr.slice t (.slice A n c) (some (.int .i64 (j : Int))) (some (.int .i64 e)) none).run P w = .ok (.slice (if c = j then A else A.map (·.add j)) (k - j) (c - j)) w := by
  subst he
  rw [run_slice_lh w t A n c ht .i64 .i64 (j : Int) (k : Int) (by omega) (by omega) (by omega), hs]
  simp [sliced]
end
theorem gb_setRow {w : World} {g : Nat} (cs : Array Value) : w.grownBy (w.setRow g cs) (some g) :=
  ⟨rfl, rfl, rfl, by simp [World.setRow], fun i _ hne => setRow_other w g i cs (fun e => hne (by rw [e]))⟩
/-- a copy into a known row: nothing but that row turns -/
theorem wpList_copy_gb {P : Program} {w : World} {ops : Array Oper} {rest : List Oper} {o : Oper} {a : Act} {Q : Exit → Act → World → Prop} (hgd : o.guard = none) (d s : Operand) (dT sT : TypeId)
    (ho : o.op = .call { callee := .builtin .copy, args := #[d, s], argTypes := #[dT, sT] }) (elem : TypeId) (hu : P.underlying dT = some (.slice elem)) (hsz : (P.info? elem).map (·.size) = some 1)
    (g off dLen dCap : Nat) (ad : Addr) (sLen sCap : Nat) (hd : a.eval d = .slice (some ⟨g, off, none⟩) dLen dCap) (hs : a.eval s = .slice (some ad) sLen sCap)
    (cur : List Value) (t : TypeId) (hg : w.heap[g]? = some (.cells cur.toArray t (0, 0))) (cs : List Value) (hn : cs.length = Nat.min sLen dLen)
    (hsrc : ∀ j v, cs[j]? = some v → w.cell? (ad.add j) = some v) (hfit : off + cs.length ≤ cur.length) (h1 : ∀ v ∈ cs, v.oneCell' = true)
    (h : ∀ w', w'.heap[g]? = some (.cells (splice cur off cs).toArray t (0, 0)) → w.grownBy w' (some g) → wpList P ops Q rest (a.put o.dst (goInt cs.length)) w') : wpList P ops Q (o :: rest) a w := by
  refine wpList_copy_own hgd d s dT sT ho elem hu hsz g off dLen dCap ad sLen sCap hd hs cur.toArray t hg cs hn hsrc (by simpa using hfit) h1 ?_
  exact h _ (setRow_heap w g _ _ t _ hg) (gb_setRow _)
end Go.Proofs.Ytlngbpipmaaedaa.Kit
