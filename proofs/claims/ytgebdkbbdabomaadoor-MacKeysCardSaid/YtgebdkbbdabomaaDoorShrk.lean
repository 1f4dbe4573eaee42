/-
  APPEND onto an own row leaves the old row's cells, whether there was room or not. Any program. And a call of the document's Turn, by a constant.
-/
import Derived.Test.YtgebdkbbdabomaaDoorShru
namespace Go.Proofs.YtgebdkbbdabomaaDoor.Sha
open Go.RowKit
open Go.Proofs.YtgebdkbbdabomaaDoor.Kit
set_option linter.unusedVariables false

section
variable {P : Program} {w : World}
/-- what an append leaves in the old row: its cells, in either way -/
theorem run_app_keep (base : Nat) (t ty e : TypeId) (i : TypeInfo) (z : Value) (bytes : Nat) (ht : P.underlying t = some (.slice e)) (hi : P.info? e = some i) (hz : i.zero = some z)
    (hsize : i.size = 1) (hby : i.bytes = bytes) (hzs : z.cells.size = 1)
    (g cap n : Nat) (xs : List Value) (hown : w.ownsRow base e 1 (.slice (some ⟨g, 0, none⟩) n cap) n xs)
    (B : Nat) (A : Option Addr) (m c : Nat) (news : List Value) (hr : Rd w B A m c news) (h1 : ∀ u ∈ news, u.oneCell' = true) (hm : 0 < m)
    (h63 : n + m ≤ 140737488355328) (hbytes : (n + m) * bytes ≤ 140737488355328) (hbase : base ≤ w.heap.size) :
    ∃ v' w', (Builtin.append_ #[t, t] ty #[.slice (some ⟨g, 0, none⟩) n cap, .slice A m c]).run P w = .ok v' w' ∧ w'.ownsRow base e 1 v' (n + m) (xs ++ news) ∧ w.grownBy w' (some g) ∧
      ∀ j u, xs[j]? = some u → w'.cell? ⟨g, j, none⟩ = some u := by
  obtain ⟨v', w', hrun, hown', hg, hat⟩ := run_app (P := P) w base t ty e i z bytes ht hi hz hsize hby hzs _ n xs hown B A m c news hr h1 h63 hbytes hbase
  refine ⟨v', w', hrun, hown', hg, fun j u hu => ?_⟩
  have hlen : xs.length = n := by have := hown.1; simpa using this
  have hj : j < xs.length := (List.getElem?_eq_some_iff.1 hu).1
  have hu' : (xs ++ news)[j]? = some u := by rw [List.getElem?_append_left hj]; exact hu
  have hcell := (own_cells hown).1 j u hu
  obtain ⟨b, o, rfl, hbB, hnc⟩ := hr.2.2.2 hm
  have hnews : ∀ j u, news[j]? = some u → w.cell? ((⟨b, o, none⟩ : Addr).add j) = some u := fun j u h => by rw [add_off]; exact hnc j u h
  have hnl : news.length = m * i.size := by rw [hr.1, hsize]; omega
  by_cases hroom : n + m ≤ cap
  · rcases hat with h | h
    · have := hown'.cells (g := g) h j u hu'
      rw [add_off, Nat.zero_add] at this
      exact this
    · exfalso
      rcases hown.2 with ⟨h0, _⟩ | ⟨g', cap', cur, h0, hbg, hgg, hnc', hcm, hcs, htake⟩
      · cases h0
      · injection h0 with h0 _ h0c
        injection h0 with h0
        injection h0 with h0
        subst h0 h0c
        have hr2 := run_append_room (P := P) w t ty e i ht hi g n cap cur hgg ⟨b, o, none⟩ m c news hnl hnews h1 hroom (by rw [hnl, hsize]; omega)
        rw [hrun] at hr2
        injection hr2 with hv _
        rw [hv] at h
        simp only [Value.ownBlock, Option.some.injEq] at h
        have := (hown.lt g rfl).2
        omega
  · have hr2 := run_append_grow (P := P) w t ty e i z ht hi hz ⟨g, 0, none⟩ n cap xs (by rw [hlen, hsize]; omega) (fun j u h => by rw [add_off, Nat.zero_add]; exact (own_cells hown).1 j u h) ⟨b, o, none⟩ m c news hnl hnews (by omega) (by omega) (growslice_fits (by omega) (by rw [hby]; exact hbytes))
    rw [hrun] at hr2
    injection hr2 with _ hw
    rw [hw]
    exact (World.cell?_alloc_lt w.drew _ ⟨g, j, none⟩ (World.block_lt_of_cell? w _ hcell)).trans hcell
theorem wp_app_keep {o : Oper} {a : Act} {K : Act → World → Prop} {Q : Exit → Act → World → Prop} (s x : Operand) (t : TypeId)
    (ho : o.op = .call { callee := .builtin .append, args := #[s, x], argTypes := #[t, t] })
    (base : Nat) (e : TypeId) (i : TypeInfo) (z : Value) (bytes : Nat) (ht : P.underlying t = some (.slice e)) (hi : P.info? e = some i) (hz : i.zero = some z)
    (hsize : i.size = 1) (hby : i.bytes = bytes) (hzs : z.cells.size = 1)
    (g cap n : Nat) (xs : List Value) (hs : a.eval s = .slice (some ⟨g, 0, none⟩) n cap) (hown : w.ownsRow base e 1 (.slice (some ⟨g, 0, none⟩) n cap) n xs)
    (B : Nat) (A : Option Addr) (m c : Nat) (news : List Value) (hx : a.eval x = .slice A m c) (hr : Rd w B A m c news) (h1 : ∀ u ∈ news, u.oneCell' = true) (hm : 0 < m)
    (h63 : n + m ≤ 140737488355328) (hbytes : (n + m) * bytes ≤ 140737488355328) (hbase : base ≤ w.heap.size)
    (h : ∀ v' w', w'.ownsRow base e 1 v' (n + m) (xs ++ news) → w.grownBy w' (some g) → (∀ j u, xs[j]? = some u → w'.cell? ⟨g, j, none⟩ = some u) → K (a.put o.dst v') w') : o.wp P a w K Q := by
  obtain ⟨v', w', hrun, h2, h3, h4⟩ := run_app_keep (P := P) (w := w) base t o.type e i z bytes ht hi hz hsize hby hzs g cap n xs hown B A m c news hr h1 hm h63 hbytes hbase
  unfold Oper.wp execOp
  simp only [ho, resolve, invoke, builtin, Sem.run_bind, Sem.run_pure, Result.andThen_ok, List.map_toArray, List.map_cons, List.map_nil, hs, hx, hrun]
  exact h v' w' h2 h3 h4
end
theorem turn_lit (x n : UInt32) (k : Nat) (c : Int) (hc : c = (k : Int)) (hk : n.toNat = k) (h0 : 0 < k) (h32 : k < 32) (w : World) :
    Calls Tryd.prog 61 #[.int .u32 (wi x), .int .u64 c] w fun e w' => e = .returned (.int .u32 (wi (rotr x n))) ∧ w = w' := by
  rw [hc]; exact turn_any x n k hk h0 h32 w
end Go.Proofs.YtgebdkbbdabomaaDoor.Sha
