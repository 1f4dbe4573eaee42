/-
  base, plainly: somebody more.
-/
import Derived.Test.YtlngbpipmaaedaaBax
namespace Go.Proofs.Ytlngbpipmaaedaa.Ba
open Go.RowKit
open Go.Proofs.Ytlngbpipmaaedaa.Kit
set_option linter.unusedVariables false

theorem below_cell {w0 w : World} {p : Addr} {v : Value} (h : Below w0.heap.size w0 w) (hp : w0.heap.size ≤ p.block) : Below w0.heap.size w0 (w.setCell p v) :=
  ⟨h.os, h.tape, h.output, by rw [World.size_setCell]; exact h.size, fun b hb => by rw [heap_setCell_other _ _ _ _ (by omega)]; exact h.block b hb⟩
/-- the row took somebody, and the base took the row -/
theorem Bs.snoc {w0 w w5 : World} {bb c gg cap : Nat} {A : Option Addr} {L : List Us} {R : Nat → Prop} {u : Us} {o : Obj} (h : BsAt w bb w0.heap.size A c L) (hR : ∀ b, R b → b ≠ bb ∧ ob A ≠ some b ∧ b < w.heap.size) (hb : Below w0.heap.size w0 w) (hu : u.key.length = 16)
    (hown : w5.ownsRow w0.heap.size 30 20 (.slice (some ⟨gg, 0, none⟩) (L.length + 1) cap) (L.length + 1) (cellsU L ++ u.cells)) (hg : (w.alloc o).grownBy w5 (ob A)) (hat : ob A = some gg ∨ gg = w.heap.size + 1) :
    Bs w0 (w5.setCell ⟨bb, 0, none⟩ (.slice (some ⟨gg, 0, none⟩) (L.length + 1) cap)) bb (L ++ [u]) R ∧ Rws R w (w5.setCell ⟨bb, 0, none⟩ (.slice (some ⟨gg, 0, none⟩) (L.length + 1) cap)) := by
  have hbl := h.lts.1
  have hs1 : (w.alloc o).heap.size = w.heap.size + 1 := World.size_alloc ..
  have hne : gg ≠ bb := by
    rcases hat with e | e
    · intro q; exact h.ne (by rw [e, q])
    · omega
  have hold : ∀ b, b < w.heap.size → ob A ≠ some b → w5.heap[b]? = w.heap[b]? := fun b hl hn => (hg.block b (by omega) (fun e => hn e.symm)).trans (heap_alloc_old _ _ hl)
  have hrow : w5.heap[bb]? = some (.cells #[.slice A L.length c] 65 (0, 0)) := (hold bb hbl h.ne).trans h.row
  have hlen : (L ++ [u]).length = L.length + 1 := by simp
  have hbel : Below w0.heap.size w0 w5 := (below_seq hb (below_of_new w o)).grown hg (by have := hb.size; omega) (fun g e => (h.lts.2 g e).1)
  refine ⟨⟨some ⟨gg, 0, none⟩, cap, ⟨?_, ?_, ?_, ?_, h.lt⟩, fun b hx => ⟨(hR b hx).1, fun e => ?_, ?_⟩, below_cell hbel h.lt⟩, ?_, fun b hx => ?_⟩
  · rw [hlen]; exact heap_setCell_same _ _ _ _ _ _ hrow
  · rw [hlen, cellsU_app, cellsU_one]
    exact own_sameB hown rfl rfl rfl (by rw [World.size_setCell]; exact Nat.le_refl _) fun g e => by
      have : gg = g := Option.some.inj e
      exact heap_setCell_other _ _ _ _ (by show g ≠ bb; omega)
  · intro x hx
    rcases List.mem_append.1 hx with h1 | h1
    · exact h.k16 x h1
    · rw [List.mem_singleton.1 h1]; exact hu
  · exact fun e => hne (Option.some.inj e)
  · have e2 : gg = b := Option.some.inj e
    rcases hat with q | q
    · exact (hR b hx).2.1 (by rw [q, e2])
    · have := (hR b hx).2.2; omega
  · rw [World.size_setCell]; have := (hR b hx).2.2; have := hg.size; omega
  · rw [World.size_setCell]; have := hg.size; omega
  · rw [heap_setCell_other _ _ _ _ (by show b ≠ bb; exact (hR b hx).1)]
    exact hold b (hR b hx).2.2 (hR b hx).2.1
end Go.Proofs.Ytlngbpipmaaedaa.Ba
