/-
  sym made: the worlds between, plainly.
-/
import Derived.Test.YtcgkjcfckbplmaaSymu
namespace Go.Proofs.Ytcgkjcfckbplmaa.Sym
open Go.RowKit
open Go.Proofs.Ytcgkjcfckbplmaa.Kit
open Go.Proofs.Ytcgkjcfckbplmaa.Oct
set_option linter.unusedVariables false

theorem made_fin {w W0 w1 w3 : World} {tb gg cap : Nat} {L : Lay} {O S : Nat → Prop} {T : Tab} {f : Fr} {O1 : Obj} {PV : Array Value} (h : TabAt w tb L O S T) (hf : f.ok) (hlen : T.ks.length < 1000000)
    (hW : Below w.heap.size w W0) (hs : W0.heap.size = w.heap.size + 2)
    (hg : (W0.alloc O1).drew.grownBy w1 (L.v1 T).ownBlock) (hat : (L.v1 T).ownBlock = some gg ∨ gg = w.heap.size + 3) (hlt : gg < w1.heap.size)
    (hown : w1.ownsRow 0 51 18 (.slice (some ⟨gg, 0, none⟩) (T.ks.length + 1) cap) (T.ks.length + 1) (cellsF T.ks ++ f.cells))
    (hb3 : Below (w1.setCell ⟨tb, 0, none⟩ (.slice (some ⟨gg, 0, none⟩) (T.ks.length + 1) cap)).heap.size (w1.setCell ⟨tb, 0, none⟩ (.slice (some ⟨gg, 0, none⟩) (T.ks.length + 1) cap)) w3) :
    TabAt (w3.setRow (w.heap.size + 1) PV) tb { L with A1 := some ⟨gg, 0, none⟩, c1 := cap } (fun b => O b ∨ b = gg) S { T with ks := T.ks ++ [f] } ∧ Kept O w (w3.setRow (w.heap.size + 1) PV) ∧ ∀ b, (O b ∨ b = gg) → O b ∨ w.heap.size ≤ b := by
  have htb : tb < w.heap.size := h.lt tb (.inl h.otb)
  have htn : (L.v1 T).ownBlock ≠ some tb := fun e => (h.d1 _ e).1 rfl
  have s0 : (W0.alloc O1).heap.size = W0.heap.size + 1 := by simp
  have s1 : w.heap.size + 3 ≤ w1.heap.size := by
    have := hg.size
    rw [heap_drew, s0] at this
    omega
  have hb1 : ∀ b, b < w.heap.size → (L.v1 T).ownBlock ≠ some b → w1.heap[b]? = w.heap[b]? := fun b hb hne => by
    rw [hg.block b (by rw [heap_drew, s0]; omega) (fun e => hne e.symm), heap_drew, heap_alloc_old _ _ (by omega), hW.block b hb]
  have hgt : gg ≠ tb := fun e => by
    rcases hat with ha | ha
    · exact htn (by rw [ha, e])
    · omega
  have hb5 : ∀ b, b < w1.heap.size → b ≠ tb → b ≠ w.heap.size + 1 → (w3.setRow (w.heap.size + 1) PV).heap[b]? = w1.heap[b]? := fun b hb h1 h2 => by
    rw [setRow_other _ _ _ _ h2, hb3.block b (by rw [World.size_setCell]; exact hb), heap_setCell_other _ _ _ _ h1]
  have s3 := hb3.size
  rw [World.size_setCell] at s3
  have hgn : gg ≠ w.heap.size + 1 := fun e => by
    rcases hat with ha | ha
    · have := h.lt gg (.inl (h.ov1 gg ha)); omega
    · omega
  have hos : (w3.setRow (w.heap.size + 1) PV).os = w1.os := hb3.os
  have hta : (w3.setRow (w.heap.size + 1) PV).tape = w1.tape := hb3.tape
  have hou : (w3.setRow (w.heap.size + 1) PV).output = w1.output := hb3.output
  have key := h.more1 (w5 := w3.setRow (w.heap.size + 1) PV) (gg := gg) (cap := cap) hf hlen
    (by
      rw [setRow_other _ _ _ _ (by omega), hb3.block tb (by rw [World.size_setCell]; omega)]
      have hq := (hb1 tb htb htn).trans h.box
      exact heap_setCell_same _ _ _ _ _ _ hq)
    (own_same hown hos hta hou (by simp; omega) fun g hg' => by
      obtain rfl : gg = g := by simpa [Value.ownBlock] using hg'
      exact hb5 gg hlt hgt hgn)
    (hat.imp_right fun e => by omega) (by simp; omega)
    ⟨hos.trans (hg.os.trans hW.os), hta.trans (hg.tape.trans hW.tape), hou.trans (hg.output.trans hW.output), by simp; omega⟩
    (fun b hb h1 h2 => by rw [hb5 b (by omega) h1 (by omega), hb1 b hb h2])
  refine ⟨key.1, key.2, fun b hb => ?_⟩
  rcases hb with h1 | h1
  · exact .inl h1
  · rcases hat with ha | ha
    · exact .inl (h1 ▸ h.ov1 gg ha)
    · exact .inr (by omega)
end Go.Proofs.Ytcgkjcfckbplmaa.Sym
