/-
  THE CONTRACT of alive of layer 3.
-/
import Derived.Test.YtgebdkbbdabomaaDoorShaz
import Derived.Lib.SlBytesConst
namespace Go.Proofs.YtgebdkbbdabomaaDoor.Sha
open Go.RowKit
open Go.Proofs.YtgebdkbbdabomaaDoor.Kit
open Go.Proofs.YtgebdkbbdabomaaDoor.Oct
set_option linter.unusedVariables false

theorem SumAt.on {w w' : World} {g : Nat} {x : List UInt8} (h : SumAt w g x) (hb : Below w.heap.size w w') : SumAt w' g x := h.below h.lt hb
theorem SumAt.lit {w : World} {g : Nat} {x : List UInt8} (h : SumAt w g x) (o : Obj) : SumAt (w.alloc o) g x := h.on (below_of_new w o)
theorem rds_lit (w : World) {g G n : Nat} {e : TypeId} {arr : Array Value} {bs : List UInt8} {fr : Nat × Nat} (hg : g = w.heap.size) (hG : G < w.heap.size) (ha : arr.toList = bs.map bv) (hn : bs.length = n) (hm : n ≤ 9223372036854775807) :
    RdS (w.alloc (.cells arr e fr)) (fun b => b < (w.alloc (.cells arr e fr)).heap.size ∧ b ≠ G) (some ⟨g, 0, none⟩) n n (bs.map bv) := by
  subst hg
  refine ⟨by rw [List.length_map, hn], Nat.le_refl _, hm, fun _ => ⟨w.heap.size, 0, rfl, ⟨by simp, by omega⟩, fun j u hu => ?_⟩⟩
  rw [Nat.zero_add, cell_of_row _ _ j _ _ fr (heap_alloc_new w _), ← hu, ← ha]
  simp
/-- bytes of a constant read as they stand -/
theorem rd_const (w : World) {g n : Nat} {e : TypeId} {arr : Array Value} {bs : List UInt8} {fr : Nat × Nat} (hg : g = w.heap.size) (ha : arr.toList = bs.map bv) (hn : bs.length = n) (hm : n ≤ 9223372036854775807) :
    RdB (w.alloc (.cells arr e fr)) (w.alloc (.cells arr e fr)).heap.size (some ⟨g, 0, none⟩) n n bs := by
  subst hg
  refine ⟨by rw [List.length_map, hn], Nat.le_refl _, hm, fun _ => ⟨w.heap.size, 0, rfl, by simp, fun j u hu => ?_⟩⟩
  rw [Nat.zero_add, cell_of_row _ _ j _ _ fr (heap_alloc_new w _), ← hu, ← ha]
  simp
theorem conv_const (w : World) (C : Array Value) (g n c : Nat) (hg : g = w.heap.size) :
    (convert 22 22 (.slice (some ⟨g, 0, none⟩) n c)).run Tryd.prog (w.alloc (.cells C 5)) = .ok (.slice (some ⟨g, 0, none⟩) n c) (w.alloc (.cells C 5 (C.size, C.size + 1))) := by
  subst hg
  exact Lib.run_convert_bytes_const w 22 5 C n c Tryd.underlying22 Tryd.underlying5
theorem gb_lift {w a b : World} {G : Nat} (h : Below w.heap.size w a) (hg : a.grownBy b (some G)) (hG : w.heap.size ≤ G) : Below w.heap.size w b := h.trans (below_of_gb hg hG h.size)

end Go.Proofs.YtgebdkbbdabomaaDoor.Sha
