/-
  THE CONTRACT of octet.Key at sixteen bytes.
-/
import Derived.Test.YtcgkjcfckbplmaaOctb
import Derived.Lib.SliceRun
import Derived.Laws.CopyOwn
import Derived.Laws.ResultCell
import Derived.Deep.WholeRow
namespace Go.Proofs.Ytcgkjcfckbplmaa.Oct
open Go.RowKit
open Go.Proofs.Ytcgkjcfckbplmaa.Kit
set_option linter.unusedVariables false

theorem key_copy (w : World) (b o c : Nat) (b0 b1 b2 b3 b4 b5 b6 b7 b8 b9 b10 b11 b12 b13 b14 b15 : UInt8)
    (hc : ∀ (j : Nat) (u : Value), ([b0, b1, b2, b3, b4, b5, b6, b7, b8, b9, b10, b11, b12, b13, b14, b15].map bv)[j]? = some u → w.cell? ⟨b, o + j, none⟩ = some u) (hb : b < w.heap.size) :
    (Builtin.copy_ #[29, 29] 3 #[.slice (some ⟨w.heap.size + 1, 0, none⟩) 16 16, .slice (some ⟨b, o, none⟩) 16 c]).run Try.prog
      ((w.alloc (.cells #[Value.int .u8 0, Value.int .u8 0, Value.int .u8 0, Value.int .u8 0, Value.int .u8 0, Value.int .u8 0, Value.int .u8 0, Value.int .u8 0, Value.int .u8 0, Value.int .u8 0, Value.int .u8 0, Value.int .u8 0, Value.int .u8 0, Value.int .u8 0, Value.int .u8 0, Value.int .u8 0] 36)).alloc (.cells #[Value.int .u8 0, Value.int .u8 0, Value.int .u8 0, Value.int .u8 0, Value.int .u8 0, Value.int .u8 0, Value.int .u8 0, Value.int .u8 0, Value.int .u8 0, Value.int .u8 0, Value.int .u8 0, Value.int .u8 0, Value.int .u8 0, Value.int .u8 0, Value.int .u8 0, Value.int .u8 0] 36)) =
    .ok (.int .i64 16) ((w.alloc (.cells #[Value.int .u8 0, Value.int .u8 0, Value.int .u8 0, Value.int .u8 0, Value.int .u8 0, Value.int .u8 0, Value.int .u8 0, Value.int .u8 0, Value.int .u8 0, Value.int .u8 0, Value.int .u8 0, Value.int .u8 0, Value.int .u8 0, Value.int .u8 0, Value.int .u8 0, Value.int .u8 0] 36)).alloc (.cells #[Value.int .u8 (b0.toNat : Int), Value.int .u8 (b1.toNat : Int), Value.int .u8 (b2.toNat : Int), Value.int .u8 (b3.toNat : Int), Value.int .u8 (b4.toNat : Int), Value.int .u8 (b5.toNat : Int), Value.int .u8 (b6.toNat : Int), Value.int .u8 (b7.toNat : Int), Value.int .u8 (b8.toNat : Int), Value.int .u8 (b9.toNat : Int), Value.int .u8 (b10.toNat : Int), Value.int .u8 (b11.toNat : Int), Value.int .u8 (b12.toNat : Int), Value.int .u8 (b13.toNat : Int), Value.int .u8 (b14.toNat : Int), Value.int .u8 (b15.toNat : Int)] 36)) := by
  have hw1 : ((w.alloc (.cells #[Value.int .u8 0, Value.int .u8 0, Value.int .u8 0, Value.int .u8 0, Value.int .u8 0, Value.int .u8 0, Value.int .u8 0, Value.int .u8 0, Value.int .u8 0, Value.int .u8 0, Value.int .u8 0, Value.int .u8 0, Value.int .u8 0, Value.int .u8 0, Value.int .u8 0, Value.int .u8 0] 36)).alloc (.cells #[Value.int .u8 0, Value.int .u8 0, Value.int .u8 0, Value.int .u8 0, Value.int .u8 0, Value.int .u8 0, Value.int .u8 0, Value.int .u8 0, Value.int .u8 0, Value.int .u8 0, Value.int .u8 0, Value.int .u8 0, Value.int .u8 0, Value.int .u8 0, Value.int .u8 0, Value.int .u8 0] 36)).heap[w.heap.size + 1]? = some (.cells #[Value.int .u8 0, Value.int .u8 0, Value.int .u8 0, Value.int .u8 0, Value.int .u8 0, Value.int .u8 0, Value.int .u8 0, Value.int .u8 0, Value.int .u8 0, Value.int .u8 0, Value.int .u8 0, Value.int .u8 0, Value.int .u8 0, Value.int .u8 0, Value.int .u8 0, Value.int .u8 0] 36 (0, 0)) := by
    have := heap_alloc_new (w.alloc (.cells #[Value.int .u8 0, Value.int .u8 0, Value.int .u8 0, Value.int .u8 0, Value.int .u8 0, Value.int .u8 0, Value.int .u8 0, Value.int .u8 0, Value.int .u8 0, Value.int .u8 0, Value.int .u8 0, Value.int .u8 0, Value.int .u8 0, Value.int .u8 0, Value.int .u8 0, Value.int .u8 0] 36)) (.cells #[Value.int .u8 0, Value.int .u8 0, Value.int .u8 0, Value.int .u8 0, Value.int .u8 0, Value.int .u8 0, Value.int .u8 0, Value.int .u8 0, Value.int .u8 0, Value.int .u8 0, Value.int .u8 0, Value.int .u8 0, Value.int .u8 0, Value.int .u8 0, Value.int .u8 0, Value.int .u8 0] 36)
    simpa using this
  have h := run_copy_row (P := Try.prog) ((w.alloc (.cells #[Value.int .u8 0, Value.int .u8 0, Value.int .u8 0, Value.int .u8 0, Value.int .u8 0, Value.int .u8 0, Value.int .u8 0, Value.int .u8 0, Value.int .u8 0, Value.int .u8 0, Value.int .u8 0, Value.int .u8 0, Value.int .u8 0, Value.int .u8 0, Value.int .u8 0, Value.int .u8 0] 36)).alloc (.cells #[Value.int .u8 0, Value.int .u8 0, Value.int .u8 0, Value.int .u8 0, Value.int .u8 0, Value.int .u8 0, Value.int .u8 0, Value.int .u8 0, Value.int .u8 0, Value.int .u8 0, Value.int .u8 0, Value.int .u8 0, Value.int .u8 0, Value.int .u8 0, Value.int .u8 0, Value.int .u8 0] 36)) 29 29 3 5 (w.heap.size + 1) 0 16 16 ⟨b, o, none⟩ 16 c #[Value.int .u8 0, Value.int .u8 0, Value.int .u8 0, Value.int .u8 0, Value.int .u8 0, Value.int .u8 0, Value.int .u8 0, Value.int .u8 0, Value.int .u8 0, Value.int .u8 0, Value.int .u8 0, Value.int .u8 0, Value.int .u8 0, Value.int .u8 0, Value.int .u8 0, Value.int .u8 0] 36 ([b0, b1, b2, b3, b4, b5, b6, b7, b8, b9, b10, b11, b12, b13, b14, b15].map bv) Try.underlying29 (by kernel_rfl) hw1 rfl
    (fun j u hj => by
      rw [add_off, World.cell?_alloc_lt _ _ _ (by simp; omega), World.cell?_alloc_lt _ _ _ (by simpa using hb)]
      exact hc j u hj) (Nat.le_refl _) (bv_one _)
  rw [h]
  have e := World.setRow_alloc_new (w.alloc (.cells #[Value.int .u8 0, Value.int .u8 0, Value.int .u8 0, Value.int .u8 0, Value.int .u8 0, Value.int .u8 0, Value.int .u8 0, Value.int .u8 0, Value.int .u8 0, Value.int .u8 0, Value.int .u8 0, Value.int .u8 0, Value.int .u8 0, Value.int .u8 0, Value.int .u8 0, Value.int .u8 0] 36)) #[Value.int .u8 0, Value.int .u8 0, Value.int .u8 0, Value.int .u8 0, Value.int .u8 0, Value.int .u8 0, Value.int .u8 0, Value.int .u8 0, Value.int .u8 0, Value.int .u8 0, Value.int .u8 0, Value.int .u8 0, Value.int .u8 0, Value.int .u8 0, Value.int .u8 0, Value.int .u8 0] #[Value.int .u8 (b0.toNat : Int), Value.int .u8 (b1.toNat : Int), Value.int .u8 (b2.toNat : Int), Value.int .u8 (b3.toNat : Int), Value.int .u8 (b4.toNat : Int), Value.int .u8 (b5.toNat : Int), Value.int .u8 (b6.toNat : Int), Value.int .u8 (b7.toNat : Int), Value.int .u8 (b8.toNat : Int), Value.int .u8 (b9.toNat : Int), Value.int .u8 (b10.toNat : Int), Value.int .u8 (b11.toNat : Int), Value.int .u8 (b12.toNat : Int), Value.int .u8 (b13.toNat : Int), Value.int .u8 (b14.toNat : Int), Value.int .u8 (b15.toNat : Int)] 36
  rw [World.size_alloc] at e
  exact congrArg (Result.ok _) e
theorem key_yes (A : Option Addr) (c B : Nat) (bs : List UInt8) (w : World) (h : RdB w B A 16 c bs) (hB : B ≤ w.heap.size) :
    Calls Try.prog 48 #[.slice A 16 c] w fun e w' => e = .returned (.tuple #[.agg (bs.map bv).toArray, .bool true]) ∧ Below w.heap.size w w' := by
  have h1 : ((16 : Int) != 16) = false := rfl
  have hl := h.len
  obtain ⟨b, o, rfl, hb, hc⟩ := h.2.2.2 (by omega)
  clear h
  match bs, hl with
  | [b0, b1, b2, b3, b4, b5, b6, b7, b8, b9, b10, b11, b12, b13, b14, b15], _ =>
    have hcp := key_copy w b o c b0 b1 b2 b3 b4 b5 b6 b7 b8 b9 b10 b11 b12 b13 b14 b15 hc (by omega)
    clear hc
    go_enter Try.func48, Try.ntmps48
    go_wp2
    refine bodyPost_ret (v := .tuple #[.agg ([b0, b1, b2, b3, b4, b5, b6, b7, b8, b9, b10, b11, b12, b13, b14, b15].map bv).toArray, .bool true]) (by simp [results, Try.results48, go_sem, bv]) rfl ⟨rfl, ?_⟩
    exact ((Below.refl _ _).alloc (Nat.le_refl _) _).alloc (by simp) _
end Go.Proofs.Ytcgkjcfckbplmaa.Oct
