/-
  THE ALIVE of layer 5.
-/
import Derived.Test.YtgebdkbbdabomaaDoorAesy
import Derived.Test.YtgebdkbbdabomaaDoorAeso
import Derived.Stop.BytesEq
namespace Go.Proofs.YtgebdkbbdabomaaDoor.Aes
open Go.RowKit
open Go.Proofs.YtgebdkbbdabomaaDoor.Kit
open Go.Proofs.YtgebdkbbdabomaaDoor.Oct
set_option linter.unusedVariables false

theorem same_new (A A' : Option Addr) (n c n' c' : Nat) (xs ys : List UInt8) (w : World) (ha : RdB w w.heap.size A n c xs) (hb : RdB w w.heap.size A' n' c' ys) :
    Calls Tryd.prog 9 #[.slice A n c, .slice A' n' c'] w fun e w' => e = .returned (.bool (decide (xs = ys))) ∧ Below w.heap.size w w' :=
  (rsame_any A A' n c n' c' _ _ xs ys w ha hb).mono fun e w' ⟨he, hd⟩ => ⟨he, below_of_drew hd _⟩
/-- what Stream answers, as bytes that can be read -/
theorem Arr.rd {w : World} {S n : Nat} {t : TypeId} {f : Nat → UInt8} (h : Arr w S t f n) (hn : n ≤ 9223372036854775807) : RdB w w.heap.size (some ⟨S, 0, none⟩) n n (row f n) := rd_block h (row_len _ _) hn
theorem stream_new (G : Nat) (key from_ : Nat → UInt8) (A : Option Addr) (n c : Nat) (bs : List UInt8) (w : World) (hC : CipherAt w G key) (hb : RdB w w.heap.size A n c bs) (hn : n ≤ 1000000000) :
    Calls Tryd.prog 57 #[.pointer (some ⟨G, 0, none⟩), .agg (A16 from_), .slice A n c] w fun e w' => ∃ S, e = .returned (.slice (some ⟨S, 0, none⟩) n n) ∧ RdB w' w'.heap.size (some ⟨S, 0, none⟩) n n (strF key from_ bs) ∧ Below w.heap.size w w' :=
  (stream_any G key from_ A n c bs w hC hb hn).mono fun e w' ⟨S, he, _, ha, hbl⟩ => ⟨S, he, by
    have h := ha.rd (by omega)
    rw [strF_row, hb.len]
    exact h, hbl⟩
theorem eq16 (f g : Nat → UInt8) (w : World) : (Op.equalIn 10000 29 (.agg (A16 f)) (.agg (A16 g))).run Tryd.prog w = .ok (row f 16 == row g 16) w :=
  run_equalIn_bytes w 9998 29 5 16 Tryd.underlying29 Tryd.underlying5 (fun w => by kernel_rfl) _ _ (row_len _ _) (row_len _ _)
theorem built0 : Tryd.prog.built 29 [] = some Z16 := by kernel_rfl
theorem wpList_built0 {P : Program} {ops : Array Oper} {rest : List Oper} {o : Oper} {a : Act} {w : World} {Q : Exit → Act → World → Prop} (hg : o.guard = none) (t : TypeId) (ho : o.op = .build t #[])
    (CV : Array Value) (hb : P.built t [] = some CV) (h : wpList P ops Q rest (a.put o.dst (.agg CV)) w) : wpList P ops Q (o :: rest) a w := by
  refine wpList_build hg t #[] ho ?_ ?_
  · simp [hb]
  · simpa [hb] using h
theorem ex_at (i : Nat) (h : i < 16) : blk exK exB i = [0x69, 0xc4, 0xe0, 0xd8, 0x6a, 0x7b, 0x04, 0x30, 0xd8, 0xcd, 0xb7, 0x80, 0x70, 0xb4, 0xc5, 0x5a].getD i 0 := by
  rw [← ex_blk]
  exact (at_row _ h).symm

theorem wp_load16g (d : Option Nat) (ty : TypeId) (pos : String) (after : Array Edge) (gd : Option (Nat × Bool)) (x : Operand) (a : Act) (w : World) (K : Act → World → Prop) (Q : Exit → Act → World → Prop) (h : HasRowAt w (a.eval x) 16) :
    Oper.wp Tryd.prog ⟨d, .load 29 x, ty, pos, after, gd⟩ a w K Q = K (a.put d (.agg (rowAt w (a.eval x) 16).toArray)) w := by
  have h0 := wp_load16 d ty pos after x a w K Q h
  rw [← h0]
  unfold Oper.wp execOp
  rfl
attribute [local go_sem ↓] wp_load16 wp_load16k wp_st16 wp_load16g
attribute [local go_sem] HasRowAt_mk rowAt_mk StOk2_mk stAt_mk
end Go.Proofs.YtgebdkbbdabomaaDoor.Aes
