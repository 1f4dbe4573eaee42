/-
  sym's Table: what a turn of it leaves.
-/
import Derived.Test.YtbfcdlfjlailjaaSymvw
import Derived.Deep.MidRow
namespace Go.Proofs.Ytbfcdlfjlailjaa.Sym
open Go.RowKit
open Go.Proofs.Ytbfcdlfjlailjaa.Kit
open Go.Proofs.Ytbfcdlfjlailjaa.Oct
set_option linter.unusedVariables false

/-- a table that was turned, and nothing else was -/
def Went (w w' : World) (tb : Nat) (O S : Nat → Prop) (T : Tab) : Prop :=
  ∃ L' O' S', TabAt w' tb L' O' S' T ∧ Kept O w w' ∧ (∀ b, O' b → O b ∨ w.heap.size ≤ b) ∧ ∀ b, S' b → S b ∨ w.heap.size ≤ b
/-- a row of no table is turned -/
theorem TabAt.row {w : World} {tb g : Nat} {L : Lay} {O S : Nat → Prop} {T : Tab} (h : TabAt w tb L O S T) (hg : ∀ b, O b ∨ S b → b ≠ g) (PV : Array Value) : TabAt (w.setRow g PV) tb L O S T :=
  h.on ⟨rfl, rfl, rfl, by simp⟩ fun b hb => setRow_other _ _ _ _ (hg b hb)
theorem Kept.row {O : Nat → Prop} {w W w2 : World} {g : Nat} (hW : Below w.heap.size w W) (hk : Kept O W w2) (hg : w.heap.size ≤ g) (PV : Array Value) : Kept O w (w2.setRow g PV) :=
  ⟨hk.1.trans hW.os, hk.2.1.trans hW.tape, hk.2.2.1.trans hW.output, by rw [setRow_size]; exact Nat.le_trans hW.size hk.2.2.2.1, fun b hb hn => by
    rw [setRow_other _ _ _ _ (by omega), hk.2.2.2.2 b (Nat.lt_of_lt_of_le hb hW.size) hn, hW.block b hb]⟩
theorem Went.ret {w W w2 : World} {tb g : Nat} {L : Lay} {O S : Nat → Prop} {T T' : Tab} (h : TabAt w tb L O S T) (hW : Below w.heap.size w W) (hg : w.heap.size ≤ g) (hg2 : g < W.heap.size) (h2 : Went W w2 tb O S T') (PV : Array Value) : Went w (w2.setRow g PV) tb O S T' := by
  obtain ⟨L', O', S', h1, hk, ho, hs⟩ := h2
  refine ⟨L', O', S', h1.row (fun b hb e => ?_) PV, Kept.row hW hk hg PV, fun b hb => ?_, fun b hb => ?_⟩
  · rcases hb with hb | hb
    · rcases ho b hb with h3 | h3
      · have := h.lt b (.inl h3); omega
      · omega
    · rcases hs b hb with h3 | h3
      · have := h.lt b (.inr h3); omega
      · omega
  · have := hW.size
    rcases ho b hb with h3 | h3
    · exact .inl h3
    · exact .inr (by omega)
  · have := hW.size
    rcases hs b hb with h3 | h3
    · exact .inl h3
    · exact .inr (by omega)
theorem Went.of_below {w w' : World} {tb : Nat} {L : Lay} {O S : Nat → Prop} {T : Tab} (h : TabAt w tb L O S T) (hb : Below w.heap.size w w') : Went w w' tb O S T :=
  ⟨L, O, S, h.below hb, Kept.of_below hb, fun _ h => .inl h, fun _ h => .inl h⟩
theorem Went.after {w W w2 : World} {tb : Nat} {L : Lay} {O S : Nat → Prop} {T T' : Tab} (h : TabAt w tb L O S T) (hW : Below w.heap.size w W) (h2 : Went W w2 tb O S T') : Went w w2 tb O S T' := by
  obtain ⟨L', O', S', h1, hk, ho, hs⟩ := h2
  refine ⟨L', O', S', h1, ⟨hk.1.trans hW.os, hk.2.1.trans hW.tape, hk.2.2.1.trans hW.output, Nat.le_trans hW.size hk.2.2.2.1, fun b hb hn => ?_⟩, fun b hb => ?_, fun b hb => ?_⟩
  · rw [hk.2.2.2.2 b (Nat.lt_of_lt_of_le hb hW.size) hn, hW.block b hb]
  · have := hW.size
    rcases ho b hb with h3 | h3
    · exact .inl h3
    · exact .inr (by omega)
  · have := hW.size
    rcases hs b hb with h3 | h3
    · exact .inl h3
    · exact .inr (by omega)
/-- an origin more -/
theorem TabAt.put {w w' : World} {tb : Nat} {L : Lay} {O S : Nat → Prop} {T : Tab} (h : TabAt w tb L O S T) {F : Og → Option Nat} (hm : MapAt w' L.mb (L.m + 1) F) (hg : w.grownBy w' (some L.mb)) (hle : L.m + 1 ≤ T.ks.length) :
    TabAt w' tb { L with m := L.m + 1 } O S { T with fd := F } := by
  have hb : ∀ b, (O b ∨ S b) → b ≠ L.mb → w'.heap[b]? = w.heap[b]? := fun b hbb hne => hg.block b (h.lt b hbb) (fun e => hne (Option.some.inj e))
  have hS : ∀ b, S b → w'.heap[b]? = w.heap[b]? := fun b hbb => hb b (.inr hbb) (fun e => h.dis b hbb (e ▸ h.omb))
  exact {
    box := (hb tb (.inl h.otb) h.dtm).trans h.box
    o1 := own_same h.o1 hg.os hg.tape hg.output hg.size fun g hg' => hb g (.inl (h.ov1 g hg')) (h.d1 g hg').2.1
    o2 := own_same h.o2 hg.os hg.tape hg.output hg.size fun g hg' => hb g (.inl (h.ov2 g hg')) (h.d2 g hg').2.1
    o3 := own_same h.o3 hg.os hg.tape hg.output hg.size fun g hg' => hb g (.inl (h.ov3 g hg')) (h.d3 g hg').2
    r2 := SlRow.keep (fun p hp => World.cell?_of_block (hS _ hp)) (fun _ h => h) _ h.r2
    r3 := SmRow.keep (fun p hp => World.cell?_of_block (hS _ hp)) (fun _ h => h) _ h.r3
    map := hm
    mle := hle
    otb := h.otb
    omb := h.omb
    ov1 := h.ov1
    ov2 := h.ov2
    ov3 := h.ov3
    dtm := h.dtm
    d1 := h.d1
    d2 := h.d2
    d3 := h.d3
    lt := fun b hbb => Nat.lt_of_lt_of_le (h.lt b hbb) hg.size
    dis := h.dis
    fok := h.fok
    sok := h.sok
    mok := h.mok
    kle := h.kle }
def lookV (f : Og → Option Nat) (o : Og) : Array Value := match f o with
  | some k => kv (mk 107 k)
  | none => kv (List.replicate 16 0)
theorem lookV_size (f : Og → Option Nat) (o : Og) : (lookV f o).size = 16 := by
  unfold lookV
  split
  · rw [kv_size, mk_len]
  · rw [kv_size]; rfl
theorem lookV_one (f : Og → Option Nat) (o : Og) : (lookV f o).all (·.oneCell') = true := by
  unfold lookV
  split
  · exact kv_one _
  · exact kv_one _
theorem MapAt.look' {w : World} {mb n : Nat} {f : Og → Option Nat} (h : MapAt w mb n f) {o : Og} (ho : o.ok) :
    (Instr.lookup 84 (.map (some mb)) o.val true).run Try.prog w = .ok (.tuple #[.agg (lookV f o), .bool (f o).isSome]) w := by
  obtain ⟨v, h1, h2, h3⟩ := h.look ho
  rw [h1]
  unfold lookV
  cases hf : f o with
  | none => rw [h3 hf]; rfl
  | some k => rw [h2 k hf]; rfl
noncomputable def onceT (T : Tab) (o : Og) : Nat × Tab := match T.fd o with
  | some k => (k, T)
  | none => (T.ks.length + 1, { T with ks := T.ks ++ [o.fr], fd := setF T.fd o (T.ks.length + 1) })
theorem infoOg : (Try.prog.info? 93).map (·.size) = some 20 := by kernel_rfl
theorem infoFr' : (Try.prog.info? 51).map (·.size) = some 18 := by kernel_rfl
theorem Og.cells_len {o : Og} (h : o.ok) : o.cells.length = 20 := by simp [Og.cells, Fr.cells, h.1.1]
/-- a lookup in a region that draws its order -/
theorem run_lookup {w : World} {mb n : Nat} {f : Og → Option Nat} (h : MapAt w mb n f) {o : Og} (ho : o.ok) {a : Act} {x y : Operand} {op : Oper} (hop : op.op = .lookup 84 x y true)
    (hx : a.eval x = .map (some mb)) (hy : a.eval y = o.val) : (execOp a.eval op).run Try.prog w = .ok (.value (.tuple #[.agg (lookV f o), .bool (f o).isSome])) w := by
  unfold execOp
  simp only [hop, hx, hy, Sem.run_bind, Sem.run_pure, h.look' ho, Result.andThen_ok]
/-- a row of cells that is loaded whole, in a region -/
theorem run_load_arr {w : World} {g : Nat} {t ty : TypeId} {cs : Array Value} {fr : Nat × Nat} {m : Nat} {e : TypeId} {a : Act} {x : Operand} {o : Oper} (hg : w.heap[g]? = some (.cells cs t fr))
    (hu : Try.prog.underlying ty = some (.array m e)) (hi : (Try.prog.info? ty).map (·.size) = some cs.size) (ho : o.op = .load ty x) (hx : a.eval x = .pointer (some ⟨g, 0, none⟩)) :
    (execOp a.eval o).run Try.prog w = .ok (.value (.agg cs)) w := by
  unfold execOp
  simp only [ho, hx, Instr.loadAt, Instr.sureAddr, Sem.run_bind, Sem.run_pure, Result.andThen_ok, run_loadVar_row w g t ty cs fr _ hg hu rfl hi]
theorem wp_mapSet {o : Oper} {a : Act} {w w' : World} {K : Act → World → Prop} {Q : Exit → Act → World → Prop} (ty : TypeId) (x y z : Operand) (ho : o.op = .mapUpdate ty x y z) {m k v : Value} (hx : a.eval x = m) (hy : a.eval y = k) (hz : a.eval z = v)
    (hr : (Instr.mapUpdate ty m k v).run Try.prog w = .ok () w') (h : K (a.put o.dst undef) w') : o.wp Try.prog a w K Q := by
  unfold Oper.wp execOp
  simp only [ho, hx, hy, hz, Sem.run_bind, Sem.run_pure, Result.andThen_ok, hr]
  exact h
theorem once_fin {w W2 w3 w5 : World} {tb g1 g2 : Nat} {L L' : Lay} {O O' S : Nat → Prop} {T T1 : Tab} {F : Og → Option Nat} {PV QV : Array Value} (h : TabAt w tb L O S T) (hW : Below w.heap.size w W2) (hg1 : w.heap.size ≤ g1) (hg1' : g1 < W2.heap.size) (hg2 : w.heap.size ≤ g2) (hg2' : g2 < W2.heap.size)
    (h3 : TabAt w3 tb L' O' S T1) (hk : Kept O W2 w3) (ho : ∀ b, O' b → O b ∨ W2.heap.size ≤ b) (hm : MapAt w5 L'.mb (L'.m + 1) F) (hg : (w3.setRow g1 PV).drew.grownBy w5 (some L'.mb)) (hle : L'.m + 1 ≤ T1.ks.length) :
    Went w (w5.setRow g2 QV) tb O S { T1 with fd := F } := by
  have hne : ∀ g, w.heap.size ≤ g → g < W2.heap.size → ∀ b, O' b ∨ S b → b ≠ g := fun g h1 h2 b hb e => by
    rcases hb with hb | hb
    · rcases ho b hb with h4 | h4
      · have := h.lt b (.inl h4); omega
      · omega
    · have := h.lt b (.inr hb); omega
  have ho' : ∀ b, O' b → O b ∨ w.heap.size ≤ b := fun b hb => (ho b hb).imp_right fun h1 => by have := hW.size; omega
  have h4 : TabAt (w3.setRow g1 PV).drew tb L' O' S T1 := (h3.row (hne g1 hg1 hg1') PV).on ⟨rfl, rfl, rfl, Nat.le_refl _⟩ fun _ _ => rfl
  have h5 := h4.put hm hg hle
  have k4 : Kept O w (w3.setRow g1 PV).drew := Kept.row hW hk hg1 PV
  have k5 : Kept O' (w3.setRow g1 PV).drew w5 := ⟨hg.os, hg.tape, hg.output, hg.size, fun b hb hn => hg.block b hb (fun e => hn (Option.some.inj e ▸ h3.omb))⟩
  exact ⟨_, O', S, h5.row (hne g2 hg2 hg2') QV, Kept.row (Below.refl _ _) (k4.trans k5 ho') hg2 QV, ho', fun _ hb => .inl hb⟩
theorem range_fr {w : World} {g : Nat} {OV : Array Value} {o : Og} (hg : w.heap[g]? = some (.cells OV 93 (0, 0))) (ho : OV = o.cells.toArray) : w.rangeAt g 0 o.fr.cells := fun j v hv => by
  rw [Nat.zero_add, cell_of_row w g j OV _ _ hg, ho]
  simp only [List.getElem?_toArray, Og.cells]
  rw [List.getElem?_append_left (List.getElem?_eq_some_iff.1 hv).1]
  exact hv
end Go.Proofs.Ytbfcdlfjlailjaa.Sym
