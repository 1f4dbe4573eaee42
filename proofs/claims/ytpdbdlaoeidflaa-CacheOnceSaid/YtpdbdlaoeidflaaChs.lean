/-
  cache: Show.
-/
import Derived.Test.YtpdbdlaoeidflaaChr
import Derived.BigQuiet
namespace Go.Proofs.Ytpdbdlaoeidflaa.Ch
open Go.RowKit
open Go.Proofs.Ytpdbdlaoeidflaa.Kit
set_option linter.unusedVariables false

theorem heap_new' (w : World) (o : Obj) {k : Nat} (hk : w.heap.size = k) : (w.alloc o).heap[k]? = some o := by rw [← hk]; exact heap_alloc_new w o
theorem infoI : (Try.prog.info? 43).map (fun i => (i.zero, i.size, i.bytes)) = some (some (.agg #[.string ⟨#[]⟩, .int .i64 0, .int .i64 0]), 3, 32) := by kernel_rfl
theorem contains_on {w : World} {A : Option Addr} {n c : Nat} {l : List It} (h : RdI w A n c l) (x : It) (b : Bool) (hb : l.any (fun y => It.eq x y) = b) (W : World) (hW : Drew w W) :
    Calls Try.prog 14 #[.slice A n c, .agg #[.string x.cl, .int .i64 x.tm, .int .i64 x.sq]] W fun e w' => e = .returned (.bool b) ∧ Below w.heap.size w w' := by
  have hB := below_of_drew hW w.heap.size
  have := contains_any (h.on hB) x
  rw [hb] at this
  refine this.mono ?_
  rintro e w' ⟨rfl, h2⟩
  exact ⟨rfl, below_seq hB h2⟩
theorem run_load_row {w : World} {g : Nat} {t ty : TypeId} {cs : Array Value} {fr : Nat × Nat} {fs : Array Field} {a : Act} {x : Operand} {o : Oper} (hg : w.heap[g]? = some (.cells cs t fr))
    (hu : Try.prog.underlying ty = some (.struct fs)) (hi : (Try.prog.info? ty).map (·.size) = some cs.size) (ho : o.op = .load ty x) (hx : a.eval x = .pointer (some ⟨g, 0, none⟩)) :
    (execOp a.eval o).run Try.prog w = .ok (.value (.agg cs)) w := by
  unfold execOp
  simp only [ho, hx, Instr.loadAt, Instr.sureAddr, Sem.run_bind, Sem.run_pure, Result.andThen_ok, run_loadVar_row w g t ty cs fr _ hg hu rfl hi]
theorem info_parts {P : Program} {t : TypeId} {r : Option Value × Nat × Nat} (h : (P.info? t).map (fun i => (i.zero, i.size, i.bytes)) = some r) : ∃ i, P.info? t = some i ∧ i.zero = r.1 ∧ i.size = r.2.1 ∧ i.bytes = r.2.2 := by
  obtain ⟨i, hi, rfl⟩ := Option.map_eq_some_iff.1 h
  exact ⟨i, hi, rfl, rfl, rfl⟩
theorem size3 {KV : Array Value} (h : KV.size = 3) : ∃ a0 a1 a2, KV = #[a0, a1, a2] := by
  obtain ⟨l⟩ := KV
  match l, h with
  | [a0, a1, a2], _ => exact ⟨a0, a1, a2, rfl⟩
theorem fill_it (z : Value) (hz : z = .agg #[.string ⟨#[]⟩, .int .i64 0, .int .i64 0]) (KV : Array Value) (h : KV.size = 3) :
    Instr.fill (fun i => some (i * 3, 3)) ((Array.range (1 * 3)).map (z.cells[· % z.cells.size]!)) [(0, .agg KV)] = some KV := by
  obtain ⟨a0, a1, a2, rfl⟩ := size3 h
  subst hz
  kernel_rfl
theorem infoIt : (Try.prog.info? 43).map (·.size) = some 3 := by kernel_rfl
/-- what is left when the row was cut to what is kept -/
theorem cut_at {w3 w4 : World} {B cb M c : Nat} {A : Option Addr} {l K : List It} {now : Int} (h : ChAt w3 B cb M A c l) (hK : K = keepS now l) (hown : w4.ownsRow B 43 3 (.slice A K.length c) K.length (cellsI K)) (hg : w3.grownBy w4 (ob A)) :
    ChAt (w4.setCell ⟨cb, 1, none⟩ (.slice A K.length c)) B cb M A c K ∧ Stay w3 (w4.setCell ⟨cb, 1, none⟩ (.slice A K.length c)) cb A A := by
  have hbx : w4.heap[cb]? = some (.cells #[.int .i64 M, .slice A l.length c] 41 (0, 0)) := (hg.block cb h.lt (fun e => h.ne e.symm)).trans h.box
  have hs := heap_setCell_same w4 cb 1 _ 41 (.slice A K.length c) hbx
  have hgb : w4.grownBy (w4.setCell ⟨cb, 1, none⟩ (.slice A K.length c)) (some cb) := ⟨rfl, rfl, rfl, by simp, fun b _ hne => heap_setCell_other w4 ⟨cb, 1, none⟩ b _ (fun e => hne (by rw [e]))⟩
  have hle : K.length ≤ l.length := by rw [hK]; exact keep_len now l
  refine ⟨⟨hs, hown.kept hgb (.inr (by rw [ob_slice]; exact h.ne)), h.ne, h.le, fun x hx => h.ok x (by rw [hK] at hx; exact (List.mem_filter.1 hx).1), h.m1, h.m64, Nat.le_trans hle h.ll⟩, ?_⟩
  refine ⟨hg.os, hg.tape, hg.output, Nat.le_trans hg.size hgb.size, fun b hb hne hno => ?_, fun g hg => .inl hg⟩
  rw [hgb.block b (Nat.lt_of_lt_of_le hb hg.size) (fun e => hne (Option.some.inj e)), hg.block b hb (fun e => hno e.symm)]
/-- what is left when an item was put behind the others -/
theorem put_at {w w1 : World} {B cb M c gg cap : Nat} {A : Option Addr} {l : List It} {x : It} (h : ChAt w B cb M A c l) (hx : 0 ≤ x.tm ∧ x.tm ≤ 1099511627776) (hlt : l.length < M)
    (hown : w1.ownsRow B 43 3 (.slice (some ⟨gg, 0, none⟩) (l.length + 1) cap) (l.length + 1) (cellsI l ++ x.cells)) (hg : w.grownBy w1 (ob A)) (hat : ob A = some gg ∨ w.heap.size ≤ gg) :
    ChAt (w1.setCell ⟨cb, 1, none⟩ (.slice (some ⟨gg, 0, none⟩) (l.length + 1) cap)) B cb M (some ⟨gg, 0, none⟩) cap (l ++ [x]) ∧ Stay w (w1.setCell ⟨cb, 1, none⟩ (.slice (some ⟨gg, 0, none⟩) (l.length + 1) cap)) cb A (some ⟨gg, 0, none⟩) := by
  have hbx : w1.heap[cb]? = some (.cells #[.int .i64 M, .slice A l.length c] 41 (0, 0)) := (hg.block cb h.lt (fun e => h.ne e.symm)).trans h.box
  have hs := heap_setCell_same w1 cb 1 _ 41 (.slice (some ⟨gg, 0, none⟩) (l.length + 1) cap) hbx
  have hgb : w1.grownBy (w1.setCell ⟨cb, 1, none⟩ (.slice (some ⟨gg, 0, none⟩) (l.length + 1) cap)) (some cb) := ⟨rfl, rfl, rfl, by simp, fun b _ hne => heap_setCell_other w1 ⟨cb, 1, none⟩ b _ (fun e => hne (by rw [e]))⟩
  have hne : gg ≠ cb := fun e => by
    rcases hat with h1 | h1
    · exact h.ne (by rw [h1, e])
    · have := h.lt; omega
  have hll : (l ++ [x]).length = l.length + 1 := by simp
  have hcc : cellsI (l ++ [x]) = cellsI l ++ x.cells := by rw [cellsI_app]; simp [cellsI]
  refine ⟨⟨by rw [hll]; exact hs, by rw [hll, hcc]; exact hown.kept hgb (.inr (fun e => hne (Option.some.inj e))), fun e => hne (Option.some.inj e), h.le, fun y hy => ?_, h.m1, h.m64, by rw [hll]; omega⟩, ?_⟩
  · rcases List.mem_append.1 hy with h1 | h1
    · exact h.ok y h1
    · rw [List.mem_singleton.1 h1]; exact hx
  · refine ⟨hg.os, hg.tape, hg.output, Nat.le_trans hg.size hgb.size, fun b hb hne hno => ?_, fun g e => ?_⟩
    · rw [hgb.block b (Nat.lt_of_lt_of_le hb hg.size) (fun e => hne (Option.some.inj e)), hg.block b hb (fun e => hno e.symm)]
    · obtain rfl : gg = g := Option.some.inj e
      exact hat
theorem Stay.trans {a b c : World} {cb : Nat} {A A' A'' : Option Addr} (h : Stay a b cb A A') (k : Stay b c cb A' A'') : Stay a c cb A A'' :=
  ⟨k.os.trans h.os, k.tape.trans h.tape, k.output.trans h.output, Nat.le_trans h.size k.size, fun x hx h1 h2 => by
    rw [k.block x (Nat.lt_of_lt_of_le hx h.size) h1 (fun e => by
      rcases h.to x e with h3 | h3
      · exact h2 h3
      · omega), h.block x hx h1 h2], fun g hg => by
    rcases k.to g hg with h3 | h3
    · exact h.to g h3
    · exact .inr (Nat.le_trans h.size h3)⟩
end Go.Proofs.Ytpdbdlaoeidflaa.Ch
