/-
  sym's made: what it leaves, plainly.
-/
import Derived.Test.YtcgkjcfckbplmaaSymt
import Derived.Great.BuildSlice
import Derived.Deep.RegionHeld3
namespace Go.Proofs.Ytcgkjcfckbplmaa.Sym
open Go.RowKit
open Go.Proofs.Ytcgkjcfckbplmaa.Kit
open Go.Proofs.Ytcgkjcfckbplmaa.Oct
set_option linter.unusedVariables false

theorem TabAt.more1 {w w5 : World} {tb gg cap : Nat} {L : Lay} {O S : Nat → Prop} {T : Tab} {f : Fr} (h : TabAt w tb L O S T) (hf : f.ok) (hlen : T.ks.length < 1000000)
    (hbx : w5.heap[tb]? = some (.cells #[.slice (some ⟨gg, 0, none⟩) (T.ks.length + 1) cap, L.v2 T, L.v3 T, .map (some L.mb)] 87 (0, 0)))
    (hown : w5.ownsRow 0 51 18 (.slice (some ⟨gg, 0, none⟩) (T.ks.length + 1) cap) (T.ks.length + 1) (cellsF T.ks ++ f.cells))
    (hat : (L.v1 T).ownBlock = some gg ∨ w.heap.size ≤ gg) (hgl : gg < w5.heap.size) (hk : w5.os = w.os ∧ w5.tape = w.tape ∧ w5.output = w.output ∧ w.heap.size ≤ w5.heap.size)
    (hb : ∀ b, b < w.heap.size → b ≠ tb → (L.v1 T).ownBlock ≠ some b → w5.heap[b]? = w.heap[b]?) :
    TabAt w5 tb { L with A1 := some ⟨gg, 0, none⟩, c1 := cap } (fun b => O b ∨ b = gg) S { T with ks := T.ks ++ [f] } ∧ Kept O w w5 := by
  have hl : (T.ks ++ [f]).length = T.ks.length + 1 := by simp
  have hv1 : Lay.v1 { L with A1 := some ⟨gg, 0, none⟩, c1 := cap } { T with ks := T.ks ++ [f] } = .slice (some ⟨gg, 0, none⟩) (T.ks.length + 1) cap := by simp only [Lay.v1, hl]
  have hv2 : Lay.v2 { L with A1 := some ⟨gg, 0, none⟩, c1 := cap } { T with ks := T.ks ++ [f] } = L.v2 T := rfl
  have hv3 : Lay.v3 { L with A1 := some ⟨gg, 0, none⟩, c1 := cap } { T with ks := T.ks ++ [f] } = L.v3 T := rfl
  have hgO : ∀ b, b < w.heap.size → b = gg → O b := fun b hbl e => by
    rcases hat with ha | ha
    · exact e ▸ h.ov1 gg ha
    · omega
  have hgne : ∀ b, b < w.heap.size → (L.v1 T).ownBlock ≠ some b → gg ≠ b := fun b hbl hne e => by
    rcases hat with ha | ha
    · exact hne (by rw [ha, e])
    · omega
  have l2 : ∀ g, (L.v2 T).ownBlock = some g → g < w.heap.size := fun g hg => h.lt g (.inl (h.ov2 g hg))
  have l3 : ∀ g, (L.v3 T).ownBlock = some g → g < w.heap.size := fun g hg => h.lt g (.inl (h.ov3 g hg))
  have hS : ∀ b, S b → w5.heap[b]? = w.heap[b]? := fun b hb' => hb b (h.lt b (.inr hb')) (fun e => h.dis b hb' (e ▸ h.otb)) (fun e => h.dis b hb' (h.ov1 b e))
  have hmn : (L.v1 T).ownBlock ≠ some L.mb := fun e => (h.d1 _ e).2.1 rfl
  refine ⟨?_, hk.1, hk.2.1, hk.2.2.1, hk.2.2.2, fun b hbl hn => hb b hbl (fun e => hn (e ▸ h.otb)) (fun e => hn (h.ov1 b e))⟩
  exact {
    box := by rw [hv1, hv2, hv3]; exact hbx
    o1 := by rw [hv1]; simp only [hl, cellsF_app]; simpa [cellsF] using hown
    o2 := own_same h.o2 hk.1 hk.2.1 hk.2.2.1 hk.2.2.2 fun g hg => hb g (l2 g hg) (h.d2 g hg).1 (fun e => (h.d1 g e).2.2.1 hg)
    o3 := own_same h.o3 hk.1 hk.2.1 hk.2.2.1 hk.2.2.2 fun g hg => hb g (l3 g hg) (h.d3 g hg).1 (fun e => (h.d1 g e).2.2.2 hg)
    r2 := SlRow.keep (fun p hp => World.cell?_of_block (hS _ hp)) (fun _ h => h) _ h.r2
    r3 := SmRow.keep (fun p hp => World.cell?_of_block (hS _ hp)) (fun _ h => h) _ h.r3
    map := h.map.kept (hb _ h.map.lt (fun e => h.dtm e.symm) hmn)
    mle := by show L.m ≤ (T.ks ++ [f]).length; rw [hl]; have := h.mle; omega
    otb := .inl h.otb
    omb := .inl h.omb
    ov1 := fun g hg => by
      rw [hv1] at hg
      exact .inr (by simpa [Value.ownBlock] using hg.symm)
    ov2 := fun g hg => .inl (h.ov2 g hg)
    ov3 := fun g hg => .inl (h.ov3 g hg)
    dtm := h.dtm
    d1 := fun g hg => by
      rw [hv1] at hg
      obtain rfl : gg = g := by simpa [Value.ownBlock] using hg
      refine ⟨?_, ?_, ?_, ?_⟩
      · exact hgne tb (h.lt tb (.inl h.otb)) (fun e => (h.d1 _ e).1 rfl)
      · exact hgne L.mb h.map.lt hmn
      · intro e
        rw [hv2] at e
        exact hgne gg (l2 gg e) (fun e2 => (h.d1 _ e2).2.2.1 e) rfl
      · intro e
        rw [hv3] at e
        exact hgne gg (l3 gg e) (fun e2 => (h.d1 _ e2).2.2.2 e) rfl
    d2 := fun g hg => h.d2 g hg
    d3 := fun g hg => h.d3 g hg
    lt := fun b hbb => by
      rcases hbb with (h1 | h1) | h1
      · exact Nat.lt_of_lt_of_le (h.lt b (.inl h1)) hk.2.2.2
      · omega
      · exact Nat.lt_of_lt_of_le (h.lt b (.inr h1)) hk.2.2.2
    dis := fun b hs ho => by
      rcases ho with h1 | h1
      · exact h.dis b hs h1
      · exact h.dis b hs (hgO b (h.lt b (.inr hs)) h1)
    fok := fun g hg => by
      rcases List.mem_append.1 hg with h1 | h1
      · exact h.fok g h1
      · rw [List.mem_singleton.1 h1]; exact hf
    sok := h.sok
    mok := h.mok
    kle := ⟨by show (T.ks ++ [f]).length ≤ 1000000; rw [hl]; omega, h.kle.2⟩ }

theorem infoFr : (Try.prog.info? 51).map (fun i => (i.zero, i.size, i.bytes)) = some (some (.agg #[.int .u8 0, .int .u8 0, .int .u8 0, .int .u8 0, .int .u8 0, .int .u8 0, .int .u8 0, .int .u8 0, .int .u8 0, .int .u8 0, .int .u8 0, .int .u8 0, .int .u8 0, .int .u8 0, .int .u8 0, .int .u8 0, .string ⟨#[]⟩, .bool false]), 18, 40) := by kernel_rfl
theorem size18 {KV : Array Value} (h : KV.size = 18) : ∃ a0 a1 a2 a3 a4 a5 a6 a7 a8 a9 a10 a11 a12 a13 a14 a15 a16 a17, KV = #[a0, a1, a2, a3, a4, a5, a6, a7, a8, a9, a10, a11, a12, a13, a14, a15, a16, a17] := by
  obtain ⟨l⟩ := KV
  match l, h with
  | [a0, a1, a2, a3, a4, a5, a6, a7, a8, a9, a10, a11, a12, a13, a14, a15, a16, a17], _ => exact ⟨a0, a1, a2, a3, a4, a5, a6, a7, a8, a9, a10, a11, a12, a13, a14, a15, a16, a17, rfl⟩
theorem fill_from (z : Value) (hz : z = .agg #[.int .u8 0, .int .u8 0, .int .u8 0, .int .u8 0, .int .u8 0, .int .u8 0, .int .u8 0, .int .u8 0, .int .u8 0, .int .u8 0, .int .u8 0, .int .u8 0, .int .u8 0, .int .u8 0, .int .u8 0, .int .u8 0, .string ⟨#[]⟩, .bool false]) (KV : Array Value) (h : KV.size = 18) :
    Instr.fill (fun i => some (i * 18, 18)) ((Array.range (1 * 18)).map (z.cells[· % z.cells.size]!)) [(0, .agg KV)] = some KV := by
  obtain ⟨a0, a1, a2, a3, a4, a5, a6, a7, a8, a9, a10, a11, a12, a13, a14, a15, a16, a17, rfl⟩ := size18 h
  subst hz
  kernel_rfl
/-- a row of cells that is loaded whole, in a region -/
theorem run_load_row {w : World} {g : Nat} {t ty : TypeId} {cs : Array Value} {fr : Nat × Nat} {fs : Array Field} {a : Act} {x : Operand} {o : Oper} (hg : w.heap[g]? = some (.cells cs t fr))
    (hu : Try.prog.underlying ty = some (.struct fs)) (hi : (Try.prog.info? ty).map (·.size) = some cs.size) (ho : o.op = .load ty x) (hx : a.eval x = .pointer (some ⟨g, 0, none⟩)) :
    (execOp a.eval o).run Try.prog w = .ok (.value (.agg cs)) w := by
  unfold execOp
  simp only [ho, hx, Instr.loadAt, Instr.sureAddr, Sem.run_bind, Sem.run_pure, Result.andThen_ok, run_loadVar_row w g t ty cs fr _ hg hu rfl hi]
end Go.Proofs.Ytcgkjcfckbplmaa.Sym
