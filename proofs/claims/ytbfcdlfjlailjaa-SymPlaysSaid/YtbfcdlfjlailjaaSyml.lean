/-
  sym's Seal: the worlds between, plainly.
-/
import Derived.Test.YtbfcdlfjlailjaaSymj
namespace Go.Proofs.Ytbfcdlfjlailjaa.Sym
open Go.RowKit
open Go.Proofs.Ytbfcdlfjlailjaa.Kit
open Go.Proofs.Ytbfcdlfjlailjaa.Oct
set_option linter.unusedVariables false

theorem infoSl : (Try.prog.info? 41).map (fun i => (i.zero, i.size, i.bytes)) = some (some (.agg #[.int .u8 0, .int .u8 0, .int .u8 0, .int .u8 0, .int .u8 0, .int .u8 0, .int .u8 0, .int .u8 0, .int .u8 0, .int .u8 0, .int .u8 0, .int .u8 0, .int .u8 0, .int .u8 0, .int .u8 0, .int .u8 0, .int .i64 0, .slice none 0 0]), 18, 48) := by kernel_rfl
theorem fill_seal (z : Value) (hz : z = .agg #[.int .u8 0, .int .u8 0, .int .u8 0, .int .u8 0, .int .u8 0, .int .u8 0, .int .u8 0, .int .u8 0, .int .u8 0, .int .u8 0, .int .u8 0, .int .u8 0, .int .u8 0, .int .u8 0, .int .u8 0, .int .u8 0, .int .i64 0, .slice none 0 0]) (KV : Array Value) (h : KV.size = 18) :
    Instr.fill (fun i => some (i * 18, 18)) ((Array.range (1 * 18)).map (z.cells[· % z.cells.size]!)) [(0, .agg KV)] = some KV := by
  obtain ⟨a0, a1, a2, a3, a4, a5, a6, a7, a8, a9, a10, a11, a12, a13, a14, a15, a16, a17, rfl⟩ := size18 h
  subst hz
  kernel_rfl
theorem rdS_own {w : World} {base n c : Nat} {A : Option Addr} {e : TypeId} {xs : List Value} {S : Nat → Prop} (h : w.ownsRow base e 1 (.slice A n c) n xs) (hS : ∀ b, base ≤ b → b < w.heap.size → S b) : RdS w S A n c xs := by
  have hr := Rd.of_own h
  refine ⟨hr.1, hr.2.1, hr.2.2.1, fun hn => ?_⟩
  obtain ⟨g, cap, hv, hb, hl⟩ := h.form hn
  injection hv with h1 h2 h3
  refine ⟨g, 0, h1, hS g hb hl, fun j u hu => ?_⟩
  rw [h1] at h
  rw [Nat.zero_add, h.cellAt j (by have := (List.getElem?_eq_some_iff.1 hu).1; have := hr.1; omega)]
  exact hu
theorem seal_fin {w w1 w3 w5 w8 : World} {tb gg g cap n c' : Nat} {A' : Option Addr} {L : Lay} {O S : Nat → Prop} {T : Tab} {s : Sl} {O1 : Obj} {e8 : TypeId} (h : TabAt w tb L O S T) (hs : s.ok) (hlen : T.bs.length < 1000000)
    (hW : Below w.heap.size w w1) (hs1 : w1.heap.size = w.heap.size + 1) (h3 : Below w1.heap.size w1 w3) (hn : n = s.body.length)
    (ho3 : w3.ownsRow w1.heap.size e8 1 (.slice A' n c') n (s.body.map bv))
    (hg : (w3.alloc O1).grownBy w5 (L.v2 T).ownBlock) (hat : (L.v2 T).ownBlock = some gg ∨ gg = w3.heap.size + 1) (hlt : gg < w5.heap.size)
    (hown : w5.ownsRow 0 41 18 (.slice (some ⟨gg, 0, none⟩) (T.bs.length + 1) cap) (T.bs.length + 1) (L.x2 ++ (s.key.map bv ++ [.int .i64 s.us, .slice A' n c'])))
    (h8 : Below (w5.setCell ⟨tb, 1, none⟩ (.slice (some ⟨gg, 0, none⟩) (T.bs.length + 1) cap)).heap.size (w5.setCell ⟨tb, 1, none⟩ (.slice (some ⟨gg, 0, none⟩) (T.bs.length + 1) cap)) w8) (hgg : w5.heap.size ≤ g) (hgg8 : g < w8.heap.size) :
    ∃ L' O' S', TabAt w8 tb L' O' S' { T with bs := T.bs ++ [s] } ∧ Kept O w w8 ∧ (∀ b, O' b → O b ∨ w.heap.size ≤ b) ∧ (∀ b, S' b → S b ∨ w.heap.size ≤ b) ∧ ∀ b, O' b ∨ S' b → b ≠ g := by
  subst hn
  have htb : tb < w.heap.size := h.lt tb (.inl h.otb)
  have htn : (L.v2 T).ownBlock ≠ some tb := fun e => (h.d2 _ e).1 rfl
  have s0 : (w3.alloc O1).heap.size = w3.heap.size + 1 := by simp
  have s3 := h3.size
  have s5 := hg.size
  rw [s0] at s5
  have l2 : ∀ q, (L.v2 T).ownBlock = some q → q < w.heap.size := fun q hq => h.lt q (.inl (h.ov2 q hq))
  have hb1 : ∀ b, b < w3.heap.size → (L.v2 T).ownBlock ≠ some b → w5.heap[b]? = w3.heap[b]? := fun b hb hne => by
    rw [hg.block b (by omega) (fun e => hne e.symm), heap_alloc_old _ _ hb]
  have hb0 : ∀ b, b < w.heap.size → w3.heap[b]? = w.heap[b]? := fun b hb => by rw [h3.block b (by omega), hW.block b hb]
  have hgt : gg ≠ tb := fun e => by
    rcases hat with ha | ha
    · exact htn (by rw [ha, e])
    · omega
  have s8 := h8.size
  rw [World.size_setCell] at s8
  have hb5 : ∀ b, b < w5.heap.size → b ≠ tb → w8.heap[b]? = w5.heap[b]? := fun b hb h1 => by
    rw [h8.block b (by rw [World.size_setCell]; exact hb), heap_setCell_other _ _ _ _ h1]
  have hos : w8.os = w5.os := h8.os
  have hta : w8.tape = w5.tape := h8.tape
  have hou : w8.output = w5.output := h8.output
  have hgr : gg < w.heap.size ∨ gg = w3.heap.size + 1 := hat.imp_left (l2 gg)
  have key := h.more2 (w5 := w8) (gg := gg) (cap := cap) (s := s) (A := A') (c := c') (S' := fun b => S b ∨ (w1.heap.size ≤ b ∧ b < w3.heap.size)) hs hlen
    (by
      rw [h8.block tb (by rw [World.size_setCell]; omega)]
      have hq := (hb1 tb (by omega) htn).trans ((hb0 tb htb).trans h.box)
      exact heap_setCell_same _ _ _ _ _ _ hq)
    (own_same hown hos hta hou s8 fun q hq => by
      obtain rfl : gg = q := by simpa [Value.ownBlock] using hq
      exact hb5 gg hlt hgt)
    ((rdS_own (S := fun b => w1.heap.size ≤ b ∧ b < w3.heap.size) ho3 (fun b h1 h2 => ⟨h1, h2⟩)).keep (fun p hp => World.cell?_of_block (by
      rw [hb5 _ (by omega) (by omega), hb1 _ hp.2 (fun e => by have := l2 _ e; omega)])) (fun b hb => .inr hb))
    (fun b hb => .inl hb) (fun b hb => hb.imp_right fun h1 => ⟨by omega, by omega, by omega⟩)
    (hat.imp_right fun e => by omega) (by omega)
    ⟨hos.trans (hg.os.trans (h3.os.trans hW.os)), hta.trans (hg.tape.trans (h3.tape.trans hW.tape)), hou.trans (hg.output.trans (h3.output.trans hW.output)), by omega⟩
    (fun b hb h1 h2 => by rw [hb5 b (by omega) h1, hb1 b (by omega) h2, hb0 b hb])
  refine ⟨_, _, _, key.1, key.2, fun b hb => ?_, fun b hb => hb.imp_right fun h1 => by omega, fun b hb => ?_⟩
  · rcases hb with h1 | h1
    · exact .inl h1
    · rcases hat with ha | ha
      · exact .inl (h1 ▸ h.ov2 gg ha)
      · exact .inr (by omega)
  · rcases hb with (h1 | h1) | (h1 | h1)
    · have := h.lt b (.inl h1); omega
    · omega
    · have := h.lt b (.inr h1); omega
    · omega
end Go.Proofs.Ytbfcdlfjlailjaa.Sym
