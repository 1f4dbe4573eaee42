/-
  base: a base and a book side by side.
-/
import Derived.Test.YtlngbpipmaaedaaBal
namespace Go.Proofs.Ytlngbpipmaaedaa.Ba
open Go.RowKit
open Go.Proofs.Ytlngbpipmaaedaa.Kit
open Go.Maps
set_option linter.unusedVariables false

/-- a base and a book, rows R beside them -/
structure Two (w0 w : World) (bb kb mb n : Nat) (L : List Us) (D : DM) (R : Nat → Prop) : Prop where
  bs : Bs w0 w bb L (fun b => R b ∨ b = kb ∨ b = mb)
  bk : BkAt w kb mb n D
  lt : w0.heap.size ≤ mb
  ne : ∀ b, R b → b ≠ mb
theorem ownsMap_same {w w' : World} {mb n : Nat} {D : DM} (h : w.ownsMap Try.prog 9 Pe mb n D) (hb : w'.heap[mb]? = w.heap[mb]?) : w'.ownsMap Try.prog 9 Pe mb n D := by
  obtain ⟨es, clock, h1, h2, h3, h4⟩ := h
  exact ⟨es, clock, hb.trans h1, h2, h3, h4⟩
section
variable {w0 w w' : World} {bb kb mb n n' : Nat} {L L' : List Us} {D D' : DM} {R R' : Nat → Prop}
theorem Two.below (h : Two w0 w bb kb mb n L D R) (hb : Below w.heap.size w w') : Two w0 w' bb kb mb n L D R :=
  ⟨(h.bs.below hb).1, h.bk.below hb, h.lt, h.ne⟩
/-- the base was turned -/
theorem Two.base (h : Two w0 w bb kb mb n L D R) (hb : Bs w0 w' bb L' (fun b => R b ∨ b = kb ∨ b = mb)) (hr : Rws (fun b => R b ∨ b = kb ∨ b = mb) w w') : Two w0 w' bb kb mb n L' D R :=
  ⟨hb, ⟨(hr.2 kb (.inr (.inl rfl))).trans h.bk.row, ownsMap_same h.bk.own (hr.2 mb (.inr (.inr rfl)))⟩, h.lt, h.ne⟩
/-- the book is turned by a call: what the call needs, and what it leaves -/
theorem Two.book (h : Two w0 w bb kb mb n L D R) : ∃ R2 : Nat → Prop, Bk w0 w kb n D R2 ∧ ∀ w' n' D', Bk w0 w' kb n' D' R2 → Rws R2 w w' → Two w0 w' bb kb mb n' L D' R ∧ Rws R w w' := by
  obtain ⟨A, c, x1, x2, x3⟩ := h.bs
  refine ⟨fun b => R b ∨ b = kb ∨ b = bb ∨ ob A = some b, ⟨mb, h.bk, h.lt, fun b hb => ?_, x3⟩, fun w' n' D' hk hr => ?_⟩
  · rcases hb with hb | hb | hb | hb
    · exact ⟨h.ne b hb, (x2 b (.inl hb)).2.2⟩
    · subst hb; exact ⟨h.bk.ne, (x2 _ (.inr (.inl rfl))).2.2⟩
    · subst hb; exact ⟨fun e => (x2 mb (.inr (.inr rfl))).1 e.symm, x1.lts.1⟩
    · exact ⟨fun e => (x2 mb (.inr (.inr rfl))).2.1 (by rw [hb, e]), (x1.lts.2 b hb).2⟩
  · obtain ⟨mb', y1, y2, y3, y4⟩ := hk
    have hrow := (hr.2 kb (.inr (.inl rfl))).trans h.bk.row
    rw [y1.row] at hrow
    obtain rfl : mb' = mb := by
      have e := Option.some.inj hrow
      injection e with e1
      simp at e1
      exact e1
    refine ⟨⟨⟨A, c, ⟨(hr.2 bb (.inr (.inr (.inl rfl)))).trans x1.row, ?_, x1.k16, x1.ne, x1.lt⟩, fun b hb => ⟨(x2 b hb).1, (x2 b hb).2.1, Nat.lt_of_lt_of_le (x2 b hb).2.2 hr.1⟩, y4⟩, y1, y2, h.ne⟩, hr.1, fun b hb => hr.2 b (.inl hb)⟩
    exact own_sameB x1.own (y4.os.trans x3.os.symm) (y4.tape.trans x3.tape.symm) (y4.output.trans x3.output.symm) hr.1 fun g hg => hr.2 g (.inr (.inr (.inr (by rw [← ob_slice A L.length c]; exact hg))))
theorem Two.start {w1 w2 : World} (h1 : Bs w w1 bb [] (fun _ => False)) (h2 : Bk w1 w2 kb 0 (.map []) (fun _ => False)) (hkb : w1.heap.size ≤ kb) : ∃ mb, Two w w2 bb kb mb 0 [] (.map []) (fun _ => False) := by
  obtain ⟨mb, x1, x2, x3, x4⟩ := h2
  refine ⟨mb, h1.add x4 fun b hb => ?_, x1, Nat.le_trans h1.bel.size x2, fun b hb => hb.elim⟩
  rcases hb with hb | rfl | rfl
  · exact hb.elim
  · exact .inr ⟨hkb, (Array.getElem?_eq_some_iff.1 x1.row).1⟩
  · exact .inr ⟨x2, x1.own.lt⟩
end
def annS : ByteArray := ⟨#[97, 110, 110]⟩
def ann : Us := ⟨annS, List.replicate 16 0, 60, 0, false⟩
theorem ann_built : Try.prog.built 30 [(0, .string annS), (2, .int .i64 60)] = some ann.arr := by kernel_rfl
theorem ann_right : Nam.rightS annS = true := by first | decide +kernel | kernel_rfl
theorem add1 : addU [] ann = ([ann], 0) := by
  unfold addU
  rw [show ann.nm = annS from rfl, ann_right]
  rfl
theorem find1 : findU [ann] annS = 0 := by unfold findU; rw [if_pos (show ann.nm = annS from rfl)]
theorem add2 : addU [ann] ann = ([ann], 10) := by
  unfold addU
  rw [show ann.nm = annS from rfl, ann_right, find1]
  rfl
theorem get1 : getU [ann] annS = (ann, 0) := by
  unfold getU
  rw [find1]
  rfl
theorem drop1 : dropU [ann] annS = ([], 0) := by
  unfold dropU
  rw [find1]
  rfl
theorem set1 : setD 5 annS 9 [] = (.map [(keyL annS, .lit (.int .i64 9))], 0) := by
  unfold setD
  rw [ann_right]
  rfl
theorem find8 : findD 8 annS (.map [(keyL annS, .lit (.int .i64 9))]) = (9, true) := by
  unfold findD
  rw [if_pos ⟨by kernel_rfl, by decide +kernel⟩]
  congr 1
theorem find9 : findD 9 annS (.map [(keyL annS, .lit (.int .i64 9))]) = (0, false) := by
  unfold findD
  rw [if_neg (by decide +kernel)]
end Go.Proofs.Ytlngbpipmaaedaa.Ba
