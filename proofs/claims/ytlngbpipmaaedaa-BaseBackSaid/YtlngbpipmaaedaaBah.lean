/-
  base: Drop.
-/
import Derived.Test.YtlngbpipmaaedaaBag
namespace Go.Proofs.Ytlngbpipmaaedaa.Ba
open Go.RowKit
open Go.Proofs.Ytlngbpipmaaedaa.Kit
set_option linter.unusedVariables false

/-- all without somebody, and the error's number -/
def dropU (L : List Us) (s : ByteArray) : List Us × Int := if findU L s < 0 then (L, 9) else (cutU L (findU L s).toNat, 0)
/-- somebody was cut off -/
theorem Bs.cut {w0 w w3 : World} {bb c g m i : Nat} {L : List Us} {R : Nat → Prop} (h : BsAt w bb w0.heap.size (some ⟨g, 0, none⟩) c L) (hR : ∀ b, R b → b ≠ bb ∧ ob (some ⟨g, 0, none⟩) ≠ some b ∧ b < w.heap.size) (hb : Below w0.heap.size w0 w) (hL : L.length = m + 1) (hi : i ≤ m)
    (hown : w3.ownsRow w0.heap.size 30 20 (.slice (some ⟨g, 0, none⟩) m c) m (cellsU (cutU L i))) (hg : w.grownBy w3 (some g)) :
    Bs w0 (w3.setCell ⟨bb, 0, none⟩ (.slice (some ⟨g, 0, none⟩) m c)) bb (cutU L i) R ∧ Rws R w (w3.setCell ⟨bb, 0, none⟩ (.slice (some ⟨g, 0, none⟩) m c)) := by
  have hbl := h.lts.1
  have hne : g ≠ bb := fun q => h.ne (by rw [q]; rfl)
  have hrow : w3.heap[bb]? = some (.cells #[.slice (some ⟨g, 0, none⟩) L.length c] 65 (0, 0)) := (hg.block bb hbl (fun e => hne (Option.some.inj e).symm)).trans h.row
  have hlen : (cutU L i).length = m := by have := cutU_len (L := L) (i := i) (by omega); omega
  have hbel : Below w0.heap.size w0 w3 := hb.grown hg hb.size (fun b e => by rw [← Option.some.inj e]; exact (h.lts.2 g rfl).1)
  refine ⟨⟨some ⟨g, 0, none⟩, c, ⟨?_, ?_, fun x hx => h.k16 x (cutU_mem hx), h.ne, h.lt⟩, fun b hx => ⟨(hR b hx).1, (hR b hx).2.1, ?_⟩, below_cell hbel h.lt⟩, ?_, fun b hx => ?_⟩
  · rw [hlen]; exact heap_setCell_same _ _ _ _ _ _ hrow
  · rw [hlen]
    exact own_sameB hown rfl rfl rfl (by rw [World.size_setCell]; exact Nat.le_refl _) fun b e => by
      have : g = b := Option.some.inj e
      exact heap_setCell_other _ _ _ _ (by show b ≠ bb; omega)
  · rw [World.size_setCell]; have := (hR b hx).2.2; have := hg.size; omega
  · rw [World.size_setCell]; exact hg.size
  · rw [heap_setCell_other _ _ _ _ (by show b ≠ bb; exact (hR b hx).1)]
    exact hg.block b (hR b hx).2.2 (fun e => (hR b hx).2.1 e.symm)
set_option maxRecDepth 100000 in
set_option maxHeartbeats 4000000 in
theorem drop_any {w0 w : World} {bb : Nat} {L : List Us} {R : Nat → Prop} (h : Bs w0 w bb L R) (hz : L.length ≤ 100000) (s : ByteArray) :
    Calls Try.prog 12 #[.pointer (some ⟨bb, 0, none⟩), .string s] w fun e w' => e = .returned (.int .i64 (dropU L s).2) ∧ Bs w0 w' bb (dropU L s).1 R ∧ Rws R w w' := by
  obtain ⟨A, c, x1, x2, x3⟩ := h
  have hpl := place_any x1 (by omega) s
  have hlt := findU_lt L s
  obtain ⟨V, hV⟩ : ∃ z, z = findU L s := ⟨_, rfl⟩
  rw [← hV] at hpl hlt
  have hg : dropU L s = if V < 0 then (L, 9) else (cutU L V.toNat, 0) := by rw [hV]; rfl
  obtain ⟨G, hG⟩ : ∃ z, z = dropU L s := ⟨_, rfl⟩
  rw [← hG] at hg ⊢
  have HG := Lib.hid hg
  have HX1 := Lib.hid x1
  have HX2 := Lib.hid x2
  have HX3 := Lib.hid x3
  clear x1 x2 x3 hV hG hg
  by_cases h0 : V < 0
  · have d0 : decide (V < 0) = true := decide_eq_true h0
    have e := HG.out
    rw [if_pos h0] at e
    subst e
    go_enter Try.func12, Try.ntmps12
    go_wp2_with fail
    refine hpl.mono ?_
    rintro e w2 ⟨rfl, hb2⟩
    have hfin := (show Bs w0 w bb L R from ⟨A, c, HX1.out, HX2.out, HX3.out⟩).below hb2
    have HF := Lib.hid hfin
    clear hfin
    go_wp2
    go_ret
    exact ⟨rfl, HF.out⟩
  · have d0 : decide (V < 0) = false := decide_eq_false h0
    obtain ⟨k, rfl⟩ : ∃ k : Nat, V = k := ⟨V.toNat, by omega⟩
    obtain ⟨m, hm⟩ : ∃ m, L.length = m + 1 := ⟨L.length - 1, by omega⟩
    have e := HG.out
    rw [if_neg h0, Int.toNat_natCast] at e
    subst e
    have hkm : k ≤ m := by omega
    obtain ⟨u, hu⟩ : ∃ u, L[k]? = some u := ⟨L[k]'(by omega), List.getElem?_eq_getElem _⟩
    obtain ⟨g, rfl, _, _⟩ := own_us HX1.out.own HX1.out.k16 hu
    obtain ⟨n, hn⟩ : ∃ q, q = L.length := ⟨_, rfl⟩
    obtain ⟨j, hj⟩ : ∃ q, q = k + 1 := ⟨_, rfl⟩
    have hij : (k : Int) + 1 = (j : Int) := by omega
    have hwj : IntKind.i64.wrap (j : Int) = (j : Int) := by rw [IntKind.wrap_i64]; omega
    have HN := Lib.hid hn
    have HJ := Lib.hid hj
    have HM := Lib.hid hm
    clear hu hn hj hm
    go_enter Try.func12, Try.ntmps12
    go_wp2_with fail
    refine hpl.mono ?_
    rintro e w2 ⟨rfl, hb2⟩
    have y1 := HX1.out.below hb2
    have c2 : w2.cell? ⟨bb, 0, none⟩ = some (.slice (some ⟨g, 0, none⟩) n c) := by rw [cell_of_row _ _ _ _ _ _ y1.row, HN.out]; rfl
    have hdel := delete_any (w := w2) (n := n) (i := k) (j := j) (m := m) y1.k16 HM.out hkm (by rw [HN.out, HM.out]) HJ.out (by rw [HN.out]; exact y1.own) (by have := HM.out; omega)
    have HY := Lib.hid y1
    have HB2 := Lib.hid hb2
    clear y1 hb2
    go_wp2_with fail
    refine hdel.mono ?_
    rintro e w3 ⟨rfl, ho3, hg3⟩
    have hx3 : w3.heap[bb]? = some (.cells #[.slice (some ⟨g, 0, none⟩) L.length c] 65 (0, 0)) := (hg3.block bb HY.out.lts.1 (fun e => HY.out.ne e.symm)).trans HY.out.row
    have c3 : w3.cell? ⟨bb, 0, none⟩ = some (.slice (some ⟨g, 0, none⟩) L.length c) := (cell_of_row w3 bb 0 _ _ (0, 0) hx3).trans rfl
    have f3 : w3.frozen? ⟨bb, 0, none⟩ = false := frozen_of_row w3 bb 0 _ _ hx3
    have hR2 : ∀ b, R b → b ≠ bb ∧ ob (some ⟨g, 0, none⟩) ≠ some b ∧ b < w2.heap.size := fun b hb => ⟨(HX2.out b hb).1, (HX2.out b hb).2.1, Nat.lt_of_lt_of_le (HX2.out b hb).2.2 HB2.out.size⟩
    have hfin := Bs.cut HY.out hR2 (below_seq HX3.out HB2.out) HM.out hkm ho3 hg3
    have HF := Lib.hid hfin
    have HRW := Lib.hid (show Rws R w w2 from ⟨HB2.out.size, fun b hb => HB2.out.block b (HX2.out b hb).2.2⟩)
    clear hfin hx3 hR2 ho3 hg3 hdel
    go_wp2
    go_ret
    exact ⟨rfl, HF.out.1, Nat.le_trans HRW.out.1 HF.out.2.1, fun b hb => (HF.out.2.2 b hb).trans (HRW.out.2 b hb)⟩
end Go.Proofs.Ytlngbpipmaaedaa.Ba
