/-
  base: a base in memory; where a name stands, New, lives, Get.
-/
import Derived.Test.YtlngbpipmaaedaaBav
namespace Go.Proofs.Ytlngbpipmaaedaa.Ba
open Go.RowKit
open Go.Proofs.Ytlngbpipmaaedaa.Kit
set_option linter.unusedVariables false

def ob (A : Option Addr) : Option Nat := A.map (·.block)
theorem ob_slice (A : Option Addr) (n c : Nat) : (Value.slice A n c).ownBlock = ob A := by cases A <;> rfl
/-- what a call leaves of the rows -/
def Rws (R : Nat → Prop) (w w' : World) : Prop := w.heap.size ≤ w'.heap.size ∧ ∀ b, R b → w'.heap[b]? = w.heap[b]?
/-- a base at bb with all of L in it -/
structure BsAt (w : World) (bb B : Nat) (A : Option Addr) (c : Nat) (L : List Us) : Prop where
  row : w.heap[bb]? = some (.cells #[.slice A L.length c] 65 (0, 0))
  own : w.ownsRow B 30 20 (.slice A L.length c) L.length (cellsU L)
  k16 : ∀ u ∈ L, u.key.length = 16
  ne : ob A ≠ some bb
  lt : B ≤ bb
/-- such a base, rows R beside it; all that turned since w0 lies behind it -/
def Bs (w0 w : World) (bb : Nat) (L : List Us) (R : Nat → Prop) : Prop :=
  ∃ A c, BsAt w bb w0.heap.size A c L ∧ (∀ b, R b → b ≠ bb ∧ ob A ≠ some b ∧ b < w.heap.size) ∧ Below w0.heap.size w0 w
theorem Bs.bel {w0 w : World} {bb : Nat} {L : List Us} {R : Nat → Prop} (h : Bs w0 w bb L R) : Below w0.heap.size w0 w := by
  obtain ⟨_, _, _, _, h⟩ := h
  exact h
theorem own_sameB {w w' : World} {base n s : Nat} {v : Value} {e : TypeId} {xs : List Value} (h : w.ownsRow base e s v n xs) (ho : w'.os = w.os) (ht : w'.tape = w.tape) (hu : w'.output = w.output) (hz : w.heap.size ≤ w'.heap.size) (hb : ∀ g, v.ownBlock = some g → w'.heap[g]? = w.heap[g]?) : w'.ownsRow base e s v n xs := by
  refine ⟨h.1, ?_⟩
  rcases h.2 with h1 | ⟨g, cap, cur, h1, h2, h3, h4⟩
  · exact .inl h1
  · exact .inr ⟨g, cap, cur, h1, h2, (hb g (by rw [h1]; rfl)).trans h3, h4⟩
theorem BsAt.below {w w' : World} {bb B c : Nat} {A : Option Addr} {L : List Us} (h : BsAt w bb B A c L) (hb : Below w.heap.size w w') : BsAt w' bb B A c L :=
  { h with
    row := (hb.block bb (Array.getElem?_eq_some_iff.1 h.row).1).trans h.row
    own := own_sameB h.own hb.os hb.tape hb.output hb.size fun g hg => hb.block g (h.own.lt g hg).2 }
theorem Bs.below {w0 w w' : World} {bb : Nat} {L : List Us} {R : Nat → Prop} (h : Bs w0 w bb L R) (hb : Below w.heap.size w w') : Bs w0 w' bb L R ∧ Rws R w w' := by
  obtain ⟨A, c, h1, h2, h3⟩ := h
  exact ⟨⟨A, c, h1.below hb, fun b hR => ⟨(h2 b hR).1, (h2 b hR).2.1, Nat.lt_of_lt_of_le (h2 b hR).2.2 hb.size⟩, below_seq h3 hb⟩, hb.size, fun b hR => hb.block b (h2 b hR).2.2⟩
theorem Bs.weak {w0 w : World} {bb : Nat} {L : List Us} {R R' : Nat → Prop} (h : Bs w0 w bb L R) (hR : ∀ b, R' b → R b) : Bs w0 w bb L R' := by
  obtain ⟨A, c, h1, h2, h3⟩ := h
  exact ⟨A, c, h1, fun b hb => h2 b (hR b hb), h3⟩
theorem BsAt.lts {w : World} {bb B c : Nat} {A : Option Addr} {L : List Us} (h : BsAt w bb B A c L) : bb < w.heap.size ∧ ∀ g, ob A = some g → B ≤ g ∧ g < w.heap.size :=
  ⟨(Array.getElem?_eq_some_iff.1 h.row).1, fun g hg => h.own.lt g (by rw [ob_slice]; exact hg)⟩
/-- more rows beside it -/
theorem Bs.add {w0 w w' : World} {bb : Nat} {L : List Us} {R R' : Nat → Prop} (h : Bs w0 w bb L R) (hb : Below w.heap.size w w') (hR : ∀ b, R' b → R b ∨ (w.heap.size ≤ b ∧ b < w'.heap.size)) : Bs w0 w' bb L R' := by
  obtain ⟨A, c, h1, h2, h3⟩ := h
  refine ⟨A, c, h1.below hb, fun b hx => ?_, below_seq h3 hb⟩
  rcases hR b hx with hx | hx
  · exact ⟨(h2 b hx).1, (h2 b hx).2.1, Nat.lt_of_lt_of_le (h2 b hx).2.2 hb.size⟩
  · exact ⟨by have := h1.lts.1; omega, fun e => by have := (h1.lts.2 b e).2; omega, hx.2⟩
set_option maxRecDepth 100000 in
set_option maxHeartbeats 2000000 in
theorem place_any {w : World} {bb B c : Nat} {A : Option Addr} {L : List Us} (h : BsAt w bb B A c L) (hz : L.length ≤ 1000000) (s : ByteArray) :
    Calls Try.prog 25 #[.pointer (some ⟨bb, 0, none⟩), .string s] w fun e w' => e = .returned (.int .i64 (findU L s)) ∧ Below w.heap.size w w' := by
  obtain ⟨W1, hW1⟩ : ∃ q, q = w.alloc (.cells #[.string s] 9) := ⟨_, rfl⟩
  have hb : Below w.heap.size w W1 := by rw [hW1]; exact below_of_new _ _
  have hr : W1.heap[w.heap.size]? = some (.cells #[.string s] 9 (0, 0)) := by rw [hW1]; exact heap_alloc_new _ _
  have hp : W1.cell? ⟨w.heap.size, 0, none⟩ = some (.string s) := by rw [cell_of_row _ _ _ _ _ _ hr]; rfl
  have h1 := h.below hb
  have c0 : W1.cell? ⟨bb, 0, none⟩ = some (.slice A L.length c) := by rw [cell_of_row _ _ _ _ _ _ h1.row]; rfl
  have hix := idx_any (w := W1) (p := w.heap.size) (c := c) (s := s) (L := L) (n := L.length) rfl hz (fun j u hj => own_us h1.own h1.k16 hj) h1.k16 hp
  obtain ⟨V, hV⟩ : ∃ z, z = findU L s := ⟨_, rfl⟩
  rw [← hV] at hix ⊢
  have HB := Lib.hid hb
  have HW := Lib.hid hW1.symm
  clear hb hr hp h1 hW1 hV h hz
  go_enter Try.func25, Try.ntmps25
  go_wp2_with (rw [HW.out])
  refine hix.mono ?_
  rintro e w' ⟨rfl, hb'⟩
  go_wp2
  go_ret
  exact ⟨rfl, below_seq HB.out hb'⟩
theorem new_any (w : World) : Calls Try.prog 7 #[] w fun e w' => ∃ bb, e = .returned (.pointer (some ⟨bb, 0, none⟩)) ∧ Bs w w' bb [] (fun _ => False) := by
  have hb : Below w.heap.size w (w.alloc (.cells #[.slice none 0 0] 65)) := below_of_new _ _
  have HR := Lib.hid (show Bs w (w.alloc (.cells #[.slice none 0 0] 65)) w.heap.size [] (fun _ => False) from
    ⟨none, 0, ⟨heap_alloc_new _ _, ⟨rfl, .inl ⟨rfl, rfl⟩⟩, fun u hu => (by cases hu), (by intro e; cases e), Nat.le_refl _⟩, fun b hb => hb.elim, hb⟩)
  clear hb
  go_enter Try.func7, Try.ntmps7
  go_wp2
  go_ret
  exact ⟨_, rfl, HR.out⟩
/-- may tickets be given, and renewed, for so long? -/
def Us.lives (u : Us) : Bool := decide (1 ≤ u.life) && (decide (u.life ≤ 600) && (decide (0 ≤ u.ren) && decide (u.ren ≤ 6000)))
theorem us_row {w : World} {g : Nat} {t : TypeId} {u : Us} (h : w.heap[g]? = some (.cells u.arr t (0, 0))) (hl : u.key.length = 16) :
    w.cell? ⟨g, 0, none⟩ = some (.string u.nm) ∧ w.rangeAt g 1 (u.key.map bv) ∧ w.cell? ⟨g, 17, none⟩ = some (.int .i64 u.life) ∧ w.cell? ⟨g, 18, none⟩ = some (.int .i64 u.ren) ∧ w.cell? ⟨g, 19, none⟩ = some (.bool u.mesh) := by
  have hc : ∀ i, w.cell? ⟨g, i, none⟩ = u.cells[i]? := fun i => by rw [cell_of_row _ _ _ _ _ _ h]; simp [Us.arr]
  have hx : ∀ i, 16 ≤ i → u.cells[i + 1]? = ([.int .i64 u.life, .int .i64 u.ren, .bool u.mesh] : List Value)[i - 16]? := fun i hi => by
    rw [Us.cells, List.getElem?_cons_succ, List.getElem?_append_right (by simp [hl]; exact hi), List.length_map, hl]
  refine ⟨by rw [hc]; rfl, fun j v hj => ?_, by rw [hc, hx 16 (by omega)]; rfl, by rw [hc, hx 17 (by omega)]; rfl, by rw [hc, hx 18 (by omega)]; rfl⟩
  have hj16 : j < 16 := by have := (List.getElem?_eq_some_iff.1 hj).1; rwa [List.length_map, hl] at this
  rw [hc, Us.cells, Nat.add_comm, List.getElem?_cons_succ, List.getElem?_append_left (by rw [List.length_map, hl]; exact hj16)]
  exact hj
theorem lives_any {w : World} {u : Us} (hu : u.key.length = 16) : Calls Try.prog 24 #[.agg u.arr] w fun e w' => e = .returned (.bool u.lives) ∧ Below w.heap.size w w' := by
  obtain ⟨W1, hW1⟩ : ∃ q, q = w.alloc (.cells u.arr 30) := ⟨_, rfl⟩
  have HB := Lib.hid (show Below w.heap.size w W1 from by rw [hW1]; exact below_of_new _ _)
  obtain ⟨_, _, q17, q18, _⟩ := us_row (w := W1) (g := w.heap.size) (t := 30) (u := u) (by rw [hW1]; exact heap_alloc_new _ _) hu
  obtain ⟨UV, hUV⟩ : ∃ z, z = u.arr := ⟨_, rfl⟩
  rw [← hUV] at hW1 ⊢
  have HW := Lib.hid hW1.symm
  have hV : u.lives = (decide (1 ≤ u.life) && (decide (u.life ≤ 600) && (decide (0 ≤ u.ren) && decide (u.ren ≤ 6000)))) := rfl
  obtain ⟨V, hV2⟩ : ∃ z, z = u.lives := ⟨_, rfl⟩
  rw [← hV2] at hV ⊢
  have HV := Lib.hid hV
  clear hW1 hUV hV hV2
  by_cases a1 : (1 : Int) ≤ u.life
  · by_cases a2 : u.life ≤ 600
    · by_cases a3 : (0 : Int) ≤ u.ren
      · by_cases a4 : u.ren ≤ 6000
        · have e := HV.out
          simp only [a1, a2, a3, a4, decide_true, Bool.and_true] at e
          subst e
          go_enter Try.func24, Try.ntmps24
          go_wp2_with (rw [HW.out])
          go_ret
          exact ⟨rfl, HB.out⟩
        · have e := HV.out
          simp only [a1, a2, a3, a4, decide_true, decide_false, Bool.and_false] at e
          subst e
          go_enter Try.func24, Try.ntmps24
          go_wp2_with (rw [HW.out])
          go_ret
          exact ⟨rfl, HB.out⟩
      · have e := HV.out
        simp only [a1, a2, a3, decide_true, decide_false, Bool.false_and, Bool.and_false] at e
        subst e
        go_enter Try.func24, Try.ntmps24
        go_wp2_with (rw [HW.out])
        go_ret
        exact ⟨rfl, HB.out⟩
    · have e := HV.out
      simp only [a1, a2, decide_true, decide_false, Bool.false_and, Bool.and_false] at e
      subst e
      go_enter Try.func24, Try.ntmps24
      go_wp2_with (rw [HW.out])
      go_ret
      exact ⟨rfl, HB.out⟩
  · have e := HV.out
    simp only [a1, decide_false, Bool.false_and] at e
    subst e
    go_enter Try.func24, Try.ntmps24
    go_wp2_with (rw [HW.out])
    go_ret
    exact ⟨rfl, HB.out⟩
end Go.Proofs.Ytlngbpipmaaedaa.Ba
