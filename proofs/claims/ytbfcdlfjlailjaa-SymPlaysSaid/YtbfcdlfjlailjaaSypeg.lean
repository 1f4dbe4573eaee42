/-
  sym's table beside rows that may be turned: each call in one word; the rows that a law keeps of it, plainly.
-/
import Derived.Test.YtbfcdlfjlailjaaSagp
import Derived.Laws.StructEq
namespace Go.Proofs.Ytbfcdlfjlailjaa.Sym
open Go.RowKit
open Go.Proofs.Ytbfcdlfjlailjaa.Kit
open Go.Proofs.Ytbfcdlfjlailjaa.Oct
set_option linter.unusedVariables false

/-- what a call leaves of the rows -/
def Rws (R : Nat → Prop) (w w' : World) : Prop := w.heap.size ≤ w'.heap.size ∧ ∀ b, R b → w'.heap[b]? = w.heap[b]?
/-- a table at tb, rows R beside it, of which nothing in the table hangs; all that turned since w0 lies behind it -/
def Te (w0 w : World) (tb : Nat) (T : Tab) (R : Nat → Prop) : Prop :=
  ∃ L O S, TabAt w tb L O S T ∧ (∀ b, O b ∨ S b → w0.heap.size ≤ b) ∧ (∀ b, R b → ¬ (O b ∨ S b) ∧ b < w.heap.size) ∧ Below w0.heap.size w0 w
theorem Te.bel {w0 w : World} {tb : Nat} {T : Tab} {R : Nat → Prop} (h : Te w0 w tb T R) : Below w0.heap.size w0 w := by
  obtain ⟨_, _, _, _, _, _, h⟩ := h
  exact h
theorem Te.lt {w0 w : World} {tb : Nat} {T : Tab} {R : Nat → Prop} (h : Te w0 w tb T R) {b : Nat} (hb : R b) : b < w.heap.size := by
  obtain ⟨_, _, _, _, _, h, _⟩ := h
  exact (h b hb).2
theorem Te.below {w0 w w' : World} {tb : Nat} {T : Tab} {R : Nat → Prop} (h : Te w0 w tb T R) (hb : Below w.heap.size w w') : Te w0 w' tb T R ∧ Rws R w w' := by
  obtain ⟨L, O, S, ht, ho, hr, hw⟩ := h
  exact ⟨⟨L, O, S, ht.below hb, ho, fun b hx => ⟨(hr b hx).1, Nat.lt_of_lt_of_le (hr b hx).2 hb.size⟩, below_seq hw hb⟩, hb.size, fun b hx => hb.block b (hr b hx).2⟩
theorem Te.weak {w0 w : World} {tb : Nat} {T : Tab} {R R' : Nat → Prop} (h : Te w0 w tb T R) (hR : ∀ b, R' b → R b) : Te w0 w tb T R' := by
  obtain ⟨L, O, S, ht, ho, hr, hw⟩ := h
  exact ⟨L, O, S, ht, ho, fun b hb => hr b (hR b hb), hw⟩
/-- a new row beside it -/
theorem Te.add {w0 w w' : World} {tb : Nat} {T : Tab} {R R' : Nat → Prop} (h : Te w0 w tb T R) (hb : Below w.heap.size w w') (hR : ∀ b, R' b → R b ∨ (w.heap.size ≤ b ∧ b < w'.heap.size)) : Te w0 w' tb T R' := by
  obtain ⟨L, O, S, ht, ho, hr, hw⟩ := h
  refine ⟨L, O, S, ht.below hb, ho, fun b hx => ?_, below_seq hw hb⟩
  rcases hR b hx with hx | hx
  · exact ⟨(hr b hx).1, Nat.lt_of_lt_of_le (hr b hx).2 hb.size⟩
  · exact ⟨fun e => by have := ht.lt _ e; omega, hx.2⟩
/-- one of the rows is turned, or takes new room -/
theorem Te.grow {w0 w w' : World} {tb : Nat} {T : Tab} {R R' : Nat → Prop} {row : Option Nat} (h : Te w0 w tb T R) (hg : w.grownBy w' row) (hrow : ∀ g, row = some g → R g ∧ w0.heap.size ≤ g) (hR : ∀ b, R' b → R b ∨ (w.heap.size ≤ b ∧ b < w'.heap.size)) : Te w0 w' tb T R' := by
  obtain ⟨L, O, S, ht, ho, hr, hw⟩ := h
  refine ⟨L, O, S, ht.on ⟨hg.os, hg.tape, hg.output, hg.size⟩ fun b hb => hg.block b (ht.lt b hb) (fun e => (hr b (hrow b e.symm).1).1 hb), ho, fun b hx => ?_, hw.grown hg hw.size (fun g e => (hrow g e).2)⟩
  rcases hR b hx with hx | hx
  · exact ⟨(hr b hx).1, Nat.lt_of_lt_of_le (hr b hx).2 hg.size⟩
  · exact ⟨fun e => by have := ht.lt _ e; omega, hx.2⟩
theorem Te.kept {w0 w w' : World} {tb : Nat} {L' : Lay} {O O' S S' : Nat → Prop} {T' : Tab} {R R' : Nat → Prop} (ho : ∀ b, O b ∨ S b → w0.heap.size ≤ b) (hr : ∀ b, R b → ¬ (O b ∨ S b) ∧ b < w.heap.size) (hw : Below w0.heap.size w0 w)
    (ht : TabAt w' tb L' O' S' T') (hkp : Kept O w w') (ho' : ∀ b, O' b → O b ∨ w.heap.size ≤ b) (hs' : ∀ b, S' b → S b ∨ w.heap.size ≤ b) (hR : ∀ b, R' b → R b ∨ (w.heap.size ≤ b ∧ b < w'.heap.size ∧ ¬ (O' b ∨ S' b))) : Te w0 w' tb T' R' ∧ Rws R w w' := by
  have hs := hw.size
  refine ⟨⟨L', O', S', ht, fun b hb => ?_, fun b hx => ?_, hw.trans (hkp.below hs (fun b hb => ho b (.inl hb)))⟩, hkp.2.2.2.1, fun b hx => hkp.2.2.2.2 b (hr b hx).2 (fun e => (hr b hx).1 (.inl e))⟩
  · rcases hb with hb | hb
    · rcases ho' b hb with h | h
      · exact ho b (.inl h)
      · omega
    · rcases hs' b hb with h | h
      · exact ho b (.inr h)
      · omega
  · rcases hR b hx with hx | ⟨h1, h2, h3⟩
    · refine ⟨fun e => ?_, Nat.lt_of_lt_of_le (hr b hx).2 hkp.2.2.2.1⟩
      have hl := (hr b hx).2
      rcases e with e | e
      · rcases ho' b e with h | h
        · exact (hr b hx).1 (.inl h)
        · omega
      · rcases hs' b e with h | h
        · exact (hr b hx).1 (.inr h)
        · omega
    · exact ⟨h3, h2⟩
theorem Te.new {w w' : World} {tb : Nat} {L : Lay} {O S : Nat → Prop} (ht : TabAt w' tb L O S Tab.none) (ho : ∀ b, O b ∨ S b → w.heap.size ≤ b) (hb : Below w.heap.size w w') : Te w w' tb Tab.none (fun _ => False) :=
  ⟨L, O, S, ht, ho, fun b h => h.elim, hb⟩
theorem Te.fresh {w0 w : World} {tb : Nat} {T : Tab} {R : Nat → Prop} (h : Te w0 w tb T R) (hlen : T.ks.length < 100000) :
    Calls Try.prog 12 #[.pointer (some ⟨tb, 0, none⟩)] w fun e w' => e = .returned (.agg (kv (mk 107 (T.ks.length + 1)))) ∧ Te w0 w' tb { T with ks := T.ks ++ [Fr.none] } R ∧ Rws R w w' := by
  obtain ⟨L, O, S, ht, ho, hr, hw⟩ := h
  exact (fresh_any tb L O S T w ht hlen).mono fun e w' ⟨he, L', O', S', h1, h2, h3, h4⟩ => ⟨he, Te.kept ho hr hw h1 h2 h3 h4 fun b hb => .inl hb⟩
theorem Te.text {w0 w : World} {tb : Nat} {T : Tab} {R : Nat → Prop} (h : Te w0 w tb T R) {p s : ByteArray} (hp : p.size ≤ 1000000) (hs : s.size ≤ 1000000) (hlen : T.ks.length < 100000) :
    Calls Try.prog 14 #[.pointer (some ⟨tb, 0, none⟩), .string p, .string s] w fun e w' => e = .returned (.agg (kv (mk 107 (onceT T (ogT p s)).1))) ∧ Te w0 w' tb (onceT T (ogT p s)).2 R ∧ Rws R w w' := by
  obtain ⟨L, O, S, ht, ho, hr, hw⟩ := h
  exact (text_any tb L O S T hp hs w ht hlen).mono fun e w' ⟨he, L', O', S', h1, h2, h3, h4⟩ => ⟨he, Te.kept ho hr hw h1 h2 h3 h4 fun b hb => .inl hb⟩
theorem Te.derive {w0 w : World} {tb : Nat} {T : Tab} {R : Nat → Prop} (h : Te w0 w tb T R) {k : List UInt8} {lab : ByteArray} (hk16 : k.length = 16) (hs : lab.size ≤ 1000000) (hlen : T.ks.length < 100000) :
    Calls Try.prog 13 #[.pointer (some ⟨tb, 0, none⟩), .agg (kv k), .string lab] w fun e w' => e = .returned (.agg (kv (mk 107 (onceT T (ogD k lab)).1))) ∧ Te w0 w' tb (onceT T (ogD k lab)).2 R ∧ Rws R w w' := by
  obtain ⟨L, O, S, ht, ho, hr, hw⟩ := h
  exact (derive_any tb L O S T hk16 hs w ht hlen).mono fun e w' ⟨he, L', O', S', h1, h2, h3, h4⟩ => ⟨he, Te.kept ho hr hw h1 h2 h3 h4 fun b hb => .inl hb⟩
theorem Te.seal_ {w0 w : World} {tb : Nat} {T : Tab} {R : Nat → Prop} (h : Te w0 w tb T R) {k body : List UInt8} {u : Int} {A : Option Addr} {n c : Nat} (hk : k.length = 16) (hu : -9223372036854775808 ≤ u ∧ u ≤ 9223372036854775807) (hrd : RdB w w.heap.size A n c body) (hn : n ≤ 1000000) (hlen : T.bs.length < 100000) :
    Calls Try.prog 16 #[.pointer (some ⟨tb, 0, none⟩), .agg (kv k), .int .i64 u, .slice A n c] w fun e w' => ∃ g, e = .returned (.slice (some ⟨g, 0, none⟩) 16 16) ∧ w'.heap[g]? = some (.cells (kv (mk 98 (T.bs.length + 1))) 36 (0, 0)) ∧ w.heap.size ≤ g ∧
      Te w0 w' tb { T with bs := T.bs ++ [⟨k, u, body⟩] } (fun b => R b ∨ b = g) ∧ Rws R w w' := by
  obtain ⟨L, O, S, ht, ho, hr, hw⟩ := h
  refine (seal_any ht hk hu hrd hn hlen).mono fun e w' ⟨g, he, hg, hgs, L', O', S', h1, h2, h3, h4, h5⟩ => ?_
  exact ⟨g, he, hg, hgs, Te.kept ho hr hw h1 h2 h3 h4 fun b hb => by
    rcases hb with hb | rfl
    · exact .inl hb
    · exact .inr ⟨hgs, (Array.getElem?_eq_some_iff.1 hg).1, fun e => h5 b e rfl⟩⟩
theorem Te.digest {w0 w : World} {tb : Nat} {T : Tab} {R : Nat → Prop} (h : Te w0 w tb T R) {b : List UInt8} {A : Option Addr} {n c : Nat} (hrd : RdB w w.heap.size A n c b) (hn : n ≤ 1000000) (hlen : T.sm.length < 100000) :
    Calls Try.prog 19 #[.pointer (some ⟨tb, 0, none⟩), .slice A n c] w fun e w' => ∃ g, e = .returned (.slice (some ⟨g, 0, none⟩) 16 16) ∧ w'.heap[g]? = some (.cells (kv (mk 100 (idxS T.sm b + 1))) 36 (0, 0)) ∧ w.heap.size ≤ g ∧
      Te w0 w' tb (sumT T b) (fun x => R x ∨ x = g) ∧ Rws R w w' := by
  by_cases hin : b ∈ T.sm
  · rw [sumT_in hin]
    have h0 := h
    obtain ⟨L, O, S, ht, ho, hr, hw⟩ := h
    refine (digest_yes ht hrd (List.getElem?_of_mem hin)).mono fun e w' ⟨g, he, hg, hgs, hb⟩ => ?_
    exact ⟨g, he, hg, hgs, h0.add hb fun x hx => by
      rcases hx with hx | rfl
      · exact .inl hx
      · exact .inr ⟨hgs, (Array.getElem?_eq_some_iff.1 hg).1⟩, (h0.below hb).2⟩
  · rw [sumT_new hin]
    have hno : ∀ k : Nat, T.sm[k]? ≠ some b := fun k e => hin (List.mem_of_getElem? e)
    obtain ⟨L, O, S, ht, ho, hr, hw⟩ := h
    rw [idxS_no T.sm b hno]
    refine (digest_no ht hrd hn hlen hno).mono fun e w' ⟨g, he, hg, hgs, L', O', S', h1, h2, h3, h4, h5⟩ => ?_
    exact ⟨g, he, hg, hgs, Te.kept ho hr hw h1 h2 h3 h4 fun b hb => by
      rcases hb with hb | rfl
      · exact .inl hb
      · exact .inr ⟨hgs, (Array.getElem?_eq_some_iff.1 hg).1, fun e => h5 b e rfl⟩⟩
theorem Te.open_ {w0 w : World} {tb : Nat} {T : Tab} {R : Nat → Prop} (h : Te w0 w tb T R) {A : Option Addr} {n c : Nat} {b k : List UInt8} {u : Int} {s : Sl} (hbx : boxS T b = some s) (hk : k.length = 16) (hrd : RdB w w.heap.size A n c b) :
    Calls Try.prog 17 #[.pointer (some ⟨tb, 0, none⟩), .agg (kv k), .int .i64 u, .slice A n c] w fun e w' =>
      ((s.key = k ∧ s.us = u) ∧ ∃ A' c', e = .returned (.tuple #[.slice A' s.body.length c', .bool true]) ∧ w'.ownsRow w.heap.size 5 1 (.slice A' s.body.length c') s.body.length (s.body.map bv) ∧ Below w.heap.size w w') ∨
      (¬ (s.key = k ∧ s.us = u) ∧ e = .returned (.tuple #[.slice none 0 0, .bool false]) ∧ Below w.heap.size w w') := by
  obtain ⟨L, O, S, ht, ho, hr, hw⟩ := h
  obtain ⟨_, i, _, hil, hs⟩ := boxS_yes hbx
  have hsk : s.key.length = 16 := (ht.sok s (by rw [← hs]; exact List.getElem_mem hil)).1
  exact open_box hbx hsk hk ht hrd
theorem Te.open_no {w0 w : World} {tb : Nat} {T : Tab} {R : Nat → Prop} (h : Te w0 w tb T R) {A : Option Addr} {n c : Nat} {b k : List UInt8} {u : Int} (hbx : boxS T b = none) (hk : k.length = 16) (hrd : RdB w w.heap.size A n c b) :
    Calls Try.prog 17 #[.pointer (some ⟨tb, 0, none⟩), .agg (kv k), .int .i64 u, .slice A n c] w fun e w' => e = .returned (.tuple #[.slice none 0 0, .bool false]) ∧ Below w.heap.size w w' := by
  obtain ⟨L, O, S, ht, ho, hr, hw⟩ := h
  exact open_none hbx hk ht hrd
theorem Te.box {w0 w : World} {tb : Nat} {T : Tab} {R : Nat → Prop} (h : Te w0 w tb T R) {A : Option Addr} {n c : Nat} {b : List UInt8} {s : Sl} (hbx : boxS T b = some s) (hrd : RdB w w.heap.size A n c b) :
    Calls Try.prog 18 #[.pointer (some ⟨tb, 0, none⟩), .slice A n c] w fun e w' => ∃ A' c', e = .returned (.tuple #[.agg (s.key.map bv ++ ([.int .i64 s.us, .slice A' s.body.length c'] : List Value)).toArray, .bool true]) ∧ w'.ownsRow w.heap.size 5 1 (.slice A' s.body.length c') s.body.length (s.body.map bv) ∧ Below w.heap.size w w' := by
  obtain ⟨L, O, S, ht, ho, hr, hw⟩ := h
  exact box_yes hbx ht hrd
theorem Te.box_no {w0 w : World} {tb : Nat} {T : Tab} {R : Nat → Prop} (h : Te w0 w tb T R) {A : Option Addr} {n c : Nat} {b : List UInt8} (hbx : boxS T b = none) (hrd : RdB w w.heap.size A n c b) :
    Calls Try.prog 18 #[.pointer (some ⟨tb, 0, none⟩), .slice A n c] w fun e w' => e = .returned (.tuple #[.agg #[.int .u8 0, .int .u8 0, .int .u8 0, .int .u8 0, .int .u8 0, .int .u8 0, .int .u8 0, .int .u8 0, .int .u8 0, .int .u8 0, .int .u8 0, .int .u8 0, .int .u8 0, .int .u8 0, .int .u8 0, .int .u8 0, .int .i64 0, .slice none 0 0], .bool false]) ∧ Below w.heap.size w w' := by
  obtain ⟨L, O, S, ht, ho, hr, hw⟩ := h
  exact Sym.box_no hbx ht hrd
theorem Te.keys {w0 w : World} {tb : Nat} {T : Tab} {R : Nat → Prop} (h : Te w0 w tb T R) :
    Calls Try.prog 20 #[.pointer (some ⟨tb, 0, none⟩)] w fun e w' => e = .returned (.int .i64 T.ks.length) ∧ w = w' := by
  obtain ⟨L, O, S, ht, ho, hr, hw⟩ := h
  exact keys_any ht
theorem Te.boxes {w0 w : World} {tb : Nat} {T : Tab} {R : Nat → Prop} (h : Te w0 w tb T R) :
    Calls Try.prog 21 #[.pointer (some ⟨tb, 0, none⟩)] w fun e w' => e = .returned (.int .i64 T.bs.length) ∧ w = w' := by
  obtain ⟨L, O, S, ht, ho, hr, hw⟩ := h
  exact boxes_any ht
theorem Te.came {w0 w : World} {tb : Nat} {T : Tab} {R : Nat → Prop} (h : Te w0 w tb T R) {k : List UInt8} (hk : k.length = 16) :
    Calls Try.prog 22 #[.pointer (some ⟨tb, 0, none⟩), .agg (kv k)] w fun e w' => e = .returned (.tuple #[.agg (camS T k).1.cells.toArray, .bool (camS T k).2]) ∧ Below w.heap.size w w' := by
  obtain ⟨L, O, S, ht, ho, hr, hw⟩ := h
  exact came_any ht hk
end Go.Proofs.Ytbfcdlfjlailjaa.Sym

/-
  SymPlays, plainly: what the law keeps of keys, and how that is tied to the table.
-/
namespace Go.Proofs.Ytbfcdlfjlailjaa.Sym
open Go.RowKit
open Go.Proofs.Ytbfcdlfjlailjaa.Kit
open Go.Proofs.Ytbfcdlfjlailjaa.Oct
set_option linter.unusedVariables false

/-- how a key came, as the law keeps it -/
structure Fm where
  kd : Int
  of : List UInt8
  a : ByteArray
  b : ByteArray
def Fm.cells (f : Fm) : List Value := .int .i64 f.kd :: (f.of.map bv ++ [.string f.a, .string f.b])
def z16 : List UInt8 := List.replicate 16 0
def eS : ByteArray := ⟨#[]⟩
def fm0 : Fm := ⟨0, z16, eS, eS⟩
def fm1 (p s : ByteArray) : Fm := ⟨1, z16, p, s⟩
def fm2 (k : List UInt8) (lab : ByteArray) : Fm := ⟨2, k, lab, eS⟩
def Fm.fr (f : Fm) : Fr := if f.kd = 0 then Fr.none else if f.kd = 1 then Fr.text else ⟨f.of, f.a, false⟩
def cellsM (l : List Fm) : List Value := l.flatMap Fm.cells
theorem cellsM_app (l m : List Fm) : cellsM (l ++ m) = cellsM l ++ cellsM m := by simp [cellsM]
theorem Fm.cells_len {f : Fm} (h : f.of.length = 16) : f.cells.length = 19 := by simp [Fm.cells, h]
theorem Fm.one (f : Fm) : ∀ u ∈ f.cells, u.oneCell' = true := by
  intro u hu
  simp only [Fm.cells, List.mem_cons, List.mem_append, List.not_mem_nil, or_false] at hu
  rcases hu with rfl | h | rfl | rfl
  · rfl
  · exact bv_one _ u h
  · rfl
  · rfl
theorem cellsM_at : ∀ (l : List Fm) (i : Nat) (h : i < l.length), (∀ f ∈ l, f.of.length = 16) → ((cellsM l).drop (i * 19)).take 19 = l[i].cells
  | x :: r, 0, _, hl => by
    have e : (x.cells).length = 19 := Fm.cells_len (hl x (List.mem_cons_self ..))
    rw [show cellsM (x :: r) = x.cells ++ cellsM r from by simp [cellsM], Nat.zero_mul, List.drop_zero, List.take_append_of_le_length (by omega), List.take_of_length_le (by omega)]
    rfl
  | x :: r, i + 1, h, hl => by
    have e : (x.cells).length = 19 := Fm.cells_len (hl x (List.mem_cons_self ..))
    rw [show cellsM (x :: r) = x.cells ++ cellsM r from by simp [cellsM], show (i + 1) * 19 = x.cells.length + i * 19 from by omega, ← List.drop_drop, List.drop_left]
    exact cellsM_at r i (by simpa using h) fun f hf => hl f (List.mem_cons_of_mem _ hf)
theorem cellsM_len : ∀ (l : List Fm), (∀ f ∈ l, f.of.length = 16) → (cellsM l).length = l.length * 19
  | [], _ => rfl
  | x :: r, hl => by
    have e : (x.cells).length = 19 := Fm.cells_len (hl x (List.mem_cons_self ..))
    rw [show cellsM (x :: r) = x.cells ++ cellsM r from by simp [cellsM], List.length_append, e, cellsM_len r fun f hf => hl f (List.mem_cons_of_mem _ hf), List.length_cons]
    omega
/-- what is kept, and what the table has it by -/
def Lnk (f : Fm) (o : Og) : Prop := (∃ p s, f = fm1 p s ∧ o = ogT p s) ∨ ∃ k lab, f = fm2 k lab ∧ o = ogD k lab
theorem Lnk.inj {f f' : Fm} {o o' : Og} (h : Lnk f o) (h' : Lnk f' o') : f = f' ↔ o = o' := by
  rcases h with ⟨p, s, rfl, rfl⟩ | ⟨k, lab, rfl, rfl⟩ <;> rcases h' with ⟨p', s', rfl, rfl⟩ | ⟨k', lab', rfl, rfl⟩
  · simp [fm1, ogT]
  · refine ⟨fun e => ?_, fun e => absurd e.symm (ogD_ogT _ _ _ _)⟩
    simp [fm1, fm2] at e
  · refine ⟨fun e => ?_, fun e => absurd e (ogD_ogT _ _ _ _)⟩
    simp [fm1, fm2] at e
  · simp [fm2, ogD]
theorem Lnk.fr {f : Fm} {o : Og} (h : Lnk f o) : f.fr = o.fr := by
  rcases h with ⟨p, s, rfl, rfl⟩ | ⟨k, lab, rfl, rfl⟩ <;> simp [Fm.fr, fm1, fm2, ogT, ogD]
theorem Lnk.ne0 {f : Fm} {o : Og} (h : Lnk f o) : f ≠ fm0 := by
  rcases h with ⟨p, s, rfl, rfl⟩ | ⟨k, lab, rfl, rfl⟩ <;> simp [fm0, fm1, fm2]
structure Rel (K : List Fm) (T : Tab) : Prop where
  len : ∀ f ∈ K, f.of.length = 16
  kd : ∀ f ∈ K, f.kd = 0 ∨ f.kd = 1 ∨ f.kd = 2
  ks : T.ks = K.map Fm.fr
  lk : ∀ f o, Lnk f o → ∀ n, T.fd o = some n ↔ 1 ≤ n ∧ K[n - 1]? = some f
theorem Rel.klen {K : List Fm} {T : Tab} (h : Rel K T) : T.ks.length = K.length := by rw [h.ks, List.length_map]
theorem Rel.none : Rel [] Tab.none := ⟨fun f h => (by cases h), fun f h => (by cases h), rfl, fun f o _ n => by simp [Tab.none]⟩
theorem snoc_get {α : Type} {K : List α} {f : α} {i : Nat} {g : α} : (K ++ [f])[i]? = some g ↔ K[i]? = some g ∨ (i = K.length ∧ f = g) := by
  rcases Nat.lt_trichotomy i K.length with h | h | h
  · rw [List.getElem?_append_left h]
    exact ⟨.inl, fun e => e.resolve_right (by omega)⟩
  · subst h
    rw [List.getElem?_append_right (Nat.le_refl _), List.getElem?_eq_none (Nat.le_refl _)]
    simp
  · rw [List.getElem?_eq_none (by rw [List.length_append, List.length_singleton]; omega), List.getElem?_eq_none (by omega)]
    simp; omega
theorem Rel.fresh {K : List Fm} {T : Tab} (h : Rel K T) : Rel (K ++ [fm0]) { T with ks := T.ks ++ [Fr.none] } :=
  { len := fun f hf => by
      rcases List.mem_append.1 hf with h1 | h1
      · exact h.len f h1
      · rw [List.mem_singleton.1 h1]; rfl
    kd := fun f hf => by
      rcases List.mem_append.1 hf with h1 | h1
      · exact h.kd f h1
      · rw [List.mem_singleton.1 h1]; exact .inl rfl
    ks := by show T.ks ++ [Fr.none] = _; rw [h.ks, List.map_append]; rfl
    lk := fun f o hl n => by
      show T.fd o = some n ↔ _
      rw [h.lk f o hl n, snoc_get]
      exact ⟨fun ⟨a, b⟩ => ⟨a, .inl b⟩, fun ⟨a, b⟩ => ⟨a, b.resolve_right fun e => hl.ne0 e.2.symm⟩⟩ }
/-- where a key of this make stands, or will stand -/
structure At1 (K : List Fm) (f : Fm) (n : Nat) : Prop where
  pos : 1 ≤ n
  le : n ≤ K.length + 1
  at_ : ∀ i g, K[i]? = some g → (f = g ↔ i + 1 = n)
theorem Rel.once {K : List Fm} {T : Tab} (h : Rel K T) {f : Fm} {o : Og} (hl : Lnk f o) (hf : f.of.length = 16) :
    At1 K f (onceT T o).1 ∧ Rel (if (onceT T o).1 ≤ K.length then K else K ++ [f]) (onceT T o).2 ∧ (onceT T o).2.bs = T.bs ∧ (onceT T o).2.sm = T.sm := by
  rcases hfd : T.fd o with _ | n
  · have e : onceT T o = (T.ks.length + 1, { T with ks := T.ks ++ [o.fr], fd := setF T.fd o (T.ks.length + 1) }) := by rw [onceT, hfd]
    have hno : ∀ i : Nat, K[i]? ≠ some f := fun i hi => by
      have := (h.lk f o hl (i + 1)).2 ⟨by omega, hi⟩
      rw [hfd] at this
      cases this
    rw [e, h.klen]
    refine ⟨⟨by omega, by omega, fun i g hi => ⟨fun e => absurd (e ▸ hi) (hno i), fun e => ?_⟩⟩, ?_, rfl, rfl⟩
    · have := (List.getElem?_eq_some_iff.1 hi).1
      omega
    · rw [if_neg (by omega)]
      exact {
        len := fun g hg => by
          rcases List.mem_append.1 hg with h1 | h1
          · exact h.len g h1
          · rw [List.mem_singleton.1 h1]; exact hf
        kd := fun g hg => by
          rcases List.mem_append.1 hg with h1 | h1
          · exact h.kd g h1
          · rw [List.mem_singleton.1 h1]
            rcases hl with ⟨p, s, rfl, _⟩ | ⟨k, lab, rfl, _⟩
            · exact .inr (.inl rfl)
            · exact .inr (.inr rfl)
        ks := by
          show T.ks ++ [o.fr] = _
          rw [h.ks, List.map_append, ← hl.fr]; rfl
        lk := fun g p hg n => by
          show setF T.fd o (K.length + 1) p = some n ↔ _
          by_cases hpo : p = o
          · subst hpo
            obtain rfl : g = f := (Lnk.inj hg hl).2 rfl
            rw [setF_same, snoc_get]
            constructor
            · intro e
              obtain rfl : K.length + 1 = n := Option.some.inj e
              exact ⟨by omega, .inr ⟨by omega, rfl⟩⟩
            · rintro ⟨h1, h2 | h2⟩
              · exact absurd h2 (hno _)
              · rw [show K.length + 1 = n from by omega]
          · rw [setF_other _ _ hpo, h.lk g p hg n, snoc_get]
            have hne : f ≠ g := fun e => hpo ((Lnk.inj hl hg).1 e).symm
            exact ⟨fun ⟨a, b⟩ => ⟨a, .inl b⟩, fun ⟨a, b⟩ => ⟨a, b.resolve_right fun e => hne e.2⟩⟩ }
  · have e : onceT T o = (n, T) := by rw [onceT, hfd]
    obtain ⟨h1, h2⟩ := (h.lk f o hl n).1 hfd
    have hn := (List.getElem?_eq_some_iff.1 h2).1
    rw [e]
    refine ⟨⟨h1, by omega, fun i g hi => ⟨fun e => ?_, fun e => ?_⟩⟩, ?_, rfl, rfl⟩
    · have := (h.lk f o hl (i + 1)).2 ⟨by omega, by rw [e]; exact hi⟩
      rw [hfd] at this
      exact (Option.some.inj this).symm
    · subst e
      rw [Nat.add_sub_cancel, hi] at h2
      exact (Option.some.inj h2).symm
    · rw [if_pos (by omega)]; exact h
/-- the place found so far -/
def sofar (n j : Nat) : Nat := if n ≤ j then n else 0
theorem sofar_hit {K : List Fm} {f : Fm} {n j : Nat} (h : At1 K f n) (hj : K[j]? = some f) : sofar n (j + 1) = j + 1 := by
  have := (h.at_ j f hj).1 rfl
  rw [sofar, if_pos (by omega)]
  exact this.symm
theorem sofar_miss {K : List Fm} {f g : Fm} {n j : Nat} (h : At1 K f n) (hj : K[j]? = some g) (e : f ≠ g) : sofar n (j + 1) = sofar n j := by
  have hne : j + 1 ≠ n := fun q => e ((h.at_ j g hj).2 q)
  unfold sofar
  by_cases h2 : n ≤ j
  · rw [if_pos (by omega), if_pos h2]
  · rw [if_neg (by omega), if_neg h2]
theorem sofar_none {K : List Fm} {f : Fm} {n : Nat} (h : At1 K f n) : sofar n 0 = 0 := by
  have := h.pos
  unfold sofar
  rw [if_neg (by omega)]
theorem came_at {K : List Fm} {T : Tab} (h : Rel K T) (hk : K.length ≤ 1000) {i : Nat} {f : Fm} (hi : K[i]? = some f) : camS T (mk 107 (i + 1)) = (f.fr, true) := by
  have hl := (List.getElem?_eq_some_iff.1 hi).1
  have e1 : mkK (mk 107 (i + 1)) = 107 := by rw [mkK, markOf_mk rfl (by omega)]
  have e2 : mkN (mk 107 (i + 1)) = i + 1 := by rw [mkN, markOf_mk rfl (by omega)]
  rw [camS, e1, e2, if_pos ⟨rfl, by omega, by rw [h.klen]; omega⟩, Nat.add_sub_cancel, h.ks, List.getD_eq_getElem?_getD, List.getElem?_map, hi]
  rfl
theorem came_past {K : List Fm} {T : Tab} (h : Rel K T) (hk : K.length ≤ 1000) : camS T (mk 107 (K.length + 1)) = (Fr.none, false) := by
  have e2 : mkN (mk 107 (K.length + 1)) = K.length + 1 := by rw [mkN, markOf_mk rfl (by omega)]
  rw [camS, e2, if_neg (by rw [h.klen]; omega)]
end Go.Proofs.Ytbfcdlfjlailjaa.Sym

/-
  SymPlays: the law's own rows, beside the table.
-/
namespace Go.Proofs.Ytbfcdlfjlailjaa.Sym
open Go.RowKit
open Go.Proofs.Ytbfcdlfjlailjaa.Kit
open Go.Proofs.Ytbfcdlfjlailjaa.Oct
set_option linter.unusedVariables false

def ob (A : Option Addr) : Option Nat := A.map (·.block)
theorem ob_slice (A : Option Addr) (n c : Nat) : (Value.slice A n c).ownBlock = ob A := by cases A <;> rfl
/-- keys K, boxes B and sums M in rows of the law's own, a table T beside them -/
structure Mem (w0 w : World) (tb : Nat) (T : Tab) (R S : Nat → Prop) (A4 A5 A6 : Option Addr) (c4 c5 c6 : Nat) (K : List Fm) (B : List Sl) (M : List (List UInt8)) (x5 x6 : List Value) : Prop where
  te : Te w0 w tb T R
  o4 : w.ownsRow w0.heap.size 35 19 (.slice A4 K.length c4) K.length (cellsM K)
  o5 : w.ownsRow w0.heap.size 41 18 (.slice A5 B.length c5) B.length x5
  o6 : w.ownsRow w0.heap.size 29 1 (.slice A6 M.length c6) M.length x6
  r5 : SlRow w S B x5
  r6 : SmRow w S M x6
  s : ∀ b, S b → R b ∧ ob A4 ≠ some b ∧ ob A5 ≠ some b ∧ ob A6 ≠ some b
  i4 : ∀ g, ob A4 = some g → R g
  i5 : ∀ g, ob A5 = some g → R g
  i6 : ∀ g, ob A6 = some g → R g
  d45 : ∀ g, ob A4 = some g → ob A5 ≠ some g
  d46 : ∀ g, ob A4 = some g → ob A6 ≠ some g
  d56 : ∀ g, ob A5 = some g → ob A6 ≠ some g
section
variable {w0 w w' : World} {tb : Nat} {T T' : Tab} {R S : Nat → Prop} {A4 A5 A6 : Option Addr} {c4 c5 c6 : Nat} {K : List Fm} {B : List Sl} {M : List (List UInt8)} {x5 x6 : List Value}
/-- nothing of the rows turned -/
theorem Mem.turn (h : Mem w0 w tb T R S A4 A5 A6 c4 c5 c6 K B M x5 x6) (ht : Te w0 w' tb T' R) (hr0 : Rws R w w') : Mem w0 w' tb T' R S A4 A5 A6 c4 c5 c6 K B M x5 x6 := by
  obtain ⟨hz, hr⟩ := hr0
  have b1 := h.te.bel
  have b2 := ht.bel
  have e1 : w'.os = w.os := b2.os.trans b1.os.symm
  have e2 : w'.tape = w.tape := b2.tape.trans b1.tape.symm
  have e3 : w'.output = w.output := b2.output.trans b1.output.symm
  exact { h with
    te := ht
    o4 := own_same h.o4 e1 e2 e3 hz fun g hg => hr g (h.i4 g (by rw [← ob_slice A4 K.length c4]; exact hg))
    o5 := own_same h.o5 e1 e2 e3 hz fun g hg => hr g (h.i5 g (by rw [← ob_slice A5 B.length c5]; exact hg))
    o6 := own_same h.o6 e1 e2 e3 hz fun g hg => hr g (h.i6 g (by rw [← ob_slice A6 M.length c6]; exact hg))
    r5 := SlRow.keep (fun p hp => World.cell?_of_block (hr _ (h.s _ hp).1)) (fun _ h => h) _ h.r5
    r6 := SmRow.keep (fun p hp => World.cell?_of_block (hr _ (h.s _ hp).1)) (fun _ h => h) _ h.r6 }
theorem Mem.below (h : Mem w0 w tb T R S A4 A5 A6 c4 c5 c6 K B M x5 x6) (hb : Below w.heap.size w w') : Mem w0 w' tb T R S A4 A5 A6 c4 c5 c6 K B M x5 x6 :=
  h.turn (h.te.below hb).1 (h.te.below hb).2
/-- a key more -/
theorem Mem.key (h : Mem w0 w tb T R S A4 A5 A6 c4 c5 c6 K B M x5 x6) {f : Fm} {gg cap : Nat} (hown : w'.ownsRow w0.heap.size 35 19 (.slice (some ⟨gg, 0, none⟩) (K.length + 1) cap) (K.length + 1) (cellsM K ++ f.cells)) (hg : w.grownBy w' (ob A4)) (hat : ob A4 = some gg ∨ w.heap.size ≤ gg) :
    Mem w0 w' tb T (fun b => R b ∨ b = gg) S (some ⟨gg, 0, none⟩) A5 A6 cap c5 c6 (K ++ [f]) B M x5 x6 := by
  have hgl := (hown.lt gg rfl).2
  have hw0 := h.te.bel.size
  have hte : Te w0 w' tb T (fun b => R b ∨ b = gg) := h.te.grow hg (fun g e => ⟨h.i4 g e, (h.o4.lt g (by rw [ob_slice]; exact e)).1⟩) fun b hb => by
    rcases hb with hb | rfl
    · exact .inl hb
    · rcases hat with ha | ha
      · exact .inl (h.i4 _ ha)
      · exact .inr ⟨ha, hgl⟩
  have hlt : ∀ g, ob A5 = some g ∨ ob A6 = some g ∨ S g → g < w.heap.size ∧ some g ≠ ob A4 ∧ g ≠ gg := fun g e => by
    have hR : R g := by
      rcases e with e | e | e
      · exact h.i5 g e
      · exact h.i6 g e
      · exact (h.s g e).1
    have hl := h.te.lt hR
    have hne : some g ≠ ob A4 := fun q => by
      rcases e with e | e | e
      · exact h.d45 g q.symm e
      · exact h.d46 g q.symm e
      · exact (h.s g e).2.1 q.symm
    refine ⟨hl, hne, fun q => ?_⟩
    rcases hat with ha | ha
    · exact hne (by rw [ha, q])
    · omega
  have hk : (K ++ [f]).length = K.length + 1 := by simp
  exact {
    te := hte
    o4 := by rw [hk, cellsM_app]; simpa [cellsM] using hown
    o5 := own_same h.o5 hg.os hg.tape hg.output hg.size fun g e => hg.block g (hlt g (.inl (by rw [← ob_slice A5 B.length c5]; exact e))).1 (hlt g (.inl (by rw [← ob_slice A5 B.length c5]; exact e))).2.1
    o6 := own_same h.o6 hg.os hg.tape hg.output hg.size fun g e => hg.block g (hlt g (.inr (.inl (by rw [← ob_slice A6 M.length c6]; exact e)))).1 (hlt g (.inr (.inl (by rw [← ob_slice A6 M.length c6]; exact e)))).2.1
    r5 := SlRow.keep (fun p hp => World.cell?_of_block (hg.block _ (hlt _ (.inr (.inr hp))).1 (hlt _ (.inr (.inr hp))).2.1)) (fun _ h => h) _ h.r5
    r6 := SmRow.keep (fun p hp => World.cell?_of_block (hg.block _ (hlt _ (.inr (.inr hp))).1 (hlt _ (.inr (.inr hp))).2.1)) (fun _ h => h) _ h.r6
    s := fun b hb => ⟨.inl (h.s b hb).1, fun e => (hlt b (.inr (.inr hb))).2.2 (Option.some.inj e).symm, (h.s b hb).2.2⟩
    i4 := fun g e => .inr (Option.some.inj e).symm
    i5 := fun g e => .inl (h.i5 g e)
    i6 := fun g e => .inl (h.i6 g e)
    d45 := fun g e q => (hlt g (.inl q)).2.2 (Option.some.inj e).symm
    d46 := fun g e q => (hlt g (.inr (.inl q))).2.2 (Option.some.inj e).symm
    d56 := h.d56 }
/-- a box more; its bytes lie in a block of the law's own -/
theorem Mem.boxm (h : Mem w0 w tb T R S A4 A5 A6 c4 c5 c6 K B M x5 x6) {x : Sl} {gg cap nb cb : Nat} {Ab : Option Addr} (hown : w'.ownsRow w0.heap.size 41 18 (.slice (some ⟨gg, 0, none⟩) (B.length + 1) cap) (B.length + 1) (x5 ++ (x.key.map bv ++ [.int .i64 x.us, .slice Ab nb cb]))) (hg : w.grownBy w' (ob A5)) (hat : ob A5 = some gg ∨ w.heap.size ≤ gg)
    (hb : RdS w (fun b => ob Ab = some b) Ab nb cb (x.body.map bv)) (hbl : ∀ b, ob Ab = some b → b < w.heap.size ∧ R b ∧ ob A4 ≠ some b ∧ ob A5 ≠ some b ∧ ob A6 ≠ some b) :
    Mem w0 w' tb T (fun b => R b ∨ b = gg) (fun b => S b ∨ ob Ab = some b) A4 (some ⟨gg, 0, none⟩) A6 c4 cap c6 K (B ++ [x]) M (x5 ++ (x.key.map bv ++ [.int .i64 x.us, .slice Ab nb cb])) x6 := by
  have hgl := (hown.lt gg rfl).2
  have hte : Te w0 w' tb T (fun b => R b ∨ b = gg) := h.te.grow hg (fun g e => ⟨h.i5 g e, (h.o5.lt g (by rw [ob_slice]; exact e)).1⟩) fun b hb => by
    rcases hb with hb | rfl
    · exact .inl hb
    · rcases hat with ha | ha
      · exact .inl (h.i5 _ ha)
      · exact .inr ⟨ha, hgl⟩
  have hlt : ∀ g, ob A4 = some g ∨ ob A6 = some g ∨ (S g ∨ ob Ab = some g) → g < w.heap.size ∧ some g ≠ ob A5 ∧ g ≠ gg := fun g e => by
    have hR : R g := by
      rcases e with e | e | e | e
      · exact h.i4 g e
      · exact h.i6 g e
      · exact (h.s g e).1
      · exact (hbl g e).2.1
    have hl := h.te.lt hR
    have hne : some g ≠ ob A5 := fun q => by
      rcases e with e | e | e | e
      · exact h.d45 g e q.symm
      · exact h.d56 g q.symm e
      · exact (h.s g e).2.2.1 q.symm
      · exact (hbl g e).2.2.2.1 q.symm
    refine ⟨hl, hne, fun q => ?_⟩
    rcases hat with ha | ha
    · exact hne (by rw [ha, q])
    · omega
  have hk : (B ++ [x]).length = B.length + 1 := by simp
  have hkp : ∀ p : Addr, (S p.block ∨ ob Ab = some p.block) → w'.cell? p = w.cell? p := fun p hp => World.cell?_of_block (hg.block _ (hlt _ (.inr (.inr hp))).1 (hlt _ (.inr (.inr hp))).2.1)
  exact {
    te := hte
    o4 := own_same h.o4 hg.os hg.tape hg.output hg.size fun g e => hg.block g (hlt g (.inl (by rw [← ob_slice A4 K.length c4]; exact e))).1 (hlt g (.inl (by rw [← ob_slice A4 K.length c4]; exact e))).2.1
    o5 := by rw [hk]; exact hown
    o6 := own_same h.o6 hg.os hg.tape hg.output hg.size fun g e => hg.block g (hlt g (.inr (.inl (by rw [← ob_slice A6 M.length c6]; exact e)))).1 (hlt g (.inr (.inl (by rw [← ob_slice A6 M.length c6]; exact e)))).2.1
    r5 := SlRow.snoc ((hb.keep (S' := fun b => S b ∨ ob Ab = some b) (fun p hp => hkp p (.inr hp)) (fun b q => .inr q))) _ (SlRow.keep (fun p hp => hkp p (.inl hp)) (fun _ h => .inl h) _ h.r5)
    r6 := SmRow.keep (fun p hp => hkp p (.inl hp)) (fun _ h => .inl h) _ h.r6
    s := fun b q => by
      rcases q with q | q
      · exact ⟨.inl (h.s b q).1, (h.s b q).2.1, fun e => (hlt b (.inr (.inr (.inl q)))).2.2 (Option.some.inj e).symm, (h.s b q).2.2.2⟩
      · exact ⟨.inl (hbl b q).2.1, (hbl b q).2.2.1, fun e => (hlt b (.inr (.inr (.inr q)))).2.2 (Option.some.inj e).symm, (hbl b q).2.2.2.2⟩
    i4 := fun g e => .inl (h.i4 g e)
    i5 := fun g e => .inr (Option.some.inj e).symm
    i6 := fun g e => .inl (h.i6 g e)
    d45 := fun g e q => (hlt g (.inl e)).2.2 (Option.some.inj q).symm
    d46 := h.d46
    d56 := fun g e q => (hlt g (.inr (.inl q))).2.2 (Option.some.inj e).symm }
/-- a sum more; its bytes lie in a block of the law's own -/
theorem Mem.sum (h : Mem w0 w tb T R S A4 A5 A6 c4 c5 c6 K B M x5 x6) {x : List UInt8} {gg cap nb cb : Nat} {Ab : Option Addr} (hown : w'.ownsRow w0.heap.size 29 1 (.slice (some ⟨gg, 0, none⟩) (M.length + 1) cap) (M.length + 1) (x6 ++ [.slice Ab nb cb])) (hg : w.grownBy w' (ob A6)) (hat : ob A6 = some gg ∨ w.heap.size ≤ gg)
    (hb : RdS w (fun b => ob Ab = some b) Ab nb cb (x.map bv)) (hbl : ∀ b, ob Ab = some b → b < w.heap.size ∧ R b ∧ ob A4 ≠ some b ∧ ob A5 ≠ some b ∧ ob A6 ≠ some b) :
    Mem w0 w' tb T (fun b => R b ∨ b = gg) (fun b => S b ∨ ob Ab = some b) A4 A5 (some ⟨gg, 0, none⟩) c4 c5 cap K B (M ++ [x]) x5 (x6 ++ [.slice Ab nb cb]) := by
  have hgl := (hown.lt gg rfl).2
  have hte : Te w0 w' tb T (fun b => R b ∨ b = gg) := h.te.grow hg (fun g e => ⟨h.i6 g e, (h.o6.lt g (by rw [ob_slice]; exact e)).1⟩) fun b hb => by
    rcases hb with hb | rfl
    · exact .inl hb
    · rcases hat with ha | ha
      · exact .inl (h.i6 _ ha)
      · exact .inr ⟨ha, hgl⟩
  have hlt : ∀ g, ob A4 = some g ∨ ob A5 = some g ∨ (S g ∨ ob Ab = some g) → g < w.heap.size ∧ some g ≠ ob A6 ∧ g ≠ gg := fun g e => by
    have hR : R g := by
      rcases e with e | e | e | e
      · exact h.i4 g e
      · exact h.i5 g e
      · exact (h.s g e).1
      · exact (hbl g e).2.1
    have hl := h.te.lt hR
    have hne : some g ≠ ob A6 := fun q => by
      rcases e with e | e | e | e
      · exact h.d46 g e q.symm
      · exact h.d56 g e q.symm
      · exact (h.s g e).2.2.2 q.symm
      · exact (hbl g e).2.2.2.2 q.symm
    refine ⟨hl, hne, fun q => ?_⟩
    rcases hat with ha | ha
    · exact hne (by rw [ha, q])
    · omega
  have hk : (M ++ [x]).length = M.length + 1 := by simp
  have hkp : ∀ p : Addr, (S p.block ∨ ob Ab = some p.block) → w'.cell? p = w.cell? p := fun p hp => World.cell?_of_block (hg.block _ (hlt _ (.inr (.inr hp))).1 (hlt _ (.inr (.inr hp))).2.1)
  exact {
    te := hte
    o4 := own_same h.o4 hg.os hg.tape hg.output hg.size fun g e => hg.block g (hlt g (.inl (by rw [← ob_slice A4 K.length c4]; exact e))).1 (hlt g (.inl (by rw [← ob_slice A4 K.length c4]; exact e))).2.1
    o5 := own_same h.o5 hg.os hg.tape hg.output hg.size fun g e => hg.block g (hlt g (.inr (.inl (by rw [← ob_slice A5 B.length c5]; exact e)))).1 (hlt g (.inr (.inl (by rw [← ob_slice A5 B.length c5]; exact e)))).2.1
    o6 := by rw [hk]; exact hown
    r5 := SlRow.keep (fun p hp => hkp p (.inl hp)) (fun _ h => .inl h) _ h.r5
    r6 := SmRow.snoc ((hb.keep (S' := fun b => S b ∨ ob Ab = some b) (fun p hp => hkp p (.inr hp)) (fun b q => .inr q))) _ (SmRow.keep (fun p hp => hkp p (.inl hp)) (fun _ h => .inl h) _ h.r6)
    s := fun b q => by
      rcases q with q | q
      · exact ⟨.inl (h.s b q).1, (h.s b q).2.1, (h.s b q).2.2.1, fun e => (hlt b (.inr (.inr (.inl q)))).2.2 (Option.some.inj e).symm⟩
      · exact ⟨.inl (hbl b q).2.1, (hbl b q).2.2.1, (hbl b q).2.2.2.1, fun e => (hlt b (.inr (.inr (.inr q)))).2.2 (Option.some.inj e).symm⟩
    i4 := fun g e => .inl (h.i4 g e)
    i5 := fun g e => .inl (h.i5 g e)
    i6 := fun g e => .inr (Option.some.inj e).symm
    d45 := h.d45
    d46 := fun g e q => (hlt g (.inl e)).2.2 (Option.some.inj q).symm
    d56 := fun g e q => (hlt g (.inr (.inl e))).2.2 (Option.some.inj q).symm }
end
end Go.Proofs.Ytbfcdlfjlailjaa.Sym
