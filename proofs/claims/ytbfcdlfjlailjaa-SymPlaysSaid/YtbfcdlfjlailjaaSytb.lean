/-
  sym's table beside rows that it leaves alone: each call in one word.
-/
import Derived.Test.YtbfcdlfjlailjaaSydn
namespace Go.Proofs.Ytbfcdlfjlailjaa.Sym
open Go.RowKit
open Go.Proofs.Ytbfcdlfjlailjaa.Kit
open Go.Proofs.Ytbfcdlfjlailjaa.Oct
set_option linter.unusedVariables false

/-- a table at tb, rows R beside it; all that turned since w0 lies behind it -/
def Tb (w0 w : World) (tb : Nat) (T : Tab) (R : Nat → Prop) : Prop :=
  ∃ L O S, TabAt w tb L O S T ∧ (∀ b, O b → w0.heap.size ≤ b) ∧ (∀ b, R b → ¬ O b ∧ b < w.heap.size) ∧ Below w0.heap.size w0 w
/-- what a call leaves of the rows -/
def Rows (R : Nat → Prop) (w w' : World) : Prop := ∀ b, R b → w'.heap[b]? = w.heap[b]?
theorem Rows.trans {R : Nat → Prop} {a b c : World} (h : Rows R a b) (k : Rows R b c) : Rows R a c := fun x hx => (k x hx).trans (h x hx)
theorem Tb.bel {w0 w : World} {tb : Nat} {T : Tab} {R : Nat → Prop} (h : Tb w0 w tb T R) : Below w0.heap.size w0 w := by
  obtain ⟨_, _, _, _, _, _, h⟩ := h
  exact h
theorem Tb.below {w0 w w' : World} {tb : Nat} {T : Tab} {R : Nat → Prop} (h : Tb w0 w tb T R) (hb : Below w.heap.size w w') : Tb w0 w' tb T R ∧ Rows R w w' := by
  obtain ⟨L, O, S, ht, ho, hr, hw⟩ := h
  exact ⟨⟨L, O, S, ht.below hb, ho, fun b hx => ⟨(hr b hx).1, Nat.lt_of_lt_of_le (hr b hx).2 hb.size⟩, below_seq hw hb⟩, fun b hx => hb.block b (hr b hx).2⟩
/-- a new row beside it -/
theorem Tb.add {w0 w w' : World} {tb g : Nat} {T : Tab} {R : Nat → Prop} (h : Tb w0 w tb T R) (hb : Below w.heap.size w w') (hg : w.heap.size ≤ g) (hg2 : g < w'.heap.size) : Tb w0 w' tb T (fun b => R b ∨ b = g) := by
  obtain ⟨L, O, S, ht, ho, hr, hw⟩ := h
  refine ⟨L, O, S, ht.below hb, ho, fun b hx => ?_, below_seq hw hb⟩
  rcases hx with hx | rfl
  · exact ⟨(hr b hx).1, Nat.lt_of_lt_of_le (hr b hx).2 hb.size⟩
  · exact ⟨fun e => by have := ht.lt _ (.inl e); omega, hg2⟩
theorem Tb.kept {w0 w w' : World} {tb : Nat} {L' : Lay} {O O' S' : Nat → Prop} {T' : Tab} {R : Nat → Prop} (ho : ∀ b, O b → w0.heap.size ≤ b) (hr : ∀ b, R b → ¬ O b ∧ b < w.heap.size) (hw : Below w0.heap.size w0 w)
    (ht : TabAt w' tb L' O' S' T') (hkp : Kept O w w') (ho' : ∀ b, O' b → O b ∨ w.heap.size ≤ b) : Tb w0 w' tb T' R ∧ Rows R w w' := by
  have hs := hw.size
  refine ⟨⟨L', O', S', ht, fun b hb => ?_, fun b hx => ⟨fun e => ?_, Nat.lt_of_lt_of_le (hr b hx).2 hkp.2.2.2.1⟩, hw.trans (hkp.below hs ho)⟩, fun b hx => hkp.2.2.2.2 b (hr b hx).2 (hr b hx).1⟩
  · rcases ho' b hb with h | h
    · exact ho b h
    · omega
  · rcases ho' b e with h | h
    · exact (hr b hx).1 h
    · have := (hr b hx).2; omega
theorem Tb.new {w w' : World} {tb : Nat} {L : Lay} {O S : Nat → Prop} (ht : TabAt w' tb L O S Tab.none) (ho : ∀ b, O b ∨ S b → w.heap.size ≤ b) (hb : Below w.heap.size w w') : Tb w w' tb Tab.none (fun _ => False) :=
  ⟨L, O, S, ht, fun b h => ho b (.inl h), fun b h => h.elim, hb⟩
theorem Tb.fresh {w0 w : World} {tb : Nat} {T : Tab} {R : Nat → Prop} (h : Tb w0 w tb T R) (hlen : T.ks.length < 100000) :
    Calls Try.prog 12 #[.pointer (some ⟨tb, 0, none⟩)] w fun e w' => e = .returned (.agg (kv (mk 107 (T.ks.length + 1)))) ∧ Tb w0 w' tb { T with ks := T.ks ++ [Fr.none] } R ∧ Rows R w w' := by
  obtain ⟨L, O, S, ht, ho, hr, hw⟩ := h
  exact (fresh_any tb L O S T w ht hlen).mono fun e w' ⟨he, L', O', S', h1, h2, h3, _⟩ => ⟨he, Tb.kept ho hr hw h1 h2 h3⟩
theorem Tb.text {w0 w : World} {tb : Nat} {T : Tab} {R : Nat → Prop} (h : Tb w0 w tb T R) {p s : ByteArray} (hp : p.size ≤ 1000000) (hs : s.size ≤ 1000000) (hlen : T.ks.length < 100000) :
    Calls Try.prog 14 #[.pointer (some ⟨tb, 0, none⟩), .string p, .string s] w fun e w' => e = .returned (.agg (kv (mk 107 (onceT T ⟨Fr.text, p, s⟩).1))) ∧ Tb w0 w' tb (onceT T ⟨Fr.text, p, s⟩).2 R ∧ Rows R w w' := by
  obtain ⟨L, O, S, ht, ho, hr, hw⟩ := h
  exact (text_any tb L O S T hp hs w ht hlen).mono fun e w' ⟨he, L', O', S', h1, h2, h3, _⟩ => ⟨he, Tb.kept ho hr hw h1 h2 h3⟩
theorem Tb.derive {w0 w : World} {tb : Nat} {T : Tab} {R : Nat → Prop} (h : Tb w0 w tb T R) {k : List UInt8} {lab : ByteArray} (hk16 : k.length = 16) (hs : lab.size ≤ 1000000) (hlen : T.ks.length < 100000) :
    Calls Try.prog 13 #[.pointer (some ⟨tb, 0, none⟩), .agg (kv k), .string lab] w fun e w' => e = .returned (.agg (kv (mk 107 (onceT T ⟨⟨k, lab, false⟩, ⟨#[]⟩, ⟨#[]⟩⟩).1))) ∧ Tb w0 w' tb (onceT T ⟨⟨k, lab, false⟩, ⟨#[]⟩, ⟨#[]⟩⟩).2 R ∧ Rows R w w' := by
  obtain ⟨L, O, S, ht, ho, hr, hw⟩ := h
  exact (derive_any tb L O S T hk16 hs w ht hlen).mono fun e w' ⟨he, L', O', S', h1, h2, h3, _⟩ => ⟨he, Tb.kept ho hr hw h1 h2 h3⟩
/-- a box: its mark lies in a new row -/
theorem Tb.seal_ {w0 w : World} {tb : Nat} {T : Tab} {R : Nat → Prop} (h : Tb w0 w tb T R) {k body : List UInt8} {u : Int} {A : Option Addr} {n c : Nat} (hk : k.length = 16) (hu : -9223372036854775808 ≤ u ∧ u ≤ 9223372036854775807) (hrd : RdB w w.heap.size A n c body) (hn : n ≤ 1000000) (hlen : T.bs.length < 100000) :
    Calls Try.prog 16 #[.pointer (some ⟨tb, 0, none⟩), .agg (kv k), .int .i64 u, .slice A n c] w fun e w' => ∃ g, e = .returned (.slice (some ⟨g, 0, none⟩) 16 16) ∧ w'.heap[g]? = some (.cells (kv (mk 98 (T.bs.length + 1))) 36 (0, 0)) ∧ w.heap.size ≤ g ∧
      Tb w0 w' tb { T with bs := T.bs ++ [⟨k, u, body⟩] } (fun b => R b ∨ b = g) ∧ Rows R w w' := by
  obtain ⟨L, O, S, ht, ho, hr, hw⟩ := h
  refine (seal_any ht hk hu hrd hn hlen).mono fun e w' ⟨g, he, hg, hgs, L', O', S', h1, h2, h3, _, h5⟩ => ?_
  obtain ⟨⟨L2, O2, S2, j1, j2, j3, j4⟩, k2⟩ := Tb.kept (R := R) ho hr hw h1 h2 h3
  refine ⟨g, he, hg, hgs, ⟨L', O', S', h1, fun b hb => ?_, fun b hx => ?_, j4⟩, k2⟩
  · rcases h3 b hb with q | q
    · exact ho b q
    · have := hw.size; omega
  · rcases hx with hx | rfl
    · refine ⟨fun e => ?_, Nat.lt_of_lt_of_le (hr b hx).2 h2.2.2.2.1⟩
      rcases h3 b e with q | q
      · exact (hr b hx).1 q
      · have := (hr b hx).2; omega
    · exact ⟨fun e => h5 b (.inl e) rfl, (Array.getElem?_eq_some_iff.1 hg).1⟩
/-- the table behind a digest -/
noncomputable def sumT (T : Tab) (b : List UInt8) : Tab := @ite _ (b ∈ T.sm) (Classical.propDecidable _) T { T with sm := T.sm ++ [b] }
theorem sumT_in {T : Tab} {b : List UInt8} (h : b ∈ T.sm) : sumT T b = T := by unfold sumT; rw [if_pos h]
theorem sumT_new {T : Tab} {b : List UInt8} (h : b ∉ T.sm) : sumT T b = { T with sm := T.sm ++ [b] } := by unfold sumT; rw [if_neg h]
/-- a digest: its mark lies in a new row -/
theorem Tb.digest {w0 w : World} {tb : Nat} {T : Tab} {R : Nat → Prop} (h : Tb w0 w tb T R) {b : List UInt8} {A : Option Addr} {n c : Nat} (hrd : RdB w w.heap.size A n c b) (hn : n ≤ 1000000) (hlen : T.sm.length < 100000) :
    Calls Try.prog 19 #[.pointer (some ⟨tb, 0, none⟩), .slice A n c] w fun e w' => ∃ g, e = .returned (.slice (some ⟨g, 0, none⟩) 16 16) ∧ w'.heap[g]? = some (.cells (kv (mk 100 (idxS T.sm b + 1))) 36 (0, 0)) ∧ w.heap.size ≤ g ∧
      Tb w0 w' tb (sumT T b) (fun x => R x ∨ x = g) ∧ Rows R w w' := by
  by_cases hin : b ∈ T.sm
  · rw [sumT_in hin]
    have h0 := h
    obtain ⟨L, O, S, ht, ho, hr, hw⟩ := h
    refine (digest_yes ht hrd (List.getElem?_of_mem hin)).mono fun e w' ⟨g, he, hg, hgs, hb⟩ => ?_
    exact ⟨g, he, hg, hgs, h0.add hb hgs (Array.getElem?_eq_some_iff.1 hg).1, (h0.below hb).2⟩
  · rw [sumT_new hin]
    have hno : ∀ k : Nat, T.sm[k]? ≠ some b := fun k e => hin (List.mem_of_getElem? e)
    obtain ⟨L, O, S, ht, ho, hr, hw⟩ := h
    rw [idxS_no T.sm b hno]
    refine (digest_no ht hrd hn hlen hno).mono fun e w' ⟨g, he, hg, hgs, L', O', S', h1, h2, h3, _, h5⟩ => ?_
    obtain ⟨⟨_, _, _, _, _, _, j4⟩, k2⟩ := Tb.kept (R := R) ho hr hw h1 h2 h3
    refine ⟨g, he, hg, hgs, ⟨L', O', S', h1, fun x hb => ?_, fun x hx => ?_, j4⟩, k2⟩
    · rcases h3 x hb with q | q
      · exact ho x q
      · have := hw.size; omega
    · rcases hx with hx | rfl
      · refine ⟨fun e => ?_, Nat.lt_of_lt_of_le (hr x hx).2 h2.2.2.2.1⟩
        rcases h3 x e with q | q
        · exact (hr x hx).1 q
        · have := (hr x hx).2; omega
      · exact ⟨fun e => h5 x (.inl e) rfl, (Array.getElem?_eq_some_iff.1 hg).1⟩
/-- a box is opened: a copy, or nothing -/
theorem Tb.open_ {w0 w : World} {tb : Nat} {T : Tab} {R : Nat → Prop} (h : Tb w0 w tb T R) {A : Option Addr} {n c : Nat} {b k : List UInt8} {u : Int} {s : Sl} (hbx : boxS T b = some s) (hk : k.length = 16) (hrd : RdB w w.heap.size A n c b) :
    Calls Try.prog 17 #[.pointer (some ⟨tb, 0, none⟩), .agg (kv k), .int .i64 u, .slice A n c] w fun e w' =>
      ((s.key = k ∧ s.us = u) ∧ ∃ A' c', e = .returned (.tuple #[.slice A' s.body.length c', .bool true]) ∧ w'.ownsRow w.heap.size 5 1 (.slice A' s.body.length c') s.body.length (s.body.map bv) ∧ Below w.heap.size w w' ∧ Tb w0 w' tb T R ∧ Rows R w w') ∨
      (¬ (s.key = k ∧ s.us = u) ∧ e = .returned (.tuple #[.slice none 0 0, .bool false]) ∧ Below w.heap.size w w' ∧ Tb w0 w' tb T R ∧ Rows R w w') := by
  have h0 := h
  obtain ⟨L, O, S, ht, ho, hr, hw⟩ := h
  obtain ⟨_, i, _, hil, hs⟩ := boxS_yes hbx
  have hsk : s.key.length = 16 := (ht.sok s (by rw [← hs]; exact List.getElem_mem hil)).1
  refine (open_box hbx hsk hk ht hrd).mono fun e w' hc => ?_
  rcases hc with ⟨h1, A', c', he, hown, hb⟩ | ⟨h1, he, hb⟩
  · exact .inl ⟨h1, A', c', he, hown, hb, h0.below hb⟩
  · exact .inr ⟨h1, he, hb, h0.below hb⟩
end Go.Proofs.Ytbfcdlfjlailjaa.Sym
