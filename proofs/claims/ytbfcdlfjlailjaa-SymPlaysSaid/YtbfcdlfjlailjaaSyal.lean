/-
  sym's table, a key in memory beside it, and the world that it began in, in one word.
-/
import Derived.Test.YtbfcdlfjlailjaaSymg
import Derived.Test.YtbfcdlfjlailjaaOctm
import Derived.Lib.SlBytesConst
namespace Go.Proofs.Ytbfcdlfjlailjaa.Sym
open Go.RowKit
open Go.Proofs.Ytbfcdlfjlailjaa.Kit
open Go.Proofs.Ytbfcdlfjlailjaa.Oct
set_option linter.unusedVariables false

theorem rd_const (w : World) {g n : Nat} {e : TypeId} {arr : Array Value} {bs : List UInt8} {fr : Nat × Nat} (hg : g = w.heap.size) (ha : arr.toList = bs.map bv) (hn : bs.length = n) (hm : n ≤ 9223372036854775807) :
    RdB (w.alloc (.cells arr e fr)) (w.alloc (.cells arr e fr)).heap.size (some ⟨g, 0, none⟩) n n bs := by
  subst hg
  refine ⟨by rw [List.length_map, hn], Nat.le_refl _, hm, fun _ => ⟨w.heap.size, 0, rfl, by simp, fun j u hu => ?_⟩⟩
  rw [Nat.zero_add, cell_of_row _ _ j _ _ fr (heap_alloc_new w _), ← hu, ← ha]
  simp
theorem conv_const (w : World) (C : Array Value) (g n c : Nat) (hg : g = w.heap.size) :
    (convert 29 29 (.slice (some ⟨g, 0, none⟩) n c)).run Try.prog (w.alloc (.cells C 5)) = .ok (.slice (some ⟨g, 0, none⟩) n c) (w.alloc (.cells C 5 (C.size, C.size + 1))) := by
  subst hg
  exact Lib.run_convert_bytes_const w 29 5 C n c Try.underlying29 Try.underlying5
theorem same_newY (A A' : Option Addr) (n c n' c' : Nat) (xs ys : List UInt8) (w : World) (ha : RdB w w.heap.size A n c xs) (hb : RdB w w.heap.size A' n' c' ys) :
    Calls Try.prog 15 #[.slice A n c, .slice A' n' c'] w fun e w' => e = .returned (.bool (decide (xs = ys))) ∧ Below w.heap.size w w' :=
  (rsame_any A A' n c n' c' _ _ xs ys w ha hb).mono fun e w' ⟨he, hd⟩ => ⟨he, below_of_drew hd _⟩
/-- a table at tb, a key's row at K; all that turned since w0 lies behind it -/
def At (w0 w : World) (K tb : Nat) (KV : Array Value) (T : Tab) : Prop :=
  ∃ L O S, TabAt w tb L O S T ∧ (∀ b, O b → w0.heap.size ≤ b) ∧ ¬ O K ∧ w.heap[K]? = some (.cells KV 36 (0, 0)) ∧ Below w0.heap.size w0 w
theorem At.row {w0 w : World} {K tb : Nat} {KV : Array Value} {T : Tab} (h : At w0 w K tb KV T) : w.heap[K]? = some (.cells KV 36 (0, 0)) := by
  obtain ⟨_, _, _, _, _, _, h, _⟩ := h
  exact h
theorem At.bel {w0 w : World} {K tb : Nat} {KV : Array Value} {T : Tab} (h : At w0 w K tb KV T) : Below w0.heap.size w0 w := by
  obtain ⟨_, _, _, _, _, _, _, h⟩ := h
  exact h
theorem At.below {w0 w w' : World} {K tb : Nat} {KV : Array Value} {T : Tab} (h : At w0 w K tb KV T) (hb : Below w.heap.size w w') : At w0 w' K tb KV T := by
  obtain ⟨L, O, S, ht, ho, hk, hr, hw⟩ := h
  exact ⟨L, O, S, ht.below hb, ho, hk, (hb.block K (Array.getElem?_eq_some_iff.1 hr).1).trans hr, below_seq hw hb⟩
theorem At.kept {w0 w w' : World} {K tb : Nat} {KV : Array Value} {L' : Lay} {O O' S' : Nat → Prop} {T' : Tab} (hK : w.heap[K]? = some (.cells KV 36 (0, 0))) (ho : ∀ b, O b → w0.heap.size ≤ b) (hk : ¬ O K) (hw : Below w0.heap.size w0 w)
    (ht : TabAt w' tb L' O' S' T') (hkp : Kept O w w') (ho' : ∀ b, O' b → O b ∨ w.heap.size ≤ b) : At w0 w' K tb KV T' := by
  have hlt := (Array.getElem?_eq_some_iff.1 hK).1
  have hs := hw.size
  refine ⟨L', O', S', ht, fun b hb => ?_, fun hb => ?_, (hkp.2.2.2.2 K hlt hk).trans hK, hw.trans (hkp.below hs ho)⟩
  · rcases ho' b hb with h | h
    · exact ho b h
    · omega
  · rcases ho' K hb with h | h
    · exact hk h
    · omega
theorem At.text {w0 w : World} {K tb : Nat} {KV : Array Value} {T : Tab} (h : At w0 w K tb KV T) {p s : ByteArray} (hp : p.size ≤ 1000000) (hs : s.size ≤ 1000000) (hlen : T.ks.length < 100000) :
    Calls Try.prog 14 #[.pointer (some ⟨tb, 0, none⟩), .string p, .string s] w fun e w' => e = .returned (.agg (kv (mk 107 (onceT T ⟨Fr.text, p, s⟩).1))) ∧ At w0 w' K tb KV (onceT T ⟨Fr.text, p, s⟩).2 := by
  obtain ⟨L, O, S, ht, ho, hk, hr, hw⟩ := h
  refine (text_any tb L O S T hp hs w ht hlen).mono fun e w' ⟨he, L', O', S', h1, h2, h3, _⟩ => ⟨he, At.kept hr ho hk hw h1 h2 h3⟩
theorem At.derive {w0 w : World} {K tb : Nat} {KV : Array Value} {T : Tab} (h : At w0 w K tb KV T) {k : List UInt8} {lab : ByteArray} (hk16 : k.length = 16) (hs : lab.size ≤ 1000000) (hlen : T.ks.length < 100000) :
    Calls Try.prog 13 #[.pointer (some ⟨tb, 0, none⟩), .agg (kv k), .string lab] w fun e w' => e = .returned (.agg (kv (mk 107 (onceT T ⟨⟨k, lab, false⟩, ⟨#[]⟩, ⟨#[]⟩⟩).1))) ∧ At w0 w' K tb KV (onceT T ⟨⟨k, lab, false⟩, ⟨#[]⟩, ⟨#[]⟩⟩).2 := by
  obtain ⟨L, O, S, ht, ho, hk, hr, hw⟩ := h
  refine (derive_any tb L O S T hk16 hs w ht hlen).mono fun e w' ⟨he, L', O', S', h1, h2, h3, _⟩ => ⟨he, At.kept hr ho hk hw h1 h2 h3⟩
theorem At.boxes {w0 w : World} {K tb : Nat} {KV : Array Value} {T : Tab} (h : At w0 w K tb KV T) :
    Calls Try.prog 21 #[.pointer (some ⟨tb, 0, none⟩)] w fun e w' => e = .returned (.int .i64 T.bs.length) ∧ w = w' := by
  obtain ⟨L, O, S, ht, _⟩ := h
  exact boxes_any ht
theorem onceT_none {T : Tab} {o : Og} (h : T.fd o = none) : onceT T o = (T.ks.length + 1, { T with ks := T.ks ++ [o.fr], fd := setF T.fd o (T.ks.length + 1) }) := by unfold onceT; rw [h]
theorem onceT_some {T : Tab} {o : Og} {k : Nat} (h : T.fd o = some k) : onceT T o = (k, T) := by unfold onceT; rw [h]
/-- the example's tables -/
def k1 : List UInt8 := mk 107 1
def ab : List UInt8 := [97, 98]
def T2 : Tab := ⟨[Fr.none], [⟨k1, 3, ab⟩], [], fun _ => none⟩
def ot : Og := ⟨Fr.text, ⟨#[112]⟩, ⟨#[115]⟩⟩
def ox : Og := ⟨⟨k1, ⟨#[120]⟩, false⟩, ⟨#[]⟩, ⟨#[]⟩⟩
def oy : Og := ⟨⟨k1, ⟨#[121]⟩, false⟩, ⟨#[]⟩, ⟨#[]⟩⟩
noncomputable def T3 : Tab := (onceT T2 ot).2
noncomputable def T4 : Tab := (onceT T3 ox).2
noncomputable def T5 : Tab := (onceT T4 oy).2
theorem ot_ox : ox ≠ ot := fun e => by have := congrArg (fun o => o.fr.tx) e; exact absurd this (by decide)
theorem ot_oy : oy ≠ ot := fun e => by have := congrArg (fun o => o.fr.tx) e; exact absurd this (by decide)
theorem ox_oy : oy ≠ ox := fun e => by
  have := congrArg (fun o => o.fr.lab.data.toList) e
  exact absurd this (by decide)
theorem t3 : onceT T2 ot = (2, T3) ∧ T3.ks.length = 2 ∧ T3.fd ot = some 2 ∧ T3.fd ox = none ∧ T3.fd oy = none ∧ T3.bs = T2.bs := by
  have h : onceT T2 ot = _ := onceT_none rfl
  have e3 : T3 = { T2 with ks := T2.ks ++ [ot.fr], fd := setF T2.fd ot 2 } := by unfold T3; rw [h]; rfl
  refine ⟨by rw [h]; unfold T3; rw [h]; rfl, by rw [e3]; rfl, ?_, ?_, ?_, by rw [e3]⟩
  · rw [e3]; exact setF_same _ _ _
  · rw [e3]; exact setF_other _ _ ot_ox
  · rw [e3]; exact setF_other _ _ ot_oy
theorem t3' : onceT T3 ot = (2, T3) := onceT_some t3.2.2.1
theorem t4 : onceT T3 ox = (3, T4) ∧ T4.ks.length = 3 ∧ T4.fd oy = none ∧ T4.bs = T2.bs := by
  have h : onceT T3 ox = _ := onceT_none t3.2.2.2.1
  have e4 : T4 = { T3 with ks := T3.ks ++ [ox.fr], fd := setF T3.fd ox (T3.ks.length + 1) } := by unfold T4; rw [h]
  refine ⟨by rw [h]; unfold T4; rw [h, t3.2.1], by rw [e4]; simp [t3.2.1], ?_, by rw [e4]; exact t3.2.2.2.2.2⟩
  rw [e4]
  exact (setF_other _ _ ox_oy).trans t3.2.2.2.2.1
theorem t5 : onceT T4 oy = (4, T5) ∧ T5.bs = T2.bs := by
  have h : onceT T4 oy = _ := onceT_none t4.2.2.1
  have e5 : T5 = { T4 with ks := T4.ks ++ [oy.fr], fd := setF T4.fd oy (T4.ks.length + 1) } := by unfold T5; rw [h]
  exact ⟨by rw [h]; unfold T5; rw [h, t4.2.1], by rw [e5]; exact t4.2.2.2⟩
theorem k1_len : k1.length = 16 := mk_len _ _
theorem box1 : boxS T2 (mk 98 1) = some ⟨k1, 3, ab⟩ := by
  have h := markOf_mk (kd := 98) (n := 1) rfl (by decide)
  unfold boxS mkK mkN
  rw [h]
  rfl
theorem mark1 : mkK (mk 98 1) = 98 ∧ mkN (mk 98 1) = 1 ∧ mkO (mk 98 1) = true := by
  have h := markOf_mk (kd := 98) (n := 1) rfl (by decide)
  unfold mkK mkN mkO
  rw [h]
  exact ⟨rfl, rfl, rfl⟩
end Go.Proofs.Ytbfcdlfjlailjaa.Sym
