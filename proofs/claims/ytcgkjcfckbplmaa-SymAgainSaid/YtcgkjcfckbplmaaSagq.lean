/-
  SymAgain: the table, the two keys' rows and the two marks' rows behind one world.
-/
import Derived.Test.YtcgkjcfckbplmaaSagp
namespace Go.Proofs.Ytcgkjcfckbplmaa.Sym
open Go.RowKit
open Go.Proofs.Ytcgkjcfckbplmaa.Kit
open Go.Proofs.Ytcgkjcfckbplmaa.Oct
set_option linter.unusedVariables false

theorem Tb.weak {w0 w : World} {tb : Nat} {T : Tab} {R R' : Nat → Prop} (h : Tb w0 w tb T R) (hR : ∀ b, R' b → R b) : Tb w0 w tb T R' := by
  obtain ⟨L, O, S, ht, ho, hr, hw⟩ := h
  exact ⟨L, O, S, ht, ho, fun b hb => hr b (hR b hb), hw⟩
def keyRow (w : World) (g : Nat) (x : List UInt8) : Prop := w.heap[g]? = some (.cells (kv x) 36 (0, 0))
def R4 (K D gb gs : Nat) : Nat → Prop := fun b => b = K ∨ b = D ∨ b = gb ∨ b = gs
structure AgW (w0 w : World) (tb K D gb gs : Nat) (p s lab : ByteArray) (body : List UInt8) (m n l : Nat) (T : Tab) : Prop where
  tb : Tb w0 w tb T (R4 K D gb gs)
  ag : Ag p s lab body m n l T
  rk : keyRow w K (mk 107 1)
  rd : keyRow w D (mk 107 2)
  rb : keyRow w gb (mk 98 1)
  rs : keyRow w gs (mk 100 1)
variable {w0 w w' : World} {tb K D gb gs : Nat} {p s lab : ByteArray} {body : List UInt8} {m n l : Nat} {T : Tab}
theorem agw_go {T' : Tab} {m' n' l' : Nat} (h : AgW w0 w tb K D gb gs p s lab body m n l T) (ht : Tb w0 w' tb T' (R4 K D gb gs)) (hr : Rows (R4 K D gb gs) w w') (ha : Ag p s lab body m' n' l' T') : AgW w0 w' tb K D gb gs p s lab body m' n' l' T' :=
  ⟨ht, ha, (hr K (.inl rfl)).trans h.rk, (hr D (.inr (.inl rfl))).trans h.rd, (hr gb (.inr (.inr (.inl rfl)))).trans h.rb, (hr gs (.inr (.inr (.inr rfl)))).trans h.rs⟩
theorem agw_below (h : AgW w0 w tb K D gb gs p s lab body m n l T) (hb : Below w.heap.size w w') : AgW w0 w' tb K D gb gs p s lab body m n l T :=
  agw_go h (h.tb.below hb).1 (h.tb.below hb).2 h.ag
theorem rd_key {w : World} {g : Nat} {x : List UInt8} (h : keyRow w g x) (hx : x.length = 16) : RdB w w.heap.size (some ⟨g, 0, none⟩) 16 16 x := rd_block (bs := x) h hx (by omega)
theorem agw_fresh (h : AgW w0 w tb K D gb gs p s lab body m n l T) (hm : m < 100000) :
    Calls Try.prog 12 #[.pointer (some ⟨tb, 0, none⟩)] w fun e w' => ∃ v T', e = .returned v ∧ AgW w0 w' tb K D gb gs p s lab body (m + 1) n l T' :=
  (h.tb.fresh (Nat.lt_of_le_of_lt h.ag.ks hm)).mono fun e w' ⟨he, h1, h2⟩ => ⟨_, _, he, agw_go h h1 h2 (ag_fresh h.ag)⟩
theorem agw_derive (h : AgW w0 w tb K D gb gs p s lab body m n l T) (hm : m < 100000) {k : List UInt8} (hk : k.length = 16) {x : ByteArray} (hx : x.size ≤ 1000000) :
    Calls Try.prog 13 #[.pointer (some ⟨tb, 0, none⟩), .agg (kv k), .string x] w fun e w' => ∃ v T', e = .returned v ∧ AgW w0 w' tb K D gb gs p s lab body (m + 1) n l T' :=
  (h.tb.derive hk hx (Nat.lt_of_le_of_lt h.ag.ks hm)).mono fun e w' ⟨he, h1, h2⟩ => ⟨_, _, he, agw_go h h1 h2 (ag_once h.ag _)⟩
theorem agw_seal (h : AgW w0 w tb K D gb gs p s lab body m n l T) (hn : n < 100000) {k b : List UInt8} {u : Int} {A : Option Addr} {q c : Nat} (hk : k.length = 16) (hu : -9223372036854775808 ≤ u ∧ u ≤ 9223372036854775807) (hrd : RdB w w.heap.size A q c b) (hq : q ≤ 1000000) :
    Calls Try.prog 16 #[.pointer (some ⟨tb, 0, none⟩), .agg (kv k), .int .i64 u, .slice A q c] w fun e w' => ∃ v T', e = .returned v ∧ AgW w0 w' tb K D gb gs p s lab body m (n + 1) l T' :=
  (h.tb.seal_ hk hu hrd hq (Nat.lt_of_le_of_lt h.ag.bs hn)).mono fun e w' ⟨g, he, _, _, h1, h2⟩ => ⟨_, _, he, agw_go h (h1.weak fun b hb => .inl hb) h2 (ag_seal h.ag _)⟩
theorem agw_sum (h : AgW w0 w tb K D gb gs p s lab body m n l T) (hl : l < 100000) {b : List UInt8} {A : Option Addr} {q c : Nat} (hrd : RdB w w.heap.size A q c b) (hq : q ≤ 1000000) :
    Calls Try.prog 19 #[.pointer (some ⟨tb, 0, none⟩), .slice A q c] w fun e w' => ∃ v T', e = .returned v ∧ AgW w0 w' tb K D gb gs p s lab body m n (l + 1) T' :=
  (h.tb.digest hrd hq (Nat.lt_of_le_of_lt h.ag.sm hl)).mono fun e w' ⟨g, he, _, _, h1, h2⟩ => ⟨_, _, he, agw_go h (h1.weak fun b hb => .inl hb) h2 (ag_sum h.ag _)⟩
/-- the same again -/
theorem agw_text2 (h : AgW w0 w tb K D gb gs p s lab body m n l T) (hm : m < 100000) (hp : p.size ≤ 1000000) (hs : s.size ≤ 1000000) :
    Calls Try.prog 14 #[.pointer (some ⟨tb, 0, none⟩), .string p, .string s] w fun e w' => e = .returned (.agg (kv (mk 107 1))) ∧ AgW w0 w' tb K D gb gs p s lab body m n l T := by
  have h1 := h.tb.text hp hs (Nat.lt_of_le_of_lt h.ag.ks hm)
  rw [show onceT T ⟨Fr.text, p, s⟩ = (1, T) from ag_text2 h.ag] at h1
  exact h1.mono fun e w' ⟨he, h1, h2⟩ => ⟨he, agw_go h h1 h2 h.ag⟩
theorem agw_der2 (h : AgW w0 w tb K D gb gs p s lab body m n l T) (hm : m < 100000) (hp : lab.size ≤ 1000000) :
    Calls Try.prog 13 #[.pointer (some ⟨tb, 0, none⟩), .agg (kv (mk 107 1)), .string lab] w fun e w' => e = .returned (.agg (kv (mk 107 2))) ∧ AgW w0 w' tb K D gb gs p s lab body m n l T := by
  have h1 := h.tb.derive (k := mk 107 1) (mk_len _ _) hp (Nat.lt_of_le_of_lt h.ag.ks hm)
  rw [show onceT T ⟨⟨mk 107 1, lab, false⟩, ⟨#[]⟩, ⟨#[]⟩⟩ = (2, T) from ag_der2 h.ag] at h1
  exact h1.mono fun e w' ⟨he, h1, h2⟩ => ⟨he, agw_go h h1 h2 h.ag⟩
theorem agw_sum2 (h : AgW w0 w tb K D gb gs p s lab body m n l T) (hl : l < 100000) {A : Option Addr} {q c : Nat} (hrd : RdB w w.heap.size A q c body) (hq : q ≤ 1000000) :
    Calls Try.prog 19 #[.pointer (some ⟨tb, 0, none⟩), .slice A q c] w fun e w' => ∃ g, e = .returned (.slice (some ⟨g, 0, none⟩) 16 16) ∧ RdB w' w'.heap.size (some ⟨g, 0, none⟩) 16 16 (mk 100 1) ∧ AgW w0 w' tb K D gb gs p s lab body m n l T := by
  have h1 := h.tb.digest hrd hq (Nat.lt_of_le_of_lt h.ag.sm hl)
  rw [(ag_sum2 h.ag).1, (ag_sum2 h.ag).2] at h1
  exact h1.mono fun e w' ⟨g, he, hg, _, h1, h2⟩ => ⟨g, he, rd_key hg (mk_len _ _), agw_go h (h1.weak fun b hb => .inl hb) h2 h.ag⟩
theorem agw_open2 (h : AgW w0 w tb K D gb gs p s lab body m n l T) :
    Calls Try.prog 17 #[.pointer (some ⟨tb, 0, none⟩), .agg (kv (mk 107 2)), .int .i64 7, .slice (some ⟨gb, 0, none⟩) 16 16] w fun e w' =>
      ∃ A' c', e = .returned (.tuple #[.slice A' body.length c', .bool true]) ∧ w'.ownsRow w.heap.size 5 1 (.slice A' body.length c') body.length (body.map bv) ∧ Below w.heap.size w w' := by
  have h1 := h.tb.open_ (u := 7) (ag_box h.ag) (mk_len 107 2) (rd_key h.rb (mk_len _ _))
  refine h1.mono fun e w' hc => ?_
  rcases hc with ⟨_, A', c', he, hown, hb, _⟩ | ⟨hn, _⟩
  · exact ⟨A', c', he, hown, hb⟩
  · exact absurd ⟨rfl, rfl⟩ hn
theorem agw_box2 (h : AgW w0 w tb K D gb gs p s lab body m n l T) :
    Calls Try.prog 18 #[.pointer (some ⟨tb, 0, none⟩), .slice (some ⟨gb, 0, none⟩) 16 16] w fun e w' =>
      ∃ A' c', e = .returned (.tuple #[.agg ((mk 107 2).map bv ++ ([.int .i64 7, .slice A' body.length c'] : List Value)).toArray, .bool true]) ∧ w'.ownsRow w.heap.size 5 1 (.slice A' body.length c') body.length (body.map bv) ∧ Below w.heap.size w w' :=
  (h.tb.box (ag_box h.ag) (rd_key h.rb (mk_len _ _))).mono fun e w' ⟨A', c', he, hown, hb, _⟩ => ⟨A', c', he, hown, hb⟩
/-- the first four -/
theorem agw_start {w1 w2 w3 w4 w5 w6 : World} (h1 : Tb w0 w1 tb (A1 p s) (fun _ => False)) (hb2 : Below w1.heap.size w1 w2) (hk : keyRow w2 K (mk 107 1)) (hK : w1.heap.size ≤ K) : Tb w0 w2 tb (A1 p s) (fun b => False ∨ b = K) :=
  h1.add hb2 hK (Array.getElem?_eq_some_iff.1 hk).1
end Go.Proofs.Ytcgkjcfckbplmaa.Sym
