/-
  SymPlays: the rounds joined.
-/
import Derived.Test.YtbfcdlfjlailjaaSypzx
import Derived.Test.YtbfcdlfjlailjaaSypa
import Derived.Test.YtbfcdlfjlailjaaSypb
import Derived.Test.YtbfcdlfjlailjaaSypc
import Derived.Test.YtbfcdlfjlailjaaSypj
import Derived.Test.YtbfcdlfjlailjaaSypn
import Derived.Test.YtbfcdlfjlailjaaSyps
import Derived.Test.YtbfcdlfjlailjaaSypt
import Derived.Test.YtbfcdlfjlailjaaSypv
import Derived.Test.YtbfcdlfjlailjaaSypy
import Derived.Test.YtbfcdlfjlailjaaSypz
import Derived.Test.YtbfcdlfjlailjaaSyqa
import Derived.Test.YtbfcdlfjlailjaaSyqb
import Derived.Test.YtbfcdlfjlailjaaCuts
import Derived.Test.YtbfcdlfjlailjaaSypqu
namespace Go.Proofs.Ytbfcdlfjlailjaa.Sym
open Go.RowKit
open Go.Proofs.Ytbfcdlfjlailjaa.Kit
open Go.Proofs.Ytbfcdlfjlailjaa.Oct
set_option linter.unusedVariables false

/-- a round of one kind -/
def RoundK (kd : Int) : Prop := ∀ (w0 w wr : World) (A : Option Addr) (n c tb k : Nat) (x37 x39 x40 x41 : Value) (u : Nat → Value) (T : Tab) (R S : Nat → Prop) (J4 J5 J6 : Option Addr) (c4 c5 c6 : Nat) (K : List Fm) (B : List Sl) (M : List (List UInt8)) (x5 x6 : List Value) (st : List Ps),
    RdPs w A n c st → Below w.heap.size w w0 → k < n → n ≤ 60 → Mem w0 wr tb T R S J4 J5 J6 c4 c5 c6 K B M x5 x6 → Pl k K B M T →
    ∀ (b o : Nat) (s : Ps), A = some ⟨b, o, none⟩ → (-9223372036854775808 ≤ s.b ∧ s.b ≤ 9223372036854775807) → (∀ W, Below w.heap.size w W → RdB W W.heap.size s.A s.n s.c s.body) →
    wr.cell? ⟨b, o + k * 5, none⟩ = some (.int .i64 s.kind) → wr.cell? ⟨b, o + k * 5 + 1, none⟩ = some (.int .i64 s.a) → wr.cell? ⟨b, o + k * 5 + 2, none⟩ = some (.int .i64 s.b) → wr.cell? ⟨b, o + k * 5 + 3, none⟩ = some (.string s.text) → wr.cell? ⟨b, o + k * 5 + 4, none⟩ = some (.slice s.A s.n s.c) →
    s.text.size ≤ 40 ∧ s.n ≤ 40 → s.kind = kd → ∀ (Q : Exit → Act → World → Prop), (∀ a' w', PI w0 A n c tb x37 x39 x40 x41 a' w' ∧ mu n a' w' < n - k → Q .normal a' w') → (∀ c a a' w, Q (.panic c) a w → Q (.panic c) a' w) →
    Code.wp Try.prog playsBody Q ⟨FR A n c tb x37 x39 x40 x41 u (.slice J4 K.length c4) (.slice J5 B.length c5) (.slice J6 M.length c6) k, []⟩ wr
theorem round0 : RoundK 0 := fun w0 w wr A n c tb k x37 x39 x40 x41 u T R S J4 J5 J6 c4 c5 c6 K B M x5 x6 st hx hb0 hk hn60 hM hP b o s hA hsb hbody p0 p1 p2 p3 p4 hl hkd Q hend hpan =>
  plays_k0 hx hb0 hk hn60 hM hP hA hsb hbody p0 p1 p2 p3 p4 hl (Lib.hid hkd) hend hpan
theorem round1 : RoundK 1 := fun w0 w wr A n c tb k x37 x39 x40 x41 u T R S J4 J5 J6 c4 c5 c6 K B M x5 x6 st hx hb0 hk hn60 hM hP b o s hA hsb hbody p0 p1 p2 p3 p4 hl hkd Q hend hpan =>
  plays_k1 hx hb0 hk hn60 hM hP hA hsb hbody p0 p1 p2 p3 p4 hl (Lib.hid hkd) hend hpan
theorem round2 : RoundK 2 := fun w0 w wr A n c tb k x37 x39 x40 x41 u T R S J4 J5 J6 c4 c5 c6 K B M x5 x6 st hx hb0 hk hn60 hM hP b o s hA hsb hbody p0 p1 p2 p3 p4 hl hkd Q hend hpan =>
  plays_k2 hx hb0 hk hn60 hM hP hA hsb hbody p0 p1 p2 p3 p4 hl (Lib.hid hkd) hend hpan
theorem mu_fr (A : Option Addr) (n c tb : Nat) (x37 x39 x40 x41 : Value) (u : Nat → Value) (v4 v5 v6 : Value) (k : Nat) (w : World) : mu n ⟨FR A n c tb x37 x39 x40 x41 u v4 v5 v6 k, []⟩ w = n - k := rfl
/-- the whole loop, once each kind of round is known -/
theorem plays_loop (h3 : RoundK 3) (h4 : RoundK 4) (h5 : RoundK 5) {w0 w wr : World} {A : Option Addr} {n c tb : Nat} {x37 x39 x40 x41 : Value} {st : List Ps} (hx : RdPs w A n c st) (hb0 : Below w.heap.size w w0) (hn60 : n ≤ 60) {a : Act}
    (h : PI w0 A n c tb x37 x39 x40 x41 a wr) {Q : Exit → Act → World → Prop} (hout : ∀ a' w', PI w0 A n c tb x37 x39 x40 x41 a' w' → Q (.exit 0) a' w') (hpan : ∀ c a a' w, Q (.panic c) a w → Q (.panic c) a' w) :
    (Code.loop playsBody).wp Try.prog Q a wr := by
  refine wp_loop (PI w0 A n c tb x37 x39 x40 x41) (mu n) h ?_
  rintro a w1 ⟨u, k, T, R, S, J4, J5, J6, c4, c5, c6, K, B, M, x5, x6, hk, hM, hP, rfl⟩
  rcases Nat.lt_or_ge k n with hlt | hge
  · obtain ⟨b, o, s, hA, hsb, hbody, p0, p1, p2, p3, p4⟩ := hx.get (below_seq hb0 hM.te.bel) k hlt
    have hend : ∀ a' w', PI w0 A n c tb x37 x39 x40 x41 a' w' ∧ mu n a' w' < n - k → Exit.then (fun a' w' => PI w0 A n c tb x37 x39 x40 x41 a' w' ∧ mu n a' w' < mu n ⟨FR A n c tb x37 x39 x40 x41 u (.slice J4 K.length c4) (.slice J5 B.length c5) (.slice J6 M.length c6) k, []⟩ w1) Q .normal a' w' := fun a' w' hq => ⟨hq.1, by rw [mu_fr]; exact hq.2⟩
    have hpan' : ∀ ch a a' w, Exit.then (fun a' w' => PI w0 A n c tb x37 x39 x40 x41 a' w' ∧ mu n a' w' < mu n ⟨FR A n c tb x37 x39 x40 x41 u (.slice J4 K.length c4) (.slice J5 B.length c5) (.slice J6 M.length c6) k, []⟩ w1) Q (.panic ch) a w → Exit.then (fun a' w' => PI w0 A n c tb x37 x39 x40 x41 a' w' ∧ mu n a' w' < mu n ⟨FR A n c tb x37 x39 x40 x41 u (.slice J4 K.length c4) (.slice J5 B.length c5) (.slice J6 M.length c6) k, []⟩ w1) Q (.panic ch) a' w := fun ch a a' w hq => hpan ch a a' w hq
    by_cases hl : s.text.size ≤ 40 ∧ s.n ≤ 40
    · by_cases e0 : s.kind = 0
      · exact round0 w0 w w1 A n c tb k x37 x39 x40 x41 u T R S J4 J5 J6 c4 c5 c6 K B M x5 x6 st hx hb0 hlt hn60 hM hP b o s hA hsb hbody p0 p1 p2 p3 p4 hl e0 _ hend hpan'
      by_cases e1 : s.kind = 1
      · exact round1 w0 w w1 A n c tb k x37 x39 x40 x41 u T R S J4 J5 J6 c4 c5 c6 K B M x5 x6 st hx hb0 hlt hn60 hM hP b o s hA hsb hbody p0 p1 p2 p3 p4 hl e1 _ hend hpan'
      by_cases e2 : s.kind = 2
      · exact round2 w0 w w1 A n c tb k x37 x39 x40 x41 u T R S J4 J5 J6 c4 c5 c6 K B M x5 x6 st hx hb0 hlt hn60 hM hP b o s hA hsb hbody p0 p1 p2 p3 p4 hl e2 _ hend hpan'
      by_cases e3 : s.kind = 3
      · exact h3 w0 w w1 A n c tb k x37 x39 x40 x41 u T R S J4 J5 J6 c4 c5 c6 K B M x5 x6 st hx hb0 hlt hn60 hM hP b o s hA hsb hbody p0 p1 p2 p3 p4 hl e3 _ hend hpan'
      by_cases e4 : s.kind = 4
      · exact h4 w0 w w1 A n c tb k x37 x39 x40 x41 u T R S J4 J5 J6 c4 c5 c6 K B M x5 x6 st hx hb0 hlt hn60 hM hP b o s hA hsb hbody p0 p1 p2 p3 p4 hl e4 _ hend hpan'
      by_cases e5 : s.kind = 5
      · exact h5 w0 w w1 A n c tb k x37 x39 x40 x41 u T R S J4 J5 J6 c4 c5 c6 K B M x5 x6 st hx hb0 hlt hn60 hM hP b o s hA hsb hbody p0 p1 p2 p3 p4 hl e5 _ hend hpan'
      exact plays_other hx hb0 hlt hn60 hM hP hA hsb hbody p0 p1 p2 p3 p4 hl ⟨e0, e1, e2, e3, e4, e5⟩ hend hpan'
    · exact plays_skip hx hb0 hlt hn60 hM hP hA hsb hbody p0 p1 p2 p3 p4 (by omega) hend hpan'
  · obtain rfl : k = n := by omega
    exact plays_out hM hP fun a' hq => hout a' _ hq
end Go.Proofs.Ytbfcdlfjlailjaa.Sym

/-
  SymPlays: all rounds joined.
-/
namespace Go.Proofs.Ytbfcdlfjlailjaa.Sym
open Go.RowKit
open Go.Proofs.Ytbfcdlfjlailjaa.Kit
open Go.Proofs.Ytbfcdlfjlailjaa.Oct
set_option linter.unusedVariables false

theorem round3 : RoundK 3 := fun w0 w wr A n c tb k x37 x39 x40 x41 u T R S J4 J5 J6 c4 c5 c6 K B M x5 x6 st hx hb0 hk hn60 hM hP b o s hA hsb hbody p0 p1 p2 p3 p4 hl hkd Q hend hpan =>
  plays_k3 hx hb0 hk hn60 hM hP hA hsb hbody p0 p1 p2 p3 p4 hl (Lib.hid hkd) hend hpan
theorem round5 : RoundK 5 := fun w0 w wr A n c tb k x37 x39 x40 x41 u T R S J4 J5 J6 c4 c5 c6 K B M x5 x6 st hx hb0 hk hn60 hM hP b o s hA hsb hbody p0 p1 p2 p3 p4 hl hkd Q hend hpan => by
  by_cases hin : s.body ∈ M
  · exact plays_k5_in hx hb0 hk hn60 hM hP hA hsb hbody p0 p1 p2 p3 p4 hl (Lib.hid hkd) hin hend hpan
  · exact plays_k5_new hx hb0 hk hn60 hM hP hA hsb hbody p0 p1 p2 p3 p4 hl (Lib.hid hkd) hin hend hpan
theorem round4 : RoundK 4 := fun w0 w wr A n c tb k x37 x39 x40 x41 u T R S J4 J5 J6 c4 c5 c6 K B M x5 x6 st hx hb0 hk hn60 hM hP b o s hA hsb hbody p0 p1 p2 p3 p4 hl hkd Q hend hpan => by
  obtain ⟨q, hq31, hqb⟩ := and31 s.b
  by_cases hq0 : q = 0
  · exact plays_k4_a0 hx hb0 hk hn60 hM hP hA hsb hbody p0 p1 p2 p3 p4 hl (Lib.hid hkd) hq31 hqb hq0 hend hpan
  by_cases hq5 : B.length < q
  · exact plays_k4_a1 hx hb0 hk hn60 hM hP hA hsb hbody p0 p1 p2 p3 p4 hl (Lib.hid hkd) hq31 hqb (by omega) hq5 hend hpan
  have hqj : q = (q - 1) + 1 := by omega
  have hj : B[q - 1]? = some (B[q - 1]'(by omega)) := List.getElem?_eq_getElem _
  by_cases hke : (B[q - 1]'(by omega)).key = mk 107 (and31v s.a)
  · by_cases hus : (B[q - 1]'(by omega)).us = (s.text.size : Int)
    · exact plays_k4_b hx hb0 hk hn60 hM hP hA hsb hbody p0 p1 p2 p3 p4 hl (Lib.hid hkd) hq31 hqb hqj hj hke hus hend hpan
    · exact plays_k4_c2 hx hb0 hk hn60 hM hP hA hsb hbody p0 p1 p2 p3 p4 hl (Lib.hid hkd) hq31 hqb hqj hj hke hus hend hpan
  · exact plays_k4_c1 hx hb0 hk hn60 hM hP hA hsb hbody p0 p1 p2 p3 p4 hl (Lib.hid hkd) hq31 hqb hqj hj hke hend hpan
end Go.Proofs.Ytbfcdlfjlailjaa.Sym

/-
  SymPlays: the start.
-/
namespace Go.Proofs.Ytbfcdlfjlailjaa.Sym
open Go.RowKit
open Go.Proofs.Ytbfcdlfjlailjaa.Kit
open Go.Proofs.Ytbfcdlfjlailjaa.Oct
set_option linter.unusedVariables false

/-- at the start: three rows with nothing in them -/
theorem Mem.start {w w2 : World} {tb : Nat} (h : Te w w2 tb Tab.none (fun _ => False)) :
    Mem w (((w2.alloc (.cells #[] 35)).alloc (.cells #[] 41)).alloc (.cells #[] 29)) tb Tab.none (fun b => b = w2.heap.size ∨ b = w2.heap.size + 1 ∨ b = w2.heap.size + 1 + 1) (fun _ => False) (some ⟨w2.heap.size, 0, none⟩) (some ⟨w2.heap.size + 1, 0, none⟩) (some ⟨w2.heap.size + 1 + 1, 0, none⟩) 0 0 0 [] [] [] [] [] := by
  have hw := h.bel.size
  obtain ⟨w3, h3⟩ : ∃ q, q = w2.alloc (.cells #[] 35) := ⟨_, rfl⟩
  have s3 : w3.heap.size = w2.heap.size + 1 := by rw [h3]; simp
  obtain ⟨w4, h4⟩ : ∃ q, q = w3.alloc (.cells #[] 41) := ⟨_, rfl⟩
  have s4 : w4.heap.size = w2.heap.size + 1 + 1 := by rw [h4]; simp [s3]
  have o3 : w3.ownsRow w.heap.size 35 19 (.slice (some ⟨w2.heap.size, 0, none⟩) 0 0) 0 [] := by
    rw [h3]; exact World.ownsRow_made w2 #[] 0 hw (by unfold maxLen; omega) (by rfl)
  have o4 : w4.ownsRow w.heap.size 41 18 (.slice (some ⟨w2.heap.size + 1, 0, none⟩) 0 0) 0 [] := by
    rw [h4, ← s3]; exact World.ownsRow_made w3 #[] 0 (by omega) (by unfold maxLen; omega) (by rfl)
  have o5 : (w4.alloc (.cells #[] 29)).ownsRow w.heap.size 29 1 (.slice (some ⟨w2.heap.size + 1 + 1, 0, none⟩) 0 0) 0 [] := by
    rw [← s4]; exact World.ownsRow_made w4 #[] 0 (by omega) (by unfold maxLen; omega) (by rfl)
  have hb : Below w2.heap.size w2 (w4.alloc (.cells #[] 29)) := by
    rw [h4, h3]
    exact below_alloc (below_alloc (below_alloc (Below.refl _ _) _) _) _
  rw [← h3, ← h4]
  exact {
    te := h.add hb fun b hx => .inr (by have s5 : (w4.alloc (.cells #[] 29)).heap.size = w2.heap.size + 1 + 1 + 1 := by simp [s4]
                                        omega)
    o4 := by
      have := (o3.alloc (.cells #[] 41)).alloc (.cells #[] 29)
      rw [← h4] at this
      exact this
    o5 := o4.alloc _
    o6 := o5
    r5 := rfl
    r6 := rfl
    s := fun b hx => hx.elim
    i4 := fun g e => .inl (Option.some.inj e).symm
    i5 := fun g e => .inr (.inl (Option.some.inj e).symm)
    i6 := fun g e => .inr (.inr (Option.some.inj e).symm)
    d45 := fun g e q => by have e1 := Option.some.inj e; have e2 := Option.some.inj q; simp only at e1 e2; omega
    d46 := fun g e q => by have e1 := Option.some.inj e; have e2 := Option.some.inj q; simp only at e1 e2; omega
    d56 := fun g e q => by have e1 := Option.some.inj e; have e2 := Option.some.inj q; simp only at e1 e2; omega }
theorem Pl.start : Pl 0 [] [] [] Tab.none := ⟨Rel.none, rfl, rfl, List.nodup_nil, Nat.le_refl _, Nat.le_refl _, Nat.le_refl _⟩
set_option maxRecDepth 1000000 in
set_option maxHeartbeats 8000000 in
theorem plays_big (A : Option Addr) (n c : Nat) (w : World) (hbig : 60 < n) : Calls Try.prog 3 #[.slice A n c] w fun e w' => e = .returned (.bool true) ∧ Below w.heap.size w w' := by
  go_enter Try.func3, Try.ntmps3
  go_wp2_with fail
  refine (alive7_any w).mono ?_
  rintro e w1 ⟨rfl, hb1⟩
  have t1 : decide ((60 : Int) < (n : Int)) = true := decide_eq_true (by omega)
  go_wp2
  go_ret
  exact ⟨rfl, hb1⟩

end Go.Proofs.Ytbfcdlfjlailjaa.Sym

/-
  SymPlays, plainly: what the last loop reads of a key and of how it came.
-/
namespace Go.Proofs.Ytbfcdlfjlailjaa.Sym
open Go.RowKit
open Go.Proofs.Ytbfcdlfjlailjaa.Kit
open Go.Proofs.Ytbfcdlfjlailjaa.Oct
set_option linter.unusedVariables false

theorem fm_row {w : World} {g : Nat} {t : TypeId} {f : Fm} (h : w.heap[g]? = some (.cells f.cells.toArray t (0, 0))) (hl : f.of.length = 16) :
    w.cell? ⟨g, 0, none⟩ = some (.int .i64 f.kd) ∧ w.rangeAt g 1 (f.of.map bv) ∧ w.cell? ⟨g, 17, none⟩ = some (.string f.a) := by
  have hc : ∀ i, w.cell? ⟨g, i, none⟩ = f.cells[i]? := fun i => by rw [cell_of_row _ _ _ _ _ _ h]; simp
  refine ⟨by rw [hc]; rfl, fun j v hj => ?_, ?_⟩
  · have hj16 : j < 16 := by have := (List.getElem?_eq_some_iff.1 hj).1; rwa [List.length_map, hl] at this
    rw [hc, Fm.cells, Nat.add_comm, List.getElem?_cons_succ, List.getElem?_append_left (by rw [List.length_map, hl]; exact hj16)]
    exact hj
  · rw [hc, Fm.cells, List.getElem?_cons_succ, List.getElem?_append_right (by simp [hl]), List.length_map, hl]
    rfl
theorem fr_row {w : World} {g : Nat} {t : TypeId} {r : Fr} (h : w.heap[g]? = some (.cells r.cells.toArray t (0, 0))) (hl : r.of.length = 16) :
    w.rangeAt g 0 (r.of.map bv) ∧ w.cell? ⟨g, 16, none⟩ = some (.string r.lab) ∧ w.cell? ⟨g, 17, none⟩ = some (.bool r.tx) := by
  have hc : ∀ i, w.cell? ⟨g, i, none⟩ = r.cells[i]? := fun i => by rw [cell_of_row _ _ _ _ _ _ h]; simp
  refine ⟨fun j v hj => ?_, ?_, ?_⟩
  · have hj16 : j < 16 := by have := (List.getElem?_eq_some_iff.1 hj).1; rwa [List.length_map, hl] at this
    rw [Nat.zero_add, hc, Fr.cells, List.getElem?_append_left (by rw [List.length_map, hl]; exact hj16)]
    exact hj
  · rw [hc, Fr.cells, List.getElem?_append_right (by simp [hl]), List.length_map, hl]
    rfl
  · rw [hc, Fr.cells, List.getElem?_append_right (by simp [hl]), List.length_map, hl]
    rfl
theorem Fr.cells18 {r : Fr} (hl : r.of.length = 16) : r.cells.toArray.size = 18 := by simp [Fr.cells, hl]
/-- how a key came, by its kind -/
theorem Fm.fr_ok {f : Fm} (hl : f.of.length = 16) : f.fr.of.length = 16 := by
  unfold Fm.fr
  by_cases h0 : f.kd = 0
  · rw [if_pos h0]; rfl
  by_cases h1 : f.kd = 1
  · rw [if_neg h0, if_pos h1]; rfl
  rw [if_neg h0, if_neg h1]
  exact hl
theorem Fm.fr_tx {f : Fm} : f.fr.tx = (f.kd == 1) := by
  unfold Fm.fr
  by_cases h0 : f.kd = 0
  · rw [if_pos h0, h0]; rfl
  by_cases h1 : f.kd = 1
  · rw [if_neg h0, if_pos h1, h1]; rfl
  rw [if_neg h0, if_neg h1]
  simp [h1]
theorem Fm.fr_two {f : Fm} (h : f.kd = 2) : f.fr.of = f.of ∧ f.fr.lab = f.a := by
  unfold Fm.fr
  rw [h]
  exact ⟨rfl, rfl⟩
def Z19 : Array Value := #[.int .i64 0, .int .u8 0, .int .u8 0, .int .u8 0, .int .u8 0, .int .u8 0, .int .u8 0, .int .u8 0, .int .u8 0, .int .u8 0, .int .u8 0, .int .u8 0, .int .u8 0, .int .u8 0, .int .u8 0, .int .u8 0, .int .u8 0, .string ⟨#[]⟩, .string ⟨#[]⟩]
theorem zero19 (w : World) : (zeroValue 35).run Try.prog w = .ok (.agg Z19) w := by kernel_rfl
def Zfr : Array Value := #[.int .u8 0, .int .u8 0, .int .u8 0, .int .u8 0, .int .u8 0, .int .u8 0, .int .u8 0, .int .u8 0, .int .u8 0, .int .u8 0, .int .u8 0, .int .u8 0, .int .u8 0, .int .u8 0, .int .u8 0, .int .u8 0, .string ⟨#[]⟩, .bool false]
theorem zerofr (w : World) : (zeroValue 51).run Try.prog w = .ok (.agg Zfr) w := by kernel_rfl
end Go.Proofs.Ytbfcdlfjlailjaa.Sym
