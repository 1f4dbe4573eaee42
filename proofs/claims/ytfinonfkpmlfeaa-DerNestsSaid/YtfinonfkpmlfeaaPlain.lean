/-
  THE CONTRACT of the law's Plain.
-/
import Derived.Test.YtfinonfkpmlfeaaOctn
import Derived.Test.YtfinonfkpmlfeaaValm
import Derived.Deep.RegionLaw
import Derived.Deep.AppendLies
import Derived.Deep.DrawnRows
import Derived.StillTactics
import Derived.Laws.Pointers
namespace Go.Proofs.Ytfinonfkpmlfeaa.Der
open Go.RowKit
open Go.Proofs.Ytfinonfkpmlfeaa.Kit
open Go.Proofs.Ytfinonfkpmlfeaa.Oct
set_option linter.unusedVariables false
attribute [local go_sem ↓] Go.wp_at_zero Go.wp_at_succ

theorem info44 : (Try.prog.info? 30).map (fun i => (i.zero, i.size, i.bytes)) = some (some (.agg #[.int .i64 0, .int .i64 0, .int .u64 0, .slice none 0 0, .slice none 0 0]), 5, 72) := by kernel_rfl

/-- cells that are values, one behind the other, five cells each -/
def Rows5 (w : World) (S : Nat → Prop) (l : List V) (xs : List Value) : Prop :=
  xs.length = l.length * 5 ∧ ∀ i (hi : i < l.length), ∃ A m c A' m' c', xs[i * 5]? = some (.int .i64 l[i].k) ∧ xs[i * 5 + 1]? = some (.int .i64 l[i].t) ∧ xs[i * 5 + 2]? = some (.int .u64 l[i].n) ∧
    xs[i * 5 + 3]? = some (.slice A m c) ∧ xs[i * 5 + 4]? = some (.slice A' m' c') ∧ RdVS w S l[i] A m c A' m' c'

def PlainC (N : Nat) : Prop := ∀ (x : V) (T : Nat → Prop) (A : Option Addr) (m c : Nat) (A' : Option Addr) (m' c' : Nat) (w : World), x.size ≤ N → RdVS w T x A m c A' m' c' → (∀ b, T b → b < w.heap.size) →
  Calls Try.prog 10 #[.agg #[.int .i64 x.k, .int .i64 x.t, .int .u64 x.n, .slice A m c, .slice A' m' c']] w fun e w' =>
    ∃ A2 m2 c2, e = .returned (.agg #[.int .i64 x.k, .int .i64 x.t, .int .u64 x.n, .slice A m c, .slice A2 m2 c2]) ∧ RdVS w' (fun b => T b ∨ (w.heap.size ≤ b ∧ b < w'.heap.size)) x A m c A2 m2 c2 ∧ Below w.heap.size w w'

theorem own_onN {w w' : World} {base n s : Nat} {v : Value} {e : TypeId} {xs : List Value} (h : w.ownsRow base e s v n xs) (hb : Below w.heap.size w w') : w'.ownsRow base e s v n xs :=
  h.kept (row := none) ⟨hb.os, hb.tape, hb.output, hb.size, fun k hk _ => hb.block k hk⟩ (by rcases hv : v.ownBlock with _ | g <;> simp)
theorem take_one {l : List V} {q : Nat} (h : q < l.length) {i : Nat} (hi : i < (l.take (q + 1)).length) (hq : i = q) : (l.take (q + 1))[i] = l[q] := by
  subst hq
  simp

theorem rows_step {wr w3 : World} {S S' : Nat → Prop} {l : List V} {q : Nat} {xs : List Value} {y : V} {C : Option Addr} {m2 c3 : Nat} {A2 : Option Addr} {m3 c4 : Nat}
    (h : Rows5 wr S (l.take q) xs) (hq : q < l.length) (hy : y = l[q]) (hk : ∀ p : Addr, S p.block → w3.cell? p = wr.cell? p) (hS : ∀ b, S b → S' b) (hrd : RdVS w3 S' y C m2 c3 A2 m3 c4) :
    Rows5 w3 S' (l.take (q + 1)) (xs ++ [.int .i64 y.k, .int .i64 y.t, .int .u64 y.n, .slice C m2 c3, .slice A2 m3 c4]) := by
  have hlq : (l.take q).length = q := by rw [List.length_take]; omega
  have hl1 : (l.take (q + 1)).length = q + 1 := by rw [List.length_take]; omega
  have hxl : xs.length = q * 5 := by rw [h.1, hlq]
  refine ⟨by rw [List.length_append, h.1, hlq, hl1]; simp; omega, fun i hi => ?_⟩
  rw [hl1] at hi
  by_cases hiq : i = q
  · subst hiq
    have e : (l.take (i + 1))[i]'(by omega) = y := by rw [hy]; simp
    rw [e]
    refine ⟨C, m2, c3, A2, m3, c4, ?_, ?_, ?_, ?_, ?_, hrd⟩
    · rw [List.getElem?_append_right (by omega), hxl, Nat.sub_self]; rfl
    · rw [List.getElem?_append_right (by omega), hxl, Nat.add_sub_cancel_left]; rfl
    · rw [List.getElem?_append_right (by omega), hxl, Nat.add_sub_cancel_left]; rfl
    · rw [List.getElem?_append_right (by omega), hxl, Nat.add_sub_cancel_left]; rfl
    · rw [List.getElem?_append_right (by omega), hxl, Nat.add_sub_cancel_left]; rfl
  · have hi2 : i < q := by omega
    obtain ⟨A, m, c, A', m', c', h0, h1, h2, h3, h4, h5⟩ := h.2 i (by omega)
    have e : (l.take (q + 1))[i]'(by omega) = (l.take q)[i]'(by omega) := by simp
    rw [e]
    refine ⟨A, m, c, A', m', c', ?_, ?_, ?_, ?_, ?_, RdVS.keep hk hS _ h5⟩
    · rw [List.getElem?_append_left (by omega)]; exact h0
    · rw [List.getElem?_append_left (by omega)]; exact h1
    · rw [List.getElem?_append_left (by omega)]; exact h2
    · rw [List.getElem?_append_left (by omega)]; exact h3
    · rw [List.getElem?_append_left (by omega)]; exact h4

/-- what a round leaves -/
theorem plain_rel {w wr W1 w2 w3 : World} {T : Nat → Prop} {l : List V} {q c1 cap gg : Nat} {B : Option Addr} {xs : List Value} {k t : Int} {n : Nat} {A : Option Addr} {m c : Nat} {y : V} {C : Option Addr} {m2 c3 : Nat} {A2 : Option Addr} {m3 c4 : Nat} {e : TypeId} {L : Obj}
    (hT : ∀ b, T b → b < w.heap.size) (hown : wr.ownsRow (w.heap.size + 3) e 5 (.slice B q c1) q xs)
    (hbox : wr.heap[w.heap.size + 2]? = some (.cells #[.int .i64 k, .int .i64 t, .int .u64 n, .slice A m c, .slice B q c1] e (0, 0)))
    (hrows : Rows5 wr (fun b => T b ∨ (w.heap.size + 3 ≤ b ∧ b < wr.heap.size ∧ (Value.slice B q c1).ownBlock ≠ some b)) (l.take q) xs) (hbw : Below w.heap.size w wr) (hsz : w.heap.size + 3 ≤ wr.heap.size) {O : Obj} (hres : wr.heap[w.heap.size + 1]? = some O)
    (hq : q < l.length) (hy : y = l[q]) (hW1 : Below wr.heap.size wr W1) (hb2 : Below W1.heap.size W1 w2)
    (hrd2 : RdVS w2 (fun b => T b ∨ (W1.heap.size ≤ b ∧ b < w2.heap.size)) y C m2 c3 A2 m3 c4)
    (hown3 : w3.ownsRow (w.heap.size + 3) e 5 (.slice (some ⟨gg, 0, none⟩) (q + 1) cap) (q + 1) (xs ++ [.int .i64 y.k, .int .i64 y.t, .int .u64 y.n, .slice C m2 c3, .slice A2 m3 c4]))
    (hgrow : (w2.alloc L).grownBy w3 (Value.slice B q c1).ownBlock) (hat : (Value.slice B q c1).ownBlock = some gg ∨ gg = w2.heap.size + 1) (hlt3 : gg < w3.heap.size) :
    (w3.setCell ⟨w.heap.size + 1 + 1, 4, none⟩ (.slice (some ⟨gg, 0, none⟩) (q + 1) cap)).ownsRow (w.heap.size + 3) e 5 (.slice (some ⟨gg, 0, none⟩) (q + 1) cap) (q + 1) (xs ++ [.int .i64 y.k, .int .i64 y.t, .int .u64 y.n, .slice C m2 c3, .slice A2 m3 c4]) ∧
    (w3.setCell ⟨w.heap.size + 1 + 1, 4, none⟩ (.slice (some ⟨gg, 0, none⟩) (q + 1) cap)).heap[w.heap.size + 2]? = some (.cells #[.int .i64 k, .int .i64 t, .int .u64 n, .slice A m c, .slice (some ⟨gg, 0, none⟩) (q + 1) cap] e (0, 0)) ∧
    Rows5 (w3.setCell ⟨w.heap.size + 1 + 1, 4, none⟩ (.slice (some ⟨gg, 0, none⟩) (q + 1) cap)) (fun b => T b ∨ (w.heap.size + 3 ≤ b ∧ b < (w3.setCell ⟨w.heap.size + 1 + 1, 4, none⟩ (.slice (some ⟨gg, 0, none⟩) (q + 1) cap)).heap.size ∧ (Value.slice (some ⟨gg, 0, none⟩) (q + 1) cap).ownBlock ≠ some b)) (l.take (q + 1)) (xs ++ [.int .i64 y.k, .int .i64 y.t, .int .u64 y.n, .slice C m2 c3, .slice A2 m3 c4]) ∧
    Below w.heap.size w (w3.setCell ⟨w.heap.size + 1 + 1, 4, none⟩ (.slice (some ⟨gg, 0, none⟩) (q + 1) cap)) ∧ w.heap.size + 3 ≤ (w3.setCell ⟨w.heap.size + 1 + 1, 4, none⟩ (.slice (some ⟨gg, 0, none⟩) (q + 1) cap)).heap.size ∧
    (w3.setCell ⟨w.heap.size + 1 + 1, 4, none⟩ (.slice (some ⟨gg, 0, none⟩) (q + 1) cap)).heap[w.heap.size + 1]? = some O := by
  have hbD := below_seq hW1 hb2
  have hs12 := hW1.size
  have hs2 := hb2.size
  have hbo := hown.lt
  have hgb : w.heap.size + 3 ≤ gg := (hown3.lt gg rfl).1
  have hs3 : w2.heap.size + 1 ≤ w3.heap.size := by have := hgrow.size; simpa using this
  have hszS : (w3.setCell ⟨w.heap.size + 1 + 1, 4, none⟩ (.slice (some ⟨gg, 0, none⟩) (q + 1) cap)).heap.size = w3.heap.size := by simp [World.setCell]
  -- a block below the row that was appended to, from the round's beginning to its end
  have keep : ∀ b, b < w2.heap.size → (Value.slice B q c1).ownBlock ≠ some b → b ≠ w.heap.size + 2 → (w3.setCell ⟨w.heap.size + 1 + 1, 4, none⟩ (.slice (some ⟨gg, 0, none⟩) (q + 1) cap)).heap[b]? = w2.heap[b]? := by
    intro b hb hne hG
    rw [heap_setCell_other _ _ _ _ (by simp; omega), hgrow.block b (by simp; omega) (fun e => hne e.symm)]
    exact heap_alloc_old w2 L hb
  have hGne : (Value.slice B q c1).ownBlock ≠ some (w.heap.size + 2) := fun e => by have := (hbo _ e).1; omega
  have hG3 : w3.heap[w.heap.size + 2]? = some (.cells #[.int .i64 k, .int .i64 t, .int .u64 n, .slice A m c, .slice B q c1] e (0, 0)) := by
    rw [hgrow.block _ (by simp; omega) (fun e => hGne e.symm), heap_alloc_old w2 L (by omega), hbD.block _ (by omega)]
    exact hbox
  refine ⟨?_, ?_, ?_, ?_, ?_, ?_⟩
  · refine hown3.kept (row := some (w.heap.size + 2)) ⟨rfl, rfl, rfl, by rw [hszS]; exact Nat.le_refl _, fun b _ hb => heap_setCell_other _ _ _ _ (fun e => hb (by rw [e]))⟩ (.inr ?_)
    simp only [Value.ownBlock]
    intro e
    injection e with e
    omega
  · rw [show (w.heap.size + 1 + 1) = w.heap.size + 2 from rfl, heap_setCell_same w3 (w.heap.size + 2) 4 _ e _ hG3]
    rfl
  · have hdis : ∀ b, b < w2.heap.size → (Value.slice B q c1).ownBlock ≠ some b → gg ≠ b := by
      intro b hb hne
      rcases hat with h | h
      · rintro rfl; exact hne h
      · omega
    refine rows_step hrows hq hy (fun p hp => ?_) (fun b hb => ?_) (RdVS.keep (fun p hp => ?_) (fun b hb => ?_) _ hrd2)
    · refine World.cell?_of_block ?_
      rcases hp with hp | ⟨h1, h2, h3⟩
      · have := hT _ hp
        rw [keep _ (by omega) (fun e => by have := (hbo _ e).1; omega) (by omega), hbD.block _ (by omega)]
      · rw [keep _ (by omega) h3 (by omega), hbD.block _ h2]
    · rcases hb with hb | ⟨h1, h2, h3⟩
      · exact .inl hb
      · refine .inr ⟨h1, by rw [hszS]; omega, ?_⟩
        simp only [Value.ownBlock]
        intro e
        injection e with e
        exact hdis b (by omega) h3 e
    · refine World.cell?_of_block ?_
      rcases hp with hp | ⟨h1, h2⟩
      · have := hT _ hp
        exact keep _ (by omega) (fun e => by have := (hbo _ e).1; omega) (by omega)
      · exact keep _ h2 (fun e => by have := (hbo _ e).2; omega) (by omega)
    · rcases hb with hb | ⟨h1, h2⟩
      · exact .inl hb
      · refine .inr ⟨by omega, by rw [hszS]; omega, ?_⟩
        simp only [Value.ownBlock]
        intro e
        injection e with e
        exact hdis b h2 (fun e => by have := (hbo _ e).2; omega) e
  · have h1 : Below w.heap.size w w3 := (below_alloc (below_seq hbw hbD) L).grown hgrow (by simp; omega) (fun k hk => by have := (hbo _ hk).1; omega)
    exact h1.setCell (by simp; omega) _
  · rw [hszS]; omega
  · rw [keep _ (by omega) (fun e => by have := (hbo _ e).1; omega) (by omega), hbD.block _ (by omega)]
    exact hres

/-- what the whole leaves -/
theorem plain_fin {w wr W : World} {T : Nat → Prop} {l : List V} {q c1 : Nat} {B : Option Addr} {xs : List Value} {e : TypeId}
    (hT : ∀ b, T b → b < w.heap.size) (hown : wr.ownsRow (w.heap.size + 3) e 5 (.slice B q c1) q xs)
    (hrows : Rows5 wr (fun b => T b ∨ (w.heap.size + 3 ≤ b ∧ b < wr.heap.size ∧ (Value.slice B q c1).ownBlock ≠ some b)) l xs) (hql : q = l.length) (hmax : q * 72 ≤ 140737488355328)
    (hk : ∀ b, b ≠ w.heap.size + 1 → W.heap[b]? = wr.heap[b]?) (hz : W.heap.size = wr.heap.size) :
    RdVsS W (fun b => T b ∨ (w.heap.size ≤ b ∧ b < W.heap.size)) l B q c1 := by
  have hc : q ≤ c1 ∧ c1 ≤ 9223372036854775807 := by
    rcases hown.2 with ⟨h1, h2⟩ | ⟨g, cap, cur, h1, _, _, h3, h4, _⟩
    · injection h1 with e1 e2 e3
      omega
    · injection h1 with e1 e2 e3
      subst e3
      unfold maxLen at h4
      exact ⟨h3, h4⟩
  refine ⟨hql, hc.1, hc.2, hmax, fun hp => ?_⟩
  have hform : ∃ g, B = some ⟨g, 0, none⟩ := by
    rcases hown.2 with ⟨h1, h2, _⟩ | ⟨g, cap, cur, h1, _⟩
    · omega
    · injection h1 with e1 e2 e3
      exact ⟨g, e1⟩
  obtain ⟨g, rfl⟩ := hform
  have hlt := hown.lt g rfl
  have hcell : ∀ j u, xs[j]? = some u → W.cell? ⟨g, 0 + j, none⟩ = some u := by
    intro j u hu
    have h1 := hown.cells (g := g) rfl j u hu
    rw [add_off] at h1
    rw [← h1]
    exact World.cell?_of_block (hk g (by omega))
  refine ⟨g, 0, rfl, .inr ⟨by omega, by omega⟩, RdVlS.of l fun i hi => ?_⟩
  obtain ⟨A, m, c, A', m', c', h0, h1, h2, h3, h4, h5⟩ := hrows.2 i hi
  refine ⟨A, m, c, A', m', c', hcell _ _ h0, hcell _ _ h1, hcell _ _ h2, hcell _ _ h3, hcell _ _ h4, RdVS.keep (fun p hp => ?_) (fun b hb => ?_) _ h5⟩
  · refine World.cell?_of_block (hk _ ?_)
    rcases hp with hp | ⟨h1, _, _⟩
    · have := hT _ hp; omega
    · omega
  · rcases hb with hb | ⟨h1, h2, _⟩
    · exact .inl hb
    · exact .inr ⟨by omega, by omega⟩
theorem heap_new' (w : World) (o : Obj) {g : Nat} (h : g = w.heap.size) : (w.alloc o).heap[g]? = some o := by subst h; exact heap_alloc_new w o
theorem plain_by {a b c : World} (h : Below a.heap.size a b) (k : Below b.heap.size b c) : Below a.heap.size a c := below_seq h k
set_option maxRecDepth 100000 in
set_option maxHeartbeats 2000000 in
theorem plain_of {N : Nat} (hR : PlainC N) : PlainC (N + 1) := by
  intro x T A m c A' m' c' w hs h hT
  obtain ⟨hbs, hl⟩ := h.split
  have hsl : ∀ y ∈ x.l, y.size ≤ N := fun y hy => by have := V.size_l hy; omega
  have HSL := Lib.hid hsl
  have HA := Lib.hid hR
  obtain ⟨k, hk⟩ : ∃ k, k = x.k := ⟨_, rfl⟩
  obtain ⟨t, ht⟩ : ∃ t, t = x.t := ⟨_, rfl⟩
  obtain ⟨n, hn⟩ : ∃ t, t = x.n := ⟨_, rfl⟩
  obtain ⟨l, hl0⟩ : ∃ q, q = x.l := ⟨_, rfl⟩
  rw [← hl0] at HSL hl
  rw [← hk, ← ht, ← hn]
  have HL0 := Lib.hid hl0
  have HTT := Lib.hid hT
  have hle : m' ≤ l.length ∧ l.length ≤ m' := by have := hl.1; omega
  have hmax : m' * 72 ≤ 140737488355328 := hl.2.2.2.1
  obtain ⟨i0, hi, hz0, hz1, hz2⟩ := info_parts info44
  clear hs h hR hsl hl0 hk ht hn hT
  go_enter Try.func10, Try.ntmps10
  go_wp2_with fail
  go_loopw [18] (fun i wr => ∃ (q : Nat) (B : Option Addr) (c1 : Nat) (xs : List Value), q ≤ m' ∧ i = .int .i64 q ∧ wr.ownsRow (w.heap.size + 3) 30 5 (.slice B q c1) q xs ∧
      wr.heap[w.heap.size + 2]? = some (.cells #[.int .i64 k, .int .i64 t, .int .u64 n, .slice A m c, .slice B q c1] 30 (0, 0)) ∧
      wr.heap[w.heap.size + 1]? = some (.cells #[.int .i64 0, .int .i64 0, .int .u64 0, .slice none 0 0, .slice none 0 0] 30 (0, 0)) ∧
      Rows5 wr (fun b => T b ∨ (w.heap.size + 3 ≤ b ∧ b < wr.heap.size ∧ (Value.slice B q c1).ownBlock ≠ some b)) (l.take q) xs ∧ Below w.heap.size w wr ∧ w.heap.size + 3 ≤ wr.heap.size)
    (fun i _ => m' - (intOf i).toNat)
  case atStart =>
    refine ⟨0, none, 0, [], Nat.zero_le _, rfl, World.ownsRow_nil _ _ _ _, ?_, ?_, ⟨rfl, fun i hi => absurd hi (by simp)⟩, ?_, by simp⟩
    · exact heap_new' _ _ (by simp)
    · rw [heap_alloc_old _ _ (by simp)]; exact heap_new' _ _ (by simp)
    · exact ((below_of_new _ _).alloc (by simp) _).alloc (by simp; omega) _
  case round =>
    obtain ⟨q, B, c1, xs, hq, rfl, hown, hbox, hres, hrows, hbw, hsz⟩ := hrel
    by_cases hlt : q < m'
    · have hlk : q < l.length := by omega
      obtain ⟨bb, o, rfl, hbb, hl2⟩ := hl.2.2.2.2 (by omega)
      obtain ⟨C, m2, c3, C', m2', c2, e0, e1, e2, e3, e4, hrd⟩ := RdVlS.at_ l hl2 q hlk
      have hTw : ∀ b, T b → b < w.heap.size := HTT.out
      have hbbw := hTw bb hbb
      have f0 := (hbw.cell (p := ⟨bb, o + q * 5, none⟩) hbbw).trans e0
      have f1 := (hbw.cell (p := ⟨bb, o + q * 5 + 1, none⟩) hbbw).trans e1
      have f2 := (hbw.cell (p := ⟨bb, o + q * 5 + 2, none⟩) hbbw).trans e2
      have f3 := (hbw.cell (p := ⟨bb, o + q * 5 + 3, none⟩) hbbw).trans e3
      have f4 := (hbw.cell (p := ⟨bb, o + q * 5 + 4, none⟩) hbbw).trans e4
      have hszy := Lib.hid (HSL.out _ (List.getElem_mem (l := l) (n := q) hlk))
      obtain ⟨y, hy⟩ : ∃ y, y = l[q] := ⟨_, rfl⟩
      rw [← hy] at f0 f1 f2 hrd hszy
      have HY := Lib.hid hy
      clear hy hl2 e0 e1 e2 e3 e4 hTw
      have hbyW : ∀ d, Below wr.heap.size wr ((wr.alloc (.cells #[.int .i64 y.k, .int .i64 y.t, .int .u64 y.n, .slice C m2 c3, .slice C' m2' c2] 26)).drewN d) := fun d => below_seq (below_of_new _ _) (below_of_drew ⟨d, rfl⟩ _)
      have hrdW : ∀ d, RdVS ((wr.alloc (.cells #[.int .i64 y.k, .int .i64 y.t, .int .u64 y.n, .slice C m2 c3, .slice C' m2' c2] 26)).drewN d) T y C m2 c3 C' m2' c2 := fun d => RdVS.keep (fun p hp => (below_seq hbw (hbyW d)).cell (HTT.out _ hp)) (fun _ h => h) _ hrd
      have hTW : ∀ d, ∀ b, T b → b < ((wr.alloc (.cells #[.int .i64 y.k, .int .i64 y.t, .int .u64 y.n, .slice C m2 c3, .slice C' m2' c2] 26)).drewN d).heap.size := fun d b hb => Nat.lt_of_lt_of_le (HTT.out b hb) (below_seq hbw (hbyW d)).size
      have hg4 : wr.cell? ⟨w.heap.size + 1 + 1, 4, none⟩ = some (.slice B q c1) := cell_of_row wr _ 4 _ _ (0, 0) hbox
      have hgf : wr.frozen? ⟨w.heap.size + 1 + 1, 4, none⟩ = false := frozen_of_row wr _ 4 _ _ hbox
      have hne : (Value.slice B q c1).ownBlock ≠ some (w.heap.size + 2) := fun e => by have := (hown.lt _ e).1; omega
      have hneX : (Value.slice B q c1).ownBlock ≠ some wr.heap.size := fun e => by have := (hown.lt _ e).2; omega
      have hGlt : w.heap.size + 1 + 1 < wr.heap.size := by omega
      have HBY := Lib.hid hbyW
      have HRW := Lib.hid hrdW
      have HTW := Lib.hid hTW
      have HCALL := Lib.hid (HA.out y T C m2 c3 C' m2' c2 (wr.alloc (.cells #[.int .i64 y.k, .int .i64 y.t, .int .u64 y.n, .slice C m2 c3, .slice C' m2' c2] 26)).drew hszy.out (HRW.out 1) (HTW.out 1))
      clear hbyW hrdW hTW
      go_wp2_with fail
      go_region_law ((first
          | (go_simp; go_at_call 10; refine HCALL.out.mono ?_; rintro e w2 ⟨A2, m3, c4, rfl, hrd2, hb2⟩; have hbD := plain_by (HBY.out 1) hb2; have hGlt2 := Nat.lt_of_lt_of_le hGlt hbD.size; have hg42 := (hbD.cell (p := ⟨w.heap.size + 1 + 1, 4, none⟩) hGlt).trans hg4; have hfz2 := (hbD.frozen (p := ⟨w.heap.size + 1 + 1, 4, none⟩) hGlt).trans hgf)
          | (refine step_append_lies _ (by rfl) _ _ _ (by rfl) (w.heap.size + 3) 30 i0 _ 5 72 Try.underlying28 hi hz0 hz1 hz2 rfl (by omega) (.slice B q c1) q xs (by rfl) ((own_onN hown hbD).alloc _) ⟨w2.heap.size, 0, none⟩ 1 1 [.int .i64 y.k, .int .i64 y.t, .int .u64 y.n, .slice C m2 c3, .slice A2 m3 c4] (by rfl) (by rfl) (World.news_of_block (cs := #[.int .i64 y.k, .int .i64 y.t, .int .u64 y.n, .slice C m2 c3, .slice A2 m3 c4]) (t := 30) (fr := (0, 0)) (heap_alloc_new w2 _)) (by simp [Value.oneCell']) (by omega) (by unfold maxLen; omega) (by omega) (by simp; omega) (w2.heap.size + 1) (by simp) ?_; intro gg cap w3 hown3 hgrow hat hlt3; have hGlt3 := Nat.lt_of_lt_of_le hGlt2 (below_of_new w2 (.cells #[.int .i64 y.k, .int .i64 y.t, .int .u64 y.n, .slice C m2 c3, .slice A2 m3 c4] 30)).size; have hg43 := (hgrow.cell_far ⟨w.heap.size + 1 + 1, 4, none⟩ hGlt3 (Ne.symm hne)).trans (((below_of_new w2 _).cell hGlt2).trans hg42); have hfz3 := (hgrow.frozen_far ⟨w.heap.size + 1 + 1, 4, none⟩ hGlt3 (Ne.symm hne)).trans (((below_of_new w2 _).frozen hGlt2).trans hfz2))))
      all_goals
        have hrel := plain_rel HTT.out hown hbox hrows hbw hsz hres hlk HY.out (HBY.out 1) hb2 hrd2 hown3 hgrow hat hlt3
        clear hown hbox hrows hown3 hgrow hrd2 hg4 hg42 hg43 hgf hfz2 hfz3 hb2 hbD f0 f1 f2 f3 f4 hrd
        go_wp2
        go_roundw
        case rel => exact ⟨q + 1, some ⟨gg, 0, none⟩, cap, _, by omega, by go_num, hrel.1, hrel.2.1, hrel.2.2.2.2.2, hrel.2.2.1, hrel.2.2.2.1, hrel.2.2.2.2.1⟩
        case measure => simp [intOf]; omega
    · obtain rfl : q = m' := by omega
      have d0 := cell_of_row wr (w.heap.size + 1 + 1) 0 _ _ (0, 0) hbox
      have d1 := cell_of_row wr (w.heap.size + 1 + 1) 1 _ _ (0, 0) hbox
      have d2 := cell_of_row wr (w.heap.size + 1 + 1) 2 _ _ (0, 0) hbox
      have d3 := cell_of_row wr (w.heap.size + 1 + 1) 3 _ _ (0, 0) hbox
      have d4 := cell_of_row wr (w.heap.size + 1 + 1) 4 _ _ (0, 0) hbox
      have r0 := cell_of_row wr (w.heap.size + 1) 0 _ _ (0, 0) hres
      have r1 := cell_of_row wr (w.heap.size + 1) 1 _ _ (0, 0) hres
      have r2 := cell_of_row wr (w.heap.size + 1) 2 _ _ (0, 0) hres
      have r3 := cell_of_row wr (w.heap.size + 1) 3 _ _ (0, 0) hres
      have r4 := cell_of_row wr (w.heap.size + 1) 4 _ _ (0, 0) hres
      have z0 := frozen_of_row wr (w.heap.size + 1) 0 _ _ hres
      have z1 := frozen_of_row wr (w.heap.size + 1) 1 _ _ hres
      have z2 := frozen_of_row wr (w.heap.size + 1) 2 _ _ hres
      have z3 := frozen_of_row wr (w.heap.size + 1) 3 _ _ hres
      have z4 := frozen_of_row wr (w.heap.size + 1) 4 _ _ hres
      simp only [List.getElem?_toArray, List.getElem?_cons_zero, List.getElem?_cons_succ] at d0 d1 d2 d3 d4 r0 r1 r2 r3 r4
      have HOWN := Lib.hid hown
      have HROWS := Lib.hid hrows
      clear hown hrows hbox hres
      go_wp2
      have hkk : ∀ b, b ≠ w.heap.size + 1 → (((((wr.setCell ⟨w.heap.size + 1, 0, none⟩ (.int .i64 k)).setCell ⟨w.heap.size + 1, 1, none⟩ (.int .i64 t)).setCell ⟨w.heap.size + 1, 2, none⟩ (.int .u64 n)).setCell ⟨w.heap.size + 1, 3, none⟩ (.slice A m c)).setCell ⟨w.heap.size + 1, 4, none⟩ (.slice B q c1)).heap[b]? = wr.heap[b]? := by
        intro b hb
        rw [heap_setCell_other _ _ _ _ hb, heap_setCell_other _ _ _ _ hb, heap_setCell_other _ _ _ _ hb, heap_setCell_other _ _ _ _ hb, heap_setCell_other _ _ _ _ hb]
      have hzz : (((((wr.setCell ⟨w.heap.size + 1, 0, none⟩ (.int .i64 k)).setCell ⟨w.heap.size + 1, 1, none⟩ (.int .i64 t)).setCell ⟨w.heap.size + 1, 2, none⟩ (.int .u64 n)).setCell ⟨w.heap.size + 1, 3, none⟩ (.slice A m c)).setCell ⟨w.heap.size + 1, 4, none⟩ (.slice B q c1)).heap.size = wr.heap.size := by simp [World.setCell]
      have hbel := ((((hbw.setCell (p := ⟨w.heap.size + 1, 0, none⟩) (by simp) (.int .i64 k)).setCell (p := ⟨w.heap.size + 1, 1, none⟩) (by simp) (.int .i64 t)).setCell (p := ⟨w.heap.size + 1, 2, none⟩) (by simp) (.int .u64 n)).setCell (p := ⟨w.heap.size + 1, 3, none⟩) (by simp) (.slice A m c)).setCell (p := ⟨w.heap.size + 1, 4, none⟩) (by simp) (.slice B q c1)
      have hrows2 := HROWS.out
      rw [List.take_of_length_le hle.2] at hrows2
      have hfin := plain_fin HTT.out HOWN.out hrows2 (by omega) hmax hkk hzz
      rw [HL0.out] at hfin
      have hres2 := RdVS.join (hbs.keep (fun p hp => hbel.cell (HTT.out _ hp)) (fun b hb => .inl hb)) hfin
      refine bodyPost_ret (v := .agg #[.int .i64 k, .int .i64 t, .int .u64 n, .slice A m c, .slice B q c1]) ?_ rfl ⟨B, q, c1, rfl, hres2, hbel⟩
      clear hkk hzz hbel hrows2 hfin hres2
      simp [results, Try.results10, go_sem, r0, r1, r2, r3, r4]
end Go.Proofs.Ytfinonfkpmlfeaa.Der
