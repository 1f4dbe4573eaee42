/-
  The document's Read: what its loop keeps, plainly.
-/
import Derived.Test.YtfinonfkpmlfeaaDerg
namespace Go.Proofs.Ytfinonfkpmlfeaa.Der
open Go.RowKit
open Go.Proofs.Ytfinonfkpmlfeaa.Kit
open Go.Proofs.Ytfinonfkpmlfeaa.Oct
set_option linter.unusedVariables false

/-- what the document's Read answers -/
def RrPost (d : Nat) (bs : List UInt8) (n : Nat) (w : World) (e : Ending) (w' : World) : Prop :=
  Below w.heap.size w w' ∧ match rd d bs with
    | .err x => 0 < x ∧ e = .returned (.tuple #[zeroV, .int .i64 0, .int .i64 x])
    | .ok x k => k ≤ n ∧ ∃ A m c A' m' c', e = .returned (.tuple #[.agg #[.int .i64 x.k, .int .i64 x.t, .int .u64 x.n, .slice A m c, .slice A' m' c'], .int .i64 k, .int .i64 0]) ∧
      RdVS w' (fun b => w.heap.size ≤ b ∧ b < w'.heap.size) x A m c A' m' c'
def RrC (d : Nat) : Prop := ∀ (deep : Nat) (A : Option Addr) (n c : Nat) (bs : List UInt8) (w : World), deep + d = 9 → n ≤ 4096 → RdB w w.heap.size A n c bs →
  Calls Try.prog 37 #[.slice A n c, .int .i64 deep] w (RrPost d bs n w)
theorem RrPost.err {d n : Nat} {bs : List UInt8} {w w' : World} {e : Ending} {x : Nat} (hr : rd d bs = .err x) (hb : Below w.heap.size w w') (hx : 0 < x) (he : e = .returned (.tuple #[zeroV, .int .i64 0, .int .i64 x])) : RrPost d bs n w e w' := by
  refine ⟨hb, ?_⟩
  rw [hr]; exact ⟨hx, he⟩
theorem RrPost.ok {d k n : Nat} {bs : List UInt8} {w w' : World} {e : Ending} {x : V} (hr : rd d bs = .ok x k) (hb : Below w.heap.size w w') (hk : k ≤ n)
    (he : ∃ A m c A' m' c', e = .returned (.tuple #[.agg #[.int .i64 x.k, .int .i64 x.t, .int .u64 x.n, .slice A m c, .slice A' m' c'], .int .i64 k, .int .i64 0]) ∧
      RdVS w' (fun b => w.heap.size ≤ b ∧ b < w'.heap.size) x A m c A' m' c') : RrPost d bs n w e w' := by
  refine ⟨hb, ?_⟩
  rw [hr]; exact ⟨hk, he⟩

/-- what a round leaves -/
theorem rr_rel {w wr w2 w3 : World} {q c1 cap gg m c : Nat} {A B : Option Addr} {xs : List Value} {e : TypeId} {vs : List V} {x : V} {A3 A4 : Option Addr} {m3 c3 m4 c4 : Nat} {O O1 O2 : Obj} {rest : List UInt8} {u0 u1 u2 u3 : Value}
    (hown : wr.ownsRow (w.heap.size + 2) e 5 (.slice B q c1) q xs)
    (hbox : wr.heap[w.heap.size + 1]? = some (.cells #[u0, u1, u2, u3, .slice B q c1] e (0, 0))) (hres : wr.heap[w.heap.size]? = some O)
    (hrows : Rows5 wr (fun b => w.heap.size + 2 ≤ b ∧ b < wr.heap.size ∧ (Value.slice B q c1).ownBlock ≠ some b) vs xs) (hbw : Below w.heap.size w wr) (hsz : w.heap.size + 2 ≤ wr.heap.size)
    (hb2 : Below wr.heap.size wr w2) (hrv : RdVS w2 (fun b => wr.heap.size ≤ b ∧ b < w2.heap.size) x A3 m3 c3 A4 m4 c4) (hrd : RdB wr w.heap.size A m c rest)
    (hown3 : w3.ownsRow (w.heap.size + 2) e 5 (.slice (some ⟨gg, 0, none⟩) (q + 1) cap) (q + 1) (xs ++ [.int .i64 x.k, .int .i64 x.t, .int .u64 x.n, .slice A3 m3 c3, .slice A4 m4 c4]))
    (hgrow : ((w2.alloc O1).alloc O2).grownBy w3 (Value.slice B q c1).ownBlock) (hat : (Value.slice B q c1).ownBlock = some gg ∨ gg = w2.heap.size + 2) (hlt3 : gg < w3.heap.size) :
    (w3.setCell ⟨w.heap.size + 1, 4, none⟩ (.slice (some ⟨gg, 0, none⟩) (q + 1) cap)).ownsRow (w.heap.size + 2) e 5 (.slice (some ⟨gg, 0, none⟩) (q + 1) cap) (q + 1) (xs ++ [.int .i64 x.k, .int .i64 x.t, .int .u64 x.n, .slice A3 m3 c3, .slice A4 m4 c4]) ∧
    (w3.setCell ⟨w.heap.size + 1, 4, none⟩ (.slice (some ⟨gg, 0, none⟩) (q + 1) cap)).heap[w.heap.size + 1]? = some (.cells #[u0, u1, u2, u3, .slice (some ⟨gg, 0, none⟩) (q + 1) cap] e (0, 0)) ∧
    (w3.setCell ⟨w.heap.size + 1, 4, none⟩ (.slice (some ⟨gg, 0, none⟩) (q + 1) cap)).heap[w.heap.size]? = some O ∧
    Rows5 (w3.setCell ⟨w.heap.size + 1, 4, none⟩ (.slice (some ⟨gg, 0, none⟩) (q + 1) cap)) (fun b => w.heap.size + 2 ≤ b ∧ b < (w3.setCell ⟨w.heap.size + 1, 4, none⟩ (.slice (some ⟨gg, 0, none⟩) (q + 1) cap)).heap.size ∧ (Value.slice (some ⟨gg, 0, none⟩) (q + 1) cap).ownBlock ≠ some b) (vs ++ [x]) (xs ++ [.int .i64 x.k, .int .i64 x.t, .int .u64 x.n, .slice A3 m3 c3, .slice A4 m4 c4]) ∧
    RdB (w3.setCell ⟨w.heap.size + 1, 4, none⟩ (.slice (some ⟨gg, 0, none⟩) (q + 1) cap)) w.heap.size A m c rest ∧
    Below w.heap.size w (w3.setCell ⟨w.heap.size + 1, 4, none⟩ (.slice (some ⟨gg, 0, none⟩) (q + 1) cap)) ∧ w.heap.size + 2 ≤ (w3.setCell ⟨w.heap.size + 1, 4, none⟩ (.slice (some ⟨gg, 0, none⟩) (q + 1) cap)).heap.size := by
  have hs2 := hb2.size
  have hbo := hown.lt
  have hgb : w.heap.size + 2 ≤ gg := (hown3.lt gg rfl).1
  have hs3 : w2.heap.size + 2 ≤ w3.heap.size := by have := hgrow.size; simpa using this
  have hszS : (w3.setCell ⟨w.heap.size + 1, 4, none⟩ (.slice (some ⟨gg, 0, none⟩) (q + 1) cap)).heap.size = w3.heap.size := by simp [World.setCell]
  have keep : ∀ b, b < w2.heap.size → (Value.slice B q c1).ownBlock ≠ some b → b ≠ w.heap.size + 1 → (w3.setCell ⟨w.heap.size + 1, 4, none⟩ (.slice (some ⟨gg, 0, none⟩) (q + 1) cap)).heap[b]? = w2.heap[b]? := by
    intro b hb hne hG
    rw [heap_setCell_other _ _ _ _ hG, hgrow.block b (by simp; omega) (fun e => hne e.symm), heap_alloc_old _ O2 (by simp; omega)]
    exact heap_alloc_old w2 O1 hb
  have hGne : (Value.slice B q c1).ownBlock ≠ some (w.heap.size + 1) := fun e => by have := (hbo _ e).1; omega
  have hG3 : w3.heap[w.heap.size + 1]? = some (.cells #[u0, u1, u2, u3, .slice B q c1] e (0, 0)) := by
    rw [hgrow.block _ (by simp; omega) (fun e => hGne e.symm), heap_alloc_old _ O2 (by simp; omega), heap_alloc_old w2 O1 (by omega), hb2.block _ (by omega)]
    exact hbox
  have hdis : ∀ b, b < w2.heap.size → (Value.slice B q c1).ownBlock ≠ some b → gg ≠ b := by
    intro b hb hne
    rcases hat with h | h
    · rintro rfl; exact hne h
    · omega
  have hlow : ∀ b, b < w.heap.size → (w3.setCell ⟨w.heap.size + 1, 4, none⟩ (.slice (some ⟨gg, 0, none⟩) (q + 1) cap)).heap[b]? = wr.heap[b]? := fun b hb => by
    rw [keep b (by omega) (fun e => by have := (hbo _ e).1; omega) (by omega), hb2.block _ (by omega)]
  refine ⟨?_, ?_, ?_, ?_, ?_, ?_, ?_⟩
  · refine hown3.kept (row := some (w.heap.size + 1)) ⟨rfl, rfl, rfl, by rw [hszS]; exact Nat.le_refl _, fun b _ hb => heap_setCell_other _ _ _ _ (fun e => hb (by rw [e]))⟩ (.inr ?_)
    simp only [Value.ownBlock]
    intro e
    injection e with e
    omega
  · rw [heap_setCell_same w3 (w.heap.size + 1) 4 _ e _ hG3]
    rfl
  · rw [keep _ (by omega) (fun e => by have := (hbo _ e).1; omega) (by omega), hb2.block _ (by omega)]
    exact hres
  · refine rows_more hrows (fun p hp => ?_) (fun b hb => ?_) (RdVS.keep (fun p hp => ?_) (fun b hb => ?_) _ hrv)
    · refine World.cell?_of_block ?_
      obtain ⟨h1, h2, h3⟩ := hp
      rw [keep _ (by omega) h3 (by omega), hb2.block _ h2]
    · obtain ⟨h1, h2, h3⟩ := hb
      refine ⟨h1, by rw [hszS]; omega, ?_⟩
      simp only [Value.ownBlock]
      intro e
      injection e with e
      exact hdis b (by omega) h3 e
    · refine World.cell?_of_block ?_
      obtain ⟨h1, h2⟩ := hp
      exact keep _ h2 (fun e => by have := (hbo _ e).2; omega) (by omega)
    · obtain ⟨h1, h2⟩ := hb
      refine ⟨by omega, by rw [hszS]; omega, ?_⟩
      simp only [Value.ownBlock]
      intro e
      injection e with e
      exact hdis b h2 (fun e => by have := (hbo _ e).2; omega) e
  · exact hrd.keep fun p hp => World.cell?_of_block (hlow _ hp)
  · have h1 : Below w.heap.size w w3 := (below_alloc (below_alloc (below_seq hbw hb2) O1) O2).grown hgrow (by simp; omega) (fun k hk => by have := (hbo _ hk).1; omega)
    exact h1.setCell (by simp) _
  · rw [hszS]; omega

/-- what the whole leaves: the value in its box, and its list -/
theorem rr_fin {w wr W : World} {q c1 : Nat} {B : Option Addr} {xs : List Value} {e : TypeId} {l : List V} (hown : wr.ownsRow (w.heap.size + 2) e 5 (.slice B q c1) q xs)
    (hrows : Rows5 wr (fun b => w.heap.size + 2 ≤ b ∧ b < wr.heap.size ∧ (Value.slice B q c1).ownBlock ≠ some b) l xs) (hql : q = l.length) (hmax : q * 72 ≤ 140737488355328)
    (hk : ∀ b, b ≠ w.heap.size → W.heap[b]? = wr.heap[b]?) (hz : W.heap.size = wr.heap.size) :
    RdVsS W (fun b => w.heap.size ≤ b ∧ b < W.heap.size) l B q c1 := by
  have h := all_fin hown hrows hql hmax
  exact h.keep (fun p hp => World.cell?_of_block (hk _ (by have := hp.1; omega))) (fun b hb => ⟨by have := hb.1; omega, by rw [hz]; exact hb.2⟩)
end Go.Proofs.Ytfinonfkpmlfeaa.Der
