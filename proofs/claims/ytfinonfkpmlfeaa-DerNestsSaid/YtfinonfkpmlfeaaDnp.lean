/-
  DerNests: what is needed.
-/
import Derived.Test.YtfinonfkpmlfeaaDow
import Derived.Test.YtfinonfkpmlfeaaKit3
namespace Go.Proofs.Ytfinonfkpmlfeaa.Der
open Go.RowKit
open Go.Proofs.Ytfinonfkpmlfeaa.Kit
open Go.Proofs.Ytfinonfkpmlfeaa.Oct
set_option linter.unusedVariables false

theorem rights_of {l : List V} {d : Nat} (h : ∀ y ∈ l, y.right d = true) : V.right.rights l d = true := by
  induction l with
  | nil => rfl
  | cons x r ih => rw [V.right.rights, h x (List.mem_cons_self ..), ih fun y hy => h y (List.mem_cons_of_mem _ hy)]; rfl
theorem right_mono (N : Nat) : ∀ x : V, x.size ≤ N → ∀ d, x.right (d + 1) = true → x.right d = true := by
  induction N with
  | zero => intro x hx; have := x.size_pos; omega
  | succ N ih =>
    intro x hx d h
    obtain ⟨h1, h2, h3, h4⟩ := right_cases h
    have hsz : ∀ y ∈ x.l, y.size ≤ N := fun y hy => by have := V.size_l hy; omega
    cases x with
    | mk k t n b l =>
      simp only [V.k, V.t, V.n, V.b, V.l] at h1 h2 h3 h4 hsz
      rw [V.right]
      rcases h4 with ⟨k0, b0, l0⟩ | ⟨k1, n0, l0⟩ | ⟨k2, n0, b0, hr⟩
      · subst k0 b0 l0
        simp; omega
      · subst k1 n0 l0
        simp; omega
      · subst k2 n0 b0
        have := rights_of fun y hy => ih y (hsz y hy) (d + 1) (rights_mem hr hy)
        simp [this]; omega
def nst (T : Int) (x y : V) : V := .mk 2 T 0 [] [x, y]
theorem nst_fit {T : Int} {x y : V} (h0 : 0 ≤ T) (h1 : T ≤ 30) (hx : x.fit) (hy : y.fit) : (nst T x y).fit := ⟨by constructor <;> omega, by constructor <;> omega, by omega, hx, hy, trivial⟩
theorem nst_right {T : Int} {x y : V} (h0 : 0 ≤ T) (h1 : T ≤ 30) : (nst T x y).right 0 = (x.right 1 && y.right 1) := by
  rw [nst, V.right]
  simp [V.right.rights, h0, h1]
theorem nst_enc (T : Int) (x y : V) : (nst T x y).enc = headB 2 T :: (lenB (x.enc ++ y.enc).length ++ (x.enc ++ y.enc)) := by
  rw [V.enc_eq]
  simp [nst, V.k, V.t, V.body, V.l, V.enc.encs]
theorem nst_len (T S : Int) (x y : V) : (nst T x y).enc.length = (nst S x y).enc.length := by rw [nst_enc, nst_enc]; rfl
theorem nst_wrE {T S : Int} {x y : V} (h0 : 0 ≤ T) (h1 : T ≤ 30) (g0 : 0 ≤ S) (g1 : S ≤ 30) : wrE (nst T x y) = wrE (nst S x y) := by
  rw [wrE, wrE, nst_right h0 h1, nst_right g0 g1, nst_len T S]
theorem nst_parts {T : Int} {x y : V} (h0 : 0 ≤ T) (h1 : T ≤ 30) (h : wrE (nst T x y) = 0) : wrE x = 0 ∧ wrE y = 0 := by
  obtain ⟨g1, g2, _⟩ := wr_ok h
  rw [nst_right h0 h1, Bool.and_eq_true] at g1
  have hl : x.enc.length ≤ 4096 ∧ y.enc.length ≤ 4096 := by
    rw [nst_enc] at g2
    simp only [List.length_cons, List.length_append] at g2
    omega
  have r1 := right_mono x.size x (Nat.le_refl _) 0 g1.1
  have r2 := right_mono y.size y (Nat.le_refl _) 0 g1.2
  exact ⟨by rw [wrE, r1, if_pos rfl, if_pos hl.1], by rw [wrE, r2, if_pos rfl, if_pos hl.2]⟩
theorem and15 (a : Int) : ∃ t : Nat, t ≤ 15 ∧ bits .and .i64 a 15 = t := by
  refine ⟨(BitVec.ofInt 64 a &&& BitVec.ofInt 64 15).toNat, ?_, ?_⟩
  · rw [BitVec.toNat_and]
    exact Nat.le_trans Nat.and_le_right (by decide)
  · have hle : (BitVec.ofInt 64 a &&& BitVec.ofInt 64 15).toNat ≤ 15 := by
      rw [BitVec.toNat_and]
      exact Nat.le_trans Nat.and_le_right (by decide)
    show IntKind.i64.wrap ((BitVec.ofInt 64 a &&& BitVec.ofInt 64 15).toNat : Int) = _
    rw [IntKind.wrap_i64]
    omega
/-- two values behind one another -/
theorem two_rd {w : World} {x y : V} {A A' D D' : Option Addr} {m c m' c' p q p' q' : Nat} (hx : RdV w w.heap.size x A m c A' m' c') (hy : RdV w w.heap.size y D p q D' p' q') (t : TypeId) :
    RdVs (w.alloc (.cells #[.int .i64 x.k, .int .i64 x.t, .int .u64 x.n, .slice A m c, .slice A' m' c', .int .i64 y.k, .int .i64 y.t, .int .u64 y.n, .slice D p q, .slice D' p' q'] t)) (w.alloc (.cells #[.int .i64 x.k, .int .i64 x.t, .int .u64 x.n, .slice A m c, .slice A' m' c', .int .i64 y.k, .int .i64 y.t, .int .u64 y.n, .slice D p q, .slice D' p' q'] t)).heap.size
      [x, y] (some ⟨w.heap.size, 0, none⟩) 2 2 := by
  refine ⟨rfl, Nat.le_refl _, by omega, by omega, fun _ => ⟨w.heap.size, 0, rfl, by simp, ?_⟩⟩
  have cell := fun j => World.cell?_alloc_new w #[.int .i64 x.k, .int .i64 x.t, .int .u64 x.n, .slice A m c, .slice A' m' c', .int .i64 y.k, .int .i64 y.t, .int .u64 y.n, .slice D p q, .slice D' p' q'] t j
  unfold RdVl
  rw [RdVlS, RdVlS, RdVlS]
  exact ⟨⟨A, m, c, A', m', c', cell 0, cell 1, cell 2, cell 3, cell 4, hx.on (below_of_new _ _)⟩, ⟨D, p, q, D', p', q', cell 5, cell 6, cell 7, cell 8, cell 9, hy.on (below_of_new _ _)⟩, trivial⟩
theorem Write_N (T : Int) (x y : V) (A2 : Option Addr) (c2 : Nat) (w : World) (hf : (nst T x y).fit) (h : RdVsS w (fun b => b < w.heap.size) [x, y] A2 2 c2) :
    Calls Try.prog 12 #[.agg #[.int .i64 2, .int .i64 T, .int .u64 0, .slice none 0 0, .slice A2 2 c2]] w fun e w' => ∃ B cc, e = .returned (.tuple #[.slice B (wrB (nst T x y)).length cc, .int .i64 (wrE (nst T x y))]) ∧ New w w' B (wrB (nst T x y)).length cc (wrB (nst T x y)) :=
  Write_new (nst T x y) none 0 0 A2 2 c2 w hf (RdVS.join (RdS.nil _ _) h)
theorem Seq_N (T : Int) (x y : V) (A : Option Addr) (w : World) (hl : RdVs w w.heap.size [x, y] A 2 2) (hs : x.size + y.size < 131072) :
    Calls Try.prog 21 #[.int .i64 T, .slice A 2 2] w fun e w' => ∃ A2 c2, e = .returned (.agg #[.int .i64 2, .int .i64 T, .int .u64 0, .slice none 0 0, .slice A2 2 c2]) ∧
      RdVsS w' (fun b => b < w'.heap.size) [x, y] A2 2 c2 ∧ Below w.heap.size w w' :=
  (Seq_new T [x, y] A 2 2 w hl (by simp [V.size.sizes]; omega)).mono fun e w' ⟨A2, c2, he, h1, h2⟩ => ⟨A2, c2, he, h1.keep (fun _ _ => rfl) (fun b hb => hb.2), h2⟩
theorem head_val {T : Int} (h0 : 0 ≤ T) (h1 : T ≤ 30) : ((headB 2 T).toNat : Int) = 128 + T := by
  unfold headB
  simp
  omega
/-- a list of two, read -/
def NstP (T : Int) (x y : V) (w : World) (e : Ending) (w' : World) : Prop :=
  ∃ A m c bb o lc, e = .returned (.tuple #[.agg #[.int .i64 2, .int .i64 T, .int .u64 0, .slice A m c, .slice (some ⟨bb, o, none⟩) 2 lc], .int .i64 0]) ∧ bb < w'.heap.size ∧ 2 ≤ lc ∧
    (∃ A1 m1 c1 A1' m1' c1', w'.cell? ⟨bb, o, none⟩ = some (.int .i64 x.k) ∧ w'.cell? ⟨bb, o + 1, none⟩ = some (.int .i64 x.t) ∧ w'.cell? ⟨bb, o + 2, none⟩ = some (.int .u64 x.n) ∧ w'.cell? ⟨bb, o + 3, none⟩ = some (.slice A1 m1 c1) ∧ w'.cell? ⟨bb, o + 4, none⟩ = some (.slice A1' m1' c1') ∧ RdV w' w'.heap.size x A1 m1 c1 A1' m1' c1') ∧
    (∃ A1 m1 c1 A1' m1' c1', w'.cell? ⟨bb, o + 5, none⟩ = some (.int .i64 y.k) ∧ w'.cell? ⟨bb, o + 6, none⟩ = some (.int .i64 y.t) ∧ w'.cell? ⟨bb, o + 7, none⟩ = some (.int .u64 y.n) ∧ w'.cell? ⟨bb, o + 8, none⟩ = some (.slice A1 m1 c1) ∧ w'.cell? ⟨bb, o + 9, none⟩ = some (.slice A1' m1' c1') ∧ RdV w' w'.heap.size y A1 m1 c1 A1' m1' c1') ∧ Below w.heap.size w w'
theorem Read_N {T : Int} {x y : V} (h0 : 0 ≤ T) (h1 : T ≤ 30) (hfx : x.fit) (hfy : y.fit) (hE : wrE (nst T x y) = 0) (A : Option Addr) (c : Nat) (w : World) (h : RdB w w.heap.size A (wrB (nst T x y)).length c (wrB (nst T x y))) :
    Calls Try.prog 17 #[.slice A (wrB (nst T x y)).length c] w (NstP T x y w) := by
  refine (Read_got A _ c _ w h).mono ?_
  rintro e w' ⟨A, m, c, A', m', c', rfl, hrd, hb⟩
  obtain ⟨e1, e2⟩ := wr_got hE (nst_fit h0 h1 hfx hfy)
  rw [e1, e2]
  rw [e1] at hrd
  have hrd' : RdVS w' (fun b => b < w'.heap.size) (nst T x y) A m c A' m' c' := RdVS.keep (fun _ _ => rfl) (fun b hb => hb.2) _ hrd
  obtain ⟨_, g1, g2, g3, g4, g5⟩ := hrd'.split
  have g1' : m' = 2 := g1
  subst g1'
  obtain ⟨bb, o, rfl, hbb, hl⟩ := g5 (by omega)
  have hl' : RdVlS w' (fun b => b < w'.heap.size) bb o [x, y] := hl
  have q0 := RdVlS.at_ [x, y] hl' 0 (by simp)
  have q1 := RdVlS.at_ [x, y] hl' 1 (by simp)
  simp only [Nat.zero_mul, Nat.add_zero, Nat.one_mul, List.getElem_cons_zero, List.getElem_cons_succ, Nat.add_assoc] at q0 q1
  exact ⟨A, m, c, bb, o, c', rfl, hbb, g2, q0, q1, hb⟩
end Go.Proofs.Ytfinonfkpmlfeaa.Der
