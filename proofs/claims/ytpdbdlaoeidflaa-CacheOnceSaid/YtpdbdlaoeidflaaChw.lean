/-
  cache: the steps that came in; CacheShows' walk.
-/
import Derived.Test.YtpdbdlaoeidflaaChu
import Derived.Test.YtpdbdlaoeidflaaChv
import Derived.Test.YtpdbdlaoeidflaaFin
import Derived.Deep.Slices
namespace Go.Proofs.Ytpdbdlaoeidflaa.Ch
open Go.RowKit
open Go.Proofs.Ytpdbdlaoeidflaa.Kit
set_option linter.unusedVariables false

structure Stp where
  later : Int
  it : It
def It.fit (x : It) : Prop := x.cl.size ≤ maxLen ∧ (Lit.int .i64 x.tm).wf = true ∧ (Lit.int .i64 x.sq).wf = true
structure RdP (w : World) (A : Option Addr) (n c : Nat) (l : List Stp) : Prop where
  len : l.length = n
  le : n ≤ c
  lim : c ≤ 9223372036854775807
  ok : ∀ s ∈ l, s.it.fit
  row : 0 < n → ∃ b o, A = some ⟨b, o, none⟩ ∧ b < w.heap.size ∧ ∀ j (hj : j < l.length), w.cell? ⟨b, o + j * 4, none⟩ = some (.int .i64 l[j].later) ∧ w.cell? ⟨b, o + j * 4 + 1, none⟩ = some (.string l[j].it.cl) ∧ w.cell? ⟨b, o + j * 4 + 2, none⟩ = some (.int .i64 l[j].it.tm) ∧ w.cell? ⟨b, o + j * 4 + 3, none⟩ = some (.int .i64 l[j].it.sq)
theorem RdP.get {w w' : World} {A : Option Addr} {n c : Nat} {l : List Stp} (h : RdP w A n c l) (hb : Below w.heap.size w w') (k : Nat) (hk : k < n) : ∃ b o s, A = some ⟨b, o, none⟩ ∧ l[k]? = some s ∧ s.it.fit ∧ w'.cell? ⟨b, o + k * 4, none⟩ = some (.int .i64 s.later) ∧ w'.cell? ⟨b, o + k * 4 + 1, none⟩ = some (.string s.it.cl) ∧ w'.cell? ⟨b, o + k * 4 + 2, none⟩ = some (.int .i64 s.it.tm) ∧ w'.cell? ⟨b, o + k * 4 + 3, none⟩ = some (.int .i64 s.it.sq) := by
  obtain ⟨b, o, e, hlt, hc⟩ := h.row (by omega)
  have hkl : k < l.length := by rw [h.len]; exact hk
  obtain ⟨h1, h2, h3, h4⟩ := hc k hkl
  exact ⟨b, o, l[k], e, List.getElem?_eq_getElem hkl, h.ok _ (List.getElem_mem hkl), (hb.cell (p := ⟨b, o + k * 4, none⟩) hlt).trans h1, (hb.cell (p := ⟨b, o + k * 4 + 1, none⟩) hlt).trans h2, (hb.cell (p := ⟨b, o + k * 4 + 2, none⟩) hlt).trans h3, (hb.cell (p := ⟨b, o + k * 4 + 3, none⟩) hlt).trans h4⟩
theorem list_of {α : Type} {p : Nat → α → Prop} : ∀ (n : Nat), (∀ i, i < n → ∃ y, p i y) → ∃ l : List α, l.length = n ∧ ∀ i (hi : i < l.length), p i l[i]
  | 0, _ => ⟨[], rfl, fun i hi => absurd hi (by simp)⟩
  | n + 1, h => by
    obtain ⟨l, hl, hp⟩ := list_of n (fun i hi => h i (by omega))
    obtain ⟨y, hy⟩ := h n (by omega)
    refine ⟨l ++ [y], by simp [hl], fun i hi => ?_⟩
    by_cases hin : i < l.length
    · rw [List.getElem_append_left hin]; exact hp i hin
    · have : i = n := by simp at hi; omega
      subst this
      rw [List.getElem_append_right (by omega)]
      simpa [hl] using hy
section
variable {H : Type} {enc : TypeId × Value → H} {W : World} {hd : Bool}
theorem open_num {P : Program} {sp : Nat → Bool} {k : IntKind} {t : TypeId} {u : Value} {x : DataW H × List MemPlace} {fuel : Nat} (ht : P.underlying t = some (.int k)) (h : DataW.trod enc P W 0 sp hd fuel t [u] = some x) : ∃ a, u = .int k a ∧ (Lit.int k a).wf = true := by
  cases fuel with
  | zero => simp [DataW.trod] at h
  | succ m =>
    unfold DataW.trod at h
    rw [ht] at h
    split at h <;> simp_all
theorem open_str {P : Program} {sp : Nat → Bool} {t : TypeId} {u : Value} {x : DataW H × List MemPlace} {fuel : Nat} (ht : P.underlying t = some .string) (h : DataW.trod enc P W 0 sp hd fuel t [u] = some x) : ∃ s, u = .string s ∧ s.size ≤ maxLen := by
  cases fuel with
  | zero => simp [DataW.trod] at h
  | succ m =>
    unfold DataW.trod at h
    rw [ht] at h
    split at h <;> simp_all
theorem cellsStep : Try.prog.cellsOf 28 = 4 := by kernel_rfl
theorem open_step {fuel : Nat} {cs : List Value} {x : DataW H × List MemPlace} (h : DataW.trod enc Try.prog W 0 (fun _ => true) hd fuel 28 cs = some x) : ∃ s : Stp, cs = [.int .i64 s.later, .string s.it.cl, .int .i64 s.it.tm, .int .i64 s.it.sq] ∧ s.it.fit := by
  obtain ⟨xs, n, hn, hx, hcs, hxl, hf⟩ := DataW.trod_struct Try.underlying28 h
  obtain ⟨x0, x1, x2, x3, rfl⟩ : ∃ x0 x1 x2 x3, xs = [x0, x1, x2, x3] := by
    match xs, hxl with
    | [x0, x1, x2, x3], _ => exact ⟨x0, x1, x2, x3, rfl⟩
  rw [cellsStep] at hcs
  obtain ⟨u0, u1, u2, u3, rfl⟩ : ∃ u0 u1 u2 u3, cs = [u0, u1, u2, u3] := by
    match cs, hcs with
    | [x0, x1, x2, x3], _ => exact ⟨x0, x1, x2, x3, rfl⟩
  have f0 := hf 0 _ rfl
  have f1 := hf 1 _ rfl
  have f2 := hf 2 _ rfl
  have f3 := hf 3 _ rfl
  have c3 : Try.prog.cellsOf 3 = 1 := by kernel_rfl
  have c9 : Try.prog.cellsOf 9 = 1 := by kernel_rfl
  have c2 : Try.prog.cellsOf 2 = 1 := by kernel_rfl
  simp only [c3, c9, c2, List.drop_zero, List.drop_succ_cons, List.take_succ_cons, List.take_zero, List.getElem?_cons_zero, List.getElem?_cons_succ] at f0 f1 f2 f3
  obtain ⟨a, rfl, _⟩ := open_num Try.underlying3 f0
  obtain ⟨s, rfl, hs⟩ := open_str Try.underlying9 f1
  obtain ⟨t, rfl, ht⟩ := open_num Try.underlying2 f2
  obtain ⟨q, rfl, hq⟩ := open_num Try.underlying2 f3
  exact ⟨⟨a, ⟨s, t, q⟩⟩, rfl, hs, ht, hq⟩
theorem steps_in {a : Option Addr} {len cap : Nat} {d : DataW H} {p : List MemPlace} (h : DataW.Trod enc Try.prog W 0 (fun _ => true) hd 22 (.slice a len cap) d p) : ∃ l, RdP W a len cap l := by
  obtain ⟨fuel, hf⟩ := h
  rcases Deep.open_slice Try.underlying22 hf with ⟨hcs, _⟩ | ⟨ad, l, c, m, n, D, Pl, hcs, _, hl, hm, hmm, hx, hel⟩
  · simp [Value.cells] at hcs
    obtain ⟨rfl, rfl, rfl⟩ := hcs
    exact ⟨[], rfl, Nat.le_refl _, by omega, fun s hs => (by cases hs), fun h => absurd h (by omega)⟩
  · simp [Value.cells] at hcs
    obtain ⟨rfl, rfl, rfl⟩ := hcs
    have hmm' : m = cap := by rw [hmm]; rfl
    have hsp0 : 0 < len → ∃ b o, ad = ⟨b, o, none⟩ := fun hp => by
      obtain ⟨cs', h1, h2⟩ := hel 0 (by omega)
      rw [cellsStep] at h1
      obtain ⟨s, rfl, _⟩ := open_step h2
      obtain ⟨_, _, hcell⟩ := World.cells?_some h1
      have hs := World.cell?_spot (hcell 0 (by omega))
      obtain ⟨b, o, spot⟩ := ad
      simp [Addr.add] at hs
      subst hs
      exact ⟨b, o, rfl⟩
    have key : ∀ i, i < len → ∃ s : Stp, s.it.fit ∧ ∃ b o, ad = ⟨b, o, none⟩ ∧ b < W.heap.size ∧ W.cell? ⟨b, o + i * 4, none⟩ = some (.int .i64 s.later) ∧ W.cell? ⟨b, o + i * 4 + 1, none⟩ = some (.string s.it.cl) ∧ W.cell? ⟨b, o + i * 4 + 2, none⟩ = some (.int .i64 s.it.tm) ∧ W.cell? ⟨b, o + i * 4 + 3, none⟩ = some (.int .i64 s.it.sq) := by
      intro i hi
      obtain ⟨cs', h1, h2⟩ := hel i (by omega)
      obtain ⟨s, rfl, hs⟩ := open_step h2
      rw [cellsStep] at h1
      obtain ⟨_, _, hcell⟩ := World.cells?_some h1
      obtain ⟨b, o, rfl⟩ := hsp0 (by omega)
      have hcc : ∀ j (hj : j < 4), W.cell? ⟨b, o + i * 4 + j, none⟩ = ([.int .i64 s.later, .string s.it.cl, .int .i64 s.it.tm, .int .i64 s.it.sq] : List Value)[j]? := fun j hj => by
        have := hcell j hj
        rw [add_off, add_off] at this
        exact this
      exact ⟨s, hs, b, o, rfl, block_lt_of_cell (hcc 0 (by omega)), hcc 0 (by omega), hcc 1 (by omega), hcc 2 (by omega), hcc 3 (by omega)⟩
    obtain ⟨l, hll, hlp⟩ := list_of len key
    refine ⟨l, hll, hl, by unfold maxLen at hm; exact hm, fun s hs => ?_, fun hn => ?_⟩
    · obtain ⟨j, hj, rfl⟩ := List.getElem_of_mem hs
      exact (hlp j hj).1
    · obtain ⟨_, b, o, e, hlt, _⟩ := hlp 0 (by omega)
      subst e
      refine ⟨b, o, rfl, hlt, fun j hj => ?_⟩
      obtain ⟨_, b', o', e, _, h⟩ := hlp j hj
      cases e
      exact h
end
theorem and63 (a : Int) : ∃ t : Nat, t ≤ 63 ∧ bits .and .i64 a 63 = t := by
  have hle : (BitVec.ofInt 64 a &&& BitVec.ofInt 64 63).toNat ≤ 63 := by
    rw [BitVec.toNat_and]
    exact Nat.le_trans Nat.and_le_right (by decide)
  refine ⟨(BitVec.ofInt 64 a &&& BitVec.ofInt 64 63).toNat, hle, ?_⟩
  show IntKind.i64.wrap ((BitVec.ofInt 64 a &&& BitVec.ofInt 64 63).toNat : Int) = _
  rw [IntKind.wrap_i64]
  omega
theorem RdI.stay {w w' : World} {A AL A' : Option Addr} {n c cb : Nat} {l : List It} (h : RdI w AL n c l) (hs : Stay w w' cb A A') (h1 : ob AL ≠ some cb) (h2 : ∀ g, ob AL = some g → ob A ≠ some g) : RdI w' AL n c l :=
  ⟨h.1, h.2.1, h.2.2.1, fun hn => by
    obtain ⟨b, e, hlt, hc⟩ := h.2.2.2 hn
    have hk := hs.block b hlt (fun e2 => h1 (by rw [e, e2]; rfl)) (h2 b (by rw [e]; rfl))
    refine ⟨b, e, Nat.lt_of_lt_of_le hlt hs.size, fun j hj => ?_⟩
    obtain ⟨c0, c1, c2⟩ := hc j hj
    exact ⟨(World.cell?_of_block (a := ⟨b, j * 3, none⟩) hk).trans c0, (World.cell?_of_block (a := ⟨b, j * 3 + 1, none⟩) hk).trans c1, (World.cell?_of_block (a := ⟨b, j * 3 + 2, none⟩) hk).trans c2⟩⟩
theorem below_stay {w a b : World} {cb M c : Nat} {A A' : Option Addr} {l : List It} (h : Below w.heap.size w a) (hc : ChAt a w.heap.size cb M A c l) (hs : Stay a b cb A A') : Below w.heap.size w b := h.trans (hs.below hc h.size)
end Go.Proofs.Ytpdbdlaoeidflaa.Ch
