/-
  base: users that came in, opened.
-/
import Derived.Test.YtlngbpipmaaedaaBap
import Derived.Deep.Slices
import Derived.WideKeyArr2
namespace Go.Proofs.Ytlngbpipmaaedaa.Ba
open Go.ChangeShapes Go.WideShapes Go.ChangeAt Go.RowKit
open Go.Proofs.Ytlngbpipmaaedaa.Kit
set_option linter.unusedVariables false

theorem mapM_getB {α β : Type} {f : α → Option β} : ∀ {L : List α} {ys : List β}, L.mapM f = some ys → ∀ x ∈ L, ∃ y, f x = some y
  | [], _, _, x, hx => by cases hx
  | a :: L, ys, h, x, hx => by
    rw [List.mapM_cons] at h
    simp only [bind, Option.bind_eq_some_iff, pure, Option.some.injEq] at h
    obtain ⟨y, hy, zs, hz, _⟩ := h
    rcases List.mem_cons.1 hx with rfl | hx
    · exact ⟨y, hy⟩
    · exact mapM_getB hz x hx
section
variable {H : Type} {enc : TypeId × Value → H} {W : World} {hd : Bool}
theorem open_numB {P : Program} {sp : Nat → Bool} {k : IntKind} {t : TypeId} {u : Value} {x : DataW H × List MemPlace} {fuel : Nat} (ht : P.underlying t = some (.int k)) (h : DataW.trod enc P W 0 sp hd fuel t [u] = some x) : ∃ a, u = .int k a ∧ (Lit.int k a).wf = true := by
  cases fuel with
  | zero => simp [DataW.trod] at h
  | succ m =>
    unfold DataW.trod at h
    rw [ht] at h
    split at h <;> simp_all
theorem open_strB {P : Program} {sp : Nat → Bool} {t : TypeId} {u : Value} {x : DataW H × List MemPlace} {fuel : Nat} (ht : P.underlying t = some .string) (h : DataW.trod enc P W 0 sp hd fuel t [u] = some x) : ∃ s, u = .string s ∧ s.size ≤ maxLen := by
  cases fuel with
  | zero => simp [DataW.trod] at h
  | succ m =>
    unfold DataW.trod at h
    rw [ht] at h
    split at h <;> simp_all
theorem open_boolB {P : Program} {sp : Nat → Bool} {t : TypeId} {u : Value} {x : DataW H × List MemPlace} {fuel : Nat} (ht : P.underlying t = some .bool) (h : DataW.trod enc P W 0 sp hd fuel t [u] = some x) : ∃ b, u = .bool b := by
  cases fuel with
  | zero => simp [DataW.trod] at h
  | succ m =>
    unfold DataW.trod at h
    rw [ht] at h
    split at h <;> simp_all
theorem open_keyB {sp : Nat → Bool} {cs : List Value} {x : DataW H × List MemPlace} {fuel : Nat} (hs : cs.length = 16) (h : DataW.trod enc Try.prog W 0 sp hd fuel 28 cs = some x) : ∃ k : List UInt8, k.length = 16 ∧ cs = k.map bv := by
  cases fuel with
  | zero => simp [DataW.trod] at h
  | succ m =>
    rw [DataW.trod_step] at h
    unfold DataW.trodStep at h
    simp only [Try.underlying28] at h
    split at h
    · simp only [Option.map_eq_some_iff] at h
      obtain ⟨ys, hy, _⟩ := h
      have hc : Try.prog.cellsOf 5 = 1 := by kernel_rfl
      have hx : ∀ i, i < 16 → ∃ u : UInt8, cs[i]? = some (bv u) := fun i hi => by
        obtain ⟨y, hy⟩ := mapM_getB hy i (by simpa using hi)
        obtain ⟨n, e1, _, hw⟩ := DataW.trod_int Try.underlying5 hy
        rw [hc, Nat.mul_one] at e1
        obtain ⟨u, rfl⟩ := nat_u8 hw
        refine ⟨u, ?_⟩
        have h0 : ((cs.drop i).take 1)[0]? = some (Value.int .u8 (u.toNat : Int)) := by rw [e1]; rfl
        rw [List.getElem?_take_of_lt (by omega), List.getElem?_drop, Nat.add_zero] at h0
        exact h0
      refine ⟨(List.range 16).map fun i => if h : i < 16 then (hx i h).choose else 0, by simp, ?_⟩
      refine List.ext_getElem? fun i => ?_
      rw [List.getElem?_map, List.getElem?_map]
      by_cases hi : i < 16
      · rw [List.getElem?_range hi, (hx i hi).choose_spec]
        simp [hi]
      · rw [List.getElem?_eq_none (by omega), List.getElem?_eq_none (by simp; omega)]; rfl
    · cases h
theorem cellsUs : Try.prog.cellsOf 30 = 20 := by kernel_rfl
set_option maxRecDepth 100000 in
theorem open_us {fuel : Nat} {cs : List Value} {x : DataW H × List MemPlace} (h : DataW.trod enc Try.prog W 0 (fun _ => true) hd fuel 30 cs = some x) : ∃ u : Us, cs = u.cells ∧ u.key.length = 16 := by
  obtain ⟨xs, n, hn, hx, hcs, hxl, hf⟩ := DataW.trod_struct Try.underlying30 h
  obtain ⟨x0, x1, x2, x3, x4, rfl⟩ : ∃ x0 x1 x2 x3 x4, xs = [x0, x1, x2, x3, x4] := by
    match xs, hxl with
    | [x0, x1, x2, x3, x4], _ => exact ⟨x0, x1, x2, x3, x4, rfl⟩
  rw [cellsUs] at hcs
  have f0 := hf 0 _ rfl
  have f1 := hf 1 _ rfl
  have f2 := hf 2 _ rfl
  have f3 := hf 3 _ rfl
  have f4 := hf 4 _ rfl
  have cS : Try.prog.cellsOf 9 = 1 := by kernel_rfl
  have cK : Try.prog.cellsOf 28 = 16 := by kernel_rfl
  have cI : Try.prog.cellsOf 2 = 1 := by kernel_rfl
  have cB : Try.prog.cellsOf 4 = 1 := by kernel_rfl
  have one : ∀ i, i < 20 → ∃ u, cs[i]? = some u ∧ (cs.drop i).take 1 = [u] := fun i hi => by
    refine ⟨cs[i]'(by omega), List.getElem?_eq_getElem _, ?_⟩
    rw [List.drop_eq_getElem_cons (by omega), List.take_succ_cons, List.take_zero]
  obtain ⟨u0, a0, e0⟩ := one 0 (by omega)
  obtain ⟨u2, a2, e2⟩ := one 17 (by omega)
  obtain ⟨u3, a3, e3⟩ := one 18 (by omega)
  obtain ⟨u4, a4, e4⟩ := one 19 (by omega)
  change DataW.trod enc Try.prog W 0 (fun _ => true) hd n 9 (List.take (Try.prog.cellsOf 9) (List.drop 0 cs)) = some x0 at f0
  change DataW.trod enc Try.prog W 0 (fun _ => true) hd n 28 (List.take (Try.prog.cellsOf 28) (List.drop 1 cs)) = some x1 at f1
  change DataW.trod enc Try.prog W 0 (fun _ => true) hd n 2 (List.take (Try.prog.cellsOf 2) (List.drop 17 cs)) = some x2 at f2
  change DataW.trod enc Try.prog W 0 (fun _ => true) hd n 2 (List.take (Try.prog.cellsOf 2) (List.drop 18 cs)) = some x3 at f3
  change DataW.trod enc Try.prog W 0 (fun _ => true) hd n 4 (List.take (Try.prog.cellsOf 4) (List.drop 19 cs)) = some x4 at f4
  rw [cS] at f0
  rw [cK] at f1
  rw [cI] at f2 f3
  rw [cB] at f4
  have hk16 : ((cs.drop 1).take 16).length = 16 := by rw [List.length_take, List.length_drop, hcs]; rfl
  rw [e0] at f0
  rw [e2] at f2
  rw [e3] at f3
  rw [e4] at f4
  obtain ⟨s, rfl, _⟩ := open_strB Try.underlying9 f0
  obtain ⟨k, hk, ek⟩ := open_keyB hk16 f1
  obtain ⟨a, rfl, _⟩ := open_numB Try.underlying2 f2
  obtain ⟨b, rfl, _⟩ := open_numB Try.underlying2 f3
  obtain ⟨m, rfl⟩ := open_boolB Try.underlying4 f4
  refine ⟨⟨s, k, a, b, m⟩, ?_, hk⟩
  refine List.ext_getElem? fun i => ?_
  rcases Nat.lt_or_ge i 20 with hi | hi
  · by_cases h0 : i = 0
    · subst h0; rw [a0]; rfl
    by_cases h17 : i < 17
    · obtain ⟨j, rfl⟩ : ∃ j, i = j + 1 := ⟨i - 1, by omega⟩
      rw [Us.cells, List.getElem?_cons_succ, List.getElem?_append_left (by rw [List.length_map, hk]; omega), ← ek, List.getElem?_take_of_lt (by omega), List.getElem?_drop, Nat.add_comm]
    · have hx : ∀ q, 16 ≤ q → (Us.cells ⟨s, k, a, b, m⟩)[q + 1]? = ([.int .i64 a, .int .i64 b, .bool m] : List Value)[q - 16]? := fun q hq => by
        rw [Us.cells, List.getElem?_cons_succ, List.getElem?_append_right (by simp [hk]; exact hq), List.length_map, hk]
      rcases (by omega : i = 17 ∨ i = 18 ∨ i = 19) with rfl | rfl | rfl
      · rw [a2, hx 16 (by omega)]; rfl
      · rw [a3, hx 17 (by omega)]; rfl
      · rw [a4, hx 18 (by omega)]; rfl
  · rw [List.getElem?_eq_none (by omega), List.getElem?_eq_none (by rw [Us.len hk]; exact hi)]
set_option maxRecDepth 1000000 in
theorem us_arg {base : Nat} {v : Value} {d : DataW H} {p : List MemPlace} (hval : Value.okWide Try.prog W .any base 30 v) (h : DataW.Trod enc Try.prog W 0 (fun _ => true) hd 30 v d p) : ∃ u : Us, v = .agg u.arr ∧ u.key.length = 16 := by
  unfold Value.okWide at hval
  rw [Try.underlying30] at hval
  obtain ⟨cs, rfl, _, _⟩ := hval
  obtain ⟨fuel, hf⟩ := h
  obtain ⟨u, hcs, hk⟩ := open_us hf
  have hcs' : cs.toList = u.cells := hcs
  refine ⟨u, ?_, hk⟩
  rw [← Array.toArray_toList (xs := cs), hcs']
  rfl
theorem list_ofB {α : Type} {p : Nat → α → Prop} : ∀ (n : Nat), (∀ i, i < n → ∃ y, p i y) → ∃ l : List α, l.length = n ∧ ∀ i (hi : i < l.length), p i l[i]
  | 0, _ => ⟨[], rfl, fun i hi => absurd hi (by simp)⟩
  | n + 1, h => by
    obtain ⟨l, hl, hp⟩ := list_ofB n (fun i hi => h i (by omega))
    obtain ⟨y, hy⟩ := h n (by omega)
    refine ⟨l ++ [y], by simp [hl], fun i hi => ?_⟩
    by_cases hin : i < l.length
    · rw [List.getElem_append_left hin]; exact hp i hin
    · have : i = n := by simp at hi; omega
      subst this
      rw [List.getElem_append_right (by omega)]
      simpa [hl] using hy
set_option maxRecDepth 100000 in
theorem us_in {a : Option Addr} {len cap : Nat} {d : DataW H} {p : List MemPlace} (h : DataW.Trod enc Try.prog W 0 (fun _ => true) hd 62 (.slice a len cap) d p) : ∃ l, RdU W a len cap l := by
  obtain ⟨fuel, hf⟩ := h
  rcases Deep.open_slice Try.underlying62 hf with ⟨hcs, _⟩ | ⟨ad, l, c, m, n, D, Pl, hcs, _, hl, hm, hmm, hx, hel⟩
  · simp [Value.cells] at hcs
    obtain ⟨rfl, rfl, rfl⟩ := hcs
    exact ⟨[], rfl, Nat.le_refl _, by omega, fun s hs => (by cases hs), fun j u h => by simp at h⟩
  · simp [Value.cells] at hcs
    obtain ⟨rfl, rfl, rfl⟩ := hcs
    have hmm' : m = cap := by rw [hmm]; rfl
    have hsp0 : 0 < len → ∃ b o, ad = ⟨b, o, none⟩ := fun hp => by
      obtain ⟨cs', h1, h2⟩ := hel 0 (by omega)
      rw [cellsUs] at h1
      obtain ⟨u, rfl, hu⟩ := open_us h2
      obtain ⟨_, _, hcell⟩ := World.cells?_some h1
      have hs := World.cell?_spot (hcell 0 (by omega))
      obtain ⟨b, o, spot⟩ := ad
      simp [Addr.add] at hs
      subst hs
      exact ⟨b, o, rfl⟩
    have key : ∀ i, i < len → ∃ u : Us, u.key.length = 16 ∧ ∃ b o, ad = ⟨b, o, none⟩ ∧ b < W.heap.size ∧ W.rangeAt b (o + i * 20) u.cells := by
      intro i hi
      obtain ⟨cs', h1, h2⟩ := hel i (by omega)
      obtain ⟨u, rfl, hu⟩ := open_us h2
      rw [cellsUs] at h1
      obtain ⟨_, _, hcell⟩ := World.cells?_some h1
      obtain ⟨b, o, rfl⟩ := hsp0 (by omega)
      have hcc : ∀ j (hj : j < 20), W.cell? ⟨b, o + i * 20 + j, none⟩ = u.cells[j]? := fun j hj => by
        have := hcell j hj
        rw [add_off, add_off] at this
        exact this
      refine ⟨u, hu, b, o, rfl, World.block_lt_of_cell? W _ ((hcc 0 (by omega)).trans rfl), fun j v hv => ?_⟩
      have hj : j < 20 := by have := (List.getElem?_eq_some_iff.1 hv).1; rwa [Us.len hu] at this
      rw [hcc j hj]; exact hv
    obtain ⟨l, hll, hlp⟩ := list_ofB len key
    refine ⟨l, hll, hl, by unfold maxLen at hm; exact hm, fun u hu => ?_, fun j u hu => ?_⟩
    · obtain ⟨j, hj, rfl⟩ := List.getElem_of_mem hu
      exact (hlp j hj).1
    · obtain ⟨hj, rfl⟩ := List.getElem?_eq_some_iff.1 hu
      obtain ⟨_, b, o, e, hlt, hr⟩ := hlp j hj
      exact ⟨b, o, by rw [e], hlt, hr⟩
end
end Go.Proofs.Ytlngbpipmaaedaa.Ba
