/-
  A VALUE THAT CAME IN, opened.
-/
import Derived.Test.YtfinonfkpmlfeaaDerc
import Derived.Test.YtfinonfkpmlfeaaFin
import Derived.Deep.Slices
import Derived.SizedLaws
namespace Go.Proofs.Ytfinonfkpmlfeaa.Der
open Go.RowKit Go.ChangeShapes Go.WideShapes Go.ChangeAt Go.Deep
open Go.Proofs.Ytfinonfkpmlfeaa.Kit
open Go.Proofs.Ytfinonfkpmlfeaa.Oct
set_option linter.unusedVariables false

theorem list_of {α : Type} {p : Nat → α → Prop} : ∀ (n : Nat), (∀ i, i < n → ∃ y, p i y) → ∃ l : List α, l.length = n ∧ ∀ i (hi : i < l.length), p i l[i]
  | 0, _ => ⟨[], rfl, fun i hi => absurd hi (by simp)⟩
  | n + 1, h => by
    obtain ⟨l, hl, hp⟩ := list_of n (fun i hi => h i (by omega))
    obtain ⟨y, hy⟩ := h n (by omega)
    refine ⟨l ++ [y], by simp [hl], fun i hi => ?_⟩
    by_cases hin : i < l.length
    · rw [List.getElem_append_left hin]; exact hp i hin
    · have : i = n := by simp at hi; omega
      subst this
      rw [List.getElem_append_right (by omega)]
      simpa [hl] using hy
theorem fits_of {l : List V} (h : ∀ x ∈ l, x.fit) : V.fit.fits l := by
  induction l with
  | nil => trivial
  | cons x r ih => exact ⟨h x (List.mem_cons_self ..), ih fun y hy => h y (List.mem_cons_of_mem _ hy)⟩
theorem lims_of {l : List V} (h : ∀ x ∈ l, lim x) : lim.lims l := by
  induction l with
  | nil => trivial
  | cons x r ih => exact ⟨h x (List.mem_cons_self ..), ih fun y hy => h y (List.mem_cons_of_mem _ hy)⟩
theorem weights_all {H : Type} {P : Program} {e : TypeId} {d : DataW H} {n : Nat} : ∀ {l : List (DataW H)}, d ∈ l → n ∈ d.weights P e → n ∈ DataW.weightsAll P e l
  | x :: r, h, hn => by
    rw [DataW.weightsAll, List.mem_append]
    rcases List.mem_cons.1 h with rfl | h
    · exact .inl hn
    · exact .inr (weights_all h hn)
theorem bytesV : Try.prog.bytesOf 26 = 72 := by kernel_rfl
theorem cellsV : Try.prog.cellsOf 26 = 5 := by kernel_rfl
theorem bytesB : Try.prog.bytesOf 5 = 1 := by kernel_rfl

section
variable {H : Type} {enc : TypeId × Value → H} {W : World} {hd : Bool}
theorem open_num {P : Program} {sp : Nat → Bool} {k : IntKind} {t : TypeId} {u : Value} {x : DataW H × List MemPlace} {fuel : Nat} (ht : P.underlying t = some (.int k)) (h : DataW.trod enc P W 0 sp hd fuel t [u] = some x) : ∃ a, u = .int k a ∧ (Lit.int k a).wf = true := by
  cases fuel with
  | zero => simp [DataW.trod] at h
  | succ m =>
    unfold DataW.trod at h
    rw [ht] at h
    split at h <;> simp_all
/-- bytes within what came in -/
theorem open_row {fuel : Nat} {cs : List Value} {x : DataW H × List MemPlace} (h : DataW.trod enc Try.prog W 0 (fun _ => true) hd fuel 23 cs = some x) (hw : ∀ n ∈ x.1.weights Try.prog 23, n ≤ reachBytes) :
    ∃ (A : Option Addr) (m c : Nat) (bs : List UInt8), cs = [.slice A m c] ∧ RdB W W.heap.size A m c bs ∧ bs.length ≤ 140737488355328 := by
  rcases open_slice Try.underlying23 h with ⟨rfl, _⟩ | ⟨a, len, cap, m, n, D, Pl, rfl, _, hl, hm, hmm, hx, _⟩
  · exact ⟨none, 0, 0, [], rfl, Rd.nil _ _, by simp⟩
  · obtain ⟨bs, hb⟩ := rd_in (W := W) (enc := enc) (a := some a) (len := len) (cap := cap) (d := x.1) (p := x.2) Try.underlying23 Try.underlying5 (by kernel_rfl) rfl ⟨fuel, h⟩
    refine ⟨some a, len, cap, bs, rfl, hb, ?_⟩
    have h1 := hw (cap * 1) (by
      rw [hx]
      simp only [DataW.weights, Try.underlying23, bytesB, List.length_map, List.length_range, hmm, if_true]
      rw [show len + (cap - len) = cap from by omega]
      exact List.mem_cons_self ..)
    have h2 := hb.len
    unfold reachBytes at h1
    omega

theorem open_value : ∀ (fuel : Nat) (cs : List Value) (x : DataW H × List MemPlace), DataW.trod enc Try.prog W 0 (fun _ => true) hd fuel 26 cs = some x → (∀ n ∈ x.1.weights Try.prog 26, n ≤ reachBytes) →
    ∃ (y : V) (A : Option Addr) (m c : Nat) (A' : Option Addr) (m' c' : Nat), cs = [.int .i64 y.k, .int .i64 y.t, .int .u64 y.n, .slice A m c, .slice A' m' c'] ∧ y.fit ∧ lim y ∧ RdV W W.heap.size y A m c A' m' c' := by
  intro fuel
  induction fuel using Nat.strongRecOn with
  | _ fuel ih =>
  intro cs x h hw
  obtain ⟨xs, n, rfl, hx, hcs, hxl, hf⟩ := DataW.trod_struct Try.underlying26 h
  obtain ⟨x0, x1, x2, x3, x4, rfl⟩ : ∃ x0 x1 x2 x3 x4, xs = [x0, x1, x2, x3, x4] := by
    match xs, hxl with
    | [x0, x1, x2, x3, x4], _ => exact ⟨x0, x1, x2, x3, x4, rfl⟩
  rw [cellsV] at hcs
  obtain ⟨u0, u1, u2, u3, u4, rfl⟩ : ∃ u0 u1 u2 u3 u4, cs = [u0, u1, u2, u3, u4] := by
    match cs, hcs with
    | [x0, x1, x2, x3, x4], _ => exact ⟨x0, x1, x2, x3, x4, rfl⟩
  have f0 := hf 0 { name := "Kind", type := 3, offset := 0, embedded := false, tag := "", pkgPath := "", byteOffset := 0 } rfl
  have f1 := hf 1 { name := "Tag", type := 3, offset := 1, embedded := false, tag := "", pkgPath := "", byteOffset := 8 } rfl
  have f2 := hf 2 { name := "N", type := 22, offset := 2, embedded := false, tag := "", pkgPath := "", byteOffset := 16 } rfl
  have f3 := hf 3 { name := "B", type := 23, offset := 3, embedded := false, tag := "", pkgPath := "", byteOffset := 24 } rfl
  have f4 := hf 4 { name := "L", type := 24, offset := 4, embedded := false, tag := "", pkgPath := "", byteOffset := 48 } rfl
  have c3 : Try.prog.cellsOf 3 = 1 := by kernel_rfl
  have c22 : Try.prog.cellsOf 22 = 1 := by kernel_rfl
  have c23 : Try.prog.cellsOf 23 = 1 := by kernel_rfl
  have c24 : Try.prog.cellsOf 24 = 1 := by kernel_rfl
  simp only [c3, c22, c23, c24, List.drop_zero, List.drop_succ_cons, List.take_succ_cons, List.take_zero, List.getElem?_cons_zero, List.getElem?_cons_succ] at f0 f1 f2 f3 f4
  have hw3 : ∀ n ∈ x3.1.weights Try.prog 23, n ≤ reachBytes := fun k hk => hw k (by
    rw [hx]; simp only [List.map_cons, List.map_nil, DataW.weights, Try.underlying26, DataW.weightsEach, List.mem_append]; exact .inr (.inr (.inr (.inl hk))))
  have hw4 : ∀ n ∈ x4.1.weights Try.prog 24, n ≤ reachBytes := fun k hk => hw k (by
    rw [hx]; simp only [List.map_cons, List.map_nil, DataW.weights, Try.underlying26, DataW.weightsEach, List.mem_append]; exact .inr (.inr (.inr (.inr (.inl hk)))))
  obtain ⟨k, rfl, wk⟩ := open_num Try.underlying3 f0
  obtain ⟨t, rfl, wt⟩ := open_num Try.underlying3 f1
  obtain ⟨n2, rfl, w2⟩ := open_num Try.underlying22 f2
  obtain ⟨nn, rfl, hnn⟩ := nat_u64 w2
  have hk := int_i64 wk
  have htt := int_i64 wt
  obtain ⟨A, m, c, bs, hcs3, hbs, hbl⟩ := open_row f3 hw3
  obtain rfl : u3 = .slice A m c := by simpa using hcs3
  rcases DataW.trod_slice Try.underlying24 f4 with ⟨hc4, _⟩ | ⟨a, len, cap, elems, rest, n', hn', hc4, hx4, hb, hl, hm, hlen, hel, hsp, hns⟩
  · obtain rfl : u4 = .slice none 0 0 := by simpa using hc4
    refine ⟨.mk k t nn bs [], A, m, c, none, 0, 0, rfl, ⟨hk, htt, hnn, trivial⟩, ⟨hbl, trivial⟩, RdV.join hbs ⟨rfl, Nat.le_refl _, by omega, by omega, fun h => absurd h (by omega)⟩⟩
  · obtain rfl : u4 = .slice (some a) len cap := by simpa using hc4
    have hr := (hsp rfl).1
    have hb72 : cap * 72 ≤ reachBytes := hw4 _ (by
      rw [hx4]
      simp only [DataW.weights, Try.underlying24, bytesV, List.length_map, hlen, hr]
      rw [show len + (cap - len) = cap from by omega]
      exact List.mem_cons_self ..)
    have hsp0 : 0 < len → ∃ b o, a = ⟨b, o, none⟩ := fun hp => by
      have h1 := hel 0 hp
      rw [List.getElem?_eq_getElem (by omega)] at h1
      obtain ⟨cs', h2, h3⟩ := Option.bind_eq_some_iff.1 h1
      rw [cellsV] at h2
      obtain ⟨_, hl5, hcell⟩ := World.cells?_some h2
      have hc0 := hcell 0 (by omega)
      rw [List.getElem?_eq_getElem (by omega)] at hc0
      have hs := World.cell?_spot hc0
      obtain ⟨b, o, spot⟩ := a
      simp [Addr.add] at hs
      subst hs
      exact ⟨b, o, rfl⟩
    have hone : ∀ i, i < len → ∃ y : V, y.fit ∧ lim y ∧ ∃ b o, a = ⟨b, o, none⟩ ∧ b < W.heap.size ∧ ∃ A m c A' m' c', W.cell? ⟨b, o + i * 5, none⟩ = some (.int .i64 y.k) ∧ W.cell? ⟨b, o + i * 5 + 1, none⟩ = some (.int .i64 y.t) ∧ W.cell? ⟨b, o + i * 5 + 2, none⟩ = some (.int .u64 y.n) ∧
        W.cell? ⟨b, o + i * 5 + 3, none⟩ = some (.slice A m c) ∧ W.cell? ⟨b, o + i * 5 + 4, none⟩ = some (.slice A' m' c') ∧ RdV W W.heap.size y A m c A' m' c' := by
      intro i hi
      have h1 := hel i hi
      rw [List.getElem?_eq_getElem (by omega)] at h1
      obtain ⟨cs', h2, h3⟩ := Option.bind_eq_some_iff.1 h1
      obtain ⟨y, A, m, c, A', m', c', rfl, hy1, hy2, hy3⟩ := ih n' (by omega) cs' _ h3 (fun k hk => hw4 k (by
        rw [hx4]
        simp only [DataW.weights, Try.underlying24]
        refine List.mem_cons_of_mem _ (List.mem_append.2 (.inl ?_))
        exact weights_all (List.mem_map.2 ⟨_, List.getElem_mem (by omega), rfl⟩) hk))
      rw [cellsV] at h2
      obtain ⟨_, _, hcell⟩ := World.cells?_some h2
      obtain ⟨b, o, rfl⟩ := hsp0 (by omega)
      have hcc : ∀ j (hj : j < 5), W.cell? ⟨b, o + i * 5 + j, none⟩ = ([.int .i64 y.k, .int .i64 y.t, .int .u64 y.n, .slice A m c, .slice A' m' c'] : List Value)[j]? := fun j hj => by
        have := hcell j hj
        rw [add_off, add_off] at this
        exact this
      exact ⟨y, hy1, hy2, b, o, rfl, block_lt_of_cell (hcc 0 (by omega)), A, m, c, A', m', c', hcc 0 (by omega), hcc 1 (by omega), hcc 2 (by omega), hcc 3 (by omega), hcc 4 (by omega), hy3⟩
    obtain ⟨l, hll, hlp⟩ := list_of len hone
    unfold reachBytes at hb72
    refine ⟨.mk k t nn bs l, A, m, c, some a, len, cap, rfl, ⟨hk, htt, hnn, fits_of fun y hy => ?_⟩, ⟨hbl, lims_of fun y hy => ?_⟩, RdV.join hbs ⟨hll.symm, hl, by unfold maxLen at hm; exact hm, by omega, fun h => ?_⟩⟩
    · obtain ⟨i, hi, rfl⟩ := List.getElem_of_mem hy
      exact (hlp i hi).1
    · obtain ⟨i, hi, rfl⟩ := List.getElem_of_mem hy
      exact (hlp i hi).2.1
    · obtain ⟨_, _, b, o, rfl, hbb, _⟩ := hlp 0 (by omega)
      refine ⟨b, o, rfl, hbb, RdVlS.of l fun i hi => ?_⟩
      obtain ⟨_, _, b', o', he, _, hrest⟩ := hlp i hi
      obtain ⟨rfl, rfl⟩ : b = b' ∧ o = o' := by injection he with e1 e2; exact ⟨e1, e2⟩
      exact hrest
theorem open_arg {base : Nat} {v : Value} {d : DataW H} {p : List MemPlace} (hval : Value.okWide Try.prog W .any base 26 v) (h : DataW.Trod enc Try.prog W 0 (fun _ => true) hd 26 v d p) (hw : ∀ n ∈ d.weights Try.prog 26, n ≤ reachBytes) :
    ∃ (y : V) (A : Option Addr) (m c : Nat) (A' : Option Addr) (m' c' : Nat), v = .agg #[.int .i64 y.k, .int .i64 y.t, .int .u64 y.n, .slice A m c, .slice A' m' c'] ∧ y.fit ∧ lim y ∧ RdV W W.heap.size y A m c A' m' c' := by
  unfold Value.okWide at hval
  rw [Try.underlying26] at hval
  obtain ⟨cs, rfl, _, _⟩ := hval
  obtain ⟨fuel, hf⟩ := h
  obtain ⟨y, A, m, c, A', m', c', hcs, h1, h2, h3⟩ := open_value fuel _ _ hf hw
  have hcs' : cs.toList = [.int .i64 y.k, .int .i64 y.t, .int .u64 y.n, .slice A m c, .slice A' m' c'] := hcs
  refine ⟨y, A, m, c, A', m', c', ?_, h1, h2, h3⟩
  have e : cs = #[.int .i64 y.k, .int .i64 y.t, .int .u64 y.n, .slice A m c, .slice A' m' c'] := by rw [← Array.toArray_toList (xs := cs), hcs']
  rw [e]
end
end Go.Proofs.Ytfinonfkpmlfeaa.Der
