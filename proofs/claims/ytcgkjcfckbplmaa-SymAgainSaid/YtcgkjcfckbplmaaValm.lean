/-
  VALUES of layer 2, in memory: what five cells read as. Any program.
-/
import Derived.Test.YtcgkjcfckbplmaaValc
namespace Go.Proofs.Ytcgkjcfckbplmaa.Kit
open Go.RowKit
set_option linter.unusedVariables false

/-- as 'Rd', said of the blocks in which the cells lie -/
def RdS (w : World) (S : Nat → Prop) (A : Option Addr) (n c : Nat) (xs : List Value) : Prop :=
  xs.length = n ∧ n ≤ c ∧ c ≤ 9223372036854775807 ∧ (0 < n → ∃ b o, A = some ⟨b, o, none⟩ ∧ S b ∧ ∀ j u, xs[j]? = some u → w.cell? ⟨b, o + j, none⟩ = some u)
theorem RdS.keep {w w' : World} {S S' : Nat → Prop} {A : Option Addr} {n c : Nat} {xs : List Value} (h : RdS w S A n c xs) (hk : ∀ p : Addr, S p.block → w'.cell? p = w.cell? p) (hS : ∀ b, S b → S' b) : RdS w' S' A n c xs :=
  ⟨h.1, h.2.1, h.2.2.1, fun hn => by
    obtain ⟨b, o, e, hb, hc⟩ := h.2.2.2 hn
    exact ⟨b, o, e, hS b hb, fun j u hu => (hk ⟨b, o + j, none⟩ hb).trans (hc j u hu)⟩⟩
mutual
/-- two slices' headers, beside a value's numbers, read as the value's bytes and list, out of the blocks S -/
def RdVS (w : World) (S : Nat → Prop) : V → Option Addr → Nat → Nat → Option Addr → Nat → Nat → Prop
  | .mk _ _ _ b l, A, m, c, A', m', c' => RdS w S A m c (b.map bv) ∧ m' = l.length ∧ m' ≤ c' ∧ c' ≤ 9223372036854775807 ∧ m' * 72 ≤ 140737488355328 ∧ (0 < m' → ∃ bb o, A' = some ⟨bb, o, none⟩ ∧ S bb ∧ RdVlS w S bb o l)
def RdVlS (w : World) (S : Nat → Prop) (bb : Nat) : Nat → List V → Prop
  | _, [] => True
  | o, x :: r => (∃ A m c A' m' c', w.cell? ⟨bb, o, none⟩ = some (.int .i64 x.k) ∧ w.cell? ⟨bb, o + 1, none⟩ = some (.int .i64 x.t) ∧ w.cell? ⟨bb, o + 2, none⟩ = some (.int .u64 x.n) ∧
      w.cell? ⟨bb, o + 3, none⟩ = some (.slice A m c) ∧ w.cell? ⟨bb, o + 4, none⟩ = some (.slice A' m' c') ∧ RdVS w S x A m c A' m' c') ∧ RdVlS w S bb (o + 5) r
end
/-- a slice of values -/
def RdVsS (w : World) (S : Nat → Prop) (l : List V) (A : Option Addr) (n c : Nat) : Prop :=
  n = l.length ∧ n ≤ c ∧ c ≤ 9223372036854775807 ∧ n * 72 ≤ 140737488355328 ∧ (0 < n → ∃ bb o, A = some ⟨bb, o, none⟩ ∧ S bb ∧ RdVlS w S bb o l)
theorem RdVS.split {w : World} {S : Nat → Prop} {m c m' c' : Nat} {A A' : Option Addr} {x : V} (h : RdVS w S x A m c A' m' c') : RdS w S A m c (x.b.map bv) ∧ RdVsS w S x.l A' m' c' := by
  cases x with
  | mk k t n b l => rw [RdVS] at h; exact ⟨h.1, h.2⟩
theorem RdVS.join {w : World} {S : Nat → Prop} {m c m' c' : Nat} {A A' : Option Addr} {x : V} (h1 : RdS w S A m c (x.b.map bv)) (h2 : RdVsS w S x.l A' m' c') : RdVS w S x A m c A' m' c' := by
  cases x with
  | mk k t n b l => rw [RdVS]; exact ⟨h1, h2⟩
mutual
theorem RdVS.keep {w w' : World} {S S' : Nat → Prop} (hk : ∀ p : Addr, S p.block → w'.cell? p = w.cell? p) (hS : ∀ b, S b → S' b) : ∀ (x : V) {A : Option Addr} {m c : Nat} {A' : Option Addr} {m' c' : Nat}, RdVS w S x A m c A' m' c' → RdVS w' S' x A m c A' m' c'
  | .mk _ _ _ b l, A, m, c, A', m', c', h => by
    rw [RdVS] at h ⊢
    obtain ⟨h1, h2, h3, h4, h5, h6⟩ := h
    refine ⟨h1.keep hk hS, h2, h3, h4, h5, fun hp => ?_⟩
    obtain ⟨bb, o, e, hbb, hl⟩ := h6 hp
    exact ⟨bb, o, e, hS _ hbb, RdVlS.keep hk hS hbb l hl⟩
theorem RdVlS.keep {w w' : World} {S S' : Nat → Prop} {bb : Nat} (hk : ∀ p : Addr, S p.block → w'.cell? p = w.cell? p) (hS : ∀ b, S b → S' b) (hbb : S bb) : ∀ (l : List V) {o : Nat}, RdVlS w S bb o l → RdVlS w' S' bb o l
  | [], o, _ => by rw [RdVlS]; trivial
  | x :: r, o, h => by
    rw [RdVlS] at h ⊢
    obtain ⟨⟨A, m, c, A', m', c', h0, h1, h2, h3, h4, h5⟩, h6⟩ := h
    refine ⟨⟨A, m, c, A', m', c', ?_, ?_, ?_, ?_, ?_, RdVS.keep hk hS x h5⟩, RdVlS.keep hk hS hbb r h6⟩
    · rw [hk _ hbb]; exact h0
    · rw [hk _ hbb]; exact h1
    · rw [hk _ hbb]; exact h2
    · rw [hk _ hbb]; exact h3
    · rw [hk _ hbb]; exact h4
end
theorem RdVsS.keep {w w' : World} {S S' : Nat → Prop} {n c : Nat} {A : Option Addr} {l : List V} (h : RdVsS w S l A n c) (hk : ∀ p : Addr, S p.block → w'.cell? p = w.cell? p) (hS : ∀ b, S b → S' b) : RdVsS w' S' l A n c := by
  obtain ⟨h1, h2, h3, h4, h5⟩ := h
  refine ⟨h1, h2, h3, h4, fun hp => ?_⟩
  obtain ⟨bb, o, e, hbb, hl⟩ := h5 hp
  exact ⟨bb, o, e, hS _ hbb, RdVlS.keep hk hS hbb l hl⟩
/-- the i-th value of a row -/
theorem RdVlS.at_ {w : World} {S : Nat → Prop} {bb : Nat} : ∀ (l : List V) {o : Nat}, RdVlS w S bb o l → ∀ i (hi : i < l.length), ∃ A m c A' m' c', w.cell? ⟨bb, o + i * 5, none⟩ = some (.int .i64 l[i].k) ∧ w.cell? ⟨bb, o + i * 5 + 1, none⟩ = some (.int .i64 l[i].t) ∧ w.cell? ⟨bb, o + i * 5 + 2, none⟩ = some (.int .u64 l[i].n) ∧
      w.cell? ⟨bb, o + i * 5 + 3, none⟩ = some (.slice A m c) ∧ w.cell? ⟨bb, o + i * 5 + 4, none⟩ = some (.slice A' m' c') ∧ RdVS w S l[i] A m c A' m' c'
  | [], _, _, i, hi => absurd hi (by simp)
  | x :: r, o, h, 0, _ => by rw [RdVlS] at h; simpa using h.1
  | x :: r, o, h, i + 1, hi => by
    rw [RdVlS] at h
    have := RdVlS.at_ r h.2 i (by simpa using hi)
    have e : o + 5 + i * 5 = o + (i + 1) * 5 := by omega
    rw [e] at this
    exact this
/-- a row of values, told place by place -/
theorem RdVlS.of {w : World} {S : Nat → Prop} {bb : Nat} : ∀ (l : List V) {o : Nat}, (∀ i (hi : i < l.length), ∃ A m c A' m' c', w.cell? ⟨bb, o + i * 5, none⟩ = some (.int .i64 l[i].k) ∧ w.cell? ⟨bb, o + i * 5 + 1, none⟩ = some (.int .i64 l[i].t) ∧ w.cell? ⟨bb, o + i * 5 + 2, none⟩ = some (.int .u64 l[i].n) ∧
      w.cell? ⟨bb, o + i * 5 + 3, none⟩ = some (.slice A m c) ∧ w.cell? ⟨bb, o + i * 5 + 4, none⟩ = some (.slice A' m' c') ∧ RdVS w S l[i] A m c A' m' c') → RdVlS w S bb o l
  | [], _, _ => by rw [RdVlS]; trivial
  | x :: r, o, h => by
    rw [RdVlS]
    have h0 := h 0 (by simp)
    simp only [Nat.zero_mul, Nat.add_zero, List.getElem_cons_zero] at h0
    refine ⟨h0, RdVlS.of r fun i hi => ?_⟩
    have := h (i + 1) (by simpa using hi)
    have e : o + (i + 1) * 5 = o + 5 + i * 5 := by omega
    rw [e] at this
    exact this

/-- the same of all blocks below B -/
def RdV (w : World) (B : Nat) : V → Option Addr → Nat → Nat → Option Addr → Nat → Nat → Prop := RdVS w (fun b => b < B)
def RdVl (w : World) (B bb : Nat) : Nat → List V → Prop := RdVlS w (fun b => b < B) bb
def RdVs (w : World) (B : Nat) (l : List V) (A : Option Addr) (n c : Nat) : Prop :=
  n = l.length ∧ n ≤ c ∧ c ≤ 9223372036854775807 ∧ n * 72 ≤ 140737488355328 ∧ (0 < n → ∃ bb o, A = some ⟨bb, o, none⟩ ∧ bb < B ∧ RdVl w B bb o l)
theorem RdV.split {w : World} {B m c m' c' : Nat} {A A' : Option Addr} {x : V} (h : RdV w B x A m c A' m' c') : RdB w B A m c x.b ∧ RdVs w B x.l A' m' c' := RdVS.split h
theorem RdV.join {w : World} {B m c m' c' : Nat} {A A' : Option Addr} {x : V} (h1 : RdB w B A m c x.b) (h2 : RdVs w B x.l A' m' c') : RdV w B x A m c A' m' c' := RdVS.join h1 h2
theorem RdV.keep {w w' : World} {B B' : Nat} (hk : ∀ p : Addr, p.block < B → w'.cell? p = w.cell? p) (hB : B ≤ B') (x : V) {A : Option Addr} {m c : Nat} {A' : Option Addr} {m' c' : Nat} (h : RdV w B x A m c A' m' c') : RdV w' B' x A m c A' m' c' :=
  RdVS.keep hk (fun b hb => Nat.lt_of_lt_of_le hb hB) x h
theorem RdVs.keep {w w' : World} {B B' n c : Nat} {A : Option Addr} {l : List V} (h : RdVs w B l A n c) (hk : ∀ p : Addr, p.block < B → w'.cell? p = w.cell? p) (hB : B ≤ B') : RdVs w' B' l A n c :=
  RdVsS.keep (S := fun b => b < B) h hk (fun b hb => Nat.lt_of_lt_of_le hb hB)
theorem RdV.on {w w' : World} {m c m' c' : Nat} {A A' : Option Addr} {x : V} (h : RdV w w.heap.size x A m c A' m' c') (hb : Below w.heap.size w w') : RdV w' w'.heap.size x A m c A' m' c' :=
  RdV.keep (fun _ hp => hb.cell hp) hb.size x h
theorem RdVs.on {w w' : World} {n c : Nat} {A : Option Addr} {l : List V} (h : RdVs w w.heap.size l A n c) (hb : Below w.heap.size w w') : RdVs w' w'.heap.size l A n c :=
  h.keep (fun _ hp => hb.cell hp) hb.size
theorem RdVl.at_ {w : World} {B bb : Nat} (l : List V) {o : Nat} (h : RdVl w B bb o l) (i : Nat) (hi : i < l.length) : ∃ A m c A' m' c', w.cell? ⟨bb, o + i * 5, none⟩ = some (.int .i64 l[i].k) ∧ w.cell? ⟨bb, o + i * 5 + 1, none⟩ = some (.int .i64 l[i].t) ∧ w.cell? ⟨bb, o + i * 5 + 2, none⟩ = some (.int .u64 l[i].n) ∧
      w.cell? ⟨bb, o + i * 5 + 3, none⟩ = some (.slice A m c) ∧ w.cell? ⟨bb, o + i * 5 + 4, none⟩ = some (.slice A' m' c') ∧ RdV w B l[i] A m c A' m' c' := RdVlS.at_ l h i hi
theorem rights_take_succ (l : List V) (d k : Nat) (h : k < l.length) : V.right.rights (l.take (k + 1)) d = (V.right.rights (l.take k) d && l[k].right d) := by
  induction l generalizing k with
  | nil => simp at h
  | cons x r ih =>
    rcases k with _ | k
    · simp [V.right.rights]
    · simp only [List.take_succ_cons, V.right.rights, List.getElem_cons_succ]
      rw [ih k (by simpa using h), Bool.and_assoc]
theorem rights_false {l : List V} {d k : Nat} (h : k < l.length) (hr : l[k].right d = false) : V.right.rights l d = false := by
  rw [← Bool.not_eq_true]
  intro e
  rw [rights_mem e (List.getElem_mem h)] at hr
  cases hr
theorem nil_len {α : Type} {l : List α} {m : Nat} [Decidable (l = [])] (h : l.length = m) : decide (l = []) = ((m : Int) == 0) := by
  rw [Bool.eq_iff_iff, decide_eq_true_iff, beq_iff_eq]
  rw [← List.length_eq_zero_iff]
  omega
theorem nil_len' {α : Type} {l : List α} {m : Nat} [Decidable (l = [])] (h : l.length = m) : decide (l = []) = !decide (0 < m) := by
  rw [Bool.eq_iff_iff, decide_eq_true_iff, Bool.not_eq_true', decide_eq_false_iff_not]
  constructor
  · rintro rfl
    simp at h
    omega
  · intro hh
    exact List.eq_nil_of_length_eq_zero (by omega)
theorem right_shape {k : Int} {p q r a b c s : Bool} (h : b = true → s = true) :
    (r && p && q && (if k = 0 then a && b else if k = 1 then c && b else if k = 2 then c && a && s else false)) =
    (p && q && r && !decide (k < 0) && !decide ((2 : Int) < k) && (if k = 0 then a && b else if k = 1 then c && b else c && a) && s) := by
  by_cases k0 : k = 0
  · subst k0
    simp
    cases b <;> cases s <;> simp at h <;> cases p <;> cases q <;> cases r <;> cases a <;> rfl
  · by_cases k1 : k = 1
    · subst k1
      simp
      cases b <;> cases s <;> simp at h <;> cases p <;> cases q <;> cases r <;> cases c <;> rfl
    · by_cases k2 : k = 2
      · subst k2
        simp
        cases s <;> cases p <;> cases q <;> cases r <;> cases a <;> cases c <;> rfl
      · have : decide (k < 0) = true ∨ decide ((2 : Int) < k) = true := by simp; omega
        rw [if_neg k0, if_neg k1, if_neg k2]
        rcases this with h1 | h1 <;> rw [h1] <;> simp
theorem encs_take_succ (l : List V) (k : Nat) (h : k < l.length) : V.enc.encs (l.take (k + 1)) = V.enc.encs (l.take k) ++ l[k].enc := by
  induction l generalizing k with
  | nil => simp at h
  | cons x r ih =>
    rcases k with _ | k
    · simp [V.enc.encs]
    · simp only [List.take_succ_cons, V.enc.encs, List.getElem_cons_succ]
      rw [ih k (by simpa using h), List.append_assoc]
theorem encs_take_le (l : List V) (k : Nat) : (V.enc.encs (l.take k)).length ≤ (V.enc.encs l).length := by
  induction l generalizing k with
  | nil => simp
  | cons x r ih =>
    rcases k with _ | k
    · simp [V.enc.encs]
    · simp only [List.take_succ_cons, V.enc.encs, List.length_append]
      have := ih k
      omega
theorem head_bv {k t X : Int} (hk : k = 0 ∨ k = 1 ∨ k = 2) (h0 : 0 ≤ t) (h1 : t ≤ 30) (hX : X = k * 64 + t) : #[Value.int .u8 X].toList = [headB k t].map bv := by
  subst hX
  have : ((headB k t).toNat : Int) = k * 64 + t := by
    unfold headB
    rcases hk with rfl | rfl | rfl <;> simp <;> omega
  simp [bv, this]
theorem joinL_three (a b c : Row) : joinL [a, b, c] = a.bs ++ (b.bs ++ c.bs) := by simp [joinL]
theorem own_lit (w : World) {base : Nat} {e : TypeId} {arr : Array Value} {bs : List UInt8} (ha : arr.toList = bs.map bv) (hb : base ≤ w.heap.size) {n : Nat} (hn : bs.length = n := by rfl) (hm : n ≤ 9223372036854775807 := by omega) :
    (w.alloc (.cells arr e)).ownsRow base e 1 (.slice (some ⟨w.heap.size, 0, none⟩) n n) n (bs.map bv) := by
  have h := own_new w (base := base) (n := n) (e := e) (arr := arr) hb (by rw [← Array.length_toList, ha, List.length_map, hn]) hm
  rw [ha] at h
  exact h
theorem one_bv {n : Nat} (h : n < 128) : #[Value.int .u8 (n : Int)].toList = [UInt8.ofNat n].map bv := by
  have : (UInt8.ofNat n).toNat = n := by simp; omega
  rw [List.map_cons, List.map_nil, bv, this]
theorem one_bv2 {n : Nat} (h : n ≤ 8) : #[Value.int .u8 (128 + (n : Int))].toList = [UInt8.ofNat (128 + n)].map bv := by
  have : (UInt8.ofNat (128 + n)).toNat = 128 + n := by simp; omega
  rw [List.map_cons, List.map_nil, bv, this]
  simp
theorem grown_from {B g n c : Nat} {a w w' : World} (h : Below B a w) (hB : B ≤ w.heap.size) (hg : w.grownBy w' (Value.slice (some ⟨g, 0, none⟩) n c).ownBlock) (hgB : B ≤ g) : Below B a w' :=
  h.grown hg hB (fun k hk => by
    simp only [Value.ownBlock, Option.some.injEq] at hk
    omega)
/-- what was appended to lies at its elder place, or behind all *-/
theorem own_past {g s B : Nat} {n c n' c' : Nat} {A : Option Addr} (h : (Value.slice A n' c').ownBlock = (Value.slice (some ⟨g, 0, none⟩) n c).ownBlock ∨ (Value.slice A n' c').ownBlock = some s) (hs : B ≤ s ∧ B ≤ g) : ∀ k, (Value.slice A n' c').ownBlock = some k → B ≤ k := by
  intro k hk
  rcases h with e | e
  · rw [hk] at e
    simp only [Value.ownBlock, Option.some.injEq] at e
    omega
  · rw [hk] at e
    injection e with e
    omega
end Go.Proofs.Ytcgkjcfckbplmaa.Kit
