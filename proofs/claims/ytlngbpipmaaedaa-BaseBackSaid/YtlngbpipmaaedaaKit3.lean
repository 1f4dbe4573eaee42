/-
  WORDS OF THIS SEAT'S PROOFS: the order of numbers by their bytes; noughts ahead.
-/
import Derived.Test.YtlngbpipmaaedaaKit2
import Derived.Deep.WholeRow
namespace Go.Proofs.Ytlngbpipmaaedaa.Kit
open Go.RowKit
set_option linter.unusedVariables false

def sgn (a b : Nat) : Int := if a < b then -1 else if a = b then 0 else 1
theorem sgn_bd (a b : Nat) : -1 ≤ sgn a b ∧ sgn a b ≤ 1 := by unfold sgn; (repeat' split) <;> omega
theorem sgn_zero {a b : Nat} : sgn a b = 0 ↔ a = b := by
  unfold sgn
  (repeat' split) <;> omega
/-- one byte more: what is unlike stays as it is -/
theorem sgn_keep {a b x y : Nat} (h : sgn a b ≠ 0) (hx : x < 256) (hy : y < 256) : sgn (a * 256 + x) (b * 256 + y) = sgn a b := by
  unfold sgn at *
  (repeat' split at h) <;> (repeat' split) <;> omega
theorem sgn_next {a b x y : Nat} (h : sgn a b = 0) : sgn (a * 256 + x) (b * 256 + y) = sgn x y := by
  rw [sgn_zero] at h
  subst h
  unfold sgn
  (repeat' split) <;> omega
theorem div_more (n k : Nat) (h : k < 8) : n / 256 ^ (8 - (k + 1)) = n / 256 ^ (8 - k) * 256 + n / 256 ^ (7 - k) % 256 := by
  have e : n / 256 ^ (8 - k) = n / 256 ^ (7 - k) / 256 := by
    rw [Nat.div_div_eq_div_mul, ← Nat.pow_succ, show (7 - k).succ = 8 - k from by omega]
  rw [e, show 8 - (k + 1) = 7 - k from by omega]
  omega
theorem and7 (a : Int) : ∃ t : Nat, t ≤ 7 ∧ bits .and .i64 a 7 = t := by
  refine ⟨(BitVec.ofInt 64 a &&& BitVec.ofInt 64 7).toNat, ?_, ?_⟩
  · rw [BitVec.toNat_and]
    exact Nat.le_trans Nat.and_le_right (by decide)
  · have hx : (BitVec.ofInt 64 a &&& BitVec.ofInt 64 7).toNat ≤ 7 := by
      rw [BitVec.toNat_and]
      exact Nat.le_trans Nat.and_le_right (by decide)
    show IntKind.i64.wrap ((BitVec.ofInt 64 a &&& BitVec.ofInt 64 7).toNat : Int) = _
    rw [IntKind.wrap_i64]
    omega
theorem num_noughts (k : Nat) (bs : List UInt8) : num (List.replicate k 0 ++ bs) = num bs := by
  have h : ∀ k, num (List.replicate k (0 : UInt8)) = 0 := by
    intro k
    induction k with
    | zero => rfl
    | succ k ih => rw [List.replicate_succ', num_snoc, ih]; rfl
  unfold num
  rw [List.foldl_append]
  have := h k
  unfold num at this
  rw [this]
theorem nought_front (k : Nat) (bs : List UInt8) : #[Value.int .u8 0].toList ++ (List.replicate k 0 ++ bs).map bv = (List.replicate (k + 1) 0 ++ bs).map bv := by
  rw [List.replicate_succ]; rfl
theorem be_cell (n k : Nat) (h : k < (be 8 n).length) : (be 8 n)[k].toNat = n / 256 ^ (7 - k) % 256 := by
  have h8 : k < 8 := by rw [be_len] at h; exact h
  have e := be_at 8 n k h8
  rw [List.getElem?_eq_getElem h] at e
  injection e with e
  rw [e]
  simp
theorem slice_len (A : Option Addr) {m n : Nat} (h : m = n) (c : Nat) : Value.slice A m c = .slice A n c := by rw [h]
/-- append of what is read, at an operation that a test guards -/
theorem wpList_app_g {P : Program} (w : World) {ops : Array Oper} {rest : List Oper} {o : Oper} {a : Act} {Q : Exit → Act → World → Prop} (hgd : Region.wanted o (yielded ops a.tmps) = true) (s x : Operand) (t : TypeId)
    (ho : o.op = .call { callee := .builtin .append, args := #[s, x], argTypes := #[t, t] })
    (base : Nat) (e : TypeId) (i : TypeInfo) (z : Value) (bytes : Nat) (ht : P.underlying t = some (.slice e)) (hi : P.info? e = some i) (hz : i.zero = some z)
    (hsize : i.size = 1) (hby : i.bytes = bytes) (hzs : z.cells.size = 1)
    (v : Value) (n : Nat) (xs : List Value) (hs : a.eval s = v) (hown : w.ownsRow base e 1 v n xs)
    (B : Nat) (A : Option Addr) (m c : Nat) (news : List Value) (hx : a.eval x = .slice A m c) (hr : Rd w B A m c news) (h1 : ∀ u ∈ news, u.oneCell' = true)
    (h63 : n + m ≤ 140737488355328) (hbytes : (n + m) * bytes ≤ 140737488355328) (hbase : base ≤ w.heap.size)
    (h : ∀ A' c' w', w'.ownsRow base e 1 (.slice A' (n + m) c') (n + m) (xs ++ news) → w.grownBy w' v.ownBlock → ((Value.slice A' (n + m) c').ownBlock = v.ownBlock ∨ (Value.slice A' (n + m) c').ownBlock = some w.heap.size) → wpList P ops Q rest (a.put o.dst (.slice A' (n + m) c')) w') : wpList P ops Q (o :: rest) a w :=
  wpList_step fun _ hK => by
    rw [if_pos hgd]
    exact wp_app w s x t ho base e i z bytes ht hi hz hsize hby hzs v n xs hs hown B A m c news hx hr h1 h63 hbytes hbase fun v' w' h2 h3 h4 => by
      obtain ⟨A', c', rfl⟩ := own_form h2
      exact hK _ _ (h A' c' w' h2 h3 h4)
theorem own_cases {w : World} {base n c : Nat} {A : Option Addr} {e : TypeId} {xs : List Value} (h : w.ownsRow base e 1 (.slice A n c) n xs) : (A = none ∧ c = 0 ∧ n = 0) ∨ ∃ g, A = some ⟨g, 0, none⟩ := by
  rcases h.2 with ⟨h1, h2⟩ | ⟨g, cap, cur, h1, _⟩
  · injection h1 with e1 e2 e3
    exact .inl ⟨e1, e3, e2⟩
  · injection h1 with e1 e2 e3
    exact .inr ⟨g, e1⟩
theorem joinL_two (A A' : Option Addr) (n c n' c' : Nat) (xs ys : List UInt8) : joinL [⟨A, n, c, xs⟩, ⟨A', n', c', ys⟩] = xs ++ ys := by simp [joinL]
/-- s[:k] -/
theorem Rd.front {w : World} {B n c k : Nat} {A : Option Addr} {xs : List Value} (h : Rd w B A n c xs) (hk : k ≤ n) : Rd w B A k c (xs.take k) := by
  have hr := h.room
  refine ⟨by rw [List.length_take, h.1]; omega, by omega, hr.2, fun hn => ?_⟩
  obtain ⟨b, o, e, hb, hc⟩ := h.2.2.2 (by omega)
  refine ⟨b, o, e, hb, fun j u hu => ?_⟩
  have hj : j < k := by
    have := (List.getElem?_eq_some_iff.1 hu).1
    simp at this; omega
  rw [List.getElem?_take_of_lt hj] at hu
  exact hc j u hu
/-- a whole new block is written -/
theorem store_whole (P : Program) (w : World) (t : TypeId) (Z : Array Value) (vs : List Value) (h : vs.length = Z.size) (h1 : ∀ v ∈ vs, v.oneCell' = true) :
    (storeCells ⟨w.heap.size, 0, none⟩ vs).run P (w.alloc (.cells Z t)) = .ok () (w.alloc (.cells vs.toArray t)) := by
  have h2 := run_storeCells_at (P := P) w.heap.size 0 t vs 0 Z (w.alloc (.cells Z t)) (heap_alloc_new w _) (by omega) h1
  rw [h2, World.setRow_alloc_new]
  have e : (Z.toList.take (0 + 0) ++ vs ++ Z.toList.drop (0 + 0 + vs.length)) = vs := by
    rw [Nat.add_zero, List.take_zero, List.nil_append, Nat.zero_add, h, List.drop_of_length_le (by simp), List.append_nil]
  rw [e]
theorem rd_front_app {w : World} {B n n' c : Nat} {A : Option Addr} {xs ys : List UInt8} (h : RdB w B A (n + n') c (xs ++ ys)) (hl : xs.length = n) : RdB w B A n c xs := by
  have h2 := Rd.front (k := n) h (by omega)
  rw [← List.map_take, List.take_append_of_le_length (by omega), List.take_of_length_le (by omega)] at h2
  exact h2
theorem rd_back_app {w : World} {B n n' c b o : Nat} {xs ys : List UInt8} (h : RdB w B (some ⟨b, o, none⟩) (n + n') c (xs ++ ys)) (hl : xs.length = n) (hc : n < c) : RdB w B (some ⟨b, o + n, none⟩) n' (c - n) ys := by
  have h2 := h.cut (k := n) hc (by omega)
  rw [Nat.add_sub_cancel_left, ← hl, List.drop_left] at h2
  rw [hl] at h2
  exact h2
theorem rd_none {w : World} {B c : Nat} {A : Option Addr} {ys : List UInt8} (hl : ys.length = 0) (hc : c ≤ 9223372036854775807) : RdB w B A 0 c ys := by
  obtain rfl : ys = [] := List.eq_nil_of_length_eq_zero hl
  exact ⟨rfl, Nat.zero_le _, hc, fun h => absurd h (by omega)⟩
theorem block_lt_of_heap {w : World} {g : Nat} {o : Obj} (h : w.heap[g]? = some o) : g < w.heap.size := by
  rcases Nat.lt_or_ge g w.heap.size with h1 | h1
  · exact h1
  · rw [Array.getElem?_eq_none h1] at h; cases h
/-- a block that is known whole reads as its bytes -/
theorem rd_block {w : World} {g n : Nat} {t : TypeId} {fr : Nat × Nat} {bs : List UInt8} (h : w.heap[g]? = some (.cells (bs.map bv).toArray t fr)) (hn : bs.length = n) (hm : n ≤ 9223372036854775807) :
    RdB w w.heap.size (some ⟨g, 0, none⟩) n n bs := by
  refine ⟨by rw [List.length_map, hn], Nat.le_refl _, hm, fun _ => ⟨g, 0, rfl, block_lt_of_heap h, fun j u hu => ?_⟩⟩
  rw [cell_of_row w g (0 + j) _ t fr h, Nat.zero_add]
  simpa using hu
theorem rd_none' {w : World} {B c n : Nat} {A : Option Addr} {ys : List UInt8} (h0 : n = 0) (hl : ys.length = n) (hc : c ≤ 9223372036854775807) : RdB w B A n c ys := by
  subst h0
  exact rd_none hl hc
theorem and1023 (a : Int) : ∃ t : Nat, t ≤ 1023 ∧ bits .and .i64 a 1023 = t := by
  refine ⟨(BitVec.ofInt 64 a &&& BitVec.ofInt 64 1023).toNat, ?_, ?_⟩
  · rw [BitVec.toNat_and]
    exact Nat.le_trans Nat.and_le_right (by decide)
  · have hx : (BitVec.ofInt 64 a &&& BitVec.ofInt 64 1023).toNat ≤ 1023 := by
      rw [BitVec.toNat_and]
      exact Nat.le_trans Nat.and_le_right (by decide)
    show IntKind.i64.wrap ((BitVec.ofInt 64 a &&& BitVec.ofInt 64 1023).toNat : Int) = _
    rw [IntKind.wrap_i64]
    omega
theorem mod_idx (t N : Nat) (h : 0 < N) : ∃ idx : Nat, (t : Int) % (N : Int) = idx ∧ idx < N := ⟨t % N, by simp, Nat.mod_lt _ h⟩
theorem set_bv (L : List UInt8) (j : Nat) (x y : UInt8) : (L.map bv).set j (.int .u8 ((x.toNat ^^^ y.toNat : Nat) : Int)) = (L.set j (x ^^^ y)).map bv := by
  rw [List.map_set]
  simp [bv]
theorem own_on {w w' : World} {base n : Nat} {v : Value} {e : TypeId} {xs : List Value} (h : w.ownsRow base e 1 v n xs) (hb : Below w.heap.size w w') : w'.ownsRow base e 1 v n xs :=
  h.kept (row := none) ⟨hb.os, hb.tape, hb.output, hb.size, fun k hk _ => hb.block k hk⟩ (by rcases hv : v.ownBlock with _ | g <;> simp)
theorem set_same (L : List UInt8) (j : Nat) (h : j < L.length) (x y : UInt8) (hx : x = L[j]) : decide (L = L.set j (x ^^^ y)) = ((y.toNat : Int) == 0) := by
  subst hx
  rw [Bool.eq_iff_iff, decide_eq_true_iff, beq_iff_eq]
  constructor
  · intro e
    have h2 : L[j] = (L.set j (L[j] ^^^ y))[j]'(by simpa using h) := by
      have := congrArg (fun l : List UInt8 => l[j]?) e
      simp only [List.getElem?_eq_getElem h, List.getElem?_set_self h] at this
      injection this with this
      rw [List.getElem_set_self]
      exact this
    rw [List.getElem_set_self] at h2
    have h3 : L[j] ^^^ L[j] = L[j] ^^^ (L[j] ^^^ y) := by rw [← h2]
    rw [← UInt8.xor_assoc, UInt8.xor_self, UInt8.zero_xor] at h3
    rw [← h3]; rfl
  · intro e
    have : y = 0 := by
      apply UInt8.toNat_inj.1
      simpa using e
    subst this
    rw [UInt8.xor_zero, List.set_getElem_self]
end Go.Proofs.Ytlngbpipmaaedaa.Kit
