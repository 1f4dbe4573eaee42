/-
  WORDS OF THIS SEAT'S PROOFS, over any program: bytes that a slice value reads as; numbers of bytes.
-/
import Derived.WalkKit
import Derived.WalkSpells
import Derived.WalkLawsBesides
import Derived.Lib.Hide
import Derived.Deep.Draws
import Derived.Laws.OwnMore
import Derived.Maps.AppendAt
import Derived.Deep.AppendLies
import Derived.RegionTactic
import Derived.OwnWalk
namespace Go.Proofs.Ytlngbpipmaaedaa.Kit
open Go.RowKit
set_option linter.unusedVariables false

/-- the value of a byte -/
def bv (b : UInt8) : Value := .int .u8 b.toNat

/-- the slice value '.slice A n c' reads, in world w, as the cells xs (one each), which lie in blocks below B -/
def Rd (w : World) (B : Nat) (A : Option Addr) (n c : Nat) (xs : List Value) : Prop :=
  xs.length = n ∧ n ≤ c ∧ c ≤ 9223372036854775807 ∧ (0 < n → ∃ b o, A = some ⟨b, o, none⟩ ∧ b < B ∧ ∀ j u, xs[j]? = some u → w.cell? ⟨b, o + j, none⟩ = some u)

section
variable {w w' : World} {B B' n c : Nat} {A : Option Addr} {xs : List Value}
theorem Rd.nil (w : World) (B : Nat) : Rd w B none 0 0 [] := ⟨rfl, Nat.le_refl _, by omega, fun h => absurd h (by omega)⟩
theorem Rd.len (h : Rd w B A n c xs) : xs.length = n := h.1
theorem Rd.room (h : Rd w B A n c xs) : n ≤ c ∧ c ≤ 9223372036854775807 := ⟨h.2.1, h.2.2.1⟩
theorem Rd.keep (h : Rd w B A n c xs) (hk : ∀ p : Addr, p.block < B → w'.cell? p = w.cell? p) : Rd w' B A n c xs :=
  ⟨h.1, h.2.1, h.2.2.1, fun hn => by
    obtain ⟨b, o, e, hb, hc⟩ := h.2.2.2 hn
    exact ⟨b, o, e, hb, fun j u hu => (hk ⟨b, o + j, none⟩ hb).trans (hc j u hu)⟩⟩
theorem Rd.more (h : Rd w B A n c xs) (hB : B ≤ B') : Rd w B' A n c xs :=
  ⟨h.1, h.2.1, h.2.2.1, fun hn => by
    obtain ⟨b, o, e, hb, hc⟩ := h.2.2.2 hn
    exact ⟨b, o, e, by omega, hc⟩⟩
theorem Rd.below (h : Rd w B A n c xs) (hb : Below B w w') : Rd w' B A n c xs := h.keep fun _ hp => hb.cell hp
theorem Rd.drewN (h : Rd w B A n c xs) (k : Nat) : Rd (w.drewN k) B A n c xs := h
theorem Rd.alloc (h : Rd w B A n c xs) (hB : B ≤ w.heap.size) (o : Obj) : Rd (w.alloc o) B A n c xs := h.keep fun p hp => World.cell?_alloc_lt w o p (by omega)
/-- s[k:] -/
theorem Rd.cut (h : Rd w B A n c xs) {k : Nat} (hk : k ≤ n) : Rd w B (if c = k then A else A.map (·.add k)) (n - k) (c - k) (xs.drop k) := by
  have hr := h.room
  refine ⟨by rw [List.length_drop, h.1], by omega, by omega, fun hn => ?_⟩
  obtain ⟨b, o, rfl, hb, hcell⟩ := h.2.2.2 (by omega)
  rw [if_neg (by omega)]
  refine ⟨b, o + k, ?_, hb, fun j u hu => ?_⟩
  · by_cases h0 : k = 0
    · subst h0; simp [Addr.add]
    · simp [Addr.add, h0]
  · rw [Nat.add_assoc]
    exact hcell _ u (by rw [← hu, List.getElem?_drop])
theorem Rd.of_own {base : Nat} {e : TypeId} (h : w.ownsRow base e 1 (.slice A n c) n xs) : Rd w w.heap.size A n c xs := by
  have hl : xs.length = n := by simpa using h.1
  have hc : c ≤ 9223372036854775807 := by
    rcases h.2 with ⟨h1, h2, _⟩ | ⟨g, cap, cur, hv, _, _, hnc, hm, _⟩
    · cases h1; omega
    · cases hv; unfold maxLen at hm; exact hm
  refine ⟨hl, ?_, hc, fun hn => ?_⟩
  · rcases h.2 with ⟨h1, h2, _⟩ | ⟨g, cap, cur, hv, _, _, hnc, _⟩
    · cases h1; exact Nat.zero_le _
    · cases hv; exact hnc
  · rcases h.2 with ⟨h1, h2, _⟩ | ⟨g, cap, cur, hv, _, hh, _⟩
    · omega
    · cases hv
      have hlt : g < w.heap.size := by
        rcases Nat.lt_or_ge g w.heap.size with h1 | h1
        · exact h1
        · rw [Array.getElem?_eq_none h1] at hh; cases hh
      refine ⟨g, 0, rfl, hlt, fun j u hu => ?_⟩
      have := h.cells (g := g) rfl j u hu
      by_cases h0 : j = 0
      · subst h0; simpa [Addr.add] using this
      · simpa [Addr.add, h0] using this
end

/-- the same of bytes -/
def RdB (w : World) (B : Nat) (A : Option Addr) (n c : Nat) (bs : List UInt8) : Prop := Rd w B A n c (bs.map bv)
theorem RdB.at_ {w : World} {B n c : Nat} {A : Option Addr} {bs : List UInt8} (h : RdB w B A n c bs) {k : Nat} (hk : k < n) :
    ∃ b o, A = some ⟨b, o, none⟩ ∧ b < B ∧ ∀ j (hj : j < bs.length), w.cell? ⟨b, o + j, none⟩ = some (.int .u8 (bs[j].toNat : Int)) := by
  obtain ⟨b, o, e, hb, hc⟩ := h.2.2.2 (by omega)
  exact ⟨b, o, e, hb, fun j hj => hc j _ (by simp [hj, bv])⟩
theorem RdB.len {w : World} {B n c : Nat} {A : Option Addr} {bs : List UInt8} (h : RdB w B A n c bs) : bs.length = n := by simpa using h.1

/-- the number of bytes, the highest first -/
def num (bs : List UInt8) : Nat := bs.foldl (fun n b => n * 256 + b.toNat) 0
theorem num_snoc (bs : List UInt8) (b : UInt8) : num (bs ++ [b]) = num bs * 256 + b.toNat := by simp [num, List.foldl_append]
theorem num_lt (bs : List UInt8) : num bs < 256 ^ bs.length := by
  suffices h : ∀ (l : List UInt8), num l.reverse < 256 ^ l.length by simpa using h bs.reverse
  intro l
  induction l with
  | nil => simp [num]
  | cons b l ih =>
    rw [List.reverse_cons, num_snoc, List.length_cons, Nat.pow_succ]
    have := b.toNat_lt
    omega
theorem num_take_succ (bs : List UInt8) (k : Nat) (h : k < bs.length) : num (bs.take (k + 1)) = num (bs.take k) * 256 + bs[k].toNat := by
  rw [List.take_succ_eq_append_getElem h, num_snoc]
theorem num_take_lt (bs : List UInt8) (k : Nat) (h : k ≤ 7) : num (bs.take k) < 72057594037927936 := by
  have h1 := num_lt (bs.take k)
  have h2 : 256 ^ (bs.take k).length ≤ 256 ^ 7 := Nat.pow_le_pow_right (by omega) (by rw [List.length_take]; omega)
  omega
theorem or_byte (n b : Nat) (hn : n < 72057594037927936) (hb : b < 256) : bits .or .u64 ((n : Int) * 256) (b : Int) = ((n * 256 + b : Nat) : Int) := by
  have h := bits_or_u64_nat (n * 256) b (by omega) (by omega)
  have e : n * 256 ||| b = n * 256 + b := by
    have := Nat.two_pow_add_eq_or_of_lt (i := 8) (b := b) (by simpa using hb) n
    rw [show (2 : Nat) ^ 8 = 256 from rfl] at this
    rw [Nat.mul_comm n 256, ← this]
  rw [e] at h
  simpa using h
/-- the k lowest bytes of a number, the highest first -/
def be : Nat → Nat → List UInt8
  | 0, _ => []
  | k + 1, n => be k (n / 256) ++ [UInt8.ofNat n]
theorem be_len (k n : Nat) : (be k n).length = k := by
  induction k generalizing n with
  | zero => rfl
  | succ k ih => simp [be, ih]
theorem be_cons (k n : Nat) : be (k + 1) n = UInt8.ofNat (n / 256 ^ k) :: be k n := by
  induction k generalizing n with
  | zero => simp [be]
  | succ k ih =>
    have e : be (k + 1) n = be k (n / 256) ++ [UInt8.ofNat n] := rfl
    rw [e, show be (k + 1 + 1) n = be (k + 1) (n / 256) ++ [UInt8.ofNat n] from rfl, ih, List.cons_append, Nat.div_div_eq_div_mul, Nat.pow_succ']
theorem num_be (k n : Nat) : num (be k n) = n % 256 ^ k := by
  induction k generalizing n with
  | zero => simp [be, num, Nat.mod_one]
  | succ k ih =>
    rw [be, num_snoc, ih, Nat.pow_succ', Nat.mod_mul]
    have : (UInt8.ofNat n).toNat = n % 256 := by simp
    omega
/-- eight cells, of which the first m are 0 and the others are n's lowest bytes -/
def Cput (m n : Nat) : Array Value := (List.replicate m (Value.int .u8 0) ++ (be (8 - m) n).map bv).toArray
theorem Cput_at (m n : Nat) : (Cput (m + 1) n)[m]? = some (.int .u8 0) := by simp [Cput, List.getElem?_append]
theorem Cput_set (m n : Nat) (h : m + 1 ≤ 8) : (Cput (m + 1) n).setIfInBounds m (bv (UInt8.ofNat (n / 256 ^ (7 - m)))) = Cput m n := by
  have e : 8 - m = (7 - m) + 1 := by omega
  have e' : 8 - (m + 1) = 7 - m := by omega
  simp only [Cput, e, e', be_cons, List.map_cons, List.replicate_succ', List.append_assoc, List.cons_append, List.nil_append]
  simp
theorem Cput_set' (m n : Nat) (h : m + 1 ≤ 8) (x : Int) (hx : x = ((n / 256 ^ (7 - m) % 256 : Nat) : Int)) : (Cput (m + 1) n).setIfInBounds m (.int .u8 x) = Cput m n := by
  rw [← Cput_set m n h, hx]; simp [bv]
theorem Cput_zero (n : Nat) : (Cput 0 n).toList = (be 8 n).map bv := by simp [Cput]
theorem Cput_size (m n : Nat) (h : m ≤ 8) : (Cput m n).size = 8 := by simp [Cput, be_len]; omega
theorem div_step (n m : Nat) (h : m + 1 ≤ 8) : (n : Int) / 256 ^ (7 - m) / 256 = ((n / 256 ^ (8 - m) : Nat) : Int) := by
  rw [show 8 - m = (7 - m) + 1 from by omega, Nat.pow_succ, ← Nat.div_div_eq_div_mul]
  simp
theorem int_eq {k : IntKind} {a b : Int} (h : a = b) : Value.int k a = .int k b := by rw [h]
theorem take_eq_succ {xs ys : List UInt8} {k : Nat} (h1 : k < xs.length) (h2 : k < ys.length) (h : xs.take k = ys.take k) (he : xs[k] = ys[k]) : xs.take (k + 1) = ys.take (k + 1) := by
  rw [List.take_succ_eq_append_getElem h1, List.take_succ_eq_append_getElem h2, h, he]
theorem byte_ne {a b : UInt8} (h : ¬ a = b) : ((a.toNat : Int) != b.toNat) = true := by
  have : a.toNat ≠ b.toNat := fun e => h (UInt8.toNat_inj.1 e)
  simp; omega
/-- nothing but answers were drawn -/
def Drew (w w' : World) : Prop := ∃ k, w.drewN k = w'
theorem Drew.refl (w : World) : Drew w w := ⟨0, rfl⟩
theorem Drew.of (w : World) (k : Nat) : Drew w (w.drewN k) := ⟨k, rfl⟩
theorem Drew.of2 (w : World) (k j : Nat) : Drew w ((w.drewN k).drewN j) := ⟨k + j, (World.drewN_drewN _ _ _).symm⟩
theorem Drew.trans {a b c : World} (h : Drew a b) (k : Drew b c) : Drew a c := by
  obtain ⟨i, rfl⟩ := h
  obtain ⟨j, rfl⟩ := k
  exact .of2 _ _ _
theorem add_off (b o j : Nat) : ((⟨b, o, none⟩ : Addr).add j) = ⟨b, o + j, none⟩ := by
  by_cases h : j = 0
  · subst h; simp [Addr.add]
  · simp [Addr.add, h]
theorem bv_one (bs : List UInt8) : ∀ u ∈ bs.map bv, u.oneCell' = true := by
  intro u hu
  obtain ⟨b, _, rfl⟩ := List.mem_map.1 hu
  rfl
/-- a slice value that owns its row, written out -/
theorem own_form {w : World} {base n : Nat} {e : TypeId} {v : Value} {xs : List Value} (h : w.ownsRow base e 1 v n xs) : ∃ A c, v = .slice A n c := by
  rcases h.2 with ⟨rfl, rfl, _⟩ | ⟨g, cap, cur, rfl, _⟩
  · exact ⟨_, _, rfl⟩
  · exact ⟨_, _, rfl⟩
section
variable {P : Program} (w : World)
theorem run_app_nil (base : Nat) (t ty e : TypeId) (i : TypeInfo) (ht : P.underlying t = some (.slice e)) (hi : P.info? e = some i)
    (v : Value) (n : Nat) (xs : List Value) (hown : w.ownsRow base e 1 v n xs) (c : Nat) : (Builtin.append_ #[t, t] ty #[v, .slice none 0 c]).run P w = .ok v w := by
  rcases hown.2 with ⟨rfl, rfl⟩ | ⟨g, cap, cur, rfl, _, _, hnc, _⟩
  · simp [Builtin.append_, run_underlying ht, sizeOf, typeInfo, hi, Builtin.lenOf, Builtin.firstCells]
  · simp [Builtin.append_, run_underlying ht, sizeOf, typeInfo, hi, Builtin.lenOf, Builtin.firstCells, hnc, storeCells]
/-- append of what is read, onto a row of the call's own -/
theorem run_app (base : Nat) (t ty e : TypeId) (i : TypeInfo) (z : Value) (bytes : Nat) (ht : P.underlying t = some (.slice e)) (hi : P.info? e = some i) (hz : i.zero = some z)
    (hsize : i.size = 1) (hby : i.bytes = bytes) (hzs : z.cells.size = 1)
    (v : Value) (n : Nat) (xs : List Value) (hown : w.ownsRow base e 1 v n xs)
    (B : Nat) (A : Option Addr) (m c : Nat) (news : List Value) (hr : Rd w B A m c news) (h1 : ∀ u ∈ news, u.oneCell' = true)
    (h63 : n + m ≤ 140737488355328) (hbytes : (n + m) * bytes ≤ 140737488355328) (hbase : base ≤ w.heap.size) :
    ∃ v' w', (Builtin.append_ #[t, t] ty #[v, .slice A m c]).run P w = .ok v' w' ∧ w'.ownsRow base e 1 v' (n + m) (xs ++ news) ∧ w.grownBy w' v.ownBlock ∧
      (v'.ownBlock = v.ownBlock ∨ v'.ownBlock = some w.heap.size) := by
  rcases A with _ | ad
  · have hm : m = 0 := by
      rcases Nat.eq_zero_or_pos m with h0 | h0
      · exact h0
      · obtain ⟨b, o, h, _⟩ := hr.2.2.2 h0
        cases h
    subst hm
    have hn : news = [] := List.eq_nil_of_length_eq_zero hr.1
    subst hn
    exact ⟨v, w, run_app_nil w base t ty e i ht hi v n xs hown c, by simpa using hown, World.grownBy.refl w _, .inl rfl⟩
  · have hcells : ∀ j u, news[j]? = some u → w.cell? (ad.add j) = some u := by
      intro j u hu
      rcases Nat.eq_zero_or_pos m with h0 | h0
      · subst h0
        have hn : news = [] := List.eq_nil_of_length_eq_zero hr.1
        subst hn
        simp at hu
      · obtain ⟨b, o, h, _, hc⟩ := hr.2.2.2 h0
        injection h with h
        subst h
        rw [add_off]
        exact hc j u hu
    obtain ⟨v', w', hrun, h2, h3, _, h5⟩ := run_append_own_at (P := P) w base t ty e i z 1 bytes ht hi hz hsize hby hzs (by omega) v n xs hown ad m c news (by rw [hr.1]; omega) hcells h1 (by unfold maxLen; omega) hbytes hbase
    exact ⟨v', w', hrun, h2, h3, h5⟩
theorem wp_app {o : Oper} {a : Act} {K : Act → World → Prop} {Q : Exit → Act → World → Prop} (s x : Operand) (t : TypeId)
    (ho : o.op = .call { callee := .builtin .append, args := #[s, x], argTypes := #[t, t] })
    (base : Nat) (e : TypeId) (i : TypeInfo) (z : Value) (bytes : Nat) (ht : P.underlying t = some (.slice e)) (hi : P.info? e = some i) (hz : i.zero = some z)
    (hsize : i.size = 1) (hby : i.bytes = bytes) (hzs : z.cells.size = 1)
    (v : Value) (n : Nat) (xs : List Value) (hs : a.eval s = v) (hown : w.ownsRow base e 1 v n xs)
    (B : Nat) (A : Option Addr) (m c : Nat) (news : List Value) (hx : a.eval x = .slice A m c) (hr : Rd w B A m c news) (h1 : ∀ u ∈ news, u.oneCell' = true)
    (h63 : n + m ≤ 140737488355328) (hbytes : (n + m) * bytes ≤ 140737488355328) (hbase : base ≤ w.heap.size)
    (h : ∀ v' w', w'.ownsRow base e 1 v' (n + m) (xs ++ news) → w.grownBy w' v.ownBlock → (v'.ownBlock = v.ownBlock ∨ v'.ownBlock = some w.heap.size) → K (a.put o.dst v') w') : o.wp P a w K Q := by
  obtain ⟨v', w', hrun, h2, h3, h4⟩ := run_app (P := P) w base t o.type e i z bytes ht hi hz hsize hby hzs v n xs hown B A m c news hr h1 h63 hbytes hbase
  unfold Oper.wp execOp
  simp only [ho, resolve, invoke, builtin, Sem.run_bind, Sem.run_pure, Result.andThen_ok, List.map_toArray, List.map_cons, List.map_nil, hs, hx, hrun]
  exact h v' w' h2 h3 h4
theorem wpList_app {ops : Array Oper} {rest : List Oper} {o : Oper} {a : Act} {Q : Exit → Act → World → Prop} (hgd : o.guard = none) (s x : Operand) (t : TypeId)
    (ho : o.op = .call { callee := .builtin .append, args := #[s, x], argTypes := #[t, t] })
    (base : Nat) (e : TypeId) (i : TypeInfo) (z : Value) (bytes : Nat) (ht : P.underlying t = some (.slice e)) (hi : P.info? e = some i) (hz : i.zero = some z)
    (hsize : i.size = 1) (hby : i.bytes = bytes) (hzs : z.cells.size = 1)
    (v : Value) (n : Nat) (xs : List Value) (hs : a.eval s = v) (hown : w.ownsRow base e 1 v n xs)
    (B : Nat) (A : Option Addr) (m c : Nat) (news : List Value) (hx : a.eval x = .slice A m c) (hr : Rd w B A m c news) (h1 : ∀ u ∈ news, u.oneCell' = true)
    (h63 : n + m ≤ 140737488355328) (hbytes : (n + m) * bytes ≤ 140737488355328) (hbase : base ≤ w.heap.size)
    (h : ∀ A' c' w', w'.ownsRow base e 1 (.slice A' (n + m) c') (n + m) (xs ++ news) → w.grownBy w' v.ownBlock → ((Value.slice A' (n + m) c').ownBlock = v.ownBlock ∨ (Value.slice A' (n + m) c').ownBlock = some w.heap.size) → wpList P ops Q rest (a.put o.dst (.slice A' (n + m) c')) w') : wpList P ops Q (o :: rest) a w :=
  wpList_plain hgd fun _ hK => wp_app w s x t ho base e i z bytes ht hi hz hsize hby hzs v n xs hs hown B A m c news hx hr h1 h63 hbytes hbase fun v' w' h2 h3 h4 => by
    obtain ⟨A', c', rfl⟩ := own_form h2
    exact hK _ _ (h A' c' w' h2 h3 h4)
end
theorem ofInt64 (a : Nat) (ha : a < 9223372036854775808) : (BitVec.ofInt 64 (a : Int)).toNat = a := by
  rw [BitVec.ofInt_natCast, BitVec.toNat_ofNat]; exact Nat.mod_eq_of_lt (by omega)
theorem i64_or (a b : Nat) (ha : a < 9223372036854775808) (hb : b < 9223372036854775808) : bits .or .i64 (a : Int) (b : Int) = ((a ||| b : Nat) : Int) := by
  have hx : a ||| b < 2 ^ 63 := Nat.or_lt_two_pow (by omega) (by omega)
  show IntKind.i64.wrap ((BitVec.ofInt 64 (a : Int) ||| BitVec.ofInt 64 (b : Int)).toNat : Int) = _
  rw [BitVec.toNat_or, ofInt64 a ha, ofInt64 b hb, IntKind.wrap_i64]
  omega
theorem i64_xor (a b : Nat) (ha : a < 9223372036854775808) (hb : b < 9223372036854775808) : bits .xor .i64 (a : Int) (b : Int) = ((a ^^^ b : Nat) : Int) := by
  have hx : a ^^^ b < 2 ^ 63 := Nat.xor_lt_two_pow (by omega) (by omega)
  show IntKind.i64.wrap ((BitVec.ofInt 64 (a : Int) ^^^ BitVec.ofInt 64 (b : Int)).toNat : Int) = _
  rw [BitVec.toNat_xor, ofInt64 a ha, ofInt64 b hb, IntKind.wrap_i64]
  omega
theorem i64_and (a b : Nat) (ha : a < 9223372036854775808) (hb : b < 9223372036854775808) : bits .and .i64 (a : Int) (b : Int) = ((a &&& b : Nat) : Int) := by
  have hx : a &&& b < 2 ^ 63 := Nat.and_lt_two_pow _ (by omega)
  show IntKind.i64.wrap ((BitVec.ofInt 64 (a : Int) &&& BitVec.ofInt 64 (b : Int)).toNat : Int) = _
  rw [BitVec.toNat_and, ofInt64 a ha, ofInt64 b hb, IntKind.wrap_i64]
  omega
/-- the byte at a place, 0 behind the last -/
def gb (xs : List UInt8) (k : Nat) : UInt8 := xs[k]?.getD 0
theorem gb_lt {xs : List UInt8} {k : Nat} (h : k < xs.length) : gb xs k = xs[k] := by simp [gb, h]
theorem gb_ge {xs : List UInt8} {k : Nat} (h : xs.length ≤ k) : gb xs k = 0 := by simp [gb, h]
theorem xor_u8 (a b : UInt8) : bits .xor .u8 (a.toNat : Int) (b.toNat : Int) = ((a ^^^ b).toNat : Int) := by
  rw [u8_xor_nat _ _ a.toNat_lt b.toNat_lt, UInt8.toNat_xor]
/-- how far two rows of bytes are alike -/
def AlikeB (n n' : Nat) (xs ys : List UInt8) (k D : Nat) : Prop := D < 9223372036854775808 ∧ (D = 0 ↔ (n = n' ∧ ∀ j, j < k → gb xs j = gb ys j))
theorem or_zero {a b : Nat} : a ||| b = 0 ↔ a = 0 ∧ b = 0 := by
  constructor
  · intro h
    have h1 : a ≤ a ||| b := Nat.left_le_or
    have h2 : b ≤ a ||| b := Nat.right_le_or
    omega
  · rintro ⟨rfl, rfl⟩; rfl
theorem xor_zero {a b : Nat} : a ^^^ b = 0 ↔ a = b := by
  constructor
  · intro h
    have : (a ^^^ b) ^^^ b = 0 ^^^ b := by rw [h]
    simpa [Nat.xor_assoc] using this
  · rintro rfl; simp
theorem AlikeB.start {n n' : Nat} {xs ys : List UInt8} (h : n ≤ 9223372036854775807) (h' : n' ≤ 9223372036854775807) : AlikeB n n' xs ys 0 (n ^^^ n') := by
  refine ⟨?_, ?_⟩
  · have : n ^^^ n' < 2 ^ 63 := Nat.xor_lt_two_pow (by omega) (by omega)
    omega
  · rw [xor_zero]; simp
theorem AlikeB.step {n n' : Nat} {xs ys : List UInt8} {k D : Nat} (h : AlikeB n n' xs ys k D) : AlikeB n n' xs ys (k + 1) (D ||| ((gb xs k).toNat ^^^ (gb ys k).toNat)) := by
  have hx := (gb xs k ^^^ gb ys k).toNat_lt
  rw [← UInt8.toNat_xor]
  refine ⟨?_, ?_⟩
  · have : D ||| (gb xs k ^^^ gb ys k).toNat < 2 ^ 63 := Nat.or_lt_two_pow (by have := h.1; omega) (by omega)
    omega
  · rw [or_zero, h.2, UInt8.toNat_xor, xor_zero, UInt8.toNat_inj]
    constructor
    · rintro ⟨⟨h1, h2⟩, h3⟩
      refine ⟨h1, fun j hj => ?_⟩
      by_cases e : j = k
      · subst e; exact h3
      · exact h2 j (by omega)
    · rintro ⟨h1, h2⟩
      exact ⟨⟨h1, fun j hj => h2 j (by omega)⟩, h2 k (by omega)⟩
theorem AlikeB.done {n n' : Nat} {xs ys : List UInt8} {k D : Nat} (h : AlikeB n n' xs ys k D) (hn : xs.length = n) (hn' : ys.length = n') (hk : n ≤ k) : ((D : Int) == 0) = decide (xs = ys) := by
  rw [Bool.eq_iff_iff, beq_iff_eq, decide_eq_true_iff]
  rw [show ((D : Int) = 0 ↔ D = 0) from by omega, h.2]
  constructor
  · rintro ⟨rfl, h2⟩
    apply List.ext_getElem (by omega)
    intro j h3 h4
    have := h2 j (by omega)
    rwa [gb_lt h3, gb_lt h4] at this
  · rintro rfl
    exact ⟨by omega, fun _ _ => rfl⟩
theorem be_at (m n k : Nat) (h : k < m) : (be m n)[k]? = some (UInt8.ofNat (n / 256 ^ (m - 1 - k))) := by
  induction m generalizing n k with
  | zero => omega
  | succ m ih =>
    rw [be_cons]
    rcases k with _ | k
    · simp
    · rw [List.getElem?_cons_succ, ih _ _ (by omega), show m + 1 - 1 - (k + 1) = m - 1 - k from by omega]
theorem be_drop (m n k : Nat) (h : k ≤ m) : (be m n).drop k = be (m - k) n := by
  induction m generalizing n k with
  | zero => rw [show k = 0 from by omega]; rfl
  | succ m ih =>
    rcases k with _ | k
    · rfl
    · rw [be_cons, List.drop_succ_cons, ih _ _ (by omega), show m + 1 - (k + 1) = m - k from by omega]
theorem Cput_cell (n k : Nat) (h : k < 8) : (Cput 0 n)[k]? = some (.int .u8 ((n / 256 ^ (7 - k) % 256 : Nat) : Int)) := by
  have e : (Cput 0 n)[k]? = ((be 8 n).map bv)[k]? := by simp [Cput]
  rw [e, List.getElem?_map, be_at 8 n k h]
  simp [bv]
/-- how many bytes a number wants -/
def nb (n : Nat) : Nat := if n < 256 then 1 else if n < 65536 then 2 else if n < 16777216 then 3 else if n < 4294967296 then 4 else if n < 1099511627776 then 5 else if n < 281474976710656 then 6 else if n < 72057594037927936 then 7 else 8
theorem nb_is {n k : Nat} (hn : n < 18446744073709551616) (h1 : 1 ≤ k) (h8 : k ≤ 8) (hlt : n < 256 ^ k) (hge : k = 1 ∨ 256 ^ (k - 1) ≤ n) : nb n = k := by
  obtain rfl | rfl | rfl | rfl | rfl | rfl | rfl | rfl : k = 1 ∨ k = 2 ∨ k = 3 ∨ k = 4 ∨ k = 5 ∨ k = 6 ∨ k = 7 ∨ k = 8 := by omega
  all_goals
    simp only [Nat.reducePow, Nat.reduceSub] at hlt hge
    unfold nb
    (repeat' split) <;> omega
theorem nb_bd (n : Nat) : 1 ≤ nb n ∧ nb n ≤ 8 := by unfold nb; (repeat' split) <;> omega
theorem nb_lt {n : Nat} (hn : n < 18446744073709551616) : n < 256 ^ nb n := by unfold nb; (repeat' split) <;> omega
theorem nb_ge {n : Nat} : nb n = 1 ∨ 256 ^ (nb n - 1) ≤ n := by unfold nb; (repeat' split) <;> first | exact Or.inl rfl | (right; simp only [Nat.reducePow, Nat.reduceSub]; omega)
/-- the fewest bytes of a number -/
def short (n : Nat) : List UInt8 := be (nb n) n
theorem short_len (n : Nat) : (short n).length = nb n := be_len _ _
theorem num_short {n : Nat} (hn : n < 18446744073709551616) : num (short n) = n := by rw [short, num_be]; exact Nat.mod_eq_of_lt (nb_lt hn)
theorem pow_lt_of_div {n k : Nat} (hk : k < 7) (h : n / 256 ^ (7 - k) = 0) : n < 256 ^ (8 - (k + 1)) := by
  rw [show 8 - (k + 1) = 7 - k from by omega]
  rcases Nat.div_eq_zero_iff.1 h with h | h
  · exact absurd h (by have := Nat.pow_pos (a := 256) (n := 7 - k) (by omega); omega)
  · exact h
theorem pow_ge_of_div {n k : Nat} (h : ¬ n / 256 ^ (7 - k) = 0) : 256 ^ (7 - k) ≤ n := by
  rcases Nat.lt_or_ge n (256 ^ (7 - k)) with h1 | h1
  · exact absurd (Nat.div_eq_of_lt h1) h
  · exact h1
theorem slice_eq {b o o' n n' c c' : Nat} (h1 : o = o') (h2 : n = n') (h3 : c = c') : Value.slice (some ⟨b, o, none⟩) n c = .slice (some ⟨b, o', none⟩) n' c' := by rw [h1, h2, h3]
theorem own_new (w : World) {base n : Nat} {e : TypeId} {arr : Array Value} (hb : base ≤ w.heap.size) (hn : arr.size = n) (hm : n ≤ 9223372036854775807) :
    (w.alloc (.cells arr e)).ownsRow base e 1 (.slice (some ⟨w.heap.size, 0, none⟩) n n) n arr.toList := by
  refine ⟨by simp [hn], .inr ⟨w.heap.size, n, arr, rfl, hb, heap_alloc_new w _, Nat.le_refl _, by unfold maxLen; exact hm, by omega, ?_⟩⟩
  rw [Nat.mul_one]
  exact List.take_of_length_le (by simp [hn])
theorem be_front (n k x : Nat) (hx : x = n / 256 ^ k) : #[Value.int .u8 ((x : Int) % 256)].toList ++ (be k n).map bv = (be (k + 1) n).map bv := by
  rw [be_cons, ← hx]; simp [bv]
theorem be_front' (n k x : Nat) (hx : x / 256 = n / 256 ^ k) : #[Value.int .u8 ((x : Int) / 256 % 256)].toList ++ (be k n).map bv = (be (k + 1) n).map bv := by
  rw [be_cons, ← hx]; simp [bv]
theorem slice_comm (A : Option Addr) (k c : Nat) : Value.slice A (1 + k) c = .slice A (k + 1) c := by rw [Nat.add_comm]
theorem div_next (n k x : Nat) (hx : x = n / 256 ^ k) : (x : Int) / 256 = ((n / 256 ^ (k + 1) : Nat) : Int) := by
  rw [Nat.pow_succ, ← Nat.div_div_eq_div_mul, ← hx]; simp
/-- a step of a frame: a new block, then an append onto it -/
theorem below_lit {w wr w' : World} {o : Obj} {n c : Nat} (h : Below w.heap.size w wr) (hg : (wr.alloc o).grownBy w' (Value.slice (some ⟨wr.heap.size, 0, none⟩) n c).ownBlock) : Below w.heap.size w w' :=
  (h.alloc h.size o).grown hg (Nat.le_trans h.size (by simp)) (fun k hk => by
    simp only [Value.ownBlock, Option.some.injEq] at hk
    have := h.size
    omega)
theorem be_one (n : Nat) : #[Value.int .u8 ((n : Int) % 256)].toList = (be 1 n).map bv := by simp [be, bv]
theorem nb_small {n k : Nat} (hn : n < 18446744073709551616) (hk : k ≤ 7) (h : ¬ 256 ≤ n / 256 ^ k) (hg : k = 0 ∨ 256 ^ k ≤ n) : nb n = k + 1 := by
  refine nb_is hn (by omega) (by omega) ?_ ?_
  · rw [Nat.pow_succ]
    have := (Nat.div_lt_iff_lt_mul (Nat.pow_pos (a := 256) (n := k) (by omega))).1 (Nat.lt_of_not_le h)
    omega
  · rcases hg with rfl | hg
    · exact .inl rfl
    · exact .inr hg
theorem nb_more {n k : Nat} (hn : n < 18446744073709551616) (hk : k ≤ 7) (h : 256 ≤ n / 256 ^ k) : k + 1 ≤ 7 ∧ 256 ^ (k + 1) ≤ n := by
  have h2 : 256 ^ (k + 1) ≤ n := by
    rw [Nat.pow_succ, Nat.mul_comm]
    exact (Nat.le_div_iff_mul_le (Nat.pow_pos (a := 256) (n := k) (by omega))).1 h
  refine ⟨?_, h2⟩
  rcases Nat.lt_or_ge k 7 with h3 | h3
  · omega
  · have : k = 7 := by omega
    subst this
    simp at h2
    omega
/-- a slice of bytes and what it reads as -/
structure Row where
  A : Option Addr
  n : Nat
  c : Nat
  bs : List UInt8
def Row.v (r : Row) : Value := .slice r.A r.n r.c
/-- all rows' bytes, one behind the other -/
def joinL (R : List Row) : List UInt8 := (R.map Row.bs).flatten
theorem joinL_take_succ (R : List Row) (k : Nat) (h : k < R.length) : joinL (R.take (k + 1)) = joinL (R.take k) ++ R[k].bs := by
  rw [List.take_succ_eq_append_getElem h]
  simp only [joinL, List.map_append, List.flatten_append, List.map_cons, List.map_nil, List.flatten_cons, List.flatten_nil, List.append_nil]
theorem joinL_take_le (R : List Row) (k : Nat) : (joinL (R.take k)).length ≤ (joinL R).length := by
  have : joinL R = joinL (R.take k) ++ joinL (R.drop k) := by
    rw [← List.take_append_drop k R]
    simp only [joinL, List.map_append, List.flatten_append]
    simp
  rw [this, List.length_append]; omega
/-- cells laid over a row's from place o on -/
def setAll (xs : List Value) : Nat → List Value → List Value
  | _, [] => xs
  | o, v :: r => setAll (xs.set o v) (o + 1) r
theorem setAll_len (vs : List Value) : ∀ (xs : List Value) (o : Nat), (setAll xs o vs).length = xs.length := by
  induction vs with
  | nil => intro xs o; rfl
  | cons v r ih => intro xs o; rw [setAll, ih]; simp
theorem setAll_at (vs : List Value) : ∀ (xs : List Value) (o j : Nat), (setAll xs o vs)[j]? = if o ≤ j ∧ j < o + vs.length ∧ j < xs.length then vs[j - o]? else xs[j]? := by
  induction vs with
  | nil => intro xs o j; simp [setAll]; omega
  | cons v r ih =>
    intro xs o j
    rw [setAll, ih]
    simp only [List.length_set, List.length_cons, List.getElem?_set]
    by_cases h1 : j = o
    · subst h1
      by_cases h2 : j < xs.length
      · simp [h2]; intro h; omega
      · simp [h2]
    · by_cases h2 : o ≤ j ∧ j < o + (r.length + 1) ∧ j < xs.length
      · have h3 : o + 1 ≤ j ∧ j < o + 1 + r.length ∧ j < xs.length := by omega
        rw [if_pos h2, if_pos h3, show j - o = (j - (o + 1)) + 1 from by omega, List.getElem?_cons_succ]
      · have h3 : ¬ (o + 1 ≤ j ∧ j < o + 1 + r.length ∧ j < xs.length) := by omega
        rw [if_neg h2, if_neg h3, if_neg (by omega)]
theorem setAll_whole (xs : List Value) (n : Nat) (z : Value) (h : xs.length = n) : setAll xs 0 (List.replicate n z) = List.replicate n z := by
  apply List.ext_getElem?
  intro j
  rw [setAll_at]
  by_cases hj : j < n
  · rw [if_pos (by simp; omega)]; simp
  · rw [if_neg (by simp; omega), List.getElem?_eq_none (by omega), List.getElem?_eq_none (by simp; omega)]
theorem grown_trans {a b c : World} {row : Option Nat} (h : a.grownBy b row) (k : b.grownBy c row) : a.grownBy c row :=
  ⟨k.os.trans h.os, k.tape.trans h.tape, k.output.trans h.output, Nat.le_trans h.size k.size, fun i hi hne => (k.block i (Nat.lt_of_lt_of_le hi h.size) hne).trans (h.block i hi hne)⟩
theorem own_setCells {base n cap g : Nat} {e : TypeId} (vs : List Value) : ∀ (w : World) (xs : List Value) (o : Nat), w.ownsRow base e 1 (.slice (some ⟨g, 0, none⟩) n cap) n xs →
    (w.setCells g o vs).ownsRow base e 1 (.slice (some ⟨g, 0, none⟩) n cap) n (setAll xs o vs) ∧ w.grownBy (w.setCells g o vs) (some g) := by
  induction vs with
  | nil => intro w xs o h; exact ⟨h, World.grownBy.refl _ _⟩
  | cons v r ih =>
    intro w xs o h
    have h1 := h.stored o v
    have h2 := ih _ _ (o + 1) h1.1
    exact ⟨h2.1, grown_trans h1.2 h2.2⟩
/-- a row's cells may be read, and written -/
theorem own_cells {w : World} {base n cap g : Nat} {e : TypeId} {xs : List Value} (h : w.ownsRow base e 1 (.slice (some ⟨g, 0, none⟩) n cap) n xs) :
    (∀ j u, xs[j]? = some u → w.cell? ⟨g, j, none⟩ = some u) ∧ ∀ j, w.frozen? ⟨g, j, none⟩ = false := by
  refine ⟨fun j u hu => ?_, fun j => ?_⟩
  · have := h.cells (g := g) rfl j u hu
    rwa [add_off, Nat.zero_add] at this
  · rcases h.2 with ⟨h', _⟩ | ⟨g', cap', cur, h', hb, hg, _⟩
    · simp at h'
    · simp only [Value.slice.injEq, Option.some.injEq, Addr.mk.injEq, and_true, true_and] at h'
      obtain ⟨rfl, rfl⟩ := h'
      simp [World.frozen?, hg]
/-- a new block reads as its bytes -/
theorem rd_new (w : World) {g n : Nat} {e : TypeId} {arr : Array Value} {bs : List UInt8} (hg : g = w.heap.size) (ha : arr.toList = bs.map bv) (hn : bs.length = n) (hm : n ≤ 9223372036854775807) :
    RdB (w.alloc (.cells arr e)) (g + 1) (some ⟨g, 0, none⟩) n n bs := by
  subst hg
  have hs : arr.size = n := by
    rw [← Array.length_toList, ha, List.length_map, hn]
  have h := own_new w (base := 0) (n := n) (e := e) (arr := arr) (Nat.zero_le _) hs hm
  have h2 := Rd.of_own h
  rw [World.size_alloc, ha] at h2
  exact h2
/-- what a call hands back in new memory: bytes; all that was there is as it was -/
def New (w w' : World) (A : Option Addr) (n c : Nat) (bs : List UInt8) : Prop := RdB w' w'.heap.size A n c bs ∧ Below w.heap.size w w'
theorem below_of_drew {w w' : World} (h : Drew w w') (B : Nat) : Below B w w' := by
  obtain ⟨k, rfl⟩ := h
  exact ⟨rfl, rfl, rfl, Nat.le_refl _, fun _ _ => rfl⟩
theorem New.of_own {w w' : World} {base n c : Nat} {A : Option Addr} {e : TypeId} {bs : List UInt8} (h : w'.ownsRow base e 1 (.slice A n c) n (bs.map bv)) (hb : Below w.heap.size w w') : New w w' A n c bs := ⟨Rd.of_own h, hb⟩
theorem new_put (w : World) (n : Nat) (e : TypeId) : New w (w.alloc (.cells (Cput 0 n) e)) (some ⟨w.heap.size, 0, none⟩) 8 8 (be 8 n) := by
  refine ⟨?_, (Below.refl _ _).alloc (Nat.le_refl _) _⟩
  have h := rd_new w (g := w.heap.size) (n := 8) (e := e) (arr := Cput 0 n) (bs := be 8 n) rfl (Cput_zero n) (be_len _ _) (by omega)
  rw [World.size_alloc]
  exact h
theorem new_short (w : World) (n : Nat) (e : TypeId) : New w (w.alloc (.cells (Cput 0 n) e)) (some ⟨w.heap.size, 8 - nb n, none⟩) (nb n) (nb n) (short n) := by
  have hnb := nb_bd n
  have h := new_put w n e
  refine ⟨?_, h.2⟩
  have h1 := Rd.cut (k := 8 - nb n) h.1 (by omega)
  rw [if_neg (by omega), ← List.map_drop, be_drop 8 n _ (by omega), show 8 - (8 - nb n) = nb n from by omega] at h1
  simp only [Option.map_some, add_off, Nat.zero_add] at h1
  exact h1
/-- reading what was there, in a later world -/
theorem RdB.on {w w' : World} {A : Option Addr} {n c : Nat} {bs : List UInt8} (h : RdB w w.heap.size A n c bs) (hb : Below w.heap.size w w') : RdB w' w'.heap.size A n c bs :=
  (Rd.below h hb).more hb.size
theorem RdB.lit {w : World} {A : Option Addr} {n c : Nat} {bs : List UInt8} (h : RdB w w.heap.size A n c bs) (o : Obj) : RdB (w.alloc o) (w.alloc o).heap.size A n c bs :=
  h.on ((Below.refl _ _).alloc (Nat.le_refl _) _)
theorem rd_lit (w : World) {n : Nat} {e : TypeId} {arr : Array Value} {bs : List UInt8} (ha : arr.toList = bs.map bv) (hn : bs.length = n) (hm : n ≤ 9223372036854775807) :
    RdB (w.alloc (.cells arr e)) (w.alloc (.cells arr e)).heap.size (some ⟨w.heap.size, 0, none⟩) n n bs := by
  rw [World.size_alloc]
  exact rd_new w rfl ha hn hm
theorem New.rd {w w' : World} {A : Option Addr} {n c : Nat} {bs : List UInt8} (h : New w w' A n c bs) : RdB w' w'.heap.size A n c bs := h.1
theorem New.bl {w w' : World} {A : Option Addr} {n c : Nat} {bs : List UInt8} (h : New w w' A n c bs) : Below w.heap.size w w' := h.2
/-- a further step of a frame -/
theorem below_step {B : Nat} {a b c : World} (h : Below B a b) (hB : B ≤ b.heap.size) (k : Below b.heap.size b c) : Below B a c := h.trans (k.mono hB)
theorem below_alloc {a b : World} (h : Below a.heap.size a b) (o : Obj) : Below a.heap.size a (b.alloc o) := h.alloc h.size o
theorem below_seq {a b c : World} (h : Below a.heap.size a b) (k : Below b.heap.size b c) : Below a.heap.size a c := h.trans (k.mono h.size)
theorem below_of_new (w : World) (o : Obj) : Below w.heap.size w (w.alloc o) := (Below.refl _ _).alloc (Nat.le_refl _) o
/-- two new blocks, one behind the other: the first, read in the world behind both -/
theorem rd_lit2 (w : World) (o : Obj) {g n : Nat} {e : TypeId} {arr : Array Value} {bs : List UInt8} (hg : g = w.heap.size) (ha : arr.toList = bs.map bv) (hn : bs.length = n) (hm : n ≤ 9223372036854775807) :
    RdB ((w.alloc (.cells arr e)).alloc o) ((w.alloc (.cells arr e)).alloc o).heap.size (some ⟨g, 0, none⟩) n n bs := by
  subst hg; exact (rd_lit w ha hn hm).lit o
theorem rd_lit' (w : World) {g n : Nat} {e : TypeId} {arr : Array Value} {bs : List UInt8} (hg : g = w.heap.size) (ha : arr.toList = bs.map bv) (hn : bs.length = n) (hm : n ≤ 9223372036854775807) :
    RdB (w.alloc (.cells arr e)) (w.alloc (.cells arr e)).heap.size (some ⟨g, 0, none⟩) n n bs := by
  subst hg; exact rd_lit w ha hn hm
/-- a new block reads as its cells -/
theorem rd_cells (w : World) {g n : Nat} {e : TypeId} {arr : Array Value} {xs : List Value} (hg : g = w.heap.size) (ha : arr.toList = xs) (hn : xs.length = n) (hm : n ≤ 9223372036854775807) :
    Rd (w.alloc (.cells arr e)) (w.alloc (.cells arr e)).heap.size (some ⟨g, 0, none⟩) n n xs := by
  subst hg
  have hs : arr.size = n := by rw [← Array.length_toList, ha, hn]
  have h := own_new w (base := 0) (n := n) (e := e) (arr := arr) (Nat.zero_le _) hs hm
  have h2 := Rd.of_own h
  rw [ha] at h2
  exact h2
end Go.Proofs.Ytlngbpipmaaedaa.Kit
