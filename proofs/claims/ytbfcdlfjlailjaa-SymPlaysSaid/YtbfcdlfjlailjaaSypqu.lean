/-
  SymPlays: two that are kept, held one against the other.
-/
import Derived.Test.YtbfcdlfjlailjaaSypow
namespace Go.Proofs.Ytbfcdlfjlailjaa.Sym
open Go.RowKit
open Go.Proofs.Ytbfcdlfjlailjaa.Kit
open Go.Proofs.Ytbfcdlfjlailjaa.Oct
set_option linter.unusedVariables false

def Fm.eq (f g : Fm) : Bool := (f.kd == g.kd) && ((f.of == g.of) && ((f.a.toList == g.a.toList) && (f.b.toList == g.b.toList)))
theorem toList_injY {a b : ByteArray} (h : a.toList = b.toList) : a = b := by
  rw [ByteArray.toList_eq, ByteArray.toList_eq] at h
  obtain ⟨⟨x⟩⟩ := a
  obtain ⟨⟨y⟩⟩ := b
  have h' : x = y := h
  rw [h']
theorem Fm.eq_iff {f g : Fm} : Fm.eq f g = true ↔ f = g := by
  constructor
  · intro h
    simp only [Fm.eq, Bool.and_eq_true, beq_iff_eq] at h
    obtain ⟨h1, h2, h3, h4⟩ := h
    cases f; cases g
    simp only at h1 h2 h3 h4
    rw [h1, h2, toList_injY h3, toList_injY h4]
  · rintro rfl
    simp [Fm.eq]
theorem fm_arr {f : Fm} (hf : f.of.length = 16) : f.cells.toArray[0]? = some (.int .i64 f.kd) ∧ f.cells.toArray.extract 1 17 = kv f.of ∧ f.cells.toArray[17]? = some (.string f.a) ∧ f.cells.toArray[18]? = some (.string f.b) := by
  have hl : (f.of.map bv).length = 16 := by rw [List.length_map, hf]
  refine ⟨by simp [Fm.cells], ?_, ?_, ?_⟩
  · apply Array.ext'
    simp only [Fm.cells, kv, List.extract_toArray, List.extract_eq_take_drop, List.drop_succ_cons, List.drop_zero]
    rw [List.take_append_of_le_length (by omega), List.take_of_length_le (by omega)]
  · simp only [Fm.cells, List.getElem?_toArray, List.getElem?_cons_succ]
    rw [List.getElem?_append_right (by omega), hl]
    rfl
  · simp only [Fm.cells, List.getElem?_toArray, List.getElem?_cons_succ]
    rw [List.getElem?_append_right (by omega), hl]
    rfl
theorem part_one {t : TypeId} {cs : Array Value} {off : Nat} {v : Value} (ha : ∀ w, (isAgg t).run Try.prog w = .ok false w) (h : cs[off]? = some v) (w : World) : (Go.part t cs off).run Try.prog w = .ok v w := by
  simp [Go.part, ha, h]
theorem part_of {f : Fm} (hf : f.of.length = 16) (w : World) : (Go.part 32 f.cells.toArray 1).run Try.prog w = .ok (.agg (kv f.of)) w := by
  have ha : ∀ w, (isAgg 32).run Try.prog w = .ok true w := fun w => by kernel_rfl
  have hz : ∀ w, (sizeOf 32).run Try.prog w = .ok 16 w := fun w => by kernel_rfl
  have h := (fm_arr hf).2.1
  have e : (Go.part 32 f.cells.toArray 1).run Try.prog w = .ok (.agg (f.cells.toArray.extract 1 (1 + 16))) w := by
    simp only [Go.part, Sem.run_bind, ha, Result.andThen_ok, if_true, hz, Sem.run_pure]
  rw [e, h]
set_option maxRecDepth 100000 in
theorem eq_fm (f g : Fm) (hf : f.of.length = 16) (hg : g.of.length = 16) (w : World) : (binOp .eql 35 (.agg f.cells.toArray) (.agg g.cells.toArray)).run Try.prog w = .ok (.bool (Fm.eq f g)) w := by
  have hS : Try.prog.underlying 35 = some (.struct (Try.prog.fieldsOf 35)) := by kernel_rfl
  have hp : Try.prog.stoodInHeld 35 = false := by kernel_rfl
  have a3 : ∀ w, (isAgg 3).run Try.prog w = .ok false w := fun w => by kernel_rfl
  have a9 : ∀ w, (isAgg 9).run Try.prog w = .ok false w := fun w => by kernel_rfl
  have f0 := part_one a3 (fm_arr hf).1
  have g0 := part_one a3 (fm_arr hg).1
  have f1 := part_of hf
  have g1 := part_of hg
  have f2 := part_one a9 (fm_arr hf).2.2.1
  have g2 := part_one a9 (fm_arr hg).2.2.1
  have f3 := part_one a9 (fm_arr hf).2.2.2
  have g3 := part_one a9 (fm_arr hg).2.2.2
  have q0 : ∀ (a b : Int) w, (Op.equalIn 9999 3 (.int .i64 a) (.int .i64 b)).run Try.prog w = .ok (a == b) w := fun a b w => run_equalIn_int w 9998 3 .i64 .i64 a b Try.underlying3
  have q9 : ∀ (a b : ByteArray) w, (Op.equalIn 9999 9 (.string a) (.string b)).run Try.prog w = .ok (a.toList == b.toList) w := fun a b w => run_equalIn_string w 9998 9 a b Try.underlying9
  have q1 : ∀ w, (Op.equalIn 9999 32 (.agg (kv f.of)) (.agg (kv g.of))).run Try.prog w = .ok (f.of == g.of) w := fun w =>
    run_equalIn_bytes w 9997 32 5 16 Try.underlying32 Try.underlying5 (fun w => by kernel_rfl) f.of g.of hf hg
  rw [run_eql_struct, show (10000 : Nat) = 9999 + 1 from rfl, run_equalIn_agg w 9999 35 _ _ hS hp]
  simp only [Program.fieldsOf, Try.underlying35]
  simp only [Op.eqFields, Sem.run_bind, Result.andThen_ok, f0, g0, f1, g1, f2, g2, f3, g3, q0, q9, q1, Sem.run_ite, Sem.run_pure]
  simp only [Fm.eq]
  by_cases h1 : f.kd = g.kd <;> by_cases h2 : f.of = g.of <;> by_cases h3 : f.a.toList = g.a.toList <;> by_cases h4 : f.b.toList = g.b.toList <;> simp [h1, h2, h3, h4]
theorem guard_fm : ∀ (op : BinOp) (a b : Operand) (x y : Array Value) (w : World), (eqGuard op 35 a b (.agg x) (.agg y)).run Try.prog w = .ok () w := fun op a b x y w => run_eqGuard_agg w op 35 a b x y (by kernel_rfl)
end Go.Proofs.Ytbfcdlfjlailjaa.Sym

/-
  SymPlays: rooms of a round beside the rows.
-/
namespace Go.Proofs.Ytbfcdlfjlailjaa.Sym
open Go.RowKit
open Go.Proofs.Ytbfcdlfjlailjaa.Kit
open Go.Proofs.Ytbfcdlfjlailjaa.Oct
set_option linter.unusedVariables false

section
variable {w0 w w' : World} {tb : Nat} {T T' : Tab} {R S : Nat → Prop} {J4 J5 J6 : Option Addr} {c4 c5 c6 : Nat} {K : List Fm} {B : List Sl} {M : List (List UInt8)} {x5 x6 : List Value}
theorem Mem.ne (h : Mem w0 w tb T R S J4 J5 J6 c4 c5 c6 K B M x5 x6) {g : Nat} (hg : w.heap.size ≤ g) : ob J4 ≠ some g ∧ ob J5 ≠ some g ∧ ob J6 ≠ some g ∧ ¬ S g :=
  ⟨fun e => by have := h.te.lt (h.i4 g e); omega, fun e => by have := h.te.lt (h.i5 g e); omega, fun e => by have := h.te.lt (h.i6 g e); omega, fun e => by have := h.te.lt (h.s g e).1; omega⟩
/-- a room more -/
theorem Mem.room (h : Mem w0 w tb T R S J4 J5 J6 c4 c5 c6 K B M x5 x6) (hb : Below w.heap.size w w') {g : Nat} (hg : w.heap.size ≤ g) (hg2 : g < w'.heap.size) : Mem w0 w' tb T (fun b => R b ∨ b = g) S J4 J5 J6 c4 c5 c6 K B M x5 x6 :=
  { h.below hb with
    te := h.te.add hb fun b hx => by
      rcases hx with hx | rfl
      · exact .inl hx
      · exact .inr ⟨hg, hg2⟩
    s := fun b hx => ⟨.inl (h.s b hx).1, (h.s b hx).2⟩
    i4 := fun g e => .inl (h.i4 g e)
    i5 := fun g e => .inl (h.i5 g e)
    i6 := fun g e => .inl (h.i6 g e) }
/-- a room is turned -/
theorem Mem.set (h : Mem w0 w tb T R S J4 J5 J6 c4 c5 c6 K B M x5 x6) {g : Nat} (hg : w.grownBy w' (some g)) (hR : R g) (h0 : w0.heap.size ≤ g) (hn : ob J4 ≠ some g ∧ ob J5 ≠ some g ∧ ob J6 ≠ some g ∧ ¬ S g) : Mem w0 w' tb T R S J4 J5 J6 c4 c5 c6 K B M x5 x6 :=
  { h with
    te := h.te.grow hg (fun b e => by obtain rfl : g = b := Option.some.inj e; exact ⟨hR, h0⟩) fun b hb => .inl hb
    o4 := own_same h.o4 hg.os hg.tape hg.output hg.size fun b e => hg.block b (h.te.lt (h.i4 b (by rw [← ob_slice J4 K.length c4]; exact e))) (fun q => hn.1 (by rw [← q, ← ob_slice J4 K.length c4]; exact e))
    o5 := own_same h.o5 hg.os hg.tape hg.output hg.size fun b e => hg.block b (h.te.lt (h.i5 b (by rw [← ob_slice J5 B.length c5]; exact e))) (fun q => hn.2.1 (by rw [← q, ← ob_slice J5 B.length c5]; exact e))
    o6 := own_same h.o6 hg.os hg.tape hg.output hg.size fun b e => hg.block b (h.te.lt (h.i6 b (by rw [← ob_slice J6 M.length c6]; exact e))) (fun q => hn.2.2.1 (by rw [← q, ← ob_slice J6 M.length c6]; exact e))
    r5 := SlRow.keep (fun p hp => World.cell?_of_block (hg.block _ (h.te.lt (h.s _ hp).1) (fun q => hn.2.2.2 (by rw [← Option.some.inj q]; exact hp)))) (fun _ h => h) _ h.r5
    r6 := SmRow.keep (fun p hp => World.cell?_of_block (hg.block _ (h.te.lt (h.s _ hp).1) (fun q => hn.2.2.2 (by rw [← Option.some.inj q]; exact hp)))) (fun _ h => h) _ h.r6 }
end
/-- a key's cells in the row -/
theorem own_range {w : World} {base n c : Nat} {J : Option Addr} {K : List Fm} (h : w.ownsRow base 35 19 (.slice J n c) n (cellsM K)) (hl : ∀ f ∈ K, f.of.length = 16) {j : Nat} {f : Fm} (hj : K[j]? = some f) : ∃ g, J = some ⟨g, 0, none⟩ ∧ w.rangeAt g (j * 19) f.cells := by
  obtain ⟨hjl, rfl⟩ := List.getElem?_eq_some_iff.1 hj
  have hn : n * 19 = K.length * 19 := by rw [← cellsM_len K hl]; exact h.1.symm
  rcases h.2 with ⟨hv, h0⟩ | ⟨g, cap, cur, hv, _⟩
  · omega
  · cases hv
    refine ⟨g, rfl, fun i v hi => ?_⟩
    have hi19 : i < 19 := by
      have := (List.getElem?_eq_some_iff.1 hi).1
      rwa [Fm.cells_len (hl _ (List.getElem_mem hjl))] at this
    rw [h.cellAt (j * 19 + i) (by omega), ← List.getElem?_drop, ← hi, ← cellsM_at K j hjl hl, List.getElem?_take_of_lt hi19]
def bsS (l : List UInt8) : ByteArray := ⟨l.toArray⟩
theorem built_fm1 (p q : ByteArray) : Try.prog.built 35 [(0, .int .i64 1), (2, .string p), (3, .string q)] = some (fm1 p q).cells.toArray := by kernel_rfl
theorem list16 {k : List UInt8} (hk : k.length = 16) : ∃ b0 b1 b2 b3 b4 b5 b6 b7 b8 b9 b10 b11 b12 b13 b14 b15, k = [b0, b1, b2, b3, b4, b5, b6, b7, b8, b9, b10, b11, b12, b13, b14, b15] := by
  match k, hk with
  | [b0, b1, b2, b3, b4, b5, b6, b7, b8, b9, b10, b11, b12, b13, b14, b15], _ => exact ⟨b0, b1, b2, b3, b4, b5, b6, b7, b8, b9, b10, b11, b12, b13, b14, b15, rfl⟩
theorem built_fm2 (k : List UInt8) (hk : k.length = 16) (lab : ByteArray) : Try.prog.built 35 [(0, .int .i64 2), (1, .agg (kv k)), (2, .string lab)] = some (fm2 k lab).cells.toArray := by
  obtain ⟨b0, b1, b2, b3, b4, b5, b6, b7, b8, b9, b10, b11, b12, b13, b14, b15, rfl⟩ := list16 hk
  clear hk
  kernel_rfl
theorem built_z16 : Try.prog.built 32 [] = some #[.int .u8 0, .int .u8 0, .int .u8 0, .int .u8 0, .int .u8 0, .int .u8 0, .int .u8 0, .int .u8 0, .int .u8 0, .int .u8 0, .int .u8 0, .int .u8 0, .int .u8 0, .int .u8 0, .int .u8 0, .int .u8 0] := by kernel_rfl
theorem infoFm19 : (Try.prog.info? 35).map (·.size) = some 19 := by kernel_rfl
theorem gb_row {w : World} {g : Nat} (cs : Array Value) : w.grownBy (w.setRow g cs) (some g) := gb_setRow cs
end Go.Proofs.Ytbfcdlfjlailjaa.Sym

/-
  SymPlays, plainly: where a sum stands, or will stand.
-/
namespace Go.Proofs.Ytbfcdlfjlailjaa.Sym
open Go.RowKit
open Go.Proofs.Ytbfcdlfjlailjaa.Kit
open Go.Proofs.Ytbfcdlfjlailjaa.Oct
set_option linter.unusedVariables false

structure At2 (M : List (List UInt8)) (b : List UInt8) (n : Nat) : Prop where
  pos : 1 ≤ n
  le : n ≤ M.length + 1
  at_ : ∀ (i : Nat) (g : List UInt8), M[i]? = some g → (b = g ↔ i + 1 = n)
theorem idx_at2 : ∀ (M : List (List UInt8)), M.Nodup → ∀ b, At2 M b (idxS M b + 1)
  | [], _, b => ⟨by omega, by unfold idxS; exact Nat.le_refl _, fun i g h => by simp at h⟩
  | x :: r, hn, b => by
    obtain ⟨h1, h2⟩ := List.nodup_cons.1 hn
    have ih := idx_at2 r h2 b
    by_cases e : x = b
    · subst e
      have e0 : idxS (x :: r) x = 0 := by unfold idxS; rw [if_pos rfl]
      rw [e0]
      refine ⟨by omega, by omega, fun i g hg => ?_⟩
      cases i with
      | zero =>
        have q : x = g := by simpa using hg
        exact ⟨fun _ => rfl, fun _ => q⟩
      | succ i =>
        have hm : g ∈ r := List.mem_of_getElem? (i := i) (by simpa using hg)
        exact ⟨fun q => absurd (q ▸ hm) h1, fun q => by omega⟩
    · have e0 : idxS (x :: r) b = idxS r b + 1 := by rw [idxS, if_neg e]
      rw [e0]
      refine ⟨by omega, by have := ih.le; simp only [List.length_cons]; omega, fun i g hg => ?_⟩
      cases i with
      | zero =>
        have q : x = g := by simpa using hg
        exact ⟨fun p => absurd (q.trans p.symm) e, fun p => by omega⟩
      | succ i =>
        rw [ih.at_ i g (by simpa using hg)]
        omega
theorem At2.hit {M : List (List UInt8)} {b : List UInt8} {n j : Nat} (h : At2 M b n) (hj : M[j]? = some b) : sofar n (j + 1) = j + 1 := by
  have := (h.at_ j b hj).1 rfl
  rw [sofar, if_pos (by omega)]
  exact this.symm
theorem At2.miss {M : List (List UInt8)} {b g : List UInt8} {n j : Nat} (h : At2 M b n) (hj : M[j]? = some g) (e : b ≠ g) : sofar n (j + 1) = sofar n j := by
  have hne : j + 1 ≠ n := fun q => e ((h.at_ j g hj).2 q)
  unfold sofar
  by_cases h2 : n ≤ j
  · rw [if_pos (by omega), if_pos h2]
  · rw [if_neg (by omega), if_neg h2]
theorem At2.start {M : List (List UInt8)} {b : List UInt8} {n : Nat} (h : At2 M b n) : sofar n 0 = 0 := by
  have := h.pos
  unfold sofar
  rw [if_neg (by omega)]
/-- found: the sum stands among them -/
theorem At2.mem {M : List (List UInt8)} {b : List UInt8} {n : Nat} (h : At2 M b n) (hn : n ≤ M.length) : b ∈ M := by
  have h1 := h.pos
  have hl : n - 1 < M.length := by omega
  have := (h.at_ (n - 1) M[n - 1] (List.getElem?_eq_getElem hl)).2 (by omega)
  rw [this]; exact List.getElem_mem hl
theorem At2.not_mem {M : List (List UInt8)} {b : List UInt8} {n : Nat} (h : At2 M b n) (hn : ¬ n ≤ M.length) : b ∉ M := fun hm => by
  obtain ⟨i, hi, rfl⟩ := List.getElem_of_mem hm
  have := (h.at_ i M[i] (List.getElem?_eq_getElem hi)).1 rfl
  omega
theorem Rel.sum {K : List Fm} {T : Tab} (h : Rel K T) (b : List UInt8) : Rel K (sumT T b) := by
  by_cases hb : b ∈ T.sm
  · rw [sumT_in hb]; exact h
  · rw [sumT_new hb]; exact ⟨h.len, h.kd, h.ks, h.lk⟩
/-- what the round leaves where the sum is known -/
theorem Pl.sum_in {k : Nat} {K : List Fm} {B : List Sl} {M : List (List UInt8)} {T : Tab} (h : Pl k K B M T) {b : List UInt8} (hb : b ∈ M) : Pl (k + 1) K B M (sumT T b) := by
  rw [sumT_in (by rw [h.sm]; exact hb)]; exact h.up
/-- and where it is new -/
theorem Pl.sum_new {k : Nat} {K : List Fm} {B : List Sl} {M : List (List UInt8)} {T : Tab} (h : Pl k K B M T) {b : List UInt8} (hb : b ∉ M) : Pl (k + 1) K B (M ++ [b]) (sumT T b) := by
  have hs : sumT T b = { T with sm := T.sm ++ [b] } := sumT_new (by rw [h.sm]; exact hb)
  rw [hs]
  refine ⟨⟨h.rel.len, h.rel.kd, h.rel.ks, h.rel.lk⟩, h.bs, ?_, ?_, Nat.le_succ_of_le h.kl, Nat.le_succ_of_le h.bl, ?_⟩
  · show T.sm ++ [b] = M ++ [b]
    rw [h.sm]
  · rw [List.nodup_append]
    refine ⟨h.nd, List.nodup_cons.2 ⟨by simp, List.nodup_nil⟩, fun x hx y hy => ?_⟩
    rw [List.mem_singleton.1 hy]
    exact fun e => hb (e ▸ hx)
  · rw [List.length_append, List.length_singleton]
    have := h.ml
    omega
/-- a box more in the table, and in the law's own list -/
theorem Pl.box {k : Nat} {K : List Fm} {B : List Sl} {M : List (List UInt8)} {T : Tab} (h : Pl k K B M T) (x : Sl) : Pl (k + 1) K (B ++ [x]) M { T with bs := T.bs ++ [x] } := by
  refine ⟨⟨h.rel.len, h.rel.kd, h.rel.ks, h.rel.lk⟩, ?_, h.sm, h.nd, Nat.le_succ_of_le h.kl, ?_, Nat.le_succ_of_le h.ml⟩
  · show T.bs ++ [x] = B ++ [x]
    rw [h.bs]
  · rw [List.length_append, List.length_singleton]
    have := h.bl
    omega
end Go.Proofs.Ytbfcdlfjlailjaa.Sym

/-
  SymPlays: a copy of bytes beside the rows, and a row that takes it.
-/
namespace Go.Proofs.Ytbfcdlfjlailjaa.Sym
open Go.RowKit
open Go.Proofs.Ytbfcdlfjlailjaa.Kit
open Go.Proofs.Ytbfcdlfjlailjaa.Oct
set_option linter.unusedVariables false

section
variable {w0 w w' : World} {tb : Nat} {T T' : Tab} {R S : Nat → Prop} {J4 J5 J6 : Option Addr} {c4 c5 c6 : Nat} {K : List Fm} {B : List Sl} {M : List (List UInt8)} {x5 x6 : List Value}
/-- more rooms -/
theorem Mem.rooms (h : Mem w0 w tb T R S J4 J5 J6 c4 c5 c6 K B M x5 x6) (hb : Below w.heap.size w w') (X : Nat → Prop) (hX : ∀ b, X b → w.heap.size ≤ b ∧ b < w'.heap.size) : Mem w0 w' tb T (fun b => R b ∨ X b) S J4 J5 J6 c4 c5 c6 K B M x5 x6 :=
  { h.below hb with
    te := h.te.add hb fun b hx => hx.imp_right (hX b)
    s := fun b hx => ⟨.inl (h.s b hx).1, (h.s b hx).2⟩
    i4 := fun g e => .inl (h.i4 g e)
    i5 := fun g e => .inl (h.i5 g e)
    i6 := fun g e => .inl (h.i6 g e) }
theorem info8 : (Try.prog.info? 5).map (fun i => (i.zero, i.size, i.bytes)) = some (some (.int .u8 0), 1, 1) := by kernel_rfl
theorem info8s : (Try.prog.info? 29).map (fun i => (i.zero, i.size, i.bytes)) = some (some (.slice none 0 0), 1, 24) := by kernel_rfl
theorem rdS_own1 {w : World} {base n c : Nat} {A : Option Addr} {e : TypeId} {xs : List Value} (h : w.ownsRow base e 1 (.slice A n c) n xs) : RdS w (fun b => ob A = some b) A n c xs := by
  have hr := Rd.of_own h
  refine ⟨hr.1, hr.2.1, hr.2.2.1, fun hn => ?_⟩
  obtain ⟨g, cap, hv, hb, hl⟩ := h.form hn
  injection hv with h1 h2 h3
  refine ⟨g, 0, h1, by rw [h1]; rfl, fun j u hu => ?_⟩
  rw [h1] at h
  rw [Nat.zero_add, h.cellAt j (by have := (List.getElem?_eq_some_iff.1 hu).1; have := hr.1; omega)]
  exact hu
/-- a sum more: its bytes were copied, and the row took the copy -/
theorem Mem.sum_copy {w6 w8 : World} {x : List UInt8} {A2 : Option Addr} {n c2 gg cap : Nat} {o : Obj} (h : Mem w0 w tb T R S J4 J5 J6 c4 c5 c6 K B M x5 x6) (hb : Below w.heap.size w w6) (ho : w6.ownsRow w.heap.size 5 1 (.slice A2 n c2) n (x.map bv))
    (hown : w8.ownsRow w0.heap.size 29 1 (.slice (some ⟨gg, 0, none⟩) (M.length + 1) cap) (M.length + 1) (x6 ++ [.slice A2 n c2])) (hg : (w6.alloc o).grownBy w8 (ob J6)) (hat : ob J6 = some gg ∨ w6.heap.size < gg) :
    Mem w0 w8 tb T (fun b => (R b ∨ ob A2 = some b) ∨ b = gg) (fun b => S b ∨ ob A2 = some b) J4 J5 (some ⟨gg, 0, none⟩) c4 c5 cap K B (M ++ [x]) x5 (x6 ++ [.slice A2 n c2]) := by
  have hl : ∀ b, ob A2 = some b → w.heap.size ≤ b ∧ b < w6.heap.size := fun b e => ho.lt b (by rw [ob_slice]; exact e)
  have h6 := h.rooms hb (fun b => ob A2 = some b) hl
  have h7 := h6.below (below_of_new w6 o)
  refine h7.sum hown hg (hat.imp_right fun e => by rw [World.size_alloc]; omega) ((rdS_own1 ho).keep (fun p hp => World.cell?_alloc_lt w6 o p (hl _ hp).2) (fun b q => q)) fun b e => ⟨by have := hl b e; rw [World.size_alloc]; omega, .inr e, (h.ne (hl b e).1).1, (h.ne (hl b e).1).2.1, (h.ne (hl b e).1).2.2.1⟩
/-- a box more: its bytes were copied, and the row took the copy -/
theorem Mem.box_copy {w6 w8 : World} {x : Sl} {A2 : Option Addr} {n c2 gg cap : Nat} {o : Obj} (h : Mem w0 w tb T R S J4 J5 J6 c4 c5 c6 K B M x5 x6) (hb : Below w.heap.size w w6) (ho : w6.ownsRow w.heap.size 5 1 (.slice A2 n c2) n (x.body.map bv))
    (hown : w8.ownsRow w0.heap.size 41 18 (.slice (some ⟨gg, 0, none⟩) (B.length + 1) cap) (B.length + 1) (x5 ++ (x.key.map bv ++ [.int .i64 x.us, .slice A2 n c2]))) (hg : (w6.alloc o).grownBy w8 (ob J5)) (hat : ob J5 = some gg ∨ w6.heap.size < gg) :
    Mem w0 w8 tb T (fun b => (R b ∨ ob A2 = some b) ∨ b = gg) (fun b => S b ∨ ob A2 = some b) J4 (some ⟨gg, 0, none⟩) J6 c4 cap c6 K (B ++ [x]) M (x5 ++ (x.key.map bv ++ [.int .i64 x.us, .slice A2 n c2])) x6 := by
  have hl : ∀ b, ob A2 = some b → w.heap.size ≤ b ∧ b < w6.heap.size := fun b e => ho.lt b (by rw [ob_slice]; exact e)
  have h6 := h.rooms hb (fun b => ob A2 = some b) hl
  have h7 := h6.below (below_of_new w6 o)
  refine h7.boxm hown hg (hat.imp_right fun e => by rw [World.size_alloc]; omega) ((rdS_own1 ho).keep (fun p hp => World.cell?_alloc_lt w6 o p (hl _ hp).2) (fun b q => q)) fun b e => ⟨by have := hl b e; rw [World.size_alloc]; omega, .inr e, (h.ne (hl b e).1).1, (h.ne (hl b e).1).2.1, (h.ne (hl b e).1).2.2.1⟩
end
def slA (k : List UInt8) (u : Int) (A : Option Addr) (n c : Nat) : Array Value := (k.map bv ++ ([.int .i64 u, .slice A n c] : List Value)).toArray
theorem slA_size {k : List UInt8} (hk : k.length = 16) (u : Int) (A : Option Addr) (n c : Nat) : (slA k u A n c).size = 18 := by simp [slA, hk]
theorem built_sl {k : List UInt8} (hk : k.length = 16) (u : Int) (A : Option Addr) (n c : Nat) : Try.prog.built 41 [(0, .agg (kv k)), (1, .int .i64 u), (2, .slice A n c)] = some (slA k u A n c) := by
  obtain ⟨b0, b1, b2, b3, b4, b5, b6, b7, b8, b9, b10, b11, b12, b13, b14, b15, rfl⟩ := list16 hk
  clear hk
  kernel_rfl
theorem slA_one (k : List UInt8) (u : Int) (A : Option Addr) (n c : Nat) : ∀ v ∈ (slA k u A n c).toList, v.oneCell' = true := by
  intro v hv
  simp only [slA, List.mem_append, List.mem_cons, List.not_mem_nil, or_false] at hv
  rcases hv with h | rfl | rfl
  · exact bv_one _ v h
  · rfl
  · rfl
/-- a box is laid, in a region that draws its order -/
theorem run_sl {k : List UInt8} (hk : k.length = 16) {u : Int} {A : Option Addr} {n c : Nat} {a : Act} {x y z : Operand} {o : Oper} {w : World} (ho : o.op = .build 41 #[(0, x), (1, y), (2, z)]) (hx : a.eval x = .agg (kv k)) (hy : a.eval y = .int .i64 u) (hz : a.eval z = .slice A n c) :
    (execOp a.eval o).run Try.prog w = .ok (.value (.agg (slA k u A n c))) w := by
  unfold execOp
  have hb := run_build (P := Try.prog) w 41 #[(0, .agg (kv k)), (1, .int .i64 u), (2, .slice A n c)] _ (built_sl hk u A n c)
  simp only [ho, Sem.run_bind, Sem.run_pure, Result.andThen_ok, List.map_toArray, List.map_cons, List.map_nil, hx, hy, hz, hb]
end Go.Proofs.Ytbfcdlfjlailjaa.Sym

/-
  SymPlays, plainly: a box of the law's own, read; which box a mark names.
-/
namespace Go.Proofs.Ytbfcdlfjlailjaa.Sym
open Go.RowKit
open Go.Proofs.Ytbfcdlfjlailjaa.Kit
open Go.Proofs.Ytbfcdlfjlailjaa.Oct
set_option linter.unusedVariables false

theorem Te.sok {w0 w : World} {tb : Nat} {T : Tab} {R : Nat → Prop} (h : Te w0 w tb T R) {x : Sl} (hx : x ∈ T.bs) : x.key.length = 16 := by
  obtain ⟨L, O, S, ht, _, _, _⟩ := h
  exact (ht.sok x hx).1
section
variable {w0 w w' : World} {tb : Nat} {T T' : Tab} {R S : Nat → Prop} {J4 J5 J6 : Option Addr} {c4 c5 c6 : Nat} {K : List Fm} {B : List Sl} {M : List (List UInt8)} {x5 x6 : List Value}
theorem Mem.box_at (h : Mem w0 w tb T R S J4 J5 J6 c4 c5 c6 K B M x5 x6) (hB : T.bs = B) {j : Nat} {x : Sl} (hj : B[j]? = some x) :
    x.key.length = 16 ∧ ∃ gb A' c', J5 = some ⟨gb, 0, none⟩ ∧ gb < w.heap.size ∧ w.rangeAt gb (j * 18) (x.key.map bv ++ ([.int .i64 x.us, .slice A' x.body.length c'] : List Value)) ∧ RdB w w.heap.size A' x.body.length c' x.body := by
  obtain ⟨hi, rfl⟩ := List.getElem?_eq_some_iff.1 hj
  have hk : ∀ s ∈ B, s.key.length = 16 := fun s hs => h.te.sok (by rw [hB]; exact hs)
  have ho := h.o5
  obtain ⟨g, cap, hv, _, hl⟩ := ho.form (by omega)
  injection hv with h1 h2 h3
  obtain ⟨A, n, c, hx, hr⟩ := SlRow.at_ B hk h.r5 j hi
  have hn : B[j].body.length = n := by have := hr.1; rwa [List.length_map] at this
  subst hn
  refine ⟨hk _ (List.getElem_mem hi), g, A, c, h1, hl, fun i v hv => ?_, hr.1, hr.2.1, hr.2.2.1, fun hn => ?_⟩
  · rw [← hx] at hv
    have hj2 : i < 18 := by have := (List.getElem?_eq_some_iff.1 hv).1; rw [List.length_take] at this; omega
    rw [h1] at ho
    rw [ho.cellAt (j * 18 + i) (by omega)]
    rw [List.getElem?_take, if_pos hj2, List.getElem?_drop] at hv
    exact hv
  · obtain ⟨b, o, e, hb, hc⟩ := hr.2.2.2 hn
    exact ⟨b, o, e, h.te.lt (h.s b hb).1, hc⟩
end
theorem range_on {w W : World} {g o : Nat} {cs : List Value} (h : w.rangeAt g o cs) (hg : g < w.heap.size) (hb : Below w.heap.size w W) : W.rangeAt g o cs := fun j v hj => (hb.cell (p := ⟨g, o + j, none⟩) hg).trans (h j v hj)
theorem range_sl {w : World} {g o : Nat} {k : List UInt8} (hk : k.length = 16) {u : Int} {A : Option Addr} {n c : Nat} (h : w.rangeAt g o (k.map bv ++ ([.int .i64 u, .slice A n c] : List Value))) :
    w.rangeAt g o (k.map bv) ∧ w.cell? ⟨g, o + 16, none⟩ = some (.int .i64 u) ∧ w.cell? ⟨g, o + 17, none⟩ = some (.slice A n c) := by
  refine ⟨fun j v hj => h j v ?_, h 16 _ ?_, h 17 _ ?_⟩
  · rw [List.getElem?_append_left (List.getElem?_eq_some_iff.1 hj).1]; exact hj
  · rw [List.getElem?_append_right (by simp [hk]), List.length_map, hk]; rfl
  · rw [List.getElem?_append_right (by simp [hk]), List.length_map, hk]; rfl
theorem boxS_none {T : Tab} {q : Nat} (hq : q ≤ 1000) (h : q = 0 ∨ T.bs.length < q) : boxS T (mk 98 q) = none := by
  have e2 : mkN (mk 98 q) = q := by rw [mkN, markOf_mk rfl (by omega)]
  rw [boxS, e2, if_neg (by omega)]
theorem boxS_some {T : Tab} {j : Nat} {x : Sl} (hq : j ≤ 1000) (h : T.bs[j]? = some x) : boxS T (mk 98 (j + 1)) = some x := by
  have hl := (List.getElem?_eq_some_iff.1 h).1
  have e1 : mkK (mk 98 (j + 1)) = 98 := by rw [mkK, markOf_mk rfl (by omega)]
  have e2 : mkN (mk 98 (j + 1)) = j + 1 := by rw [mkN, markOf_mk rfl (by omega)]
  rw [boxS, e1, e2, if_pos ⟨rfl, by omega, by omega⟩, Nat.add_sub_cancel]
  exact h
def Z18 : Array Value := #[.int .u8 0, .int .u8 0, .int .u8 0, .int .u8 0, .int .u8 0, .int .u8 0, .int .u8 0, .int .u8 0, .int .u8 0, .int .u8 0, .int .u8 0, .int .u8 0, .int .u8 0, .int .u8 0, .int .u8 0, .int .u8 0, .int .i64 0, .slice none 0 0]
theorem Z18_one : Z18.all (·.oneCell') = true := all_oneCell_toArray (cs := [.int .u8 0, .int .u8 0, .int .u8 0, .int .u8 0, .int .u8 0, .int .u8 0, .int .u8 0, .int .u8 0, .int .u8 0, .int .u8 0, .int .u8 0, .int .u8 0, .int .u8 0, .int .u8 0, .int .u8 0, .int .u8 0, .int .i64 0, .slice none 0 0]) (by intro v hv; simp only [List.mem_cons, List.not_mem_nil, or_false] at hv; rcases hv with rfl | rfl | rfl | rfl | rfl | rfl | rfl | rfl | rfl | rfl | rfl | rfl | rfl | rfl | rfl | rfl | rfl | rfl <;> rfl)
theorem zero18 (w : World) : (zeroValue 41).run Try.prog w = .ok (.agg Z18) w := by kernel_rfl
/-- a row is read whole, from its middle on -/
theorem run_load_mid {w : World} {b o : Nat} {ty : TypeId} {cs : List Value} {d : TypeDesc} {a : Act} {x : Operand} {op : Oper} (hS : w.rangeAt b o cs) (hu : Try.prog.underlying ty = some d) (hd : d.isRow = true) (hi : (Try.prog.info? ty).map (·.size) = some cs.length) (ho : op.op = .load ty x) (hx : a.eval x = .pointer (some ⟨b, o, none⟩)) :
    (execOp a.eval op).run Try.prog w = .ok (.value (.agg cs.toArray)) w := by
  unfold execOp
  simp only [ho, hx, Instr.loadAt, Instr.sureAddr, Sem.run_bind, Sem.run_pure, Result.andThen_ok, run_loadVar_mid w b o ty cs d hS hu hd hi]
def and31v (a : Int) : Nat := (bits .and .i64 a 31).toNat
theorem and31w (a : Int) : ∃ t : Nat, t ≤ 31 ∧ bits .and .i64 a 31 = t ∧ Hid (t = and31v a) := by
  obtain ⟨t, h1, h2⟩ := and31 a
  exact ⟨t, h1, h2, Lib.hid (by rw [and31v, h2]; rfl)⟩
end Go.Proofs.Ytbfcdlfjlailjaa.Sym
