/-
  AES plainly: rows of bytes by place; the field; what a key's rounds and blocks are. No program.
-/
import Derived.Test.YtbfcdlfjlailjaaKit
import Derived.Test.YtbfcdlfjlailjaaChecked
import Derived.Test.YtbfcdlfjlailjaaKitm
import Derived.Test.YtbfcdlfjlailjaaCuts
import Derived.Deep.MidRow
import Derived.Laws.Tables
import Derived.Laws.CopyOwn
import Derived.Great.FillDense
import Derived.Deep.RegionHeld3
import Derived.Deep.RegionLaw
import Derived.Deep.DeepCutAuto
namespace Go.Proofs.Ytbfcdlfjlailjaa.Aes
open Go.RowKit
open Go.Proofs.Ytbfcdlfjlailjaa.Kit
set_option linter.unusedVariables false

/-- so many bytes, each told by its place -/
def row (f : Nat → UInt8) (n : Nat) : List UInt8 := (List.range n).map f
theorem row_len (f : Nat → UInt8) (n : Nat) : (row f n).length = n := by simp [row]
theorem row_at (f : Nat → UInt8) {n i : Nat} (h : i < n) : (row f n)[i]? = some (f i) := by simp [row, h]
theorem row_get (f : Nat → UInt8) {n i : Nat} (h : i < (row f n).length) : (row f n)[i] = f i := by simp [row]
theorem row_congr {f g : Nat → UInt8} {n : Nat} (h : ∀ i, i < n → f i = g i) : row f n = row g n := by
  apply List.ext_getElem (by rw [row_len, row_len])
  intro i h1 h2
  rw [row_get, row_get]
  exact h i (by rw [row_len] at h1; exact h1)
theorem row_inj {f g : Nat → UInt8} {n : Nat} (h : row f n = row g n) {i : Nat} (hi : i < n) : f i = g i := by
  have e := row_at f hi
  rw [h, row_at g hi] at e
  injection e with e
  exact e.symm
def at_ (l : List UInt8) (i : Nat) : UInt8 := l.getD i 0
theorem at_row (f : Nat → UInt8) {n i : Nat} (h : i < n) : at_ (row f n) i = f i := by
  rw [at_, List.getD_eq_getElem?_getD, row_at f h]; rfl
theorem row_of (l : List UInt8) {n : Nat} (h : l.length = n) : row (at_ l) n = l := by
  apply List.ext_getElem (by rw [row_len, h])
  intro i h1 h2
  rw [row_get, at_, List.getD_eq_getElem?_getD, List.getElem?_eq_getElem h2]; rfl
/-- the first k by one word, the others by another -/
def upto (k : Nat) (T O : Nat → UInt8) : Nat → UInt8 := fun j => if j < k then T j else O j
theorem upto_zero (T O : Nat → UInt8) : upto 0 T O = O := by funext j; simp [upto]
theorem upto_all (T O : Nat → UInt8) (n : Nat) : row (upto n T O) n = row T n := row_congr fun i hi => by rw [upto, if_pos hi]
theorem upto_lt {k j : Nat} (T O : Nat → UInt8) (h : j < k) : upto k T O j = T j := if_pos h
theorem upto_ge {k j : Nat} (T O : Nat → UInt8) (h : k ≤ j) : upto k T O j = O j := if_neg (by omega)
theorem row_set (f : Nat → UInt8) {n k : Nat} (h : k < n) (x : UInt8) : (row f n).set k x = row (fun j => if j = k then x else f j) n := by
  apply List.ext_getElem (by rw [List.length_set, row_len, row_len])
  intro i h1 h2
  rw [List.getElem_set, row_get, row_get]
  by_cases e : k = i
  · rw [if_pos e, if_pos e.symm]
  · rw [if_neg e, if_neg (fun h => e h.symm)]
theorem upto_set (T O : Nat → UInt8) {n k : Nat} (h : k < n) : (row (upto k T O) n).set k (T k) = row (upto (k + 1) T O) n := by
  rw [row_set _ h]
  refine row_congr fun i hi => ?_
  by_cases e : i = k
  · rw [if_pos e, upto, if_pos (by omega), e]
  · rw [if_neg e, upto, upto]
    by_cases h1 : i < k
    · rw [if_pos h1, if_pos (by omega)]
    · rw [if_neg h1, if_neg (by omega)]

/-- a byte times x -/
def dbl (b : UInt8) : UInt8 := if 128 ≤ b.toNat then b <<< 1 ^^^ 0x1b else b <<< 1
/-- the powers of 3 -/
def pw : Nat → UInt8
  | 0 => 1
  | n + 1 => pw n ^^^ dbl (pw n)
def rotl (b : UInt8) (k : Nat) : UInt8 := b <<< UInt8.ofNat k ||| b >>> UInt8.ofNat (8 - k)
def spr (b : UInt8) : UInt8 := b ^^^ 0x63 ^^^ rotl b 1 ^^^ rotl b 2 ^^^ rotl b 3 ^^^ rotl b 4
/-- the table as it is laid: so many powers' -/
def tabK : Nat → Nat → UInt8
  | 0 => fun j => if j = 0 then spr 0 else 0
  | n + 1 => fun j => if j = (pw n).toNat then spr (pw ((255 - n) % 255)) else tabK n j
/-- the substitution of a byte -/
def sbN (n : Nat) : UInt8 := tabK 255 n
def sb (b : UInt8) : UInt8 := sbN b.toNat

def sumB (a b : Nat → UInt8) : Nat → UInt8 := fun i => a i ^^^ b i
def shB (b : Nat → UInt8) : Nat → UInt8 := fun i => sb (b ((i + 4 * (i % 4)) % 16))
def allB (b : Nat → UInt8) (p : Nat) : UInt8 := b p ^^^ b (p + 1) ^^^ b (p + 2) ^^^ b (p + 3)
def mixAt (b : Nat → UInt8) (p j : Nat) : UInt8 := b (p + j) ^^^ allB b p ^^^ dbl (b (p + j) ^^^ b (p + (j + 1) % 4))
def mixB (b : Nat → UInt8) : Nat → UInt8 := fun i => mixAt b (4 * (i / 4)) (i % 4)
/-- four words behind four words: the first one's bytes, and then word by word -/
def nx0 (k : Nat → UInt8) : Nat → UInt8 := fun i => k i ^^^ sb (k (12 + (i + 1) % 4))
def nxq (k : Nat → UInt8) (first : UInt8) (r : Nat) : Nat → UInt8
  | 0 => if r = 0 then nx0 k r ^^^ first else nx0 k r
  | q + 1 => k (4 * (q + 1) + r) ^^^ nxq k first r q
def nx (k : Nat → UInt8) (first : UInt8) : Nat → UInt8 := fun i => nxq k first (i % 4) (i / 4)
theorem nx_step (k : Nat → UInt8) (first : UInt8) {i : Nat} (h : 4 ≤ i) : nx k first i = k i ^^^ nx k first (i - 4) := by
  obtain ⟨q, hq⟩ : ∃ q, i / 4 = q + 1 := ⟨i / 4 - 1, by omega⟩
  rw [nx, nx, hq, show (i - 4) % 4 = i % 4 from by omega, show (i - 4) / 4 = q from by omega, nxq, show 4 * (q + 1) + i % 4 = i from by omega]
theorem nx_low (k : Nat → UInt8) (first : UInt8) {i : Nat} (h : i < 4) : nx k first i = if i = 0 then nx0 k i ^^^ first else nx0 k i := by
  rw [nx, show i % 4 = i from by omega, show i / 4 = 0 from by omega, nxq]
def fst : Nat → UInt8
  | 0 => 1
  | r + 1 => dbl (fst r)
/-- a round's key -/
def rk (key : Nat → UInt8) : Nat → Nat → UInt8
  | 0 => key
  | r + 1 => nx (rk key r) (fst r)
/-- what a block is after so many rounds -/
def stB (key b : Nat → UInt8) : Nat → Nat → UInt8
  | 0 => sumB b (rk key 0)
  | r + 1 => sumB (if r < 9 then mixB (shB (stB key b r)) else shB (stB key b r)) (rk key (r + 1))
/-- what a block becomes -/
def blk (key b : Nat → UInt8) : Nat → UInt8 := stB key b 10
/-- the cells of a cipher, so many rounds' keys being laid -/
def cfK (key : Nat → UInt8) (r : Nat) : Nat → UInt8 := fun j => if j < 16 * r then rk key (j / 16) (j % 16) else if j < 176 then 0 else sbN (j - 176)
def cf (key : Nat → UInt8) : Nat → UInt8 := cfK key 11
/-- the number behind one: carried, from the last byte on -/
def aftK (n : Nat → UInt8) : Nat → Nat → UInt8
  | 0 => n
  | k + 1 => fun j => if j = k then n k + 1 else if n k + 1 = 0 then aftK n k j else n j
def aft (n : Nat → UInt8) : Nat → UInt8 := aftK n 16
def ctr (n : Nat → UInt8) : Nat → Nat → UInt8
  | 0 => n
  | k + 1 => aft (ctr n k)
theorem ctr_next (n : Nat → UInt8) (k : Nat) : ctr (aft n) k = ctr n (k + 1) := by
  induction k with
  | zero => rfl
  | succ k ih => rw [ctr, ih]; rfl
/-- bytes held against the blocks that numbers become -/
def strF (key n : Nat → UInt8) (bs : List UInt8) : List UInt8 := row (fun i => at_ bs i ^^^ blk key (ctr n (i / 16)) (i % 16)) bs.length
theorem strF_len (key n : Nat → UInt8) (bs : List UInt8) : (strF key n bs).length = bs.length := row_len _ _
theorem xor_xor (a b : UInt8) : a ^^^ b ^^^ b = a := by rw [UInt8.xor_assoc, UInt8.xor_self, UInt8.xor_zero]
theorem strF_back (key n : Nat → UInt8) (bs : List UInt8) : strF key n (strF key n bs) = bs := by
  rw [strF, strF_len]
  conv => rhs; rw [← row_of bs rfl]
  refine row_congr fun i hi => ?_
  rw [strF, at_row _ hi, xor_xor]
theorem at_take (bs : List UInt8) {k i : Nat} (h : i < k) : at_ (bs.take k) i = at_ bs i := by
  rw [at_, at_, List.getD_eq_getElem?_getD, List.getD_eq_getElem?_getD, List.getElem?_take_of_lt h]
theorem at_drop (bs : List UInt8) (k i : Nat) : at_ (bs.drop k) i = at_ bs (k + i) := by
  rw [at_, at_, List.getD_eq_getElem?_getD, List.getD_eq_getElem?_getD, List.getElem?_drop]
theorem strF_take (key n : Nat → UInt8) (bs : List UInt8) {k : Nat} (h : k ≤ bs.length) : strF key n (bs.take k) = (strF key n bs).take k := by
  have hl : (bs.take k).length = k := by rw [List.length_take]; omega
  have e : (strF key n bs).take k = row (fun i => at_ bs i ^^^ blk key (ctr n (i / 16)) (i % 16)) k := by
    rw [strF, row, row, ← List.map_take, List.take_range, Nat.min_eq_left h]
  rw [e, strF, hl]
  exact row_congr fun i hi => by rw [at_take bs hi]
theorem strF_drop (key n : Nat → UInt8) (bs : List UInt8) (h : 16 ≤ bs.length) : (strF key n bs).drop 16 = strF key (aft n) (bs.drop 16) := by
  apply List.ext_getElem
  · rw [List.length_drop, strF_len, strF_len, List.length_drop]
  intro i h1 h2
  rw [List.getElem_drop]
  simp only [strF]
  rw [row_get, row_get, at_drop, ctr_next, show (16 + i) / 16 = i / 16 + 1 from by omega, show (16 + i) % 16 = i % 16 from by omega]
theorem strF_zero (key n : Nat → UInt8) : strF key n (List.replicate 16 0) = row (blk key n) 16 := by
  rw [strF]
  refine (row_congr fun i hi => ?_).trans (by rw [List.length_replicate])
  rw [List.length_replicate] at hi
  rw [at_, List.getD_eq_getElem?_getD, List.getElem?_replicate, if_pos hi, show i / 16 = 0 from by omega, show i % 16 = i from by omega]
  simp [ctr]
end Go.Proofs.Ytbfcdlfjlailjaa.Aes

/-
  AES: loads and stores of rows of sixteen bytes; the field's functions; the substitution of a byte.
-/
namespace Go.Proofs.Ytbfcdlfjlailjaa.Aes
open Go.RowKit
open Go.Proofs.Ytbfcdlfjlailjaa.Kit
set_option linter.unusedVariables false

theorem info16 : (Try.prog.info? 32).map (·.size) = some 16 := by kernel_rfl
theorem info16k : (Try.prog.info? 36).map (·.size) = some 16 := by kernel_rfl
/-- a row of cells as it stands in a world -/
def rowOf (w : World) (g o n : Nat) : List Value := (List.range n).map fun j => (w.cell? ⟨g, o + j, none⟩).getD undef
def HasRow (w : World) (g o n : Nat) : Prop := ∀ j, j < n → (w.cell? ⟨g, o + j, none⟩).isSome = true
theorem rowOf_eq {w : World} {g o n : Nat} {cs : List Value} (h : w.rangeAt g o cs) (hn : cs.length = n) : rowOf w g o n = cs ∧ HasRow w g o n := by
  refine ⟨?_, fun j hj => h.isSome j (by omega)⟩
  apply List.ext_getElem?
  intro j
  rw [rowOf, List.getElem?_map]
  by_cases hj : j < n
  · rw [List.getElem?_range hj, Option.map_some, List.getElem?_eq_getElem (by omega), h j _ (List.getElem?_eq_getElem (by omega))]
    rfl
  · rw [List.getElem?_eq_none (by simp; omega), List.getElem?_eq_none (by omega)]; rfl
theorem range_rowOf {w : World} {g o n : Nat} (h : HasRow w g o n) : w.rangeAt g o (rowOf w g o n) := fun j v hv => by
  rw [rowOf, List.getElem?_map] at hv
  have hj : j < n := by
    rcases Nat.lt_or_ge j n with h' | h'
    · exact h'
    · rw [List.getElem?_eq_none (by simpa using h')] at hv; cases hv
  rw [List.getElem?_range hj, Option.map_some] at hv
  obtain ⟨u, hu⟩ := Option.isSome_iff_exists.1 (h j hj)
  rw [hu] at hv
  rw [hu, ← hv]; rfl
def rowAt (w : World) (v : Value) (n : Nat) : List Value := match v with
  | .pointer (some ⟨g, o, none⟩) => rowOf w g o n
  | _ => []
def HasRowAt (w : World) (v : Value) (n : Nat) : Prop := match v with
  | .pointer (some ⟨g, o, none⟩) => HasRow w g o n
  | _ => False
theorem HasRowAt_mk (w : World) (g o n : Nat) : HasRowAt w (.pointer (some ⟨g, o, none⟩)) n = HasRow w g o n := rfl
theorem rowAt_mk (w : World) (g o n : Nat) : rowAt w (.pointer (some ⟨g, o, none⟩)) n = rowOf w g o n := rfl
theorem wp_load16 (d : Option Nat) (ty : TypeId) (pos : String) (after : Array Edge) (x : Operand) (a : Act) (w : World) (K : Act → World → Prop) (Q : Exit → Act → World → Prop) (h : HasRowAt w (a.eval x) 16) :
    Oper.wp Try.prog ⟨d, .load 32 x, ty, pos, after, none⟩ a w K Q = K (a.put d (.agg (rowAt w (a.eval x) 16).toArray)) w := by
  unfold HasRowAt at h
  split at h
  · rename_i g o he
    have hrun := run_loadAt_mid (P := Try.prog) w g o 32 (rowOf w g o 16) _ (range_rowOf h) Try.underlying32 rfl (by rw [rowOf, List.length_map, List.length_range]; exact info16)
    unfold Oper.wp execOp
    simp only [he, hrun, Result.andThen_ok, rowAt_mk, Sem.run_bind, Sem.run_pure]
    rfl
  · cases h
theorem wp_load16k (d : Option Nat) (ty : TypeId) (pos : String) (after : Array Edge) (x : Operand) (a : Act) (w : World) (K : Act → World → Prop) (Q : Exit → Act → World → Prop) (h : HasRowAt w (a.eval x) 16) :
    Oper.wp Try.prog ⟨d, .load 36 x, ty, pos, after, none⟩ a w K Q = K (a.put d (.agg (rowAt w (a.eval x) 16).toArray)) w := by
  unfold HasRowAt at h
  split at h
  · rename_i g o he
    have hrun := run_loadAt_mid (P := Try.prog) w g o 36 (rowOf w g o 16) _ (range_rowOf h) Try.underlying36 rfl (by rw [rowOf, List.length_map, List.length_range]; exact info16k)
    unfold Oper.wp execOp
    simp only [he, hrun, Result.andThen_ok, rowAt_mk, Sem.run_bind, Sem.run_pure]
    rfl
  · cases h
def StOk (w : World) (v u : Value) : Prop := match v, u with
  | .pointer (some ⟨g, o, none⟩), .agg cs => w.there g o 16 ∧ cs.size = 16 ∧ cs.all (·.oneCell') = true
  | _, _ => False
def stAt (w : World) (v u : Value) : World := match v, u with
  | .pointer (some ⟨g, o, none⟩), .agg cs => w.setCells g o cs.toList
  | _, _ => w
theorem StOk_mk (w : World) (g o : Nat) (cs : Array Value) : StOk w (.pointer (some ⟨g, o, none⟩)) (.agg cs) = (w.there g o 16 ∧ cs.size = 16 ∧ cs.all (·.oneCell') = true) := rfl
theorem stAt_mk (w : World) (g o : Nat) (cs : Array Value) : stAt w (.pointer (some ⟨g, o, none⟩)) (.agg cs) = w.setCells g o cs.toList := rfl
theorem wp_store16 (d : Option Nat) (ty : TypeId) (pos : String) (after : Array Edge) (x y : Operand) (a : Act) (w : World) (K : Act → World → Prop) (Q : Exit → Act → World → Prop) (h : StOk w (a.eval x) (a.eval y)) :
    Oper.wp Try.prog ⟨d, .store 32 x y, ty, pos, after, none⟩ a w K Q = K (a.put d undef) (stAt w (a.eval x) (a.eval y)) := by
  unfold StOk at h
  split at h
  · rename_i g o cs he hy
    have hrun := run_storeVar_mid (P := Try.prog) w g o 32 cs (by rw [h.2.1]; exact h.1) (by rw [h.2.1]; exact info16) h.2.2
    unfold Oper.wp execOp
    simp only [he, hy, Instr.storeAt, Instr.sureAddr, Sem.run_bind, Sem.run_pure, Result.andThen_ok, hrun, stAt_mk]
    rfl
  · cases h
/-- cells laid into a block, one behind the other -/
theorem setCells_heap {g : Nat} {t : TypeId} : ∀ (vs : List Value) (o : Nat) (cur : List Value) (w : World), w.heap[g]? = some (.cells cur.toArray t (0, 0)) → o + vs.length ≤ cur.length → (w.setCells g o vs).heap[g]? = some (.cells (splice cur o vs).toArray t (0, 0))
  | [], o, cur, w, h, hl => by
    have e : splice cur o ([] : List Value) = cur := by simp [splice]
    rw [e]; exact h
  | v :: r, o, cur, w, h, hl => by
    have h1 := heap_setCell_same w g o _ _ v h
    rw [List.setIfInBounds_toArray] at h1
    have hl' : o + (r.length + 1) ≤ cur.length := by simpa using hl
    have h2 := setCells_heap r (o + 1) (cur.set o v) _ h1 (by rw [List.length_set]; omega)
    have e : splice (cur.set o v) (o + 1) r = splice cur o (v :: r) := by
      simp only [splice]
      rw [List.take_set, List.take_add_one, List.drop_set_of_lt (by omega)]
      rw [List.getElem?_eq_getElem (by omega), List.set_append_right _ _ (by rw [List.length_take]; omega)]
      simp only [Option.toList_some, List.length_take, Nat.min_eq_left (show o ≤ cur.length by omega), Nat.sub_self, List.set_cons_zero, List.length_cons, List.append_assoc, List.cons_append, List.nil_append]
      rw [show o + 1 + r.length = o + (r.length + 1) from by omega]
    rw [e] at h2
    exact h2
theorem setCells_other {g b : Nat} (hne : b ≠ g) : ∀ (vs : List Value) (o : Nat) (w : World), (w.setCells g o vs).heap[b]? = w.heap[b]?
  | [], o, w => rfl
  | v :: r, o, w => (setCells_other hne r (o + 1) _).trans (heap_setCell_other _ _ _ _ hne)
theorem setCells_size (vs : List Value) : ∀ (g o : Nat) (w : World), (w.setCells g o vs).heap.size = w.heap.size := by
  induction vs with
  | nil => intro g o w; rfl
  | cons v r ih => intro g o w; exact (ih _ _ _).trans (by simp [World.setCell])
theorem setCells_below {B g : Nat} {w0 w : World} (hb : Below B w0 w) (hg : B ≤ g) (vs : List Value) : ∀ o, Below B w0 (w.setCells g o vs) := by
  induction vs generalizing w with
  | nil => intro o; exact hb
  | cons v r ih => intro o; exact ih (hb.setCell hg _) (o + 1)
/-- a row in memory -/
def Arr (w : World) (g : Nat) (t : TypeId) (f : Nat → UInt8) (n : Nat) : Prop := w.heap[g]? = some (.cells ((row f n).map bv).toArray t (0, 0))
theorem Arr.cell {w : World} {g : Nat} {t : TypeId} {f : Nat → UInt8} {n i : Nat} (h : Arr w g t f n) (hi : i < n) : w.cell? ⟨g, i, none⟩ = some (.int .u8 ((f i).toNat : Int)) := by
  rw [cell_of_row w g i _ _ (0, 0) h, List.getElem?_toArray, List.getElem?_map, row_at f hi]; rfl
theorem Arr.frozen {w : World} {g : Nat} {t : TypeId} {f : Nat → UInt8} {n : Nat} (h : Arr w g t f n) (i : Nat) : w.frozen? ⟨g, i, none⟩ = false := frozen_of_row w g i _ _ h
theorem Arr.set {w : World} {g : Nat} {t : TypeId} {T O : Nat → UInt8} {n k : Nat} (h : Arr w g t (upto k T O) n) (hk : k < n) : Arr (w.setCell ⟨g, k, none⟩ (.int .u8 ((T k).toNat : Int))) g t (upto (k + 1) T O) n := by
  rw [Arr, heap_setCell_same w g k _ _ _ h, List.setIfInBounds_toArray, ← upto_set T O hk, List.map_set]; rfl
theorem Arr.set' {w : World} {g : Nat} {t : TypeId} {f : Nat → UInt8} {n k : Nat} (h : Arr w g t f n) (hk : k < n) (x : UInt8) : Arr (w.setCell ⟨g, k, none⟩ (.int .u8 (x.toNat : Int))) g t (fun j => if j = k then x else f j) n := by
  rw [Arr, heap_setCell_same w g k _ _ _ h, List.setIfInBounds_toArray, ← row_set f hk, List.map_set]; rfl
theorem Arr.block {w w' : World} {g : Nat} {t : TypeId} {f : Nat → UInt8} {n : Nat} (h : Arr w g t f n) (e : w'.heap[g]? = w.heap[g]?) : Arr w' g t f n := e.trans h
theorem Arr.lt {w : World} {g : Nat} {t : TypeId} {f : Nat → UInt8} {n : Nat} (h : Arr w g t f n) : g < w.heap.size := block_lt_of_heap h
theorem Arr.on {w w' : World} {g B : Nat} {t : TypeId} {f : Nat → UInt8} {n : Nat} (h : Arr w g t f n) (hb : Below B w w') (hg : g < B) : Arr w' g t f n := h.block (hb.block g hg)
theorem Arr.range {w : World} {g : Nat} {t : TypeId} {f : Nat → UInt8} {n : Nat} (h : Arr w g t f n) : w.rangeAt g 0 ((row f n).map bv) := fun j u hu => by
  rw [cell_of_row w g _ _ _ (0, 0) h, List.getElem?_toArray, Nat.zero_add]; exact hu
theorem Arr.rangeMid {w : World} {g : Nat} {t : TypeId} {f : Nat → UInt8} {n : Nat} (h : Arr w g t f n) {o m : Nat} (hm : o + m ≤ n) : w.rangeAt g o ((row (fun j => f (o + j)) m).map bv) := fun j u hu => by
  have hj : j < m := by have := (List.getElem?_eq_some_iff.1 hu).1; rw [List.length_map, row_len] at this; exact this
  rw [h.cell (show o + j < n by omega), ← hu, List.getElem?_map, row_at _ hj]; rfl
theorem Arr.there {w : World} {g : Nat} {t : TypeId} {f : Nat → UInt8} {n : Nat} (h : Arr w g t f n) {o m : Nat} (hm : o + m ≤ n) : w.there g o m := fun i hi => ⟨by rw [h.cell (show o + i < n by omega)]; rfl, h.frozen _⟩
theorem Arr.setMid {w : World} {g : Nat} {t : TypeId} {f T : Nat → UInt8} {n : Nat} (h : Arr w g t f n) {o m : Nat} (hm : o + m ≤ n) : Arr (w.setCells g o ((row T m).map bv)) g t (fun j => if o ≤ j ∧ j < o + m then T (j - o) else f j) n := by
  rw [Arr, setCells_heap _ _ _ _ h (by rw [List.length_map, row_len, List.length_map, row_len]; exact hm)]
  congr 3
  rw [splice, ← List.map_take, List.length_map, row_len, ← List.map_drop, ← List.map_append, ← List.map_append]
  congr 1
  apply List.ext_getElem?
  intro i
  by_cases hi : i < n
  · rw [row_at _ hi]
    by_cases h1 : i < o
    · rw [List.getElem?_append_left (by rw [List.length_take, row_len]; omega), List.getElem?_take_of_lt h1, row_at _ hi, if_neg (by omega)]
    · rw [List.getElem?_append_right (by rw [List.length_take, row_len]; omega), List.length_take, row_len, Nat.min_eq_left (by omega)]
      by_cases h2 : i < o + m
      · rw [List.getElem?_append_left (by rw [row_len]; omega), row_at _ (by omega), if_pos (by omega)]
      · rw [List.getElem?_append_right (by rw [row_len]; omega), row_len, List.getElem?_drop, show o + m + (i - o - m) = i from by omega, row_at _ hi, if_neg (by omega)]
  · rw [List.getElem?_eq_none (by simp [row_len]; omega), List.getElem?_eq_none (by rw [row_len]; omega)]
theorem arr_new (w : World) (t : TypeId) (f : Nat → UInt8) (n : Nat) : Arr (w.alloc (.cells ((row f n).map bv).toArray t)) w.heap.size t f n := heap_alloc_new w _
theorem agg_one (f : Nat → UInt8) (n : Nat) : ((row f n).map bv).toArray.all (·.oneCell') = true := all_oneCell_toArray (bv_one _)
theorem agg_size (f : Nat → UInt8) (n : Nat) : ((row f n).map bv).toArray.size = n := by simp [row_len]
end Go.Proofs.Ytbfcdlfjlailjaa.Aes
