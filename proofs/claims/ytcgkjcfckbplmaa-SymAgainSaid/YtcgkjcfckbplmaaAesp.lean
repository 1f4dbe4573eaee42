/-
  AES plainly: rows of bytes by place; the field; what a key's rounds and blocks are. No program.
-/
import Derived.Test.YtcgkjcfckbplmaaKit
namespace Go.Proofs.Ytcgkjcfckbplmaa.Aes
open Go.RowKit
open Go.Proofs.Ytcgkjcfckbplmaa.Kit
set_option linter.unusedVariables false

/-- so many bytes, each told by its place -/
def row (f : Nat → UInt8) (n : Nat) : List UInt8 := (List.range n).map f
theorem row_len (f : Nat → UInt8) (n : Nat) : (row f n).length = n := by simp [row]
theorem row_at (f : Nat → UInt8) {n i : Nat} (h : i < n) : (row f n)[i]? = some (f i) := by simp [row, h]
theorem row_get (f : Nat → UInt8) {n i : Nat} (h : i < (row f n).length) : (row f n)[i] = f i := by simp [row]
theorem row_congr {f g : Nat → UInt8} {n : Nat} (h : ∀ i, i < n → f i = g i) : row f n = row g n := by
  apply List.ext_getElem (by rw [row_len, row_len])
  intro i h1 h2
  rw [row_get, row_get]
  exact h i (by rw [row_len] at h1; exact h1)
theorem row_inj {f g : Nat → UInt8} {n : Nat} (h : row f n = row g n) {i : Nat} (hi : i < n) : f i = g i := by
  have e := row_at f hi
  rw [h, row_at g hi] at e
  injection e with e
  exact e.symm
def at_ (l : List UInt8) (i : Nat) : UInt8 := l.getD i 0
theorem at_row (f : Nat → UInt8) {n i : Nat} (h : i < n) : at_ (row f n) i = f i := by
  rw [at_, List.getD_eq_getElem?_getD, row_at f h]; rfl
theorem row_of (l : List UInt8) {n : Nat} (h : l.length = n) : row (at_ l) n = l := by
  apply List.ext_getElem (by rw [row_len, h])
  intro i h1 h2
  rw [row_get, at_, List.getD_eq_getElem?_getD, List.getElem?_eq_getElem h2]; rfl
/-- the first k by one word, the others by another -/
def upto (k : Nat) (T O : Nat → UInt8) : Nat → UInt8 := fun j => if j < k then T j else O j
theorem upto_zero (T O : Nat → UInt8) : upto 0 T O = O := by funext j; simp [upto]
theorem upto_all (T O : Nat → UInt8) (n : Nat) : row (upto n T O) n = row T n := row_congr fun i hi => by rw [upto, if_pos hi]
theorem upto_lt {k j : Nat} (T O : Nat → UInt8) (h : j < k) : upto k T O j = T j := if_pos h
theorem upto_ge {k j : Nat} (T O : Nat → UInt8) (h : k ≤ j) : upto k T O j = O j := if_neg (by omega)
theorem row_set (f : Nat → UInt8) {n k : Nat} (h : k < n) (x : UInt8) : (row f n).set k x = row (fun j => if j = k then x else f j) n := by
  apply List.ext_getElem (by rw [List.length_set, row_len, row_len])
  intro i h1 h2
  rw [List.getElem_set, row_get, row_get]
  by_cases e : k = i
  · rw [if_pos e, if_pos e.symm]
  · rw [if_neg e, if_neg (fun h => e h.symm)]
theorem upto_set (T O : Nat → UInt8) {n k : Nat} (h : k < n) : (row (upto k T O) n).set k (T k) = row (upto (k + 1) T O) n := by
  rw [row_set _ h]
  refine row_congr fun i hi => ?_
  by_cases e : i = k
  · rw [if_pos e, upto, if_pos (by omega), e]
  · rw [if_neg e, upto, upto]
    by_cases h1 : i < k
    · rw [if_pos h1, if_pos (by omega)]
    · rw [if_neg h1, if_neg (by omega)]

/-- a byte times x -/
def dbl (b : UInt8) : UInt8 := if 128 ≤ b.toNat then b <<< 1 ^^^ 0x1b else b <<< 1
/-- the powers of 3 -/
def pw : Nat → UInt8
  | 0 => 1
  | n + 1 => pw n ^^^ dbl (pw n)
def rotl (b : UInt8) (k : Nat) : UInt8 := b <<< UInt8.ofNat k ||| b >>> UInt8.ofNat (8 - k)
def spr (b : UInt8) : UInt8 := b ^^^ 0x63 ^^^ rotl b 1 ^^^ rotl b 2 ^^^ rotl b 3 ^^^ rotl b 4
/-- the table as it is laid: so many powers' -/
def tabK : Nat → Nat → UInt8
  | 0 => fun j => if j = 0 then spr 0 else 0
  | n + 1 => fun j => if j = (pw n).toNat then spr (pw ((255 - n) % 255)) else tabK n j
/-- the substitution of a byte -/
def sbN (n : Nat) : UInt8 := tabK 255 n
def sb (b : UInt8) : UInt8 := sbN b.toNat

def sumB (a b : Nat → UInt8) : Nat → UInt8 := fun i => a i ^^^ b i
def shB (b : Nat → UInt8) : Nat → UInt8 := fun i => sb (b ((i + 4 * (i % 4)) % 16))
def allB (b : Nat → UInt8) (p : Nat) : UInt8 := b p ^^^ b (p + 1) ^^^ b (p + 2) ^^^ b (p + 3)
def mixAt (b : Nat → UInt8) (p j : Nat) : UInt8 := b (p + j) ^^^ allB b p ^^^ dbl (b (p + j) ^^^ b (p + (j + 1) % 4))
def mixB (b : Nat → UInt8) : Nat → UInt8 := fun i => mixAt b (4 * (i / 4)) (i % 4)
/-- four words behind four words: the first one's bytes, and then word by word -/
def nx0 (k : Nat → UInt8) : Nat → UInt8 := fun i => k i ^^^ sb (k (12 + (i + 1) % 4))
def nxq (k : Nat → UInt8) (first : UInt8) (r : Nat) : Nat → UInt8
  | 0 => if r = 0 then nx0 k r ^^^ first else nx0 k r
  | q + 1 => k (4 * (q + 1) + r) ^^^ nxq k first r q
def nx (k : Nat → UInt8) (first : UInt8) : Nat → UInt8 := fun i => nxq k first (i % 4) (i / 4)
theorem nx_step (k : Nat → UInt8) (first : UInt8) {i : Nat} (h : 4 ≤ i) : nx k first i = k i ^^^ nx k first (i - 4) := by
  obtain ⟨q, hq⟩ : ∃ q, i / 4 = q + 1 := ⟨i / 4 - 1, by omega⟩
  rw [nx, nx, hq, show (i - 4) % 4 = i % 4 from by omega, show (i - 4) / 4 = q from by omega, nxq, show 4 * (q + 1) + i % 4 = i from by omega]
theorem nx_low (k : Nat → UInt8) (first : UInt8) {i : Nat} (h : i < 4) : nx k first i = if i = 0 then nx0 k i ^^^ first else nx0 k i := by
  rw [nx, show i % 4 = i from by omega, show i / 4 = 0 from by omega, nxq]
def fst : Nat → UInt8
  | 0 => 1
  | r + 1 => dbl (fst r)
/-- a round's key -/
def rk (key : Nat → UInt8) : Nat → Nat → UInt8
  | 0 => key
  | r + 1 => nx (rk key r) (fst r)
/-- what a block is after so many rounds -/
def stB (key b : Nat → UInt8) : Nat → Nat → UInt8
  | 0 => sumB b (rk key 0)
  | r + 1 => sumB (if r < 9 then mixB (shB (stB key b r)) else shB (stB key b r)) (rk key (r + 1))
/-- what a block becomes -/
def blk (key b : Nat → UInt8) : Nat → UInt8 := stB key b 10
/-- the cells of a cipher, so many rounds' keys being laid -/
def cfK (key : Nat → UInt8) (r : Nat) : Nat → UInt8 := fun j => if j < 16 * r then rk key (j / 16) (j % 16) else if j < 176 then 0 else sbN (j - 176)
def cf (key : Nat → UInt8) : Nat → UInt8 := cfK key 11
/-- the number behind one: carried, from the last byte on -/
def aftK (n : Nat → UInt8) : Nat → Nat → UInt8
  | 0 => n
  | k + 1 => fun j => if j = k then n k + 1 else if n k + 1 = 0 then aftK n k j else n j
def aft (n : Nat → UInt8) : Nat → UInt8 := aftK n 16
def ctr (n : Nat → UInt8) : Nat → Nat → UInt8
  | 0 => n
  | k + 1 => aft (ctr n k)
theorem ctr_next (n : Nat → UInt8) (k : Nat) : ctr (aft n) k = ctr n (k + 1) := by
  induction k with
  | zero => rfl
  | succ k ih => rw [ctr, ih]; rfl
/-- bytes held against the blocks that numbers become -/
def strF (key n : Nat → UInt8) (bs : List UInt8) : List UInt8 := row (fun i => at_ bs i ^^^ blk key (ctr n (i / 16)) (i % 16)) bs.length
theorem strF_len (key n : Nat → UInt8) (bs : List UInt8) : (strF key n bs).length = bs.length := row_len _ _
theorem xor_xor (a b : UInt8) : a ^^^ b ^^^ b = a := by rw [UInt8.xor_assoc, UInt8.xor_self, UInt8.xor_zero]
theorem strF_back (key n : Nat → UInt8) (bs : List UInt8) : strF key n (strF key n bs) = bs := by
  rw [strF, strF_len]
  conv => rhs; rw [← row_of bs rfl]
  refine row_congr fun i hi => ?_
  rw [strF, at_row _ hi, xor_xor]
theorem at_take (bs : List UInt8) {k i : Nat} (h : i < k) : at_ (bs.take k) i = at_ bs i := by
  rw [at_, at_, List.getD_eq_getElem?_getD, List.getD_eq_getElem?_getD, List.getElem?_take_of_lt h]
theorem at_drop (bs : List UInt8) (k i : Nat) : at_ (bs.drop k) i = at_ bs (k + i) := by
  rw [at_, at_, List.getD_eq_getElem?_getD, List.getD_eq_getElem?_getD, List.getElem?_drop]
theorem strF_take (key n : Nat → UInt8) (bs : List UInt8) {k : Nat} (h : k ≤ bs.length) : strF key n (bs.take k) = (strF key n bs).take k := by
  have hl : (bs.take k).length = k := by rw [List.length_take]; omega
  have e : (strF key n bs).take k = row (fun i => at_ bs i ^^^ blk key (ctr n (i / 16)) (i % 16)) k := by
    rw [strF, row, row, ← List.map_take, List.take_range, Nat.min_eq_left h]
  rw [e, strF, hl]
  exact row_congr fun i hi => by rw [at_take bs hi]
theorem strF_drop (key n : Nat → UInt8) (bs : List UInt8) (h : 16 ≤ bs.length) : (strF key n bs).drop 16 = strF key (aft n) (bs.drop 16) := by
  apply List.ext_getElem
  · rw [List.length_drop, strF_len, strF_len, List.length_drop]
  intro i h1 h2
  rw [List.getElem_drop]
  simp only [strF]
  rw [row_get, row_get, at_drop, ctr_next, show (16 + i) / 16 = i / 16 + 1 from by omega, show (16 + i) % 16 = i % 16 from by omega]
theorem strF_zero (key n : Nat → UInt8) : strF key n (List.replicate 16 0) = row (blk key n) 16 := by
  rw [strF]
  refine (row_congr fun i hi => ?_).trans (by rw [List.length_replicate])
  rw [List.length_replicate] at hi
  rw [at_, List.getD_eq_getElem?_getD, List.getElem?_replicate, if_pos hi, show i / 16 = 0 from by omega, show i % 16 = i from by omega]
  simp [ctr]
end Go.Proofs.Ytcgkjcfckbplmaa.Aes
