/-
  DIGESTS of layer 3, plainly. No program.
-/
import Derived.Test.YtgebdkbbdabomaaDoorKitm
import Derived.Test.YtgebdkbbdabomaaDoorWord
import Derived.Deep.MidRow
namespace Go.Proofs.YtgebdkbbdabomaaDoor.Kit
open Go.RowKit
set_option linter.unusedVariables false

structure S8 where
  a : UInt32
  b : UInt32
  c : UInt32
  d : UInt32
  e : UInt32
  f : UInt32
  g : UInt32
  h : UInt32
def S8.list (v : S8) : List UInt32 := [v.a, v.b, v.c, v.d, v.e, v.f, v.g, v.h]
/-- the rounds' constants -/
def shaK : List UInt32 := [1116352408, 1899447441, 3049323471, 3921009573, 961987163, 1508970993, 2453635748, 2870763221, 3624381080, 310598401, 607225278, 1426881987, 1925078388, 2162078206, 2614888103, 3248222580, 3835390401, 4022224774, 264347078, 604807628, 770255983, 1249150122, 1555081692, 1996064986, 2554220882, 2821834349, 2952996808, 3210313671, 3336571891, 3584528711, 113926993, 338241895, 666307205, 773529912, 1294757372, 1396182291, 1695183700, 1986661051, 2177026350, 2456956037, 2730485921, 2820302411, 3259730800, 3345764771, 3516065817, 3600352804, 4094571909, 275423344, 430227734, 506948616, 659060556, 883997877, 958139571, 1322822218, 1537002063, 1747873779, 1955562222, 2024104815, 2227730452, 2361852424, 2428436474, 2756734187, 3204031479, 3329325298]
def wd (l : List UInt32) (i : Nat) : UInt32 := l.getD i 0
/-- the i-th word of a block -/
def word (b : List UInt8) (i : Nat) : UInt32 := UInt32.ofNat (num ((b.drop (4 * i)).take 4))
def nextW (l : List UInt32) (n : Nat) : UInt32 := wd l (n - 16) + sm0 (wd l (n - 15)) + wd l (n - 7) + sm1 (wd l (n - 2))
/-- the first n words of the rounds -/
def sched (b : List UInt8) : Nat → List UInt32
  | 0 => []
  | n + 1 => sched b n ++ [if n < 16 then word b n else nextW (sched b n) n]
theorem sched_zero (b : List UInt8) : sched b 0 = [] := rfl
theorem sched_succ (b : List UInt8) (n : Nat) : sched b (n + 1) = sched b n ++ [if n < 16 then word b n else nextW (sched b n) n] := rfl
theorem sched_len (b : List UInt8) (n : Nat) : (sched b n).length = n := by
  induction n with
  | zero => rfl
  | succ n ih => rw [sched, List.length_append, ih]; rfl
def t1of (v : S8) (k w : UInt32) : UInt32 := v.h + la1 v.e + cho v.e v.f v.g + k + w
def t2of (v : S8) : UInt32 := la0 v.a + mst v.a v.b v.c
def stepS (v : S8) (k w : UInt32) : S8 := ⟨t1of v k w + t2of v, v.a, v.b, v.c, v.d + t1of v k w, v.e, v.f, v.g⟩
def runS (w : List UInt32) (v : S8) : Nat → S8
  | 0 => v
  | n + 1 => stepS (runS w v n) (wd shaK n) (wd w n)
def S8.add (x y : S8) : S8 := ⟨x.a + y.a, x.b + y.b, x.c + y.c, x.d + y.d, x.e + y.e, x.f + y.f, x.g + y.g, x.h + y.h⟩
/-- behind a block -/
def comp (v : S8) (b : List UInt8) : S8 := (runS (sched b 64) v 64).add v
def H0 : S8 := ⟨1779033703, 3144134277, 1013904242, 2773480762, 1359893119, 2600822924, 528734635, 1541459225⟩
def blocksS (v : S8) : Nat → List UInt8 → S8
  | 0, _ => v
  | n + 1, b => blocksS (comp v (b.take 64)) n (b.drop 64)
/-- a row of 64 words, of which the first are l, and the others 0 -/
def wrow (l : List UInt32) : List Value := l.map wv ++ List.replicate (64 - l.length) (.int .u32 0)
theorem wrow_len {l : List UInt32} (h : l.length ≤ 64) : (wrow l).length = 64 := by simp [wrow]; omega
theorem wrow_at {l : List UInt32} {i : Nat} (h : i < l.length) : (wrow l)[i]? = some (.int .u32 (wi (wd l i))) := by
  rw [wrow, List.getElem?_append_left (by simpa using h), List.getElem?_map, List.getElem?_eq_getElem h, wd, List.getD_eq_getElem?_getD, List.getElem?_eq_getElem h]; rfl
theorem wrow_next {l : List UInt32} (h : l.length < 64) : (wrow l)[l.length]? = some (.int .u32 0) := by
  rw [wrow, List.getElem?_append_right (by simp), List.length_map, Nat.sub_self]
  rw [List.getElem?_replicate, if_pos (by omega)]
theorem wrow_set {l : List UInt32} (h : l.length < 64) (x : UInt32) : (wrow l).toArray.setIfInBounds l.length (.int .u32 (wi x)) = (wrow (l ++ [x])).toArray := by
  rw [List.setIfInBounds_toArray]
  congr 1
  obtain ⟨m, hm⟩ : ∃ m, 64 - l.length = m + 1 := ⟨63 - l.length, by omega⟩
  have e : 64 - (l ++ [x]).length = m := by simp; omega
  rw [wrow, wrow, hm, e, List.replicate_succ, List.set_append_right _ _ (by simp)]
  simp [wv]
theorem wrow_full {l : List UInt32} (h : l.length = 64) : wrow l = l.map wv := by rw [wrow, h, Nat.sub_self]; simp
theorem word_wi (b : List UInt8) (i : Nat) : ((num ((b.drop (4 * i)).take 4) : Nat) : Int) = wi (word b i) := by
  have h := num_lt ((b.drop (4 * i)).take 4)
  have h4 : 256 ^ ((b.drop (4 * i)).take 4).length ≤ 256 ^ 4 := Nat.pow_le_pow_right (by omega) (by rw [List.length_take]; omega)
  have h5 : (256 : Nat) ^ 4 = 4294967296 := rfl
  unfold wi word
  rw [UInt32.toNat_ofNat', Nat.mod_eq_of_lt (by omega)]
theorem runS_zero (w : List UInt32) (v : S8) : runS w v 0 = v := rfl
theorem runS_succ (w : List UInt32) (v : S8) (n : Nat) : runS w v (n + 1) = stepS (runS w v n) (wd shaK n) (wd w n) := rfl
theorem blocksS_zero (v : S8) (b : List UInt8) : blocksS v 0 b = v := rfl
theorem blocksS_succ (v : S8) (n : Nat) (b : List UInt8) : blocksS v (n + 1) b = blocksS (comp v (b.take 64)) n (b.drop 64) := rfl
theorem comp_eq (v : S8) (b : List UInt8) : comp v b = (runS (sched b 64) v 64).add v := rfl
attribute [irreducible] sched runS blocksS comp wrow
end Go.Proofs.YtgebdkbbdabomaaDoor.Kit
