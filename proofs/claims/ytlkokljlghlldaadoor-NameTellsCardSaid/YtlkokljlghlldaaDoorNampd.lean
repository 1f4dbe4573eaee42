/-
  Names, plainly: what the document's own code reckons, rune by rune and word by word.
-/
import Derived.Test.YtlkokljlghlldaaDoorNampc
namespace Go.Proofs.YtlkokljlghlldaaDoor.Nam
open Go.Lib
set_option linter.unusedVariables false

/-- the document's Rune: -1 where there is none -/
def rrN (n b0 b1 b2 b3 : Nat) : Int × Nat := if decodeN n b0 b1 b2 b3 = (65533, 1) then (-1, 1) else (((decodeN n b0 b1 b2 b3).1 : Int), (decodeN n b0 b1 b2 b3).2)
def rr (s : ByteArray) (p : Nat) : Int × Nat := if Utf8.decode s p = (65533, 1) then (-1, 1) else (((Utf8.decode s p).1 : Int), (Utf8.decode s p).2)
theorem rr_at (s : ByteArray) (p : Nat) : rr s p = rrN (s.size - p) (s.get! p).toNat (s.get! (p + 1)).toNat (s.get! (p + 2)).toNat (s.get! (p + 3)).toNat := by
  unfold rr rrN
  rw [decode_at]
theorem rr_one (n b0 b1 b2 b3 : Nat) (h : b0 < 128) : rrN n b0 b1 b2 b3 = ((b0 : Int), 1) := by
  unfold rrN
  rw [dec_one _ _ _ _ _ h, if_neg (by intro e; injection e; omega)]
theorem dec_bad {n b0 b1 b2 b3 : Nat} (h : decodeN n b0 b1 b2 b3 = (65533, 1)) : rrN n b0 b1 b2 b3 = (-1, 1) := by
  unfold rrN
  rw [if_pos h]
theorem dec_good {n b0 b1 b2 b3 x k : Nat} (h : decodeN n b0 b1 b2 b3 = (x, k)) (hx : ¬ (x = 65533 ∧ k = 1)) : rrN n b0 b1 b2 b3 = ((x : Int), k) := by
  unfold rrN
  rw [h, if_neg (by intro e; injection e with e1 e2; exact hx ⟨e1, e2⟩)]
set_option maxHeartbeats 1000000 in
theorem bad_of (n b0 b1 b2 b3 : Nat) (h0 : b0 < 256) (h1 : b1 < 256) (h2 : b2 < 256) (h3 : b3 < 256)
    (h : (128 ≤ b0 ∧ b0 < 194) ∨ 245 ≤ b0 ∨ (194 ≤ b0 ∧ b0 ≤ 223 ∧ (n < 2 ∨ b1 < 128 ∨ 191 < b1)) ∨ (224 ≤ b0 ∧ b0 ≤ 239 ∧ (n < 3 ∨ b1 < 128 ∨ 191 < b1 ∨ b2 < 128 ∨ 191 < b2 ∨ ((b0 - 224) * 64 + b1 - 128) * 64 + b2 - 128 < 2048 ∨ (55296 ≤ ((b0 - 224) * 64 + b1 - 128) * 64 + b2 - 128 ∧ ((b0 - 224) * 64 + b1 - 128) * 64 + b2 - 128 ≤ 57343)))
      ∨ (240 ≤ b0 ∧ b0 ≤ 244 ∧ (n < 4 ∨ b1 < 128 ∨ 191 < b1 ∨ b2 < 128 ∨ 191 < b2 ∨ b3 < 128 ∨ 191 < b3 ∨ (((b0 - 240) * 64 + b1 - 128) * 64 + b2 - 128) * 64 + b3 - 128 < 65536 ∨ 1114111 < (((b0 - 240) * 64 + b1 - 128) * 64 + b2 - 128) * 64 + b3 - 128))) : decodeN n b0 b1 b2 b3 = (65533, 1) := by
  unfold decodeN
  repeat' split
  all_goals first | rfl | (exfalso; omega)
theorem rr_two {n b0 b1 b2 b3 : Nat} (hn : 2 ≤ n) (h0 : 194 ≤ b0 ∧ b0 ≤ 223) (h1 : 128 ≤ b1 ∧ b1 ≤ 191) : rrN n b0 b1 b2 b3 = (((b0 : Int) - 192) * 64 + b1 - 128, 2) := by
  rw [dec_good (dec_two n b0 b1 b2 b3 ((b0 - 192) * 64 + b1 - 128) hn (by omega) (by omega) (by omega)) (by omega)]
  congr 1
  omega
theorem rr_three {n b0 b1 b2 b3 : Nat} (hn : 3 ≤ n) (h0 : 224 ≤ b0 ∧ b0 ≤ 239) (h1 : 128 ≤ b1 ∧ b1 ≤ 191) (h2 : 128 ≤ b2 ∧ b2 ≤ 191)
    (hc : 2048 ≤ ((b0 - 224) * 64 + b1 - 128) * 64 + b2 - 128 ∧ ¬ (55296 ≤ ((b0 - 224) * 64 + b1 - 128) * 64 + b2 - 128 ∧ ((b0 - 224) * 64 + b1 - 128) * 64 + b2 - 128 ≤ 57343)) : rrN n b0 b1 b2 b3 = ((((b0 : Int) - 224) * 64 + b1 - 128) * 64 + b2 - 128, 3) := by
  rw [dec_good (dec_three n b0 b1 b2 b3 (((b0 - 224) * 64 + b1 - 128) * 64 + b2 - 128) hn (by omega) (by omega) (by omega) (by omega)) (by omega)]
  congr 1
  omega
theorem rr_four {n b0 b1 b2 b3 : Nat} (hn : 4 ≤ n) (h0 : 240 ≤ b0 ∧ b0 ≤ 244) (h1 : 128 ≤ b1 ∧ b1 ≤ 191) (h2 : 128 ≤ b2 ∧ b2 ≤ 191) (h3 : 128 ≤ b3 ∧ b3 ≤ 191)
    (hc : 65536 ≤ (((b0 - 240) * 64 + b1 - 128) * 64 + b2 - 128) * 64 + b3 - 128 ∧ (((b0 - 240) * 64 + b1 - 128) * 64 + b2 - 128) * 64 + b3 - 128 ≤ 1114111) : rrN n b0 b1 b2 b3 = (((((b0 : Int) - 240) * 64 + b1 - 128) * 64 + b2 - 128) * 64 + b3 - 128, 4) := by
  rw [dec_good (dec_four n b0 b1 b2 b3 ((((b0 - 240) * 64 + b1 - 128) * 64 + b2 - 128) * 64 + b3 - 128) hn (by omega) (by omega) (by omega) (by omega) (by omega)) (by omega)]
  congr 1
  omega
theorem rr_width (s : ByteArray) (p : Nat) : (rr s p).2 = (Utf8.decode s p).2 := by
  unfold rr
  split
  · rename_i h; rw [h]
  · rfl
theorem rr_cases (s : ByteArray) (p : Nat) : ((rr s p).1 = -1 ∧ (Utf8.decode s p).1 = 65533 ∧ (Utf8.decode s p).2 = 1) ∨ ((rr s p).1 = ((Utf8.decode s p).1 : Int) ∧ ¬ ((Utf8.decode s p).1 = 65533 ∧ (Utf8.decode s p).2 = 1)) := by
  unfold rr
  split
  · rename_i h
    left
    rw [h]
    exact ⟨rfl, rfl, rfl⟩
  · rename_i h
    right
    exact ⟨rfl, fun e => h (Prod.ext e.1 e.2)⟩
/-- the document's Right, behind so many runes -/
def rgo : List Nat → Nat → Bool
  | [], c => decide (1 ≤ c) && decide (c ≤ 16)
  | r :: rs, c => if stN (r : Int) c then rgo rs (c + 1) else false
theorem rgo_many : ∀ (l : List Nat) (c : Nat), 16 < c → rgo l c = false
  | [], c, h => by unfold rgo; rw [decide_eq_false (show ¬ c ≤ 16 by omega), Bool.and_false]
  | r :: l, c, h => by
    unfold rgo
    split
    · exact rgo_many l _ (by omega)
    · rfl
theorem rgo_eq : ∀ (l : List Nat) (c : Nat), c ≤ 16 → rgo l c = rightL l c
  | [], c, h => by unfold rgo rightL; rw [decide_eq_true (show c ≤ 16 from h), Bool.and_true]; rfl
  | r :: l, c, h => by
    unfold rgo rightL
    by_cases h16 : c = 16
    · rw [if_pos h16]
      split
      · exact rgo_many l _ (by omega)
      · rfl
    · rw [if_neg h16]
      split
      · exact rgo_eq l _ (by omega)
      · rfl
theorem stN_bad (c : Nat) : stN 65533 c = false ∧ letN 65533 = false ∧ letN (-1) = false := by
  refine ⟨?_, by decide, by decide⟩
  unfold stN
  rw [show letN 65533 = false from by decide, show decide ((65533 : Int) = 45) = false from by decide, show decide ((48 : Int) ≤ 65533 ∧ (65533 : Int) ≤ 57) = false from by decide]
  simp
/-- the words, one by one -/
def wrds : List UInt8 → List (List UInt8)
  | [] => [[]]
  | c :: l => if c = 32 then [] :: wrds l else match wrds l with
    | [] => [[c]]
    | h :: t => (c :: h) :: t
theorem wrds_cons (c : UInt8) (l : List UInt8) : wrds (c :: l) = if c = 32 then [] :: wrds l else match wrds l with | [] => [[c]] | h :: t => (c :: h) :: t := rfl
theorem wrds_ne : ∀ l, wrds l ≠ []
  | [] => by simp [wrds]
  | c :: l => by
    unfold wrds
    split
    · simp
    · split <;> simp
def wadd (out : List (List UInt8)) (c : UInt8) : List (List UInt8) := if c = 32 then out ++ [[]] else out.dropLast ++ [out.getLastD [] ++ [c]]
theorem wadd_run : ∀ (l : List UInt8) (pre : List (List UInt8)) (cur : List UInt8), l.foldl wadd (pre ++ [cur]) = pre ++ (match wrds l with | [] => [] | h :: t => (cur ++ h) :: t)
  | [], pre, cur => by simp [wrds]
  | c :: l, pre, cur => by
    rw [List.foldl_cons]
    by_cases h : c = 32
    · have e : wadd (pre ++ [cur]) c = (pre ++ [cur]) ++ [[]] := by unfold wadd; rw [if_pos h]
      rw [e, wadd_run l (pre ++ [cur]) [], wrds_cons, if_pos h]
      cases hw : wrds l with
      | nil => exact absurd hw (wrds_ne l)
      | cons a t => simp
    · have e : wadd (pre ++ [cur]) c = pre ++ [cur ++ [c]] := by unfold wadd; rw [if_neg h]; simp
      rw [e, wadd_run l pre (cur ++ [c])]
      rw [wrds_cons, if_neg h]
      cases hw : wrds l with
      | nil => exact absurd hw (wrds_ne l)
      | cons a t => simp
theorem wadd_all (l : List UInt8) : l.foldl wadd [[]] = wrds l := by
  have h := wadd_run l [] []
  rw [List.nil_append] at h
  rw [h]
  cases hw : wrds l with
  | nil => exact absurd hw (wrds_ne l)
  | cons a t => simp
theorem index_nil : index [] [(32 : UInt8)] = -1 := by simp [index]
theorem index_eq (l : List UInt8) : index (32 :: l) [(32 : UInt8)] = 0 := by rw [index]; simp [List.isPrefixOf]
theorem index_ne (b : UInt8) (l : List UInt8) (h : b ≠ 32) : index (b :: l) [(32 : UInt8)] = if index l [32] == -1 then -1 else index l [32] + 1 := by
  have hp : ([(32 : UInt8)] : List UInt8).isPrefixOf (b :: l) = false := by simp [List.isPrefixOf, Ne.symm h]
  rw [index, hp]
  simp
theorem index_none : ∀ l : List UInt8, index l [(32 : UInt8)] = -1 → count l [32] = 0
  | l, h => count_miss h
theorem count_hit' {l : List UInt8} (h : 0 < count l [32]) : ∃ i : Nat, index l [(32 : UInt8)] = i := by
  have hge := index_ge l [(32 : UInt8)]
  by_cases e : index l [(32 : UInt8)] = -1
  · rw [count_miss e] at h; omega
  · exact ⟨(index l [32]).toNat, by omega⟩
theorem split_wrds : ∀ l : List UInt8, splitK [32] 0 (count l [32]) l = wrds l
  | [] => by rw [count_miss index_nil]; rfl
  | b :: l => by
    have ih := split_wrds l
    by_cases h : b = 32
    · subst h
      rw [count_cons_eq, Nat.add_comm 1]
      rw [wrds_cons, if_pos rfl, ← ih]
      rw [splitK, index_eq]
      rfl
    · rw [count_cons_ne b 32 l h]
      rw [wrds_cons, if_neg h, ← ih]
      cases hc : count l [32] with
      | zero => rfl
      | succ k =>
        obtain ⟨i, hi⟩ := count_hit' (l := l) (by omega)
        have hm : (index l [(32 : UInt8)] == -1) = false := by rw [hi]; simp
        have hib : index (b :: l) [(32 : UInt8)] = ((i + 1 : Nat) : Int) := by rw [index_ne b l h, hm, hi]; simp
        have hmb : (index (b :: l) [(32 : UInt8)] == -1) = false := by rw [hib]; simp; omega
        unfold splitK
        rw [hm, hmb, hib, hi]
        simp only [Bool.false_eq_true, if_false, Int.toNat_natCast, Nat.add_zero, List.length_cons, List.length_nil]
        rw [List.take_succ_cons, show i + 1 + (0 + 1) = (i + (0 + 1)) + 1 from by omega, List.drop_succ_cons]
theorem words_data (s : ByteArray) : (wordsS s).map (·.data.toList) = wrds s.data.toList := by
  unfold wordsS
  rw [splitB_data, ← split_wrds]
end Go.Proofs.YtlkokljlghlldaaDoor.Nam
