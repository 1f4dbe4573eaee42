/-
  AES plainly: a block, reckoned by the kernel. No program.
-/
import Derived.Test.YtgebdkbbdabomaaDoorAesn
namespace Go.Proofs.YtgebdkbbdabomaaDoor.Aes
open Go.RowKit
open Go.Proofs.YtgebdkbbdabomaaDoor.Kit
set_option linter.unusedVariables false

theorem shT_eq (f : Nat → UInt8) : shT (row f 16) = row (shB f) 16 := row_congr fun i hi => by rw [shB, sb_eq, at_row _ (Nat.mod_lt _ (by omega))]
theorem row4 (f : Nat → UInt8) : row f 16 = row f 4 ++ (row (fun i => f (4 + i)) 4 ++ (row (fun i => f (8 + i)) 4 ++ row (fun i => f (12 + i)) 4)) := rfl
theorem nxT_eq (k : Nat → UInt8) (first : UInt8) : nxT (row k 16) first = row (nx k first) 16 := by
  have h0 : row (fun i => at_ (row k 16) i ^^^ sbT (at_ (row k 16) (12 + (i + 1) % 4)) ^^^ (if i = 0 then first else 0)) 4 = row (nx k first) 4 := row_congr fun i hi => by
    rw [nx_low _ _ hi, nx0, sb_eq, at_row _ (by omega), at_row _ (by omega)]
    by_cases e : i = 0
    · rw [if_pos e, if_pos e]
    · rw [if_neg e, if_neg e, UInt8.xor_zero]
  have hs : ∀ m, m ≤ 8 → row (fun i => at_ (row k 16) (m + 4 + i) ^^^ at_ (row (fun i => nx k first (m + i)) 4) i) 4 = row (fun i => nx k first (m + 4 + i)) 4 := fun m hm => row_congr fun i hi => by
    rw [at_row _ (show m + 4 + i < 16 by omega), at_row _ hi, nx_step k first (show 4 ≤ m + 4 + i by omega), show m + 4 + i - 4 = m + i from by omega]
  have h1 := hs 0 (by omega)
  have h2 := hs 4 (by omega)
  have h3 := hs 8 (by omega)
  simp only [Nat.zero_add] at h1
  rw [nxT, forceL_eq, forceL_eq, forceL_eq, forceL_eq, h0, h1]
  have h2' : row (fun i => at_ (row k 16) (8 + i) ^^^ at_ (row (fun i => nx k first (4 + i)) 4) i) 4 = row (fun i => nx k first (8 + i)) 4 := h2
  have h3' : row (fun i => at_ (row k 16) (12 + i) ^^^ at_ (row (fun i => nx k first (8 + i)) 4) i) 4 = row (fun i => nx k first (12 + i)) 4 := h3
  rw [h2', h3', row4 (nx k first)]
def goF : Nat → Nat → UInt8 → List UInt8 → List UInt8 → List UInt8
  | 0, _, _, _, s => s
  | m + 1, r, f, k, s => forceL (nxT k f) fun k' => forceL (shT s) fun t => forceL (if r < 9 then row (mixB (at_ t)) 16 else t) fun u => forceL (row (sumB (at_ u) (at_ k')) 16) fun s' => fU (dbl f) fun f' => goF m (r + 1) f' k' s'
def blkF (key b : List UInt8) : List UInt8 := forceL (row (sumB (at_ b) (at_ key)) 16) fun s => goF 10 0 1 key s
theorem goF_eq (key b : Nat → UInt8) : ∀ m r, r + m = 10 → goF m r (fst r) (row (rk key r) 16) (row (stB key b r) 16) = row (blk key b) 16 := by
  intro m
  induction m with
  | zero => intro r hr; obtain rfl : r = 10 := by omega
            rfl
  | succ m ih =>
    intro r hr
    rw [goF, forceL_eq, forceL_eq, forceL_eq, forceL_eq, fU_eq, nxT_eq, shT_eq]
    have e : row (sumB (at_ (if r < 9 then row (mixB (at_ (row (shB (stB key b r)) 16))) 16 else row (shB (stB key b r)) 16)) (at_ (row (nx (rk key r) (fst r)) 16))) 16 = row (stB key b (r + 1)) 16 := by
      refine row_congr fun i hi => ?_
      rw [stB, sumB, sumB, at_row _ hi]
      congr 1
      by_cases h9 : r < 9
      · rw [if_pos h9, if_pos h9, at_row _ hi]
        exact mixB_congr (fun j hj => at_row _ hj) i hi
      · rw [if_neg h9, if_neg h9, at_row _ hi]
    rw [e]
    exact ih (r + 1) (by omega)
theorem blkF_eq (key b : Nat → UInt8) : blkF (row key 16) (row b 16) = row (blk key b) 16 := by
  rw [blkF, forceL_eq, ← goF_eq key b 10 0 rfl]
  congr 1
def exK : Nat → UInt8 := fun i => UInt8.ofNat i
def exB : Nat → UInt8 := fun i => UInt8.ofNat (17 * i)
set_option maxRecDepth 100000 in
theorem ex_blk : row (blk exK exB) 16 = [0x69, 0xc4, 0xe0, 0xd8, 0x6a, 0x7b, 0x04, 0x30, 0xd8, 0xcd, 0xb7, 0x80, 0x70, 0xb4, 0xc5, 0x5a] := by
  rw [← blkF_eq]
  decide +kernel
/-- doubling is of each bit alone -/
theorem dbl_all : ∀ a : Fin 256, ∀ b : Fin 256, dbl (UInt8.ofNat a.val ^^^ UInt8.ofNat b.val) = dbl (UInt8.ofNat a.val) ^^^ dbl (UInt8.ofNat b.val) := by decide +kernel
theorem dbl_add (a b : UInt8) : dbl (a ^^^ b) = dbl a ^^^ dbl b := by
  have h := dbl_all ⟨a.toNat, a.toNat_lt⟩ ⟨b.toNat, b.toNat_lt⟩
  simpa using h
theorem xor_cancel (a b : UInt8) : a ^^^ (a ^^^ b) = b := by rw [← UInt8.xor_assoc, UInt8.xor_self, UInt8.zero_xor]
theorem xor_lc (a b c : UInt8) : a ^^^ (b ^^^ c) = b ^^^ (a ^^^ c) := by rw [← UInt8.xor_assoc, UInt8.xor_comm a b, UInt8.xor_assoc]
def m4 (a b c d : UInt8) : UInt8 := a ^^^ (a ^^^ b ^^^ c ^^^ d) ^^^ dbl (a ^^^ b)
theorem m4_two (a b c d : UInt8) : m4 (m4 a b c d) (m4 b c d a) (m4 c d a b) (m4 d a b c) = a ^^^ dbl (dbl (a ^^^ c)) := by
  simp only [m4, dbl_add, UInt8.xor_assoc]
  simp only [UInt8.xor_comm, xor_lc, xor_cancel, UInt8.xor_self, UInt8.xor_zero, UInt8.zero_xor]
theorem two_two (a c : UInt8) : (a ^^^ dbl (dbl (a ^^^ c))) ^^^ dbl (dbl ((a ^^^ dbl (dbl (a ^^^ c))) ^^^ (c ^^^ dbl (dbl (c ^^^ a))))) = a := by
  simp only [dbl_add, UInt8.xor_assoc]
  simp only [UInt8.xor_comm, xor_lc, xor_cancel, UInt8.xor_self, UInt8.xor_zero, UInt8.zero_xor]
theorem mix0 (f : Nat → UInt8) (c : Nat) : mixB f (4 * c) = m4 (f (4 * c)) (f (4 * c + 1)) (f (4 * c + 2)) (f (4 * c + 3)) := by
  rw [mixB, show 4 * c / 4 = c from by omega, show 4 * c % 4 = 0 from by omega]; rfl
theorem mix1 (f : Nat → UInt8) (c : Nat) : mixB f (4 * c + 1) = m4 (f (4 * c + 1)) (f (4 * c + 2)) (f (4 * c + 3)) (f (4 * c)) := by
  rw [mixB, show (4 * c + 1) / 4 = c from by omega, show (4 * c + 1) % 4 = 1 from by omega, mixAt, allB, m4]
  simp only [Nat.reduceAdd, Nat.reduceMod, Nat.add_zero, UInt8.xor_comm, xor_lc]
theorem mix2 (f : Nat → UInt8) (c : Nat) : mixB f (4 * c + 2) = m4 (f (4 * c + 2)) (f (4 * c + 3)) (f (4 * c)) (f (4 * c + 1)) := by
  rw [mixB, show (4 * c + 2) / 4 = c from by omega, show (4 * c + 2) % 4 = 2 from by omega, mixAt, allB, m4]
  simp only [Nat.reduceAdd, Nat.reduceMod, Nat.add_zero, UInt8.xor_comm, xor_lc]
theorem mix3 (f : Nat → UInt8) (c : Nat) : mixB f (4 * c + 3) = m4 (f (4 * c + 3)) (f (4 * c)) (f (4 * c + 1)) (f (4 * c + 2)) := by
  rw [mixB, show (4 * c + 3) / 4 = c from by omega, show (4 * c + 3) % 4 = 3 from by omega, mixAt, allB, m4]
  simp only [Nat.reduceAdd, Nat.reduceMod, Nat.add_zero, UInt8.xor_comm, xor_lc]
theorem m4_inj {a b c d a' b' c' d' : UInt8} (h0 : m4 a b c d = m4 a' b' c' d') (h1 : m4 b c d a = m4 b' c' d' a') (h2 : m4 c d a b = m4 c' d' a' b') (h3 : m4 d a b c = m4 d' a' b' c') : a = a' := by
  have e1 := m4_two a b c d
  have e2 := m4_two a' b' c' d'
  have e3 := m4_two c d a b
  have e4 := m4_two c' d' a' b'
  rw [h0, h1, h2, h3, e2] at e1
  rw [h0, h1, h2, h3, e4] at e3
  rw [← two_two a c, ← two_two a' c', ← e1, ← e3]
theorem mix_inj {f g : Nat → UInt8} (h : ∀ i, i < 16 → mixB f i = mixB g i) : ∀ i, i < 16 → f i = g i := by
  intro i hi
  obtain ⟨c, j, rfl, hc, hj⟩ : ∃ c j, i = 4 * c + j ∧ c < 4 ∧ j < 4 := ⟨i / 4, i % 4, by omega, by omega, by omega⟩
  have h0 := h (4 * c) (by omega)
  have h1 := h (4 * c + 1) (by omega)
  have h2 := h (4 * c + 2) (by omega)
  have h3 := h (4 * c + 3) (by omega)
  rw [mix0, mix0] at h0
  rw [mix1, mix1] at h1
  rw [mix2, mix2] at h2
  rw [mix3, mix3] at h3
  obtain rfl | rfl | rfl | rfl : j = 0 ∨ j = 1 ∨ j = 2 ∨ j = 3 := by omega
  · exact m4_inj h0 h1 h2 h3
  · exact m4_inj h1 h2 h3 h0
  · exact m4_inj h2 h3 h0 h1
  · exact m4_inj h3 h0 h1 h2
theorem turn_all : ∀ j : Fin 16, ∃ i : Fin 16, (i.val + 4 * (i.val % 4)) % 16 = j.val := by decide
theorem sh_inj {f g : Nat → UInt8} (h : ∀ i, i < 16 → shB f i = shB g i) : ∀ i, i < 16 → f i = g i := by
  intro j hj
  obtain ⟨⟨i, hi⟩, he⟩ := turn_all ⟨j, hj⟩
  simp only at he
  have := sb_inj (h i hi)
  rw [he] at this
  exact this
theorem sum_inj {f g k : Nat → UInt8} {i : Nat} (h : sumB f k i = sumB g k i) : f i = g i := by
  rw [sumB, sumB] at h
  rw [← xor_xor (f i) (k i), h, xor_xor]
theorem st_inj (key a b : Nat → UInt8) : ∀ r, (∀ i, i < 16 → stB key a r i = stB key b r i) → ∀ i, i < 16 → a i = b i := by
  intro r
  induction r with
  | zero => intro h i hi; exact sum_inj (h i hi)
  | succ r ih =>
    intro h
    refine ih ?_
    have h1 : ∀ i, i < 16 → (if r < 9 then mixB (shB (stB key a r)) else shB (stB key a r)) i = (if r < 9 then mixB (shB (stB key b r)) else shB (stB key b r)) i := fun i hi => sum_inj (h i hi)
    by_cases h9 : r < 9
    · simp only [if_pos h9] at h1
      exact sh_inj (mix_inj h1)
    · simp only [if_neg h9] at h1
      exact sh_inj h1
theorem blk_inj {key a b : Nat → UInt8} : (row (blk key a) 16 == row (blk key b) 16) = (row a 16 == row b 16) := by
  rw [Bool.eq_iff_iff, beq_iff_eq, beq_iff_eq]
  constructor
  · intro h
    exact row_congr (st_inj key a b 10 fun i hi => row_inj h hi)
  · intro h
    have h2 : ∀ r i, i < 16 → stB key a r i = stB key b r i := by
      intro r
      induction r with
      | zero => intro i hi; rw [stB, stB, sumB, sumB, row_inj h hi]
      | succ r ih =>
        intro i hi
        rw [stB, stB, sumB, sumB]
        by_cases h9 : r < 9
        · rw [if_pos h9, if_pos h9, mixB_congr (fun j hj => shB_congr ih j) i hi]
        · rw [if_neg h9, if_neg h9, shB_congr ih i]
    exact row_congr (h2 10)
end Go.Proofs.YtgebdkbbdabomaaDoor.Aes
