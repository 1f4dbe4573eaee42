/-
  Names, plainly: what is written as a rune is read as it, and what is read as one is written so.
-/
import Derived.Test.YtlngbpipmaaedaaNamp
namespace Go.Proofs.Ytlngbpipmaaedaa.Nam
open Go.Lib
set_option linter.unusedVariables false

theorem encZ {r : Int} {l : List Int} (h : encodeRuneZ r = l) : encodeRune r = l.map fun x => x.toNat.toUInt8 := by rw [encodeRune, h]
/-- the five ways of a rune's bytes -/
def Way (n b0 b1 b2 b3 x k : Nat) : Prop :=
  (x = 65533 ∧ k = 1) ∨ (k = 1 ∧ x = b0 ∧ b0 < 128) ∨ (k = 2 ∧ 2 ≤ n ∧ 128 ≤ x ∧ x ≤ 2047 ∧ b0 = 192 + x / 64 ∧ b1 = 128 + x % 64) ∨
  (k = 3 ∧ 3 ≤ n ∧ ((2048 ≤ x ∧ x < 55296) ∨ (57343 < x ∧ x ≤ 65535)) ∧ b0 = 224 + x / 4096 ∧ b1 = 128 + x / 64 % 64 ∧ b2 = 128 + x % 64) ∨
  (k = 4 ∧ 4 ≤ n ∧ 65536 ≤ x ∧ x ≤ 1114111 ∧ b0 = 240 + x / 262144 ∧ b1 = 128 + x / 4096 % 64 ∧ b2 = 128 + x / 64 % 64 ∧ b3 = 128 + x % 64)
set_option maxHeartbeats 1000000 in
theorem way_of (n b0 b1 b2 b3 : Nat) (h0 : b0 < 256) (h1 : b1 < 256) (h2 : b2 < 256) (h3 : b3 < 256) : Way n b0 b1 b2 b3 (decodeN n b0 b1 b2 b3).1 (decodeN n b0 b1 b2 b3).2 := by
  unfold decodeN Way
  repeat' split
  all_goals first
    | exact .inl ⟨rfl, rfl⟩
    | exact .inr (.inl ⟨rfl, rfl, by omega⟩)
    | exact .inr (.inr (.inl ⟨rfl, by omega, by dsimp only; omega, by dsimp only; omega, by dsimp only; omega, by dsimp only; omega⟩))
    | exact .inr (.inr (.inr (.inl ⟨rfl, by omega, by dsimp only; omega, by dsimp only; omega, by dsimp only; omega, by dsimp only; omega⟩)))
    | exact .inr (.inr (.inr (.inr ⟨rfl, by omega, by dsimp only; omega, by dsimp only; omega, by dsimp only; omega, by dsimp only; omega, by dsimp only; omega, by dsimp only; omega⟩)))
set_option maxHeartbeats 1000000 in
theorem dec_two (n b0 b1 b2 b3 x : Nat) (hn : 2 ≤ n) (hx : 128 ≤ x ∧ x ≤ 2047) (h0 : b0 = 192 + x / 64) (h1 : b1 = 128 + x % 64) : decodeN n b0 b1 b2 b3 = (x, 2) := by
  unfold decodeN
  repeat' split
  all_goals first | (exfalso; omega) | (apply Prod.ext <;> simp only <;> omega)
set_option maxHeartbeats 1000000 in
theorem dec_three (n b0 b1 b2 b3 x : Nat) (hn : 3 ≤ n) (hx : (2048 ≤ x ∧ x < 55296) ∨ (57343 < x ∧ x ≤ 65535)) (h0 : b0 = 224 + x / 4096) (h1 : b1 = 128 + x / 64 % 64) (h2 : b2 = 128 + x % 64) : decodeN n b0 b1 b2 b3 = (x, 3) := by
  unfold decodeN
  repeat' split
  all_goals first | (exfalso; omega) | (apply Prod.ext <;> simp only <;> omega)
set_option maxHeartbeats 1000000 in
theorem dec_four (n b0 b1 b2 b3 x : Nat) (hn : 4 ≤ n) (hx : 65536 ≤ x ∧ x ≤ 1114111) (h0 : b0 = 240 + x / 262144) (h1 : b1 = 128 + x / 4096 % 64) (h2 : b2 = 128 + x / 64 % 64) (h3 : b3 = 128 + x % 64) : decodeN n b0 b1 b2 b3 = (x, 4) := by
  unfold decodeN
  repeat' split
  all_goals first | (exfalso; omega) | (apply Prod.ext <;> simp only <;> omega)
theorem dec_one (n b0 b1 b2 b3 : Nat) (h : b0 < 128) : decodeN n b0 b1 b2 b3 = (b0, 1) := by
  unfold decodeN
  rw [if_pos h]
/-- a rune: a number that UTF-8 can bear -/
def Rune (r : Nat) : Prop := r < 55296 ∨ (57343 < r ∧ r ≤ 1114111)
theorem get_lt (s : ByteArray) (i : Nat) : (s.get! i).toNat < 256 := UInt8.toNat_lt _
theorem way_at (s : ByteArray) (p : Nat) : Way (s.size - p) (s.get! p).toNat (s.get! (p + 1)).toNat (s.get! (p + 2)).toNat (s.get! (p + 3)).toNat (Utf8.decode s p).1 (Utf8.decode s p).2 := by
  rw [decode_at]
  exact way_of _ _ _ _ _ (get_lt ..) (get_lt ..) (get_lt ..) (get_lt ..)
theorem rune_at (s : ByteArray) (p : Nat) : Rune (Utf8.decode s p).1 := by
  have h := way_at s p
  unfold Way at h
  unfold Rune
  omega
theorem width_at (s : ByteArray) (p : Nat) : 1 ≤ (Utf8.decode s p).2 ∧ (Utf8.decode s p).2 ≤ 4 := by
  have h := way_at s p
  unfold Way at h
  omega
theorem width_in (s : ByteArray) (p : Nat) (hp : p < s.size) : p + (Utf8.decode s p).2 ≤ s.size := by
  have h := way_at s p
  unfold Way at h
  omega
theorem get_list (s : ByteArray) (p : Nat) (h : p < s.size) : s.data.toList[p]? = some (s.get! p) := by
  obtain ⟨⟨l⟩⟩ := s
  have h' : p < l.length := h
  have : (ByteArray.get! ⟨⟨l⟩⟩ p) = l[p] := by
    show (Array.mk l)[p]! = l[p]
    simp [h']
  rw [this]
  simp [h']
theorem u8_of {x : UInt8} {n : Nat} (h : x.toNat = n) : n.toUInt8 = x := by
  subst h
  exact UInt8.ofNat_toNat
/-- what is read as a rune is written as the bytes that it was read of, if it was one -/
theorem enc_dec (s : ByteArray) (p : Nat) (hp : p < s.size) (h : ¬ ((Utf8.decode s p).1 = 65533 ∧ (Utf8.decode s p).2 = 1)) :
    encodeRune ((Utf8.decode s p).1 : Int) = (s.data.toList.drop p).take (Utf8.decode s p).2 := by
  have hw := way_at s p
  have hi := width_in s p hp
  obtain ⟨x, k, e⟩ : ∃ x k, Utf8.decode s p = (x, k) := ⟨_, _, rfl⟩
  rw [e] at hw h hi ⊢
  simp only at hw h hi ⊢
  have hsl : s.data.toList.length = s.size := by simp
  have g : ∀ j, p + j < s.size → (s.data.toList.drop p)[j]? = some (s.get! (p + j)) := fun j hj => by rw [List.getElem?_drop]; exact get_list s _ hj
  have hz : (s.data.toList.drop p).length = s.size - p := by rw [List.length_drop, hsl]
  unfold Way at hw
  rcases hw with hw | ⟨rfl, hx, hb⟩ | ⟨rfl, hn, h1, h2, e0, e1⟩ | ⟨rfl, hn, hr, e0, e1, e2⟩ | ⟨rfl, hn, h1, h2, e0, e1, e2, e3⟩
  · exact absurd hw h
  · rw [encZ (encodeRuneZ_one (r := (x : Int)) (by omega) (by omega))]
    apply List.ext_getElem?
    intro j
    match j with
    | 0 =>
      rw [List.getElem?_take, if_pos (by omega), g 0 (by omega)]
      simp only [List.map_cons, List.map_nil, List.getElem?_cons_zero, Nat.add_zero]
      rw [show ((x : Int)).toNat = x from rfl, u8_of hx.symm]
    | j + 1 =>
      rw [List.getElem?_take, if_neg (by omega)]
      simp
  · rw [encZ (encodeRuneZ_two (r := (x : Int)) (by omega) (by omega))]
    apply List.ext_getElem?
    intro j
    match j with
    | 0 =>
      rw [List.getElem?_take, if_pos (by omega), g 0 (by omega)]
      simp only [List.map_cons, List.map_nil, List.getElem?_cons_zero, Nat.add_zero]
      rw [show (192 + (x : Int) / 64).toNat = 192 + x / 64 from by omega, u8_of e0]
    | 1 =>
      rw [List.getElem?_take, if_pos (by omega), g 1 (by omega)]
      simp only [List.map_cons, List.map_nil, List.getElem?_cons_zero, List.getElem?_cons_succ]
      rw [show (128 + (x : Int) % 64).toNat = 128 + x % 64 from by omega, u8_of e1]
    | j + 2 =>
      rw [List.getElem?_take, if_neg (by omega)]
      simp
  · rw [encZ (encodeRuneZ_three (r := (x : Int)) (by omega))]
    apply List.ext_getElem?
    intro j
    match j with
    | 0 =>
      rw [List.getElem?_take, if_pos (by omega), g 0 (by omega)]
      simp only [List.map_cons, List.map_nil, List.getElem?_cons_zero, Nat.add_zero]
      rw [show (224 + (x : Int) / 4096).toNat = 224 + x / 4096 from by omega, u8_of e0]
    | 1 =>
      rw [List.getElem?_take, if_pos (by omega), g 1 (by omega)]
      simp only [List.map_cons, List.map_nil, List.getElem?_cons_zero, List.getElem?_cons_succ]
      rw [show (128 + (x : Int) / 64 % 64).toNat = 128 + x / 64 % 64 from by omega, u8_of e1]
    | 2 =>
      rw [List.getElem?_take, if_pos (by omega), g 2 (by omega)]
      simp only [List.map_cons, List.map_nil, List.getElem?_cons_zero, List.getElem?_cons_succ]
      rw [show (128 + (x : Int) % 64).toNat = 128 + x % 64 from by omega, u8_of e2]
    | j + 3 =>
      rw [List.getElem?_take, if_neg (by omega)]
      simp
  · rw [encZ (encodeRuneZ_four (r := (x : Int)) (by omega) (by omega))]
    apply List.ext_getElem?
    intro j
    match j with
    | 0 =>
      rw [List.getElem?_take, if_pos (by omega), g 0 (by omega)]
      simp only [List.map_cons, List.map_nil, List.getElem?_cons_zero, Nat.add_zero]
      rw [show (240 + (x : Int) / 262144).toNat = 240 + x / 262144 from by omega, u8_of e0]
    | 1 =>
      rw [List.getElem?_take, if_pos (by omega), g 1 (by omega)]
      simp only [List.map_cons, List.map_nil, List.getElem?_cons_zero, List.getElem?_cons_succ]
      rw [show (128 + (x : Int) / 4096 % 64).toNat = 128 + x / 4096 % 64 from by omega, u8_of e1]
    | 2 =>
      rw [List.getElem?_take, if_pos (by omega), g 2 (by omega)]
      simp only [List.map_cons, List.map_nil, List.getElem?_cons_zero, List.getElem?_cons_succ]
      rw [show (128 + (x : Int) / 64 % 64).toNat = 128 + x / 64 % 64 from by omega, u8_of e2]
    | 3 =>
      rw [List.getElem?_take, if_pos (by omega), g 3 (by omega)]
      simp only [List.map_cons, List.map_nil, List.getElem?_cons_zero, List.getElem?_cons_succ]
      rw [show (128 + (x : Int) % 64).toNat = 128 + x % 64 from by omega, u8_of e3]
    | j + 4 =>
      rw [List.getElem?_take, if_neg (by omega)]
      simp
/-- what is written as a rune is read as it -/
theorem dec_enc (s : ByteArray) (p r : Nat) (hr : Rune r) (l m : List UInt8) (hs : s.data.toList = l ++ encodeRune (r : Int) ++ m) (hp : l.length = p) : Utf8.decode s p = (r, (encodeRune (r : Int)).length) := by
  have hz : s.size = l.length + (encodeRune (r : Int)).length + m.length := by
    have := congrArg List.length hs
    simpa [Nat.add_assoc] using this
  have g : ∀ j b, (encodeRune (r : Int))[j]? = some b → s.get! (p + j) = b := fun j b hb => by
    have hj : j < (encodeRune (r : Int)).length := (List.getElem?_eq_some_iff.1 hb).1
    have h1 := get_list s (p + j) (by omega)
    rw [hs, List.append_assoc, List.getElem?_append_right (by omega), List.getElem?_append_left (by omega), show p + j - l.length = j from by omega, hb] at h1
    exact (Option.some.inj h1).symm
  have n8 : ∀ (z : Int) (k : Nat), z.toNat = k → k < 256 → (z.toNat.toUInt8).toNat = k := fun z k h hk => by
    rw [h]
    exact UInt8.toNat_ofNat_of_lt' hk
  rw [decode_at]
  unfold Rune at hr
  by_cases h1 : r ≤ 127
  · have e := encZ (encodeRuneZ_one (r := (r : Int)) (by omega) (by omega))
    rw [e] at hz g ⊢
    have g0 := g 0 _ rfl
    rw [Nat.add_zero] at g0
    rw [g0, dec_one _ _ _ _ _ (by rw [n8 _ r (by omega) (by omega)]; omega), n8 _ r (by omega) (by omega)]
    rfl
  by_cases h2 : r ≤ 2047
  · have e := encZ (encodeRuneZ_two (r := (r : Int)) (by omega) (by omega))
    rw [e] at hz g ⊢
    simp only [List.map_cons, List.map_nil, List.length_cons, List.length_nil] at hz
    have g0 := g 0 _ rfl
    have g1 := g 1 _ rfl
    rw [Nat.add_zero] at g0
    exact dec_two _ _ _ _ _ r (by omega) (by omega) (by rw [g0]; exact n8 _ _ (by omega) (by omega)) (by rw [g1]; exact n8 _ _ (by omega) (by omega))
  by_cases h3 : r ≤ 65535
  · have e := encZ (encodeRuneZ_three (r := (r : Int)) (by omega))
    rw [e] at hz g ⊢
    simp only [List.map_cons, List.map_nil, List.length_cons, List.length_nil] at hz
    have g0 := g 0 _ rfl
    have g1 := g 1 _ rfl
    have g2 := g 2 _ rfl
    rw [Nat.add_zero] at g0
    exact dec_three _ _ _ _ _ r (by omega) (by omega) (by rw [g0]; exact n8 _ _ (by omega) (by omega)) (by rw [g1]; exact n8 _ _ (by omega) (by omega)) (by rw [g2]; exact n8 _ _ (by omega) (by omega))
  · have e := encZ (encodeRuneZ_four (r := (r : Int)) (by omega) (by omega))
    rw [e] at hz g ⊢
    simp only [List.map_cons, List.map_nil, List.length_cons, List.length_nil] at hz
    have g0 := g 0 _ rfl
    have g1 := g 1 _ rfl
    have g2 := g 2 _ rfl
    have g3 := g 3 _ rfl
    rw [Nat.add_zero] at g0
    exact dec_four _ _ _ _ _ r (by omega) (by omega) (by rw [g0]; exact n8 _ _ (by omega) (by omega)) (by rw [g1]; exact n8 _ _ (by omega) (by omega)) (by rw [g2]; exact n8 _ _ (by omega) (by omega)) (by rw [g3]; exact n8 _ _ (by omega) (by omega))
end Go.Proofs.Ytlngbpipmaaedaa.Nam
