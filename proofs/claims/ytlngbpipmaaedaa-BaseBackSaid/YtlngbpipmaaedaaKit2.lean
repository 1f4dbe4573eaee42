/-
  WORDS OF THIS SEAT'S PROOFS, over any program: more on what a slice reads as.
-/
import Derived.Test.YtlngbpipmaaedaaKit
namespace Go.Proofs.Ytlngbpipmaaedaa.Kit
open Go.RowKit
set_option linter.unusedVariables false

theorem RdB.addr {w : World} {B n c : Nat} {A : Option Addr} {bs : List UInt8} (h : RdB w B A n c bs) (hn : 0 < n) : ∃ b o, A = some ⟨b, o, none⟩ := by
  obtain ⟨b, o, e, _⟩ := h.2.2.2 hn
  exact ⟨b, o, e⟩
theorem RdB.cell0 {w : World} {B n c b o : Nat} {bs : List UInt8} (h : RdB w B (some ⟨b, o, none⟩) n c bs) {j : Nat} (hj : j < bs.length) : w.cell? ⟨b, o + j, none⟩ = some (.int .u8 (bs[j].toNat : Int)) := by
  obtain ⟨b', o', e, _, hc⟩ := h.at_ (k := j) (by have := h.len; omega)
  injection e with e
  injection e with e1 e2
  subst e1; subst e2
  exact hc j hj
/-- s[k:] of bytes -/
theorem RdB.cut {w : World} {B n c b o k : Nat} {bs : List UInt8} (h : RdB w B (some ⟨b, o, none⟩) n c bs) (hk : k < c) (hkn : k ≤ n) : RdB w B (some ⟨b, o + k, none⟩) (n - k) (c - k) (bs.drop k) := by
  have h1 := Rd.cut (k := k) h hkn
  rw [if_neg (by omega), ← List.map_drop] at h1
  simp only [Option.map_some, add_off] at h1
  exact h1
theorem short_head {n : Nat} (hn : n < 18446744073709551616) (h : nb n ≠ 1) : ∃ hd tl, short n = hd :: tl ∧ 0 < hd.toNat := by
  obtain ⟨k, hk⟩ : ∃ k, nb n = k + 1 := ⟨nb n - 1, by have := nb_bd n; omega⟩
  have hlt := nb_lt hn
  rcases nb_ge (n := n) with h1 | h1
  · exact absurd h1 h
  · rw [hk] at hlt h1
    refine ⟨UInt8.ofNat (n / 256 ^ k), be k n, by rw [short, hk, be_cons], ?_⟩
    rw [Nat.add_sub_cancel] at h1
    have h2 : n / 256 ^ k < 256 := by
      rw [Nat.div_lt_iff_lt_mul (Nat.pow_pos (by omega)), ← Nat.pow_succ']; exact hlt
    have h3 : 1 ≤ n / 256 ^ k := (Nat.le_div_iff_mul_le (Nat.pow_pos (by omega))).2 (by omega)
    simp
    omega
theorem be_short (n : Nat) : (be 8 n).drop (8 - nb n) = short n := by
  have := nb_bd n
  rw [be_drop 8 n _ (by omega), short, show 8 - (8 - nb n) = nb n from by omega]
end Go.Proofs.Ytlngbpipmaaedaa.Kit
