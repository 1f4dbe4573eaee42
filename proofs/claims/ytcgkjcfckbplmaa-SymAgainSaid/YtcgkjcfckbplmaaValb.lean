/-
  VALUES of layer 2: what is written is read as it. No program.
-/
import Derived.Test.YtcgkjcfckbplmaaVal
namespace Go.Proofs.Ytcgkjcfckbplmaa.Kit
open Go.RowKit
set_option linter.unusedVariables false

/-- its numbers are Go's -/
def V.fit : V → Prop
  | .mk k t n b l => (-9223372036854775808 ≤ k ∧ k ≤ 9223372036854775807) ∧ (-9223372036854775808 ≤ t ∧ t ≤ 9223372036854775807) ∧ n < 18446744073709551616 ∧ fits l
where fits : List V → Prop
  | [] => True
  | x :: r => x.fit ∧ fits r
theorem V.fits_mem {l : List V} (h : V.fit.fits l) {x : V} (hx : x ∈ l) : x.fit := by
  induction l with
  | nil => cases hx
  | cons y r ih =>
    rw [V.fit.fits] at h
    rcases List.mem_cons.1 hx with rfl | hx
    · exact h.1
    · exact ih h.2 hx
theorem short_small {n : Nat} (h : n < 256) : short n = [UInt8.ofNat n] := by
  have : nb n = 1 := by unfold nb; rw [if_pos h]
  rw [short, this]; rfl
theorem short_two {n : Nat} (h : 256 ≤ n) (h2 : n < 65536) : short n = [UInt8.ofNat (n / 256), UInt8.ofNat n] := by
  have : nb n = 2 := by unfold nb; rw [if_neg (by omega), if_pos h2]
  rw [short, this]; rfl
theorem nb_small1 {n : Nat} (h : n < 256) : nb n = 1 := by unfold nb; rw [if_pos h]
theorem nb_small2 {n : Nat} (h : 256 ≤ n) (h2 : n < 65536) : nb n = 2 := by unfold nb; rw [if_neg (by omega), if_pos h2]
theorem lenB_len {n : Nat} (h : n < 65536) : (lenB n).length = if n < 128 then 1 else if n < 256 then 2 else 3 := by
  unfold lenB
  by_cases h1 : n < 128
  · simp [h1]
  · by_cases h2 : n < 256
    · simp [h1, h2, short_small h2]
    · simp [h1, h2, short_two (by omega) h]
theorem rdLen_lenB (h : UInt8) (n : Nat) (r : List UInt8) (hn : n < 65536) : rdLen (h :: (lenB n ++ r)) = .ok (1 + (lenB n).length) n := by
  rw [lenB_len hn]
  unfold lenB
  by_cases h1 : n < 128
  · have e : (UInt8.ofNat n).toNat = n := by simp; omega
    simp only [h1, if_true, List.cons_append, List.nil_append, rdLen, e]
  · by_cases h2 : n < 256
    · have e : (UInt8.ofNat n).toNat = n := by simp; omega
      simp only [h1, h2, if_true, if_false, List.cons_append, List.nil_append, rdLen, nb_small1 h2, short_small h2, e]
      rfl
    · have h3 : 256 ≤ n := by omega
      have e1 : (UInt8.ofNat n).toNat = n % 256 := by simp
      have e2 : (UInt8.ofNat (n / 256)).toNat = n / 256 := by simp; omega
      have e3 : n / 256 * 256 + n % 256 = n := by omega
      simp only [h1, h2, if_false, List.cons_append, List.nil_append, rdLen, nb_small2 h3 hn, short_two h3 hn, e1, e2, e3]
      rfl
theorem rights_mem {l : List V} {d : Nat} (h : V.right.rights l d = true) {x : V} (hx : x ∈ l) : x.right d = true := by
  induction l with
  | nil => cases hx
  | cons y r ih =>
    rw [V.right.rights, Bool.and_eq_true] at h
    rcases List.mem_cons.1 hx with rfl | hx
    · exact h.1
    · exact ih h.2 hx
theorem enc_mem_len {l : List V} {x : V} (hx : x ∈ l) : x.enc.length ≤ (V.enc.encs l).length := by
  induction l with
  | nil => cases hx
  | cons y r ih =>
    rw [V.enc.encs, List.length_append]
    rcases List.mem_cons.1 hx with rfl | hx
    · omega
    · have := ih hx; omega
theorem rdAll_encs (f : List UInt8 → Rs) : ∀ (l : List V) (g : Nat), (∀ x ∈ l, ∀ rest, f (x.enc ++ rest) = .ok x x.enc.length) → (V.enc.encs l).length ≤ g → rdAll f g (V.enc.encs l) = .ok l
  | [], g, _, _ => by cases g <;> simp [rdAll, V.enc.encs]
  | x :: r, g, h, hg => by
    rw [V.enc.encs] at hg ⊢
    have h2 := V.enc_two x
    rw [List.length_append] at hg
    obtain ⟨g, rfl⟩ : ∃ k, g = k + 1 := ⟨g - 1, by omega⟩
    have hne : ¬ (x.enc ++ V.enc.encs r = []) := by
      intro e
      have := congrArg List.length e
      simp at this
      rw [this.1] at h2
      simp at h2
    rw [rdAll, if_neg hne, h x (List.mem_cons_self ..) _]
    simp only [List.drop_left]
    rw [rdAll_encs f r g (fun y hy => h y (List.mem_cons_of_mem _ hy)) (by omega)]
/-- what a valid value is like -/
theorem right_cases {x : V} {d : Nat} (h : x.right d = true) : d < 8 ∧ 0 ≤ x.t ∧ x.t ≤ 30 ∧
    ((x.k = 0 ∧ x.b = [] ∧ x.l = []) ∨ (x.k = 1 ∧ x.n = 0 ∧ x.l = []) ∨ (x.k = 2 ∧ x.n = 0 ∧ x.b = [] ∧ V.right.rights x.l (d + 1) = true)) := by
  cases x with
  | mk k t n b l =>
    rw [V.right] at h
    simp only [Bool.and_eq_true, decide_eq_true_eq] at h
    obtain ⟨⟨⟨h1, h2⟩, h3⟩, h4⟩ := h
    refine ⟨h1, h2, h3, ?_⟩
    simp only [V.k, V.b, V.l, V.n]
    by_cases k0 : k = 0
    · rw [if_pos k0] at h4
      simp only [Bool.and_eq_true, decide_eq_true_eq] at h4
      exact .inl ⟨k0, h4⟩
    · rw [if_neg k0] at h4
      by_cases k1 : k = 1
      · rw [if_pos k1] at h4
        simp only [Bool.and_eq_true, decide_eq_true_eq] at h4
        exact .inr (.inl ⟨k1, h4⟩)
      · rw [if_neg k1] at h4
        by_cases k2 : k = 2
        · rw [if_pos k2] at h4
          simp only [Bool.and_eq_true, decide_eq_true_eq] at h4
          exact .inr (.inr ⟨k2, h4.1.1, h4.1.2, h4.2⟩)
        · rw [if_neg k2] at h4
          cases h4
theorem rd_enc (N : Nat) : ∀ (x : V), x.size ≤ N → x.fit → ∀ d, x.right d = true → x.enc.length < 65536 → ∀ rest, rd (8 - d) (x.enc ++ rest) = .ok x x.enc.length := by
  induction N with
  | zero => intro x hx; have := x.size_pos; omega
  | succ N ih =>
    intro x hx hf d hr hl rest
    obtain ⟨hd, ht0, ht1, hc⟩ := right_cases hr
    have hbl : x.body.length < 65536 := by have := V.enc_two x; omega
    obtain ⟨D, hD⟩ : ∃ D, 8 - d = D + 1 := ⟨7 - d, by omega⟩
    have hlen := V.enc_len x
    have hL := rdLen_lenB (headB x.k x.t) x.body.length (x.body ++ rest) hbl
    have hE : x.enc ++ rest = headB x.k x.t :: (lenB x.body.length ++ (x.body ++ rest)) := by rw [V.enc_eq]; simp
    have hk : x.k = 0 ∨ x.k = 1 ∨ x.k = 2 := by rcases hc with h | h | h <;> omega
    have hh : (headB x.k x.t).toNat = (x.k * 64 + x.t).toNat := by
      unfold headB
      simp
      omega
    have hdrop : ((headB x.k x.t :: (lenB x.body.length ++ (x.body ++ rest))).drop (1 + (lenB x.body.length).length)) = x.body ++ rest := by
      rw [Nat.add_comm, List.drop_succ_cons, List.drop_left]
    rw [hD, hE, rd, hL]
    simp only [List.headD_cons, hdrop, List.take_left, hh]
    rw [if_neg (by simp; omega), if_neg (by omega)]
    have hlen' : 1 + (lenB x.body.length).length + x.body.length = x.enc.length := hlen.symm
    rw [hlen']
    rcases hc with ⟨k0, b0, l0⟩ | ⟨k1, n0, l0⟩ | ⟨k2, n0, b0, hrs⟩
    · have hb : x.body = short x.n := by rw [V.body, if_pos k0]
      have hn : x.n < 18446744073709551616 := by cases x; exact hf.2.2.1
      have hbd := nb_bd x.n
      rw [if_pos (by omega), hb, if_pos ?_]
      · rw [num_short hn]
        have : ((((x.k * 64 + x.t).toNat % 64 : Nat)) : Int) = x.t := by omega
        rw [this, V.eta x, k0, b0, l0]
        rfl
      · rw [short_len]
        refine ⟨hbd.1, hbd.2, ?_⟩
        by_cases h1 : nb x.n = 1
        · exact .inl h1
        · obtain ⟨hd', tl, hs, h0⟩ := short_head hn h1
          right
          rw [hs]
          simp only [List.headD_cons]
          omega
    · have hb : x.body = x.b := by rw [V.body, if_neg (by omega), if_neg (by omega)]
      rw [if_neg (by omega), if_pos (by omega), hb]
      have : ((((x.k * 64 + x.t).toNat % 64 : Nat)) : Int) = x.t := by omega
      rw [this, V.eta x, k1, n0, l0]
      rfl
    · have hb : x.body = V.enc.encs x.l := by rw [V.body, if_neg (by omega), if_pos k2]
      rw [if_neg (by omega), if_neg (by omega), hb]
      have hfs : V.fit.fits x.l := by cases x; exact hf.2.2.2
      have hall := rdAll_encs (rd D) x.l (V.enc.encs x.l).length (fun y hy rest' => by
        have h1 := ih y (by have := V.size_l hy; omega) (V.fits_mem hfs hy) (d + 1) (rights_mem hrs hy) (by
          have := enc_mem_len hy
          have := V.enc_two x
          rw [hb] at this
          omega) rest'
        rw [show 8 - (d + 1) = D from by omega] at h1
        exact h1) (Nat.le_refl _)
      rw [hall]
      have : ((((x.k * 64 + x.t).toNat % 64 : Nat)) : Int) = x.t := by omega
      simp only [this]
      rw [V.eta x, k2, n0, b0]
      rfl
end Go.Proofs.Ytcgkjcfckbplmaa.Kit
