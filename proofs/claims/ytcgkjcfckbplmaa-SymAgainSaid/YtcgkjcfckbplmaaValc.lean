/-
  VALUES of layer 2: what is read is written as the same bytes. No program.
-/
import Derived.Test.YtcgkjcfckbplmaaValb
namespace Go.Proofs.Ytcgkjcfckbplmaa.Kit
open Go.RowKit
set_option linter.unusedVariables false

theorem rdLen_ok {b : List UInt8} {a n : Nat} (h : rdLen b = .ok a n) : n < 65536 ∧ a = 1 + (lenB n).length ∧ ∃ hd r, b = hd :: (lenB n ++ r) := by
  match b, h with
  | hd :: c :: r, h =>
    unfold rdLen at h
    dsimp only at h
    have hc := c.toNat_lt
    by_cases h1 : c.toNat < 128
    · rw [if_pos h1] at h
      injection h with e1 e2
      subst e2
      have hb : lenB c.toNat = [c] := by simp [lenB, h1]
      rw [hb]
      exact ⟨by omega, by simp; omega, hd, r, rfl⟩
    · rw [if_neg h1] at h
      by_cases h2 : c.toNat = 129
      · rw [if_pos h2] at h
        match r, h with
        | x :: r, h =>
          have hx := x.toNat_lt
          dsimp only at h
          by_cases h3 : x.toNat < 128
          · rw [if_pos h3] at h; cases h
          · rw [if_neg h3] at h
            injection h with e1 e2
            subst e2
            have hc2 : c = 129 := UInt8.toNat_inj.1 h2
            have hb : lenB x.toNat = [129, x] := by
              rw [lenB, if_neg h3, short_small hx, nb_small1 hx]
              simp
            rw [hb, hc2]
            exact ⟨by omega, by simp; omega, hd, r, rfl⟩
      · rw [if_neg h2] at h
        by_cases h3 : c.toNat = 130
        · rw [if_pos h3] at h
          match r, h with
          | x :: y :: r, h =>
            have hx := x.toNat_lt
            have hy := y.toNat_lt
            dsimp only at h
            by_cases h4 : x.toNat * 256 + y.toNat < 256
            · rw [if_pos h4] at h; cases h
            · rw [if_neg h4] at h
              injection h with e1 e2
              subst e2
              have hc2 : c = 130 := UInt8.toNat_inj.1 h3
              have e3 : (x.toNat * 256 + y.toNat) / 256 = x.toNat := by omega
              have hb : lenB (x.toNat * 256 + y.toNat) = [130, x, y] := by
                rw [lenB, if_neg (by omega), short_two (by omega) (by omega), nb_small2 (by omega) (by omega), e3]
                have e4 : UInt8.ofNat (x.toNat * 256 + y.toNat) = y := by
                  apply UInt8.toNat_inj.1
                  simp
                rw [e4]
                simp
              rw [hb, hc2]
              exact ⟨by omega, by simp; omega, hd, r, rfl⟩
          | [_], h => simp at h
          | [], h => simp at h
        · rw [if_neg h3] at h; cases h
  | [_], h => simp [rdLen] at h
  | [], h => simp [rdLen] at h

/-- what is known of a value that was read -/
def Good (d : Nat) (b : List UInt8) (x : V) (n : Nat) : Prop := x.right d = true ∧ x.fit ∧ n = x.enc.length ∧ ∃ r, b = x.enc ++ r
theorem rdAll_ok (f : List UInt8 → Rs) (d : Nat) : ∀ (g : Nat) (b : List UInt8) (l : List V), (∀ b x n, f b = .ok x n → Good d b x n) → rdAll f g b = .ok l → b.length ≤ g →
    b = V.enc.encs l ∧ V.right.rights l d = true ∧ V.fit.fits l
  | 0, b, l, _, h, hg => by
    rw [rdAll] at h
    injection h with h
    subst h
    have : b = [] := List.eq_nil_of_length_eq_zero (by omega)
    exact ⟨by rw [this]; rfl, rfl, trivial⟩
  | g + 1, b, l, hf, h, hg => by
    rw [rdAll] at h
    by_cases hb : b = []
    · rw [if_pos hb] at h
      injection h with h
      subst h
      exact ⟨by rw [hb]; rfl, rfl, trivial⟩
    · rw [if_neg hb] at h
      cases hr : f b with
      | err e => rw [hr] at h; cases h
      | ok x n =>
        rw [hr] at h
        simp only at h
        obtain ⟨h1, h2, h3, r, h4⟩ := hf b x n hr
        have hdrop : b.drop n = r := by rw [h4, h3, List.drop_left]
        rw [hdrop] at h
        cases hr2 : rdAll f g r with
        | err e => rw [hr2] at h; cases h
        | ok l' =>
          rw [hr2] at h
          injection h with h
          subst h
          have h5 := V.enc_two x
          have h6 : b.length = x.enc.length + r.length := by rw [h4, List.length_append]
          obtain ⟨i1, i2, i3⟩ := rdAll_ok f d g r l' hf hr2 (by omega)
          refine ⟨by rw [V.enc.encs, ← i1]; exact h4, ?_, ?_⟩
          · rw [V.right.rights, h1, i2]; rfl
          · rw [V.fit.fits]; exact ⟨h2, i3⟩
theorem num_fit {b : List UInt8} (h : b.length ≤ 8) : num b < 18446744073709551616 := by
  have h1 := num_lt b
  have h2 : 256 ^ b.length ≤ 256 ^ 8 := Nat.pow_le_pow_right (by omega) h
  omega
/-- bytes without a nought ahead are the fewest of their number -/
theorem short_num {b : List UInt8} (h1 : 1 ≤ b.length) (h8 : b.length ≤ 8) (h : b.length = 1 ∨ (b.headD 0).toNat ≠ 0) : short (num b) = b := by
  have hbe : ∀ (l : List UInt8), be l.length (num l) = l := by
    intro l
    suffices hs : ∀ (m : List UInt8), be m.length (num m.reverse) = m.reverse by
      have := hs l.reverse
      simpa using this
    intro m
    induction m with
    | nil => rfl
    | cons c m ih =>
      rw [List.length_cons, be, List.reverse_cons, num_snoc]
      have e1 : (num m.reverse * 256 + c.toNat) / 256 = num m.reverse := by have := c.toNat_lt; omega
      have e2 : UInt8.ofNat (num m.reverse * 256 + c.toNat) = c := by
        apply UInt8.toNat_inj.1
        simp
      rw [e1, e2, ih]
  have hnb : nb (num b) = b.length := by
    refine nb_is (num_fit h8) h1 h8 (num_lt b) ?_
    rcases h with h | h
    · exact .inl h
    · match b, h with
      | c :: r, h =>
        right
        simp only [List.headD_cons] at h
        have hs := hbe (c :: r)
        rw [List.length_cons, be_cons] at hs
        injection hs with hs _
        rw [List.length_cons, Nat.add_sub_cancel]
        rcases Nat.lt_or_ge (num (c :: r)) (256 ^ r.length) with hl | hl
        · rw [Nat.div_eq_of_lt hl] at hs
          rw [← hs] at h
          simp at h
        · exact hl
  rw [short, hnb]
  exact hbe b
theorem take_enc {b r : List UInt8} {hd : UInt8} {n : Nat} (hb : b = hd :: (lenB n ++ r)) (hn : n ≤ r.length) (body : List UInt8) (he : body = (b.drop (1 + (lenB n).length)).take n) :
    body.length = n ∧ b = (hd :: (lenB body.length ++ body)) ++ r.drop n := by
  have hdrop : b.drop (1 + (lenB n).length) = r := by rw [hb, Nat.add_comm, List.drop_succ_cons, List.drop_left]
  rw [hdrop] at he
  have hl : body.length = n := by rw [he, List.length_take]; omega
  refine ⟨hl, ?_⟩
  rw [hl, he, hb]
  simp
theorem rd_ok (d : Nat) : d ≤ 8 → ∀ b x n, rd d b = .ok x n → Good (8 - d) b x n := by
  induction d with
  | zero => intro _ b x n h; rw [rd] at h; cases h
  | succ d ih =>
    intro hd b x n h
    rw [rd] at h
    cases hL : rdLen b with
    | err e => rw [hL] at h; cases h
    | ok a m =>
      rw [hL] at h
      obtain ⟨hm, ha, hd0, r, hb⟩ := rdLen_ok hL
      simp only at h
      by_cases h1 : b.length - a < m
      · rw [if_pos h1] at h; cases h
      · rw [if_neg h1] at h
        have hbl : b.length = 1 + (lenB m).length + r.length := by rw [hb]; simp; omega
        have hmr : m ≤ r.length := by omega
        have hh : b.headD 0 = hd0 := by rw [hb]; rfl
        rw [hh] at h
        obtain ⟨body, hbody⟩ : ∃ body, body = (b.drop a).take m := ⟨_, rfl⟩
        rw [← hbody] at h
        rw [ha] at hbody
        obtain ⟨hbl2, hsplit⟩ := take_enc hb hmr body hbody
        have hlt := hd0.toNat_lt
        have hheadB : ∀ (k : Nat), hd0.toNat / 64 = k → headB (k : Int) ((hd0.toNat % 64 : Nat) : Int) = hd0 := by
          intro k hk
          apply UInt8.toNat_inj.1
          unfold headB
          simp
          omega
        have fin : ∀ y : V, y.body = body → headB y.k y.t = hd0 → a + m = y.enc.length ∧ ∃ r', b = y.enc ++ r' := by
          intro y hy1 hy2
          refine ⟨?_, r.drop m, ?_⟩
          · rw [V.enc_len, hy1, hbl2, ha]
          · rw [V.enc_eq, hy1, hy2]; exact hsplit
        by_cases h2 : hd0.toNat / 64 > 2 ∨ hd0.toNat % 64 > 30
        · rw [if_pos h2] at h; cases h
        · rw [if_neg h2] at h
          by_cases h3 : hd0.toNat / 64 = 0
          · rw [if_pos h3] at h
            by_cases h4 : 1 ≤ body.length ∧ body.length ≤ 8 ∧ (body.length = 1 ∨ (body.headD 0).toNat ≠ 0)
            · rw [if_pos h4] at h
              injection h with e1 e2
              obtain ⟨f1, f2⟩ := fin x (by rw [← e1]; exact short_num h4.1 h4.2.1 h4.2.2) (by rw [← e1]; exact hheadB 0 h3)
              refine ⟨?_, ?_, by rw [← e2]; exact f1, f2⟩
              · rw [← e1, V.right]; simp; omega
              · rw [← e1, V.fit]; exact ⟨by omega, by omega, num_fit h4.2.1, trivial⟩
            · rw [if_neg h4] at h; cases h
          · rw [if_neg h3] at h
            by_cases h4 : hd0.toNat / 64 = 1
            · rw [if_pos h4] at h
              injection h with e1 e2
              obtain ⟨f1, f2⟩ := fin x (by rw [← e1]; rfl) (by rw [← e1]; exact hheadB 1 h4)
              refine ⟨?_, ?_, by rw [← e2]; exact f1, f2⟩
              · rw [← e1, V.right]; simp; omega
              · rw [← e1, V.fit]; exact ⟨by omega, by omega, by omega, trivial⟩
            · rw [if_neg h4] at h
              cases hA : rdAll (rd d) body.length body with
              | err e => rw [hA] at h; cases h
              | ok l =>
                rw [hA] at h
                injection h with e1 e2
                obtain ⟨g1, g2, g3⟩ := rdAll_ok (rd d) (8 - d) _ _ _ (ih (by omega)) hA (Nat.le_refl _)
                obtain ⟨f1, f2⟩ := fin x (by rw [← e1]; exact g1.symm) (by rw [← e1]; exact hheadB 2 (by omega))
                refine ⟨?_, ?_, by rw [← e2]; exact f1, f2⟩
                · rw [← e1, V.right]
                  rw [show 8 - d = 8 - (d + 1) + 1 from by omega] at g2
                  rw [if_neg (by omega), if_neg (by omega), if_pos rfl, g2]
                  simp; omega
                · rw [← e1, V.fit]; exact ⟨by omega, by omega, by omega, g3⟩
end Go.Proofs.Ytcgkjcfckbplmaa.Kit
