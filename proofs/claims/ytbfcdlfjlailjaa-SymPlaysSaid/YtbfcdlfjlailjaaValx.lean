/-
  VALUES of layer 2, plainly: what is valid, the bytes, how bytes are read. No program.
-/
import Derived.Test.YtbfcdlfjlailjaaKitm
namespace Go.Proofs.Ytbfcdlfjlailjaa.Kit
open Go.RowKit
set_option linter.unusedVariables false

inductive V where
  | mk (k t : Int) (n : Nat) (b : List UInt8) (l : List V)
def V.k : V → Int | .mk k _ _ _ _ => k
def V.t : V → Int | .mk _ t _ _ _ => t
def V.n : V → Nat | .mk _ _ n _ _ => n
def V.b : V → List UInt8 | .mk _ _ _ b _ => b
def V.l : V → List V | .mk _ _ _ _ l => l
theorem V.eta (x : V) : x = .mk x.k x.t x.n x.b x.l := by cases x; rfl

/-- so many values, one in another one -/
def V.size : V → Nat
  | .mk _ _ _ b l => 1 + b.length + sizes l
where sizes : List V → Nat
  | [] => 0
  | x :: r => x.size + sizes r
theorem V.size_pos (x : V) : 1 ≤ x.size := by cases x; simp [V.size]; omega
theorem V.size_mem {x : V} {l : List V} (h : x ∈ l) : x.size ≤ V.size.sizes l := by
  induction l with
  | nil => cases h
  | cons y r ih =>
    rw [V.size.sizes]
    rcases List.mem_cons.1 h with rfl | h
    · omega
    · have := ih h; omega
theorem V.size_l {x y : V} (h : y ∈ x.l) : y.size < x.size := by
  cases x with
  | mk k t n b l =>
    have := V.size_mem h
    simp only [V.l] at this
    rw [V.size]
    omega

/-- may a value be? -/
def V.right : V → Nat → Bool
  | .mk k t n b l, d => decide (d < 8) && decide (0 ≤ t) && decide (t ≤ 30) &&
      (if k = 0 then decide (b = []) && decide (l = [])
       else if k = 1 then decide (n = 0) && decide (l = [])
       else if k = 2 then decide (n = 0) && decide (b = []) && rights l (d + 1)
       else false)
where rights : List V → Nat → Bool
  | [], _ => true
  | x :: r, d => x.right d && rights r d
/-- the bytes that tell how many follow -/
def lenB (n : Nat) : List UInt8 := if n < 128 then [UInt8.ofNat n] else UInt8.ofNat (128 + nb n) :: short n
def headB (k t : Int) : UInt8 := UInt8.ofNat (k * 64 + t).toNat
/-- a value's bytes -/
def V.enc : V → List UInt8
  | .mk k t n b l =>
    let body := if k = 0 then short n else if k = 2 then encs l else b
    headB k t :: (lenB body.length ++ body)
where encs : List V → List UInt8
  | [] => []
  | x :: r => x.enc ++ encs r
def V.body (x : V) : List UInt8 := if x.k = 0 then short x.n else if x.k = 2 then V.enc.encs x.l else x.b
theorem V.enc_eq (x : V) : x.enc = headB x.k x.t :: (lenB x.body.length ++ x.body) := by
  cases x with
  | mk k t n b l => rw [V.enc]; rfl
theorem lenB_pos (n : Nat) : 1 ≤ (lenB n).length := by unfold lenB; split <;> simp
theorem V.enc_len (x : V) : x.enc.length = 1 + (lenB x.body.length).length + x.body.length := by
  rw [V.enc_eq]; simp; omega
theorem V.enc_two (x : V) : 2 + x.body.length ≤ x.enc.length := by
  have := lenB_pos x.body.length
  rw [V.enc_len]; omega

/-- what the reading of bytes ends in: a value and how many bytes it has, or an error's number -/
inductive Rs where
  | ok (x : V) (n : Nat)
  | err (e : Nat)
inductive Rl where
  | ok (l : List V)
  | err (e : Nat)
/-- how many bytes a length has of its own, and what it is -/
inductive Ln where
  | ok (at_ n : Nat)
  | err (e : Nat)
/-- the length behind a value's first byte -/
def rdLen (b : List UInt8) : Ln :=
  match b with
  | _ :: c :: r =>
    if c.toNat < 128 then .ok 2 c.toNat
    else if c.toNat = 129 then
      match r with
      | x :: _ => if x.toNat < 128 then .err 3 else .ok 3 x.toNat
      | _ => .err 1
    else if c.toNat = 130 then
      match r with
      | x :: y :: _ => if x.toNat * 256 + y.toNat < 256 then .err 3 else .ok 4 (x.toNat * 256 + y.toNat)
      | _ => .err 1
    else .err 3
  | _ => .err 1
/-- all values that stand one behind the other; 'f' reads one -/
def rdAll (f : List UInt8 → Rs) : Nat → List UInt8 → Rl
  | 0, _ => .ok []
  | g + 1, b =>
    if b = [] then .ok []
    else match f b with
      | .err e => .err e
      | .ok x n => match rdAll f g (b.drop n) with
        | .err e => .err e
        | .ok l => .ok (x :: l)
/-- the value at the beginning of bytes, where so many lists more may stand in one another -/
def rd : Nat → List UInt8 → Rs
  | 0, _ => .err 4
  | d + 1, b =>
    match rdLen b with
    | .err e => .err e
    | .ok a n =>
      if b.length - a < n then .err 1
      else
        let h := (b.headD 0).toNat
        let body := (b.drop a).take n
        if h / 64 > 2 ∨ h % 64 > 30 then .err 2
        else if h / 64 = 0 then
          (if 1 ≤ body.length ∧ body.length ≤ 8 ∧ (body.length = 1 ∨ (body.headD 0).toNat ≠ 0) then .ok (.mk 0 (h % 64 : Nat) (num body) [] []) (a + n) else .err 4)
        else if h / 64 = 1 then .ok (.mk 1 (h % 64 : Nat) 0 body []) (a + n)
        else match rdAll (rd d) body.length body with
          | .err e => .err e
          | .ok l => .ok (.mk 2 (h % 64 : Nat) 0 [] l) (a + n)
end Go.Proofs.Ytbfcdlfjlailjaa.Kit

/-
  VALUES of layer 2: what is written is read as it. No program.
-/
namespace Go.Proofs.Ytbfcdlfjlailjaa.Kit
open Go.RowKit
set_option linter.unusedVariables false

/-- its numbers are Go's -/
def V.fit : V → Prop
  | .mk k t n b l => (-9223372036854775808 ≤ k ∧ k ≤ 9223372036854775807) ∧ (-9223372036854775808 ≤ t ∧ t ≤ 9223372036854775807) ∧ n < 18446744073709551616 ∧ fits l
where fits : List V → Prop
  | [] => True
  | x :: r => x.fit ∧ fits r
theorem V.fits_mem {l : List V} (h : V.fit.fits l) {x : V} (hx : x ∈ l) : x.fit := by
  induction l with
  | nil => cases hx
  | cons y r ih =>
    rw [V.fit.fits] at h
    rcases List.mem_cons.1 hx with rfl | hx
    · exact h.1
    · exact ih h.2 hx
theorem short_small {n : Nat} (h : n < 256) : short n = [UInt8.ofNat n] := by
  have : nb n = 1 := by unfold nb; rw [if_pos h]
  rw [short, this]; rfl
theorem short_two {n : Nat} (h : 256 ≤ n) (h2 : n < 65536) : short n = [UInt8.ofNat (n / 256), UInt8.ofNat n] := by
  have : nb n = 2 := by unfold nb; rw [if_neg (by omega), if_pos h2]
  rw [short, this]; rfl
theorem nb_small1 {n : Nat} (h : n < 256) : nb n = 1 := by unfold nb; rw [if_pos h]
theorem nb_small2 {n : Nat} (h : 256 ≤ n) (h2 : n < 65536) : nb n = 2 := by unfold nb; rw [if_neg (by omega), if_pos h2]
theorem lenB_len {n : Nat} (h : n < 65536) : (lenB n).length = if n < 128 then 1 else if n < 256 then 2 else 3 := by
  unfold lenB
  by_cases h1 : n < 128
  · simp [h1]
  · by_cases h2 : n < 256
    · simp [h1, h2, short_small h2]
    · simp [h1, h2, short_two (by omega) h]
theorem rdLen_lenB (h : UInt8) (n : Nat) (r : List UInt8) (hn : n < 65536) : rdLen (h :: (lenB n ++ r)) = .ok (1 + (lenB n).length) n := by
  rw [lenB_len hn]
  unfold lenB
  by_cases h1 : n < 128
  · have e : (UInt8.ofNat n).toNat = n := by simp; omega
    simp only [h1, if_true, List.cons_append, List.nil_append, rdLen, e]
  · by_cases h2 : n < 256
    · have e : (UInt8.ofNat n).toNat = n := by simp; omega
      simp only [h1, h2, if_true, if_false, List.cons_append, List.nil_append, rdLen, nb_small1 h2, short_small h2, e]
      rfl
    · have h3 : 256 ≤ n := by omega
      have e1 : (UInt8.ofNat n).toNat = n % 256 := by simp
      have e2 : (UInt8.ofNat (n / 256)).toNat = n / 256 := by simp; omega
      have e3 : n / 256 * 256 + n % 256 = n := by omega
      simp only [h1, h2, if_false, List.cons_append, List.nil_append, rdLen, nb_small2 h3 hn, short_two h3 hn, e1, e2, e3]
      rfl
theorem rights_mem {l : List V} {d : Nat} (h : V.right.rights l d = true) {x : V} (hx : x ∈ l) : x.right d = true := by
  induction l with
  | nil => cases hx
  | cons y r ih =>
    rw [V.right.rights, Bool.and_eq_true] at h
    rcases List.mem_cons.1 hx with rfl | hx
    · exact h.1
    · exact ih h.2 hx
theorem enc_mem_len {l : List V} {x : V} (hx : x ∈ l) : x.enc.length ≤ (V.enc.encs l).length := by
  induction l with
  | nil => cases hx
  | cons y r ih =>
    rw [V.enc.encs, List.length_append]
    rcases List.mem_cons.1 hx with rfl | hx
    · omega
    · have := ih hx; omega
theorem rdAll_encs (f : List UInt8 → Rs) : ∀ (l : List V) (g : Nat), (∀ x ∈ l, ∀ rest, f (x.enc ++ rest) = .ok x x.enc.length) → (V.enc.encs l).length ≤ g → rdAll f g (V.enc.encs l) = .ok l
  | [], g, _, _ => by cases g <;> simp [rdAll, V.enc.encs]
  | x :: r, g, h, hg => by
    rw [V.enc.encs] at hg ⊢
    have h2 := V.enc_two x
    rw [List.length_append] at hg
    obtain ⟨g, rfl⟩ : ∃ k, g = k + 1 := ⟨g - 1, by omega⟩
    have hne : ¬ (x.enc ++ V.enc.encs r = []) := by
      intro e
      have := congrArg List.length e
      simp at this
      rw [this.1] at h2
      simp at h2
    rw [rdAll, if_neg hne, h x (List.mem_cons_self ..) _]
    simp only [List.drop_left]
    rw [rdAll_encs f r g (fun y hy => h y (List.mem_cons_of_mem _ hy)) (by omega)]
/-- what a valid value is like -/
theorem right_cases {x : V} {d : Nat} (h : x.right d = true) : d < 8 ∧ 0 ≤ x.t ∧ x.t ≤ 30 ∧
    ((x.k = 0 ∧ x.b = [] ∧ x.l = []) ∨ (x.k = 1 ∧ x.n = 0 ∧ x.l = []) ∨ (x.k = 2 ∧ x.n = 0 ∧ x.b = [] ∧ V.right.rights x.l (d + 1) = true)) := by
  cases x with
  | mk k t n b l =>
    rw [V.right] at h
    simp only [Bool.and_eq_true, decide_eq_true_eq] at h
    obtain ⟨⟨⟨h1, h2⟩, h3⟩, h4⟩ := h
    refine ⟨h1, h2, h3, ?_⟩
    simp only [V.k, V.b, V.l, V.n]
    by_cases k0 : k = 0
    · rw [if_pos k0] at h4
      simp only [Bool.and_eq_true, decide_eq_true_eq] at h4
      exact .inl ⟨k0, h4⟩
    · rw [if_neg k0] at h4
      by_cases k1 : k = 1
      · rw [if_pos k1] at h4
        simp only [Bool.and_eq_true, decide_eq_true_eq] at h4
        exact .inr (.inl ⟨k1, h4⟩)
      · rw [if_neg k1] at h4
        by_cases k2 : k = 2
        · rw [if_pos k2] at h4
          simp only [Bool.and_eq_true, decide_eq_true_eq] at h4
          exact .inr (.inr ⟨k2, h4.1.1, h4.1.2, h4.2⟩)
        · rw [if_neg k2] at h4
          cases h4
theorem rd_enc (N : Nat) : ∀ (x : V), x.size ≤ N → x.fit → ∀ d, x.right d = true → x.enc.length < 65536 → ∀ rest, rd (8 - d) (x.enc ++ rest) = .ok x x.enc.length := by
  induction N with
  | zero => intro x hx; have := x.size_pos; omega
  | succ N ih =>
    intro x hx hf d hr hl rest
    obtain ⟨hd, ht0, ht1, hc⟩ := right_cases hr
    have hbl : x.body.length < 65536 := by have := V.enc_two x; omega
    obtain ⟨D, hD⟩ : ∃ D, 8 - d = D + 1 := ⟨7 - d, by omega⟩
    have hlen := V.enc_len x
    have hL := rdLen_lenB (headB x.k x.t) x.body.length (x.body ++ rest) hbl
    have hE : x.enc ++ rest = headB x.k x.t :: (lenB x.body.length ++ (x.body ++ rest)) := by rw [V.enc_eq]; simp
    have hk : x.k = 0 ∨ x.k = 1 ∨ x.k = 2 := by rcases hc with h | h | h <;> omega
    have hh : (headB x.k x.t).toNat = (x.k * 64 + x.t).toNat := by
      unfold headB
      simp
      omega
    have hdrop : ((headB x.k x.t :: (lenB x.body.length ++ (x.body ++ rest))).drop (1 + (lenB x.body.length).length)) = x.body ++ rest := by
      rw [Nat.add_comm, List.drop_succ_cons, List.drop_left]
    rw [hD, hE, rd, hL]
    simp only [List.headD_cons, hdrop, List.take_left, hh]
    rw [if_neg (by simp; omega), if_neg (by omega)]
    have hlen' : 1 + (lenB x.body.length).length + x.body.length = x.enc.length := hlen.symm
    rw [hlen']
    rcases hc with ⟨k0, b0, l0⟩ | ⟨k1, n0, l0⟩ | ⟨k2, n0, b0, hrs⟩
    · have hb : x.body = short x.n := by rw [V.body, if_pos k0]
      have hn : x.n < 18446744073709551616 := by cases x; exact hf.2.2.1
      have hbd := nb_bd x.n
      rw [if_pos (by omega), hb, if_pos ?_]
      · rw [num_short hn]
        have : ((((x.k * 64 + x.t).toNat % 64 : Nat)) : Int) = x.t := by omega
        rw [this, V.eta x, k0, b0, l0]
        rfl
      · rw [short_len]
        refine ⟨hbd.1, hbd.2, ?_⟩
        by_cases h1 : nb x.n = 1
        · exact .inl h1
        · obtain ⟨hd', tl, hs, h0⟩ := short_head hn h1
          right
          rw [hs]
          simp only [List.headD_cons]
          omega
    · have hb : x.body = x.b := by rw [V.body, if_neg (by omega), if_neg (by omega)]
      rw [if_neg (by omega), if_pos (by omega), hb]
      have : ((((x.k * 64 + x.t).toNat % 64 : Nat)) : Int) = x.t := by omega
      rw [this, V.eta x, k1, n0, l0]
      rfl
    · have hb : x.body = V.enc.encs x.l := by rw [V.body, if_neg (by omega), if_pos k2]
      rw [if_neg (by omega), if_neg (by omega), hb]
      have hfs : V.fit.fits x.l := by cases x; exact hf.2.2.2
      have hall := rdAll_encs (rd D) x.l (V.enc.encs x.l).length (fun y hy rest' => by
        have h1 := ih y (by have := V.size_l hy; omega) (V.fits_mem hfs hy) (d + 1) (rights_mem hrs hy) (by
          have := enc_mem_len hy
          have := V.enc_two x
          rw [hb] at this
          omega) rest'
        rw [show 8 - (d + 1) = D from by omega] at h1
        exact h1) (Nat.le_refl _)
      rw [hall]
      have : ((((x.k * 64 + x.t).toNat % 64 : Nat)) : Int) = x.t := by omega
      simp only [this]
      rw [V.eta x, k2, n0, b0]
      rfl
end Go.Proofs.Ytbfcdlfjlailjaa.Kit

/-
  VALUES of layer 2: what is read is written as the same bytes. No program.
-/
namespace Go.Proofs.Ytbfcdlfjlailjaa.Kit
open Go.RowKit
set_option linter.unusedVariables false

theorem rdLen_ok {b : List UInt8} {a n : Nat} (h : rdLen b = .ok a n) : n < 65536 ∧ a = 1 + (lenB n).length ∧ ∃ hd r, b = hd :: (lenB n ++ r) := by
  match b, h with
  | hd :: c :: r, h =>
    unfold rdLen at h
    dsimp only at h
    have hc := c.toNat_lt
    by_cases h1 : c.toNat < 128
    · rw [if_pos h1] at h
      injection h with e1 e2
      subst e2
      have hb : lenB c.toNat = [c] := by simp [lenB, h1]
      rw [hb]
      exact ⟨by omega, by simp; omega, hd, r, rfl⟩
    · rw [if_neg h1] at h
      by_cases h2 : c.toNat = 129
      · rw [if_pos h2] at h
        match r, h with
        | x :: r, h =>
          have hx := x.toNat_lt
          dsimp only at h
          by_cases h3 : x.toNat < 128
          · rw [if_pos h3] at h; cases h
          · rw [if_neg h3] at h
            injection h with e1 e2
            subst e2
            have hc2 : c = 129 := UInt8.toNat_inj.1 h2
            have hb : lenB x.toNat = [129, x] := by
              rw [lenB, if_neg h3, short_small hx, nb_small1 hx]
              simp
            rw [hb, hc2]
            exact ⟨by omega, by simp; omega, hd, r, rfl⟩
      · rw [if_neg h2] at h
        by_cases h3 : c.toNat = 130
        · rw [if_pos h3] at h
          match r, h with
          | x :: y :: r, h =>
            have hx := x.toNat_lt
            have hy := y.toNat_lt
            dsimp only at h
            by_cases h4 : x.toNat * 256 + y.toNat < 256
            · rw [if_pos h4] at h; cases h
            · rw [if_neg h4] at h
              injection h with e1 e2
              subst e2
              have hc2 : c = 130 := UInt8.toNat_inj.1 h3
              have e3 : (x.toNat * 256 + y.toNat) / 256 = x.toNat := by omega
              have hb : lenB (x.toNat * 256 + y.toNat) = [130, x, y] := by
                rw [lenB, if_neg (by omega), short_two (by omega) (by omega), nb_small2 (by omega) (by omega), e3]
                have e4 : UInt8.ofNat (x.toNat * 256 + y.toNat) = y := by
                  apply UInt8.toNat_inj.1
                  simp
                rw [e4]
                simp
              rw [hb, hc2]
              exact ⟨by omega, by simp; omega, hd, r, rfl⟩
          | [_], h => simp at h
          | [], h => simp at h
        · rw [if_neg h3] at h; cases h
  | [_], h => simp [rdLen] at h
  | [], h => simp [rdLen] at h

/-- what is known of a value that was read -/
def Good (d : Nat) (b : List UInt8) (x : V) (n : Nat) : Prop := x.right d = true ∧ x.fit ∧ n = x.enc.length ∧ ∃ r, b = x.enc ++ r
theorem rdAll_ok (f : List UInt8 → Rs) (d : Nat) : ∀ (g : Nat) (b : List UInt8) (l : List V), (∀ b x n, f b = .ok x n → Good d b x n) → rdAll f g b = .ok l → b.length ≤ g →
    b = V.enc.encs l ∧ V.right.rights l d = true ∧ V.fit.fits l
  | 0, b, l, _, h, hg => by
    rw [rdAll] at h
    injection h with h
    subst h
    have : b = [] := List.eq_nil_of_length_eq_zero (by omega)
    exact ⟨by rw [this]; rfl, rfl, trivial⟩
  | g + 1, b, l, hf, h, hg => by
    rw [rdAll] at h
    by_cases hb : b = []
    · rw [if_pos hb] at h
      injection h with h
      subst h
      exact ⟨by rw [hb]; rfl, rfl, trivial⟩
    · rw [if_neg hb] at h
      cases hr : f b with
      | err e => rw [hr] at h; cases h
      | ok x n =>
        rw [hr] at h
        simp only at h
        obtain ⟨h1, h2, h3, r, h4⟩ := hf b x n hr
        have hdrop : b.drop n = r := by rw [h4, h3, List.drop_left]
        rw [hdrop] at h
        cases hr2 : rdAll f g r with
        | err e => rw [hr2] at h; cases h
        | ok l' =>
          rw [hr2] at h
          injection h with h
          subst h
          have h5 := V.enc_two x
          have h6 : b.length = x.enc.length + r.length := by rw [h4, List.length_append]
          obtain ⟨i1, i2, i3⟩ := rdAll_ok f d g r l' hf hr2 (by omega)
          refine ⟨by rw [V.enc.encs, ← i1]; exact h4, ?_, ?_⟩
          · rw [V.right.rights, h1, i2]; rfl
          · rw [V.fit.fits]; exact ⟨h2, i3⟩
theorem num_fit {b : List UInt8} (h : b.length ≤ 8) : num b < 18446744073709551616 := by
  have h1 := num_lt b
  have h2 : 256 ^ b.length ≤ 256 ^ 8 := Nat.pow_le_pow_right (by omega) h
  omega
/-- bytes without a nought ahead are the fewest of their number -/
theorem short_num {b : List UInt8} (h1 : 1 ≤ b.length) (h8 : b.length ≤ 8) (h : b.length = 1 ∨ (b.headD 0).toNat ≠ 0) : short (num b) = b := by
  have hbe : ∀ (l : List UInt8), be l.length (num l) = l := by
    intro l
    suffices hs : ∀ (m : List UInt8), be m.length (num m.reverse) = m.reverse by
      have := hs l.reverse
      simpa using this
    intro m
    induction m with
    | nil => rfl
    | cons c m ih =>
      rw [List.length_cons, be, List.reverse_cons, num_snoc]
      have e1 : (num m.reverse * 256 + c.toNat) / 256 = num m.reverse := by have := c.toNat_lt; omega
      have e2 : UInt8.ofNat (num m.reverse * 256 + c.toNat) = c := by
        apply UInt8.toNat_inj.1
        simp
      rw [e1, e2, ih]
  have hnb : nb (num b) = b.length := by
    refine nb_is (num_fit h8) h1 h8 (num_lt b) ?_
    rcases h with h | h
    · exact .inl h
    · match b, h with
      | c :: r, h =>
        right
        simp only [List.headD_cons] at h
        have hs := hbe (c :: r)
        rw [List.length_cons, be_cons] at hs
        injection hs with hs _
        rw [List.length_cons, Nat.add_sub_cancel]
        rcases Nat.lt_or_ge (num (c :: r)) (256 ^ r.length) with hl | hl
        · rw [Nat.div_eq_of_lt hl] at hs
          rw [← hs] at h
          simp at h
        · exact hl
  rw [short, hnb]
  exact hbe b
theorem take_enc {b r : List UInt8} {hd : UInt8} {n : Nat} (hb : b = hd :: (lenB n ++ r)) (hn : n ≤ r.length) (body : List UInt8) (he : body = (b.drop (1 + (lenB n).length)).take n) :
    body.length = n ∧ b = (hd :: (lenB body.length ++ body)) ++ r.drop n := by
  have hdrop : b.drop (1 + (lenB n).length) = r := by rw [hb, Nat.add_comm, List.drop_succ_cons, List.drop_left]
  rw [hdrop] at he
  have hl : body.length = n := by rw [he, List.length_take]; omega
  refine ⟨hl, ?_⟩
  rw [hl, he, hb]
  simp
theorem rd_ok (d : Nat) : d ≤ 8 → ∀ b x n, rd d b = .ok x n → Good (8 - d) b x n := by
  induction d with
  | zero => intro _ b x n h; rw [rd] at h; cases h
  | succ d ih =>
    intro hd b x n h
    rw [rd] at h
    cases hL : rdLen b with
    | err e => rw [hL] at h; cases h
    | ok a m =>
      rw [hL] at h
      obtain ⟨hm, ha, hd0, r, hb⟩ := rdLen_ok hL
      simp only at h
      by_cases h1 : b.length - a < m
      · rw [if_pos h1] at h; cases h
      · rw [if_neg h1] at h
        have hbl : b.length = 1 + (lenB m).length + r.length := by rw [hb]; simp; omega
        have hmr : m ≤ r.length := by omega
        have hh : b.headD 0 = hd0 := by rw [hb]; rfl
        rw [hh] at h
        obtain ⟨body, hbody⟩ : ∃ body, body = (b.drop a).take m := ⟨_, rfl⟩
        rw [← hbody] at h
        rw [ha] at hbody
        obtain ⟨hbl2, hsplit⟩ := take_enc hb hmr body hbody
        have hlt := hd0.toNat_lt
        have hheadB : ∀ (k : Nat), hd0.toNat / 64 = k → headB (k : Int) ((hd0.toNat % 64 : Nat) : Int) = hd0 := by
          intro k hk
          apply UInt8.toNat_inj.1
          unfold headB
          simp
          omega
        have fin : ∀ y : V, y.body = body → headB y.k y.t = hd0 → a + m = y.enc.length ∧ ∃ r', b = y.enc ++ r' := by
          intro y hy1 hy2
          refine ⟨?_, r.drop m, ?_⟩
          · rw [V.enc_len, hy1, hbl2, ha]
          · rw [V.enc_eq, hy1, hy2]; exact hsplit
        by_cases h2 : hd0.toNat / 64 > 2 ∨ hd0.toNat % 64 > 30
        · rw [if_pos h2] at h; cases h
        · rw [if_neg h2] at h
          by_cases h3 : hd0.toNat / 64 = 0
          · rw [if_pos h3] at h
            by_cases h4 : 1 ≤ body.length ∧ body.length ≤ 8 ∧ (body.length = 1 ∨ (body.headD 0).toNat ≠ 0)
            · rw [if_pos h4] at h
              injection h with e1 e2
              obtain ⟨f1, f2⟩ := fin x (by rw [← e1]; exact short_num h4.1 h4.2.1 h4.2.2) (by rw [← e1]; exact hheadB 0 h3)
              refine ⟨?_, ?_, by rw [← e2]; exact f1, f2⟩
              · rw [← e1, V.right]; simp; omega
              · rw [← e1, V.fit]; exact ⟨by omega, by omega, num_fit h4.2.1, trivial⟩
            · rw [if_neg h4] at h; cases h
          · rw [if_neg h3] at h
            by_cases h4 : hd0.toNat / 64 = 1
            · rw [if_pos h4] at h
              injection h with e1 e2
              obtain ⟨f1, f2⟩ := fin x (by rw [← e1]; rfl) (by rw [← e1]; exact hheadB 1 h4)
              refine ⟨?_, ?_, by rw [← e2]; exact f1, f2⟩
              · rw [← e1, V.right]; simp; omega
              · rw [← e1, V.fit]; exact ⟨by omega, by omega, by omega, trivial⟩
            · rw [if_neg h4] at h
              cases hA : rdAll (rd d) body.length body with
              | err e => rw [hA] at h; cases h
              | ok l =>
                rw [hA] at h
                injection h with e1 e2
                obtain ⟨g1, g2, g3⟩ := rdAll_ok (rd d) (8 - d) _ _ _ (ih (by omega)) hA (Nat.le_refl _)
                obtain ⟨f1, f2⟩ := fin x (by rw [← e1]; exact g1.symm) (by rw [← e1]; exact hheadB 2 (by omega))
                refine ⟨?_, ?_, by rw [← e2]; exact f1, f2⟩
                · rw [← e1, V.right]
                  rw [show 8 - d = 8 - (d + 1) + 1 from by omega] at g2
                  rw [if_neg (by omega), if_neg (by omega), if_pos rfl, g2]
                  simp; omega
                · rw [← e1, V.fit]; exact ⟨by omega, by omega, by omega, g3⟩
end Go.Proofs.Ytbfcdlfjlailjaa.Kit

/-
  VALUES of layer 2, in memory: what five cells read as. Any program.
-/
namespace Go.Proofs.Ytbfcdlfjlailjaa.Kit
open Go.RowKit
set_option linter.unusedVariables false

/-- as 'Rd', said of the blocks in which the cells lie -/
def RdS (w : World) (S : Nat → Prop) (A : Option Addr) (n c : Nat) (xs : List Value) : Prop :=
  xs.length = n ∧ n ≤ c ∧ c ≤ 9223372036854775807 ∧ (0 < n → ∃ b o, A = some ⟨b, o, none⟩ ∧ S b ∧ ∀ j u, xs[j]? = some u → w.cell? ⟨b, o + j, none⟩ = some u)
theorem RdS.keep {w w' : World} {S S' : Nat → Prop} {A : Option Addr} {n c : Nat} {xs : List Value} (h : RdS w S A n c xs) (hk : ∀ p : Addr, S p.block → w'.cell? p = w.cell? p) (hS : ∀ b, S b → S' b) : RdS w' S' A n c xs :=
  ⟨h.1, h.2.1, h.2.2.1, fun hn => by
    obtain ⟨b, o, e, hb, hc⟩ := h.2.2.2 hn
    exact ⟨b, o, e, hS b hb, fun j u hu => (hk ⟨b, o + j, none⟩ hb).trans (hc j u hu)⟩⟩
mutual
/-- two slices' headers, beside a value's numbers, read as the value's bytes and list, out of the blocks S -/
def RdVS (w : World) (S : Nat → Prop) : V → Option Addr → Nat → Nat → Option Addr → Nat → Nat → Prop
  | .mk _ _ _ b l, A, m, c, A', m', c' => RdS w S A m c (b.map bv) ∧ m' = l.length ∧ m' ≤ c' ∧ c' ≤ 9223372036854775807 ∧ m' * 72 ≤ 140737488355328 ∧ (0 < m' → ∃ bb o, A' = some ⟨bb, o, none⟩ ∧ S bb ∧ RdVlS w S bb o l)
def RdVlS (w : World) (S : Nat → Prop) (bb : Nat) : Nat → List V → Prop
  | _, [] => True
  | o, x :: r => (∃ A m c A' m' c', w.cell? ⟨bb, o, none⟩ = some (.int .i64 x.k) ∧ w.cell? ⟨bb, o + 1, none⟩ = some (.int .i64 x.t) ∧ w.cell? ⟨bb, o + 2, none⟩ = some (.int .u64 x.n) ∧
      w.cell? ⟨bb, o + 3, none⟩ = some (.slice A m c) ∧ w.cell? ⟨bb, o + 4, none⟩ = some (.slice A' m' c') ∧ RdVS w S x A m c A' m' c') ∧ RdVlS w S bb (o + 5) r
end
/-- a slice of values -/
def RdVsS (w : World) (S : Nat → Prop) (l : List V) (A : Option Addr) (n c : Nat) : Prop :=
  n = l.length ∧ n ≤ c ∧ c ≤ 9223372036854775807 ∧ n * 72 ≤ 140737488355328 ∧ (0 < n → ∃ bb o, A = some ⟨bb, o, none⟩ ∧ S bb ∧ RdVlS w S bb o l)
theorem RdVS.split {w : World} {S : Nat → Prop} {m c m' c' : Nat} {A A' : Option Addr} {x : V} (h : RdVS w S x A m c A' m' c') : RdS w S A m c (x.b.map bv) ∧ RdVsS w S x.l A' m' c' := by
  cases x with
  | mk k t n b l => rw [RdVS] at h; exact ⟨h.1, h.2⟩
theorem RdVS.join {w : World} {S : Nat → Prop} {m c m' c' : Nat} {A A' : Option Addr} {x : V} (h1 : RdS w S A m c (x.b.map bv)) (h2 : RdVsS w S x.l A' m' c') : RdVS w S x A m c A' m' c' := by
  cases x with
  | mk k t n b l => rw [RdVS]; exact ⟨h1, h2⟩
mutual
theorem RdVS.keep {w w' : World} {S S' : Nat → Prop} (hk : ∀ p : Addr, S p.block → w'.cell? p = w.cell? p) (hS : ∀ b, S b → S' b) : ∀ (x : V) {A : Option Addr} {m c : Nat} {A' : Option Addr} {m' c' : Nat}, RdVS w S x A m c A' m' c' → RdVS w' S' x A m c A' m' c'
  | .mk _ _ _ b l, A, m, c, A', m', c', h => by
    rw [RdVS] at h ⊢
    obtain ⟨h1, h2, h3, h4, h5, h6⟩ := h
    refine ⟨h1.keep hk hS, h2, h3, h4, h5, fun hp => ?_⟩
    obtain ⟨bb, o, e, hbb, hl⟩ := h6 hp
    exact ⟨bb, o, e, hS _ hbb, RdVlS.keep hk hS hbb l hl⟩
theorem RdVlS.keep {w w' : World} {S S' : Nat → Prop} {bb : Nat} (hk : ∀ p : Addr, S p.block → w'.cell? p = w.cell? p) (hS : ∀ b, S b → S' b) (hbb : S bb) : ∀ (l : List V) {o : Nat}, RdVlS w S bb o l → RdVlS w' S' bb o l
  | [], o, _ => by rw [RdVlS]; trivial
  | x :: r, o, h => by
    rw [RdVlS] at h ⊢
    obtain ⟨⟨A, m, c, A', m', c', h0, h1, h2, h3, h4, h5⟩, h6⟩ := h
    refine ⟨⟨A, m, c, A', m', c', ?_, ?_, ?_, ?_, ?_, RdVS.keep hk hS x h5⟩, RdVlS.keep hk hS hbb r h6⟩
    · rw [hk _ hbb]; exact h0
    · rw [hk _ hbb]; exact h1
    · rw [hk _ hbb]; exact h2
    · rw [hk _ hbb]; exact h3
    · rw [hk _ hbb]; exact h4
end
theorem RdVsS.keep {w w' : World} {S S' : Nat → Prop} {n c : Nat} {A : Option Addr} {l : List V} (h : RdVsS w S l A n c) (hk : ∀ p : Addr, S p.block → w'.cell? p = w.cell? p) (hS : ∀ b, S b → S' b) : RdVsS w' S' l A n c := by
  obtain ⟨h1, h2, h3, h4, h5⟩ := h
  refine ⟨h1, h2, h3, h4, fun hp => ?_⟩
  obtain ⟨bb, o, e, hbb, hl⟩ := h5 hp
  exact ⟨bb, o, e, hS _ hbb, RdVlS.keep hk hS hbb l hl⟩
/-- the i-th value of a row -/
theorem RdVlS.at_ {w : World} {S : Nat → Prop} {bb : Nat} : ∀ (l : List V) {o : Nat}, RdVlS w S bb o l → ∀ i (hi : i < l.length), ∃ A m c A' m' c', w.cell? ⟨bb, o + i * 5, none⟩ = some (.int .i64 l[i].k) ∧ w.cell? ⟨bb, o + i * 5 + 1, none⟩ = some (.int .i64 l[i].t) ∧ w.cell? ⟨bb, o + i * 5 + 2, none⟩ = some (.int .u64 l[i].n) ∧
      w.cell? ⟨bb, o + i * 5 + 3, none⟩ = some (.slice A m c) ∧ w.cell? ⟨bb, o + i * 5 + 4, none⟩ = some (.slice A' m' c') ∧ RdVS w S l[i] A m c A' m' c'
  | [], _, _, i, hi => absurd hi (by simp)
  | x :: r, o, h, 0, _ => by rw [RdVlS] at h; simpa using h.1
  | x :: r, o, h, i + 1, hi => by
    rw [RdVlS] at h
    have := RdVlS.at_ r h.2 i (by simpa using hi)
    have e : o + 5 + i * 5 = o + (i + 1) * 5 := by omega
    rw [e] at this
    exact this
/-- a row of values, told place by place -/
theorem RdVlS.of {w : World} {S : Nat → Prop} {bb : Nat} : ∀ (l : List V) {o : Nat}, (∀ i (hi : i < l.length), ∃ A m c A' m' c', w.cell? ⟨bb, o + i * 5, none⟩ = some (.int .i64 l[i].k) ∧ w.cell? ⟨bb, o + i * 5 + 1, none⟩ = some (.int .i64 l[i].t) ∧ w.cell? ⟨bb, o + i * 5 + 2, none⟩ = some (.int .u64 l[i].n) ∧
      w.cell? ⟨bb, o + i * 5 + 3, none⟩ = some (.slice A m c) ∧ w.cell? ⟨bb, o + i * 5 + 4, none⟩ = some (.slice A' m' c') ∧ RdVS w S l[i] A m c A' m' c') → RdVlS w S bb o l
  | [], _, _ => by rw [RdVlS]; trivial
  | x :: r, o, h => by
    rw [RdVlS]
    have h0 := h 0 (by simp)
    simp only [Nat.zero_mul, Nat.add_zero, List.getElem_cons_zero] at h0
    refine ⟨h0, RdVlS.of r fun i hi => ?_⟩
    have := h (i + 1) (by simpa using hi)
    have e : o + (i + 1) * 5 = o + 5 + i * 5 := by omega
    rw [e] at this
    exact this

/-- the same of all blocks below B -/
def RdV (w : World) (B : Nat) : V → Option Addr → Nat → Nat → Option Addr → Nat → Nat → Prop := RdVS w (fun b => b < B)
def RdVl (w : World) (B bb : Nat) : Nat → List V → Prop := RdVlS w (fun b => b < B) bb
def RdVs (w : World) (B : Nat) (l : List V) (A : Option Addr) (n c : Nat) : Prop :=
  n = l.length ∧ n ≤ c ∧ c ≤ 9223372036854775807 ∧ n * 72 ≤ 140737488355328 ∧ (0 < n → ∃ bb o, A = some ⟨bb, o, none⟩ ∧ bb < B ∧ RdVl w B bb o l)
theorem RdV.split {w : World} {B m c m' c' : Nat} {A A' : Option Addr} {x : V} (h : RdV w B x A m c A' m' c') : RdB w B A m c x.b ∧ RdVs w B x.l A' m' c' := RdVS.split h
theorem RdV.join {w : World} {B m c m' c' : Nat} {A A' : Option Addr} {x : V} (h1 : RdB w B A m c x.b) (h2 : RdVs w B x.l A' m' c') : RdV w B x A m c A' m' c' := RdVS.join h1 h2
theorem RdV.keep {w w' : World} {B B' : Nat} (hk : ∀ p : Addr, p.block < B → w'.cell? p = w.cell? p) (hB : B ≤ B') (x : V) {A : Option Addr} {m c : Nat} {A' : Option Addr} {m' c' : Nat} (h : RdV w B x A m c A' m' c') : RdV w' B' x A m c A' m' c' :=
  RdVS.keep hk (fun b hb => Nat.lt_of_lt_of_le hb hB) x h
theorem RdVs.keep {w w' : World} {B B' n c : Nat} {A : Option Addr} {l : List V} (h : RdVs w B l A n c) (hk : ∀ p : Addr, p.block < B → w'.cell? p = w.cell? p) (hB : B ≤ B') : RdVs w' B' l A n c :=
  RdVsS.keep (S := fun b => b < B) h hk (fun b hb => Nat.lt_of_lt_of_le hb hB)
theorem RdV.on {w w' : World} {m c m' c' : Nat} {A A' : Option Addr} {x : V} (h : RdV w w.heap.size x A m c A' m' c') (hb : Below w.heap.size w w') : RdV w' w'.heap.size x A m c A' m' c' :=
  RdV.keep (fun _ hp => hb.cell hp) hb.size x h
theorem RdVs.on {w w' : World} {n c : Nat} {A : Option Addr} {l : List V} (h : RdVs w w.heap.size l A n c) (hb : Below w.heap.size w w') : RdVs w' w'.heap.size l A n c :=
  h.keep (fun _ hp => hb.cell hp) hb.size
theorem RdVl.at_ {w : World} {B bb : Nat} (l : List V) {o : Nat} (h : RdVl w B bb o l) (i : Nat) (hi : i < l.length) : ∃ A m c A' m' c', w.cell? ⟨bb, o + i * 5, none⟩ = some (.int .i64 l[i].k) ∧ w.cell? ⟨bb, o + i * 5 + 1, none⟩ = some (.int .i64 l[i].t) ∧ w.cell? ⟨bb, o + i * 5 + 2, none⟩ = some (.int .u64 l[i].n) ∧
      w.cell? ⟨bb, o + i * 5 + 3, none⟩ = some (.slice A m c) ∧ w.cell? ⟨bb, o + i * 5 + 4, none⟩ = some (.slice A' m' c') ∧ RdV w B l[i] A m c A' m' c' := RdVlS.at_ l h i hi
theorem rights_take_succ (l : List V) (d k : Nat) (h : k < l.length) : V.right.rights (l.take (k + 1)) d = (V.right.rights (l.take k) d && l[k].right d) := by
  induction l generalizing k with
  | nil => simp at h
  | cons x r ih =>
    rcases k with _ | k
    · simp [V.right.rights]
    · simp only [List.take_succ_cons, V.right.rights, List.getElem_cons_succ]
      rw [ih k (by simpa using h), Bool.and_assoc]
theorem rights_false {l : List V} {d k : Nat} (h : k < l.length) (hr : l[k].right d = false) : V.right.rights l d = false := by
  rw [← Bool.not_eq_true]
  intro e
  rw [rights_mem e (List.getElem_mem h)] at hr
  cases hr
theorem nil_len {α : Type} {l : List α} {m : Nat} [Decidable (l = [])] (h : l.length = m) : decide (l = []) = ((m : Int) == 0) := by
  rw [Bool.eq_iff_iff, decide_eq_true_iff, beq_iff_eq]
  rw [← List.length_eq_zero_iff]
  omega
theorem nil_len' {α : Type} {l : List α} {m : Nat} [Decidable (l = [])] (h : l.length = m) : decide (l = []) = !decide (0 < m) := by
  rw [Bool.eq_iff_iff, decide_eq_true_iff, Bool.not_eq_true', decide_eq_false_iff_not]
  constructor
  · rintro rfl
    simp at h
    omega
  · intro hh
    exact List.eq_nil_of_length_eq_zero (by omega)
theorem right_shape {k : Int} {p q r a b c s : Bool} (h : b = true → s = true) :
    (r && p && q && (if k = 0 then a && b else if k = 1 then c && b else if k = 2 then c && a && s else false)) =
    (p && q && r && !decide (k < 0) && !decide ((2 : Int) < k) && (if k = 0 then a && b else if k = 1 then c && b else c && a) && s) := by
  by_cases k0 : k = 0
  · subst k0
    simp
    cases b <;> cases s <;> simp at h <;> cases p <;> cases q <;> cases r <;> cases a <;> rfl
  · by_cases k1 : k = 1
    · subst k1
      simp
      cases b <;> cases s <;> simp at h <;> cases p <;> cases q <;> cases r <;> cases c <;> rfl
    · by_cases k2 : k = 2
      · subst k2
        simp
        cases s <;> cases p <;> cases q <;> cases r <;> cases a <;> cases c <;> rfl
      · have : decide (k < 0) = true ∨ decide ((2 : Int) < k) = true := by simp; omega
        rw [if_neg k0, if_neg k1, if_neg k2]
        rcases this with h1 | h1 <;> rw [h1] <;> simp
theorem encs_take_succ (l : List V) (k : Nat) (h : k < l.length) : V.enc.encs (l.take (k + 1)) = V.enc.encs (l.take k) ++ l[k].enc := by
  induction l generalizing k with
  | nil => simp at h
  | cons x r ih =>
    rcases k with _ | k
    · simp [V.enc.encs]
    · simp only [List.take_succ_cons, V.enc.encs, List.getElem_cons_succ]
      rw [ih k (by simpa using h), List.append_assoc]
theorem encs_take_le (l : List V) (k : Nat) : (V.enc.encs (l.take k)).length ≤ (V.enc.encs l).length := by
  induction l generalizing k with
  | nil => simp
  | cons x r ih =>
    rcases k with _ | k
    · simp [V.enc.encs]
    · simp only [List.take_succ_cons, V.enc.encs, List.length_append]
      have := ih k
      omega
theorem head_bv {k t X : Int} (hk : k = 0 ∨ k = 1 ∨ k = 2) (h0 : 0 ≤ t) (h1 : t ≤ 30) (hX : X = k * 64 + t) : #[Value.int .u8 X].toList = [headB k t].map bv := by
  subst hX
  have : ((headB k t).toNat : Int) = k * 64 + t := by
    unfold headB
    rcases hk with rfl | rfl | rfl <;> simp <;> omega
  simp [bv, this]
theorem joinL_three (a b c : Row) : joinL [a, b, c] = a.bs ++ (b.bs ++ c.bs) := by simp [joinL]
theorem own_lit (w : World) {base : Nat} {e : TypeId} {arr : Array Value} {bs : List UInt8} (ha : arr.toList = bs.map bv) (hb : base ≤ w.heap.size) {n : Nat} (hn : bs.length = n := by rfl) (hm : n ≤ 9223372036854775807 := by omega) :
    (w.alloc (.cells arr e)).ownsRow base e 1 (.slice (some ⟨w.heap.size, 0, none⟩) n n) n (bs.map bv) := by
  have h := own_new w (base := base) (n := n) (e := e) (arr := arr) hb (by rw [← Array.length_toList, ha, List.length_map, hn]) hm
  rw [ha] at h
  exact h
theorem one_bv {n : Nat} (h : n < 128) : #[Value.int .u8 (n : Int)].toList = [UInt8.ofNat n].map bv := by
  have : (UInt8.ofNat n).toNat = n := by simp; omega
  rw [List.map_cons, List.map_nil, bv, this]
theorem one_bv2 {n : Nat} (h : n ≤ 8) : #[Value.int .u8 (128 + (n : Int))].toList = [UInt8.ofNat (128 + n)].map bv := by
  have : (UInt8.ofNat (128 + n)).toNat = 128 + n := by simp; omega
  rw [List.map_cons, List.map_nil, bv, this]
  simp
theorem grown_from {B g n c : Nat} {a w w' : World} (h : Below B a w) (hB : B ≤ w.heap.size) (hg : w.grownBy w' (Value.slice (some ⟨g, 0, none⟩) n c).ownBlock) (hgB : B ≤ g) : Below B a w' :=
  h.grown hg hB (fun k hk => by
    simp only [Value.ownBlock, Option.some.injEq] at hk
    omega)
/-- what was appended to lies at its elder place, or behind all *-/
theorem own_past {g s B : Nat} {n c n' c' : Nat} {A : Option Addr} (h : (Value.slice A n' c').ownBlock = (Value.slice (some ⟨g, 0, none⟩) n c).ownBlock ∨ (Value.slice A n' c').ownBlock = some s) (hs : B ≤ s ∧ B ≤ g) : ∀ k, (Value.slice A n' c').ownBlock = some k → B ≤ k := by
  intro k hk
  rcases h with e | e
  · rw [hk] at e
    simp only [Value.ownBlock, Option.some.injEq] at e
    omega
  · rw [hk] at e
    injection e with e
    omega
end Go.Proofs.Ytbfcdlfjlailjaa.Kit
