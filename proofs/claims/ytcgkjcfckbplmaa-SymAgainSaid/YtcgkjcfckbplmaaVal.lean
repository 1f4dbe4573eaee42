/-
  VALUES of layer 2, plainly: what is valid, the bytes, how bytes are read. No program.
-/
import Derived.Test.YtcgkjcfckbplmaaKit3
namespace Go.Proofs.Ytcgkjcfckbplmaa.Kit
open Go.RowKit
set_option linter.unusedVariables false

inductive V where
  | mk (k t : Int) (n : Nat) (b : List UInt8) (l : List V)
def V.k : V → Int | .mk k _ _ _ _ => k
def V.t : V → Int | .mk _ t _ _ _ => t
def V.n : V → Nat | .mk _ _ n _ _ => n
def V.b : V → List UInt8 | .mk _ _ _ b _ => b
def V.l : V → List V | .mk _ _ _ _ l => l
theorem V.eta (x : V) : x = .mk x.k x.t x.n x.b x.l := by cases x; rfl

/-- so many values, one in another one -/
def V.size : V → Nat
  | .mk _ _ _ b l => 1 + b.length + sizes l
where sizes : List V → Nat
  | [] => 0
  | x :: r => x.size + sizes r
theorem V.size_pos (x : V) : 1 ≤ x.size := by cases x; simp [V.size]; omega
theorem V.size_mem {x : V} {l : List V} (h : x ∈ l) : x.size ≤ V.size.sizes l := by
  induction l with
  | nil => cases h
  | cons y r ih =>
    rw [V.size.sizes]
    rcases List.mem_cons.1 h with rfl | h
    · omega
    · have := ih h; omega
theorem V.size_l {x y : V} (h : y ∈ x.l) : y.size < x.size := by
  cases x with
  | mk k t n b l =>
    have := V.size_mem h
    simp only [V.l] at this
    rw [V.size]
    omega

/-- may a value be? -/
def V.right : V → Nat → Bool
  | .mk k t n b l, d => decide (d < 8) && decide (0 ≤ t) && decide (t ≤ 30) &&
      (if k = 0 then decide (b = []) && decide (l = [])
       else if k = 1 then decide (n = 0) && decide (l = [])
       else if k = 2 then decide (n = 0) && decide (b = []) && rights l (d + 1)
       else false)
where rights : List V → Nat → Bool
  | [], _ => true
  | x :: r, d => x.right d && rights r d
/-- the bytes that tell how many follow -/
def lenB (n : Nat) : List UInt8 := if n < 128 then [UInt8.ofNat n] else UInt8.ofNat (128 + nb n) :: short n
def headB (k t : Int) : UInt8 := UInt8.ofNat (k * 64 + t).toNat
/-- a value's bytes -/
def V.enc : V → List UInt8
  | .mk k t n b l =>
    let body := if k = 0 then short n else if k = 2 then encs l else b
    headB k t :: (lenB body.length ++ body)
where encs : List V → List UInt8
  | [] => []
  | x :: r => x.enc ++ encs r
def V.body (x : V) : List UInt8 := if x.k = 0 then short x.n else if x.k = 2 then V.enc.encs x.l else x.b
theorem V.enc_eq (x : V) : x.enc = headB x.k x.t :: (lenB x.body.length ++ x.body) := by
  cases x with
  | mk k t n b l => rw [V.enc]; rfl
theorem lenB_pos (n : Nat) : 1 ≤ (lenB n).length := by unfold lenB; split <;> simp
theorem V.enc_len (x : V) : x.enc.length = 1 + (lenB x.body.length).length + x.body.length := by
  rw [V.enc_eq]; simp; omega
theorem V.enc_two (x : V) : 2 + x.body.length ≤ x.enc.length := by
  have := lenB_pos x.body.length
  rw [V.enc_len]; omega

/-- what the reading of bytes ends in: a value and how many bytes it has, or an error's number -/
inductive Rs where
  | ok (x : V) (n : Nat)
  | err (e : Nat)
inductive Rl where
  | ok (l : List V)
  | err (e : Nat)
/-- how many bytes a length has of its own, and what it is -/
inductive Ln where
  | ok (at_ n : Nat)
  | err (e : Nat)
/-- the length behind a value's first byte -/
def rdLen (b : List UInt8) : Ln :=
  match b with
  | _ :: c :: r =>
    if c.toNat < 128 then .ok 2 c.toNat
    else if c.toNat = 129 then
      match r with
      | x :: _ => if x.toNat < 128 then .err 3 else .ok 3 x.toNat
      | _ => .err 1
    else if c.toNat = 130 then
      match r with
      | x :: y :: _ => if x.toNat * 256 + y.toNat < 256 then .err 3 else .ok 4 (x.toNat * 256 + y.toNat)
      | _ => .err 1
    else .err 3
  | _ => .err 1
/-- all values that stand one behind the other; 'f' reads one -/
def rdAll (f : List UInt8 → Rs) : Nat → List UInt8 → Rl
  | 0, _ => .ok []
  | g + 1, b =>
    if b = [] then .ok []
    else match f b with
      | .err e => .err e
      | .ok x n => match rdAll f g (b.drop n) with
        | .err e => .err e
        | .ok l => .ok (x :: l)
/-- the value at the beginning of bytes, where so many lists more may stand in one another -/
def rd : Nat → List UInt8 → Rs
  | 0, _ => .err 4
  | d + 1, b =>
    match rdLen b with
    | .err e => .err e
    | .ok a n =>
      if b.length - a < n then .err 1
      else
        let h := (b.headD 0).toNat
        let body := (b.drop a).take n
        if h / 64 > 2 ∨ h % 64 > 30 then .err 2
        else if h / 64 = 0 then
          (if 1 ≤ body.length ∧ body.length ≤ 8 ∧ (body.length = 1 ∨ (body.headD 0).toNat ≠ 0) then .ok (.mk 0 (h % 64 : Nat) (num body) [] []) (a + n) else .err 4)
        else if h / 64 = 1 then .ok (.mk 1 (h % 64 : Nat) 0 body []) (a + n)
        else match rdAll (rd d) body.length body with
          | .err e => .err e
          | .ok l => .ok (.mk 2 (h % 64 : Nat) 0 [] l) (a + n)
end Go.Proofs.Ytcgkjcfckbplmaa.Kit
