/-
  The document's AES plainly: products and inverses by definition, held against the tables. No program.
-/
import Derived.Test.YtgebdkbbdabomaaDoorAesn
namespace Go.Proofs.YtgebdkbbdabomaaDoor.Aes
open Go.RowKit
open Go.Proofs.YtgebdkbbdabomaaDoor.Kit
set_option linter.unusedVariables false

/-- the product before it is reduced: the first k bits of b -/
def p1 (a b : Nat) : Nat → Nat
  | 0 => 0
  | k + 1 => if b >>> k % 2 = 1 then p1 a b k ^^^ (a <<< k) else p1 a b k
/-- reduced from bit 14 on, j bits -/
def p2 (n : Nat) : Nat → Nat
  | 0 => n
  | j + 1 => if p2 n j >>> (14 - j) % 2 = 1 then p2 n j ^^^ (283 <<< (6 - j)) else p2 n j
def prodS (a b : UInt8) : UInt8 := UInt8.ofNat (p2 (p1 a.toNat b.toNat 8) 7)
def powS (b : UInt8) : Nat → UInt8
  | 0 => 1
  | k + 1 => prodS (powS b k) b
/-- bit k of what the inverse becomes -/
def bitS (x k : Nat) : Nat → Nat
  | 0 => 0
  | j + 1 => bitS x k j + x >>> ((k + 8 - j) % 8) % 2
def outS (x : Nat) : Nat → UInt8
  | 0 => 0
  | k + 1 => outS x k + UInt8.ofNat (((bitS x k 5 + 99 >>> k % 2) % 2) <<< k)
def boxS (b : UInt8) : UInt8 := outS (powS b 254).toNat 8

def p1F {α : Type} (a b : Nat) (c : Nat → α) : Nat → Nat → Nat → α
  | 0, _, n => c n
  | m + 1, k, n => force (if b >>> k % 2 = 1 then n ^^^ (a <<< k) else n) fun n' => p1F a b c m (k + 1) n'
theorem p1F_eq {α : Type} (a b : Nat) (c : Nat → α) : ∀ m k, p1F a b c m k (p1 a b k) = c (p1 a b (k + m)) := by
  intro m
  induction m with
  | zero => intro k; rfl
  | succ m ih =>
    intro k
    rw [p1F, force_eq]
    have e : (if b >>> k % 2 = 1 then p1 a b k ^^^ (a <<< k) else p1 a b k) = p1 a b (k + 1) := rfl
    rw [e, ih (k + 1), show k + 1 + m = k + (m + 1) from by omega]
def p2F {α : Type} (c : Nat → α) : Nat → Nat → Nat → α
  | 0, _, n => c n
  | m + 1, j, n => force (if n >>> (14 - j) % 2 = 1 then n ^^^ (283 <<< (6 - j)) else n) fun n' => p2F c m (j + 1) n'
theorem p2F_eq {α : Type} (c : Nat → α) (n : Nat) : ∀ m j, p2F c m j (p2 n j) = c (p2 n (j + m)) := by
  intro m
  induction m with
  | zero => intro j; rfl
  | succ m ih =>
    intro j
    rw [p2F, force_eq]
    have e : (if p2 n j >>> (14 - j) % 2 = 1 then p2 n j ^^^ (283 <<< (6 - j)) else p2 n j) = p2 n (j + 1) := rfl
    rw [e, ih (j + 1), show j + 1 + m = j + (m + 1) from by omega]
def prodF {α : Type} (a b : Nat) (c : UInt8 → α) : α := p1F a b (fun n => p2F (fun m => fU (UInt8.ofNat m) c) 7 0 n) 8 0 0
theorem prodF_eq {α : Type} (a b : UInt8) (c : UInt8 → α) : prodF a.toNat b.toNat c = c (prodS a b) := by
  have h := p1F_eq a.toNat b.toNat (fun n => p2F (fun m => fU (UInt8.ofNat m) c) 7 0 n) 8 0
  refine h.trans ?_
  have h2 := p2F_eq (fun m => fU (UInt8.ofNat m) c) (p1 a.toNat b.toNat (0 + 8)) 7 0
  rw [show p2 (p1 a.toNat b.toNat (0 + 8)) 0 = p1 a.toNat b.toNat (0 + 8) from rfl] at h2
  refine h2.trans ?_
  rw [fU_eq]
  rfl
def powF {α : Type} (b : UInt8) (c : UInt8 → α) : Nat → UInt8 → α
  | 0, x => c x
  | m + 1, x => prodF x.toNat b.toNat fun y => powF b c m y
theorem powF_eq {α : Type} (b : UInt8) (c : UInt8 → α) : ∀ m k, powF b c m (powS b k) = c (powS b (k + m)) := by
  intro m
  induction m with
  | zero => intro k; rfl
  | succ m ih =>
    intro k
    rw [powF, prodF_eq]
    have e : prodS (powS b k) b = powS b (k + 1) := rfl
    rw [e, ih (k + 1), show k + 1 + m = k + (m + 1) from by omega]
def boxF (b : UInt8) : UInt8 := powF b (fun x => outS x.toNat 8) 254 1
theorem boxF_eq (b : UInt8) : boxF b = boxS b := by
  have h := powF_eq b (fun x => outS x.toNat 8) 254 0
  rw [boxF, boxS]
  exact h
set_option maxRecDepth 100000
theorem box_all0 : ∀ b : Fin 32, boxF (UInt8.ofNat (0 + b.val)) = SBL.getD (0 + b.val) 0 := by decide +kernel
theorem box_all1 : ∀ b : Fin 32, boxF (UInt8.ofNat (32 + b.val)) = SBL.getD (32 + b.val) 0 := by decide +kernel
theorem box_all2 : ∀ b : Fin 32, boxF (UInt8.ofNat (64 + b.val)) = SBL.getD (64 + b.val) 0 := by decide +kernel
theorem box_all3 : ∀ b : Fin 32, boxF (UInt8.ofNat (96 + b.val)) = SBL.getD (96 + b.val) 0 := by decide +kernel
theorem box_all4 : ∀ b : Fin 32, boxF (UInt8.ofNat (128 + b.val)) = SBL.getD (128 + b.val) 0 := by decide +kernel
theorem box_all5 : ∀ b : Fin 32, boxF (UInt8.ofNat (160 + b.val)) = SBL.getD (160 + b.val) 0 := by decide +kernel
theorem box_all6 : ∀ b : Fin 32, boxF (UInt8.ofNat (192 + b.val)) = SBL.getD (192 + b.val) 0 := by decide +kernel
theorem box_all7 : ∀ b : Fin 32, boxF (UInt8.ofNat (224 + b.val)) = SBL.getD (224 + b.val) 0 := by decide +kernel
theorem box_all (b : Nat) (hb : b < 256) : boxF (UInt8.ofNat b) = SBL.getD b 0 := by
  obtain ⟨c, r, rfl, hc, hr⟩ : ∃ c r, b = 32 * c + r ∧ c < 8 ∧ r < 32 := ⟨b / 32, b % 32, by omega, by omega, by omega⟩
  obtain rfl | rfl | rfl | rfl | rfl | rfl | rfl | rfl : c = 0 ∨ c = 1 ∨ c = 2 ∨ c = 3 ∨ c = 4 ∨ c = 5 ∨ c = 6 ∨ c = 7 := by omega
  · exact box_all0 ⟨r, hr⟩
  · exact box_all1 ⟨r, hr⟩
  · exact box_all2 ⟨r, hr⟩
  · exact box_all3 ⟨r, hr⟩
  · exact box_all4 ⟨r, hr⟩
  · exact box_all5 ⟨r, hr⟩
  · exact box_all6 ⟨r, hr⟩
  · exact box_all7 ⟨r, hr⟩
theorem prod2 : ∀ b : Fin 256, prodF 2 b.val (fun x => x) = dbl (UInt8.ofNat b.val) := by decide +kernel
theorem prod3 : ∀ b : Fin 256, prodF 3 b.val (fun x => x) = UInt8.ofNat b.val ^^^ dbl (UInt8.ofNat b.val) := by decide +kernel
theorem prodr : ∀ b : Fin 256, prodF b.val 2 (fun x => x) = dbl (UInt8.ofNat b.val) := by decide +kernel
theorem prodF_id (a b : UInt8) : prodF a.toNat b.toNat (fun x => x) = prodS a b := prodF_eq a b _
theorem box_eq (b : UInt8) : boxS b = sb b := by
  have h := box_all b.toNat b.toNat_lt
  rw [UInt8.ofNat_toNat] at h
  rw [← boxF_eq, h, sb_eq, sbT]
theorem prod2_eq (b : UInt8) : prodS 2 b = dbl b := by
  have h := prod2 ⟨b.toNat, b.toNat_lt⟩
  simp only [UInt8.ofNat_toNat] at h
  rw [← prodF_id]
  exact h
theorem prod3_eq (b : UInt8) : prodS 3 b = b ^^^ dbl b := by
  have h := prod3 ⟨b.toNat, b.toNat_lt⟩
  simp only [UInt8.ofNat_toNat] at h
  rw [← prodF_id]
  exact h
theorem prodr_eq (b : UInt8) : prodS b 2 = dbl b := by
  have h := prodr ⟨b.toNat, b.toNat_lt⟩
  simp only [UInt8.ofNat_toNat] at h
  rw [← prodF_id]
  exact h
end Go.Proofs.YtgebdkbbdabomaaDoor.Aes
