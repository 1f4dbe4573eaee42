/-
  AES plainly: the tables as lists; a block reckoned by the kernel. No program.
-/
import Derived.Test.YtgebdkbbdabomaaDoorAesp
namespace Go.Proofs.YtgebdkbbdabomaaDoor.Aes
open Go.RowKit
open Go.Proofs.YtgebdkbbdabomaaDoor.Kit
set_option linter.unusedVariables false

def PW : List UInt8 := [1, 3, 5, 15, 17, 51, 85, 255, 26, 46, 114, 150, 161, 248, 19, 53, 95, 225, 56, 72, 216, 115, 149, 164, 247, 2, 6, 10, 30, 34, 102, 170, 229, 52, 92, 228, 55, 89, 235, 38, 106, 190, 217, 112, 144, 171, 230, 49, 83, 245, 4, 12, 20, 60, 68, 204, 79, 209, 104, 184, 211, 110, 178, 205, 76, 212, 103, 169, 224, 59, 77, 215, 98, 166, 241, 8, 24, 40, 120, 136, 131, 158, 185, 208, 107, 189, 220, 127, 129, 152, 179, 206, 73, 219, 118, 154, 181, 196, 87, 249, 16, 48, 80, 240, 11, 29, 39, 105, 187, 214, 97, 163, 254, 25, 43, 125, 135, 146, 173, 236, 47, 113, 147, 174, 233, 32, 96, 160, 251, 22, 58, 78, 210, 109, 183, 194, 93, 231, 50, 86, 250, 21, 63, 65, 195, 94, 226, 61, 71, 201, 64, 192, 91, 237, 44, 116, 156, 191, 218, 117, 159, 186, 213, 100, 172, 239, 42, 126, 130, 157, 188, 223, 122, 142, 137, 128, 155, 182, 193, 88, 232, 35, 101, 175, 234, 37, 111, 177, 200, 67, 197, 84, 252, 31, 33, 99, 165, 244, 7, 9, 27, 45, 119, 153, 176, 203, 70, 202, 69, 207, 74, 222, 121, 139, 134, 145, 168, 227, 62, 66, 198, 81, 243, 14, 18, 54, 90, 238, 41, 123, 141, 140, 143, 138, 133, 148, 167, 242, 13, 23, 57, 75, 221, 124, 132, 151, 162, 253, 28, 36, 108, 180, 199, 82, 246]
def LG : List Nat := [0, 0, 25, 1, 50, 2, 26, 198, 75, 199, 27, 104, 51, 238, 223, 3, 100, 4, 224, 14, 52, 141, 129, 239, 76, 113, 8, 200, 248, 105, 28, 193, 125, 194, 29, 181, 249, 185, 39, 106, 77, 228, 166, 114, 154, 201, 9, 120, 101, 47, 138, 5, 33, 15, 225, 36, 18, 240, 130, 69, 53, 147, 218, 142, 150, 143, 219, 189, 54, 208, 206, 148, 19, 92, 210, 241, 64, 70, 131, 56, 102, 221, 253, 48, 191, 6, 139, 98, 179, 37, 226, 152, 34, 136, 145, 16, 126, 110, 72, 195, 163, 182, 30, 66, 58, 107, 40, 84, 250, 133, 61, 186, 43, 121, 10, 21, 155, 159, 94, 202, 78, 212, 172, 229, 243, 115, 167, 87, 175, 88, 168, 80, 244, 234, 214, 116, 79, 174, 233, 213, 231, 230, 173, 232, 44, 215, 117, 122, 235, 22, 11, 245, 89, 203, 95, 176, 156, 169, 81, 160, 127, 12, 246, 111, 23, 196, 73, 236, 216, 67, 31, 45, 164, 118, 123, 183, 204, 187, 62, 90, 251, 96, 177, 134, 59, 82, 161, 108, 170, 85, 41, 157, 151, 178, 135, 144, 97, 190, 220, 252, 188, 149, 207, 205, 55, 63, 91, 209, 83, 57, 132, 60, 65, 162, 109, 71, 20, 42, 158, 93, 86, 242, 211, 171, 68, 17, 146, 217, 35, 32, 46, 137, 180, 124, 184, 38, 119, 153, 227, 165, 103, 74, 237, 222, 197, 49, 254, 24, 13, 99, 140, 128, 192, 247, 112, 7]
def SBL : List UInt8 := [99, 124, 119, 123, 242, 107, 111, 197, 48, 1, 103, 43, 254, 215, 171, 118, 202, 130, 201, 125, 250, 89, 71, 240, 173, 212, 162, 175, 156, 164, 114, 192, 183, 253, 147, 38, 54, 63, 247, 204, 52, 165, 229, 241, 113, 216, 49, 21, 4, 199, 35, 195, 24, 150, 5, 154, 7, 18, 128, 226, 235, 39, 178, 117, 9, 131, 44, 26, 27, 110, 90, 160, 82, 59, 214, 179, 41, 227, 47, 132, 83, 209, 0, 237, 32, 252, 177, 91, 106, 203, 190, 57, 74, 76, 88, 207, 208, 239, 170, 251, 67, 77, 51, 133, 69, 249, 2, 127, 80, 60, 159, 168, 81, 163, 64, 143, 146, 157, 56, 245, 188, 182, 218, 33, 16, 255, 243, 210, 205, 12, 19, 236, 95, 151, 68, 23, 196, 167, 126, 61, 100, 93, 25, 115, 96, 129, 79, 220, 34, 42, 144, 136, 70, 238, 184, 20, 222, 94, 11, 219, 224, 50, 58, 10, 73, 6, 36, 92, 194, 211, 172, 98, 145, 149, 228, 121, 231, 200, 55, 109, 141, 213, 78, 169, 108, 86, 244, 234, 101, 122, 174, 8, 186, 120, 37, 46, 28, 166, 180, 198, 232, 221, 116, 31, 75, 189, 139, 138, 112, 62, 181, 102, 72, 3, 246, 14, 97, 53, 87, 185, 134, 193, 29, 158, 225, 248, 152, 17, 105, 217, 142, 148, 155, 30, 135, 233, 206, 85, 40, 223, 140, 161, 137, 13, 191, 230, 66, 104, 65, 153, 45, 15, 176, 84, 187, 22]
def ISB : List UInt8 := [82, 9, 106, 213, 48, 54, 165, 56, 191, 64, 163, 158, 129, 243, 215, 251, 124, 227, 57, 130, 155, 47, 255, 135, 52, 142, 67, 68, 196, 222, 233, 203, 84, 123, 148, 50, 166, 194, 35, 61, 238, 76, 149, 11, 66, 250, 195, 78, 8, 46, 161, 102, 40, 217, 36, 178, 118, 91, 162, 73, 109, 139, 209, 37, 114, 248, 246, 100, 134, 104, 152, 22, 212, 164, 92, 204, 93, 101, 182, 146, 108, 112, 72, 80, 253, 237, 185, 218, 94, 21, 70, 87, 167, 141, 157, 132, 144, 216, 171, 0, 140, 188, 211, 10, 247, 228, 88, 5, 184, 179, 69, 6, 208, 44, 30, 143, 202, 63, 15, 2, 193, 175, 189, 3, 1, 19, 138, 107, 58, 145, 17, 65, 79, 103, 220, 234, 151, 242, 207, 206, 240, 180, 230, 115, 150, 172, 116, 34, 231, 173, 53, 133, 226, 249, 55, 232, 28, 117, 223, 110, 71, 241, 26, 113, 29, 41, 197, 137, 111, 183, 98, 14, 170, 24, 190, 27, 252, 86, 62, 75, 198, 210, 121, 32, 154, 219, 192, 254, 120, 205, 90, 244, 31, 221, 168, 51, 136, 7, 199, 49, 177, 18, 16, 89, 39, 128, 236, 95, 96, 81, 127, 169, 25, 181, 74, 13, 45, 229, 122, 159, 147, 201, 156, 239, 160, 224, 59, 77, 174, 42, 245, 176, 200, 235, 187, 60, 131, 83, 153, 97, 23, 43, 4, 126, 186, 119, 214, 38, 225, 105, 20, 99, 85, 33, 12, 125]
set_option maxRecDepth 100000
theorem pw_step : ∀ n : Fin 254, PW.getD (n.val + 1) 0 = PW.getD n.val 0 ^^^ dbl (PW.getD n.val 0) := by decide +kernel
theorem pw_tab : ∀ n, n < 255 → pw n = PW.getD n 0 := by
  intro n
  induction n with
  | zero => intro _; rfl
  | succ n ih =>
    intro h
    rw [pw, ih (by omega)]
    exact (pw_step ⟨n, by omega⟩).symm
theorem lg_pw : ∀ n : Fin 255, LG.getD (PW.getD n.val 0).toNat 0 = n.val ∧ (PW.getD n.val 0).toNat ≠ 0 := by decide +kernel
theorem pw_lg : ∀ j : Fin 256, j.val = 0 ∨ (LG.getD j.val 0 < 255 ∧ (PW.getD (LG.getD j.val 0) 0).toNat = j.val) := by decide +kernel
theorem sb_vals : ∀ j : Fin 256, SBL.getD j.val 0 = if j.val = 0 then spr 0 else spr (PW.getD ((255 - LG.getD j.val 0) % 255) 0) := by decide +kernel
theorem tabK_succ (n j : Nat) : tabK (n + 1) j = if j = (pw n).toNat then spr (pw ((255 - n) % 255)) else tabK n j := rfl
theorem tab_none (j : Nat) : ∀ m, (∀ n, n < m → (pw n).toNat ≠ j) → tabK m j = if j = 0 then spr 0 else 0 := by
  intro m
  induction m with
  | zero => intro _; rfl
  | succ m ih =>
    intro h
    rw [tabK_succ, if_neg (fun e => h m (by omega) e.symm)]
    exact ih fun n hn => h n (by omega)
theorem tab_at (j n : Nat) (hj : (pw n).toNat = j) : ∀ m, n < m → (∀ n', n < n' → n' < m → (pw n').toNat ≠ j) → tabK m j = spr (pw ((255 - n) % 255)) := by
  intro m
  induction m with
  | zero => intro h; omega
  | succ m ih =>
    intro hm h
    rw [tabK_succ]
    by_cases e : n = m
    · subst e; rw [if_pos hj.symm]
    · rw [if_neg (fun e2 => h m (by omega) (by omega) e2.symm)]
      exact ih (by omega) fun n' h1 h2 => h n' h1 (by omega)
theorem sbN_tab (j : Nat) (hj : j < 256) : sbN j = SBL.getD j 0 := by
  rw [sb_vals ⟨j, hj⟩]
  simp only
  by_cases h0 : j = 0
  · subst h0
    rw [if_pos rfl, sbN, tab_none 0 255, if_pos rfl]
    intro n hn
    rw [pw_tab n hn]
    exact (lg_pw ⟨n, hn⟩).2
  · rw [if_neg h0]
    rcases pw_lg ⟨j, hj⟩ with h | ⟨h1, h2⟩
    · exact absurd h h0
    · simp only at h1 h2
      have h3 : (pw (LG.getD j 0)).toNat = j := by rw [pw_tab _ h1]; exact h2
      rw [sbN, tab_at j (LG.getD j 0) h3 255 h1, pw_tab _ (Nat.mod_lt _ (by omega))]
      intro n' h4 h5 h6
      have h7 := (lg_pw ⟨n', h5⟩).1
      simp only at h7
      rw [pw_tab n' h5] at h6
      rw [h6] at h7
      omega
def sbT (b : UInt8) : UInt8 := SBL.getD b.toNat 0
theorem sb_eq (b : UInt8) : sb b = sbT b := by rw [sb, sbT, sbN_tab _ b.toNat_lt]
theorem isb_tab : ∀ j : Fin 256, (ISB.getD (SBL.getD j.val 0).toNat 0).toNat = j.val := by decide +kernel
theorem sb_inj {a b : UInt8} (h : sb a = sb b) : a = b := by
  rw [sb_eq, sb_eq, sbT, sbT] at h
  have h1 := isb_tab ⟨a.toNat, a.toNat_lt⟩
  have h2 := isb_tab ⟨b.toNat, b.toNat_lt⟩
  simp only at h1 h2
  rw [h, h2] at h1
  exact UInt8.toNat_inj.1 h1.symm

/-- a number is reckoned before it is handed on -/
def force {α : Type} (n : Nat) (k : Nat → α) : α := match n with
  | 0 => k 0
  | m + 1 => k (m + 1)
theorem force_eq {α : Type} (n : Nat) (k : Nat → α) : force n k = k n := by cases n <;> rfl
def fU {α : Type} (x : UInt8) (k : UInt8 → α) : α := force x.toNat fun n => k (UInt8.ofNat n)
theorem fU_eq {α : Type} (x : UInt8) (k : UInt8 → α) : fU x k = k x := by rw [fU, force_eq, UInt8.ofNat_toNat]
def forceL {α : Type} : List UInt8 → (List UInt8 → α) → α
  | [], k => k []
  | x :: r, k => fU x fun x' => forceL r fun r' => k (x' :: r')
theorem forceL_eq {α : Type} : ∀ (l : List UInt8) (k : List UInt8 → α), forceL l k = k l
  | [], k => rfl
  | x :: r, k => by rw [forceL, fU_eq, forceL_eq]
def shT (s : List UInt8) : List UInt8 := row (fun i => sbT (at_ s ((i + 4 * (i % 4)) % 16))) 16
def nxT (k : List UInt8) (first : UInt8) : List UInt8 :=
  forceL (row (fun i => at_ k i ^^^ sbT (at_ k (12 + (i + 1) % 4)) ^^^ (if i = 0 then first else 0)) 4) fun w0 =>
  forceL (row (fun i => at_ k (4 + i) ^^^ at_ w0 i) 4) fun w1 =>
  forceL (row (fun i => at_ k (8 + i) ^^^ at_ w1 i) 4) fun w2 =>
  forceL (row (fun i => at_ k (12 + i) ^^^ at_ w2 i) 4) fun w3 => w0 ++ (w1 ++ (w2 ++ w3))
theorem shB_congr {f g : Nat → UInt8} (h : ∀ j, j < 16 → f j = g j) (i : Nat) : shB f i = shB g i := by rw [shB, shB, h _ (Nat.mod_lt _ (by omega))]
theorem mixB_congr {f g : Nat → UInt8} (h : ∀ j, j < 16 → f j = g j) (i : Nat) (hi : i < 16) : mixB f i = mixB g i := by
  simp only [mixB, mixAt, allB]
  rw [h (4 * (i / 4) + i % 4) (by omega), h (4 * (i / 4)) (by omega), h (4 * (i / 4) + 1) (by omega), h (4 * (i / 4) + 2) (by omega), h (4 * (i / 4) + 3) (by omega), h (4 * (i / 4) + (i % 4 + 1) % 4) (by omega)]
theorem nx_congr {f g : Nat → UInt8} (first : UInt8) (h : ∀ j, j < 16 → f j = g j) (i : Nat) (hi : i < 16) : nx f first i = nx g first i := by
  have h0 : ∀ i, i < 4 → nx0 f i = nx0 g i := fun i hi => by rw [nx0, nx0, h _ (by omega), h _ (by omega)]
  have hq : ∀ q r, r < 4 → 4 * q + r < 16 → nxq f first r q = nxq g first r q := by
    intro q
    induction q with
    | zero => intro r hr _; rw [nxq, nxq, h0 _ hr]
    | succ q ih => intro r hr hl; rw [nxq, nxq, ih r hr (by omega), h _ (by omega)]
  exact hq _ _ (by omega) (by omega)
end Go.Proofs.YtgebdkbbdabomaaDoor.Aes
