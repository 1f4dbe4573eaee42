/-
  A NUMBER'S DIGITS: the library's, and the document's.
-/
import Derived.Test.YtgebdkbbdabomaaDoorSlaidx
import Derived.Lib.ItoaNum
import Derived.Test.YtgebdkbbdabomaaDoorSeala
import Derived.Test.YtgebdkbbdabomaaDoorItoa
import Derived.Lib.AppendIntMem
namespace Go.Proofs.YtgebdkbbdabomaaDoor.Seal
open Go.RowKit
open Go.Proofs.YtgebdkbbdabomaaDoor.Kit
open Go.Proofs.YtgebdkbbdabomaaDoor.Oct
set_option linter.unusedVariables false

/-- the digits of n, where their last ones are T and the others belong to m -/
def Left (n m : Nat) (T : List UInt8) : Prop := m ≤ n ∧ Lib.decDigits n = (if m < 10 then [] else Lib.decDigits (m / 10)) ++ T
def Nxt (n m : Nat) (T : List UInt8) : Prop := m ≤ n ∧ Lib.decDigits n = Lib.decDigits m ++ T
def dig (m : Nat) : UInt8 := UInt8.ofNat (48 + m % 10)
theorem dec_split (m : Nat) : Lib.decDigits m = (if m < 10 then [] else Lib.decDigits (m / 10)) ++ [dig m] := by
  by_cases h : m < 10
  · rw [Lib.decDigits_one h, if_pos h, dig, Nat.mod_eq_of_lt h]; rfl
  · rw [Lib.decDigits, dif_neg h, if_neg h, dig]
theorem Nxt.step {n m : Nat} {T : List UInt8} (h : Nxt n m T) : Left n m (dig m :: T) := ⟨h.1, by rw [h.2, dec_split m, List.append_assoc]; rfl⟩
theorem Left.step {n m : Nat} {T : List UInt8} (h : Left n m T) (hm : ¬ m < 10) : Nxt n (m / 10) T := ⟨by have := h.1; omega, by rw [h.2, if_neg hm]⟩
theorem Left.done {n m : Nat} {T : List UInt8} (h : Left n m T) (hm : m < 10) : Lib.decDigits n = T := by rw [h.2, if_pos hm]; rfl
theorem nDigits_le : ∀ (k n : Nat), n < 10 ^ k → 1 ≤ k → Lib.nDigits n ≤ k
  | 0, _, _, h => by omega
  | k + 1, n, h, _ => by
    by_cases hn : n < 10
    · rw [Lib.nDigits_small hn]; omega
    · rw [Lib.nDigits_big hn]
      have h2 : n / 10 < 10 ^ k := by rw [Nat.pow_succ] at h; omega
      have hk : 1 ≤ k := by
        rcases k with _ | k
        · simp at h2; omega
        · omega
      have := nDigits_le k (n / 10) h2 hk
      omega
theorem dec_len (n : Nat) (h : n < 100000000000000000000) : (Lib.decDigits n).length ≤ 20 := by rw [Lib.decDigits_length]; exact nDigits_le 20 n (by omega) (by omega)
theorem Left.len {n m : Nat} {T : List UInt8} (h : Left n m T) (hn : n < 100000000000000000000) : T.length ≤ 20 := by
  have h1 := dec_len n hn
  rw [h.2, List.length_append] at h1
  omega
theorem Nxt.len {n m : Nat} {T : List UInt8} (h : Nxt n m T) (hn : n < 100000000000000000000) : T.length ≤ 20 := by
  have h1 := dec_len n hn
  rw [h.2, List.length_append] at h1
  omega
theorem enc_dig (m : Nat) (x : Int) (hx : x = ((m % 10 : Nat) : Int)) : Utf8.encode (48 + x) = ⟨#[dig m]⟩ := by
  have h : m % 10 < 10 := by omega
  rw [hx, dig]
  generalize m % 10 = k at h
  match k, h with
  | 0, _ => rfl
  | 1, _ => rfl
  | 2, _ => rfl
  | 3, _ => rfl
  | 4, _ => rfl
  | 5, _ => rfl
  | 6, _ => rfl
  | 7, _ => rfl
  | 8, _ => rfl
  | 9, _ => rfl
theorem cons_str (d : UInt8) (T : List UInt8) : (⟨#[d]⟩ : ByteArray) ++ ⟨T.toArray⟩ = ⟨(d :: T).toArray⟩ := by
  apply ByteArray.ext
  rw [ByteArray.data_append]
  apply Array.toList_inj.1
  simp
theorem str_size (T : List UInt8) : (⟨T.toArray⟩ : ByteArray).size = T.length := by show T.toArray.size = _; simp
theorem nil_str : (⟨#[]⟩ : ByteArray) = ⟨([] : List UInt8).toArray⟩ := rfl

theorem enc_int (m : Nat) : Utf8.encode (48 + (m : Int) % 10) = ⟨#[dig m]⟩ := enc_dig m _ (by omega)

set_option maxRecDepth 100000 in
set_option maxHeartbeats 1000000 in
theorem refdigits_nn (n : Nat) (hn : n < 9223372036854775808) (w : World) :
    Calls Tryd.prog 45 #[.int .i64 (n : Int)] w fun e w' => e = .returned (.string ⟨(Lib.decDigits n).toArray⟩) ∧ Below w.heap.size w w' := by
  have hn20 : n < 100000000000000000000 := by omega
  have HL0 := Lib.hid (show Left n n [dig n] from Nxt.step ⟨Nat.le_refl _, by simp⟩)
  go_enter Tryd.func45, Tryd.ntmps45
  go_wp2_with fail
  rw [enc_int n]
  go_loop [0, 4] (fun s0 s4 => ∃ (m : Nat) (T : List UInt8), s0 = .int .i64 (m : Int) ∧ s4 = .string ⟨T.toArray⟩ ∧ Left n m T) (fun s0 _ => (intOf s0).toNat)
  case atStart => exact ⟨n, [dig n], rfl, rfl, HL0.out⟩
  case round =>
    obtain ⟨m, T, rfl, rfl, hL⟩ := hrel
    have hmn := hL.1
    by_cases hlt : m < 10
    · have t1 : decide ((10 : Int) ≤ (m : Int)) = false := by rw [decide_eq_false_iff_not]; omega
      have HD := Lib.hid (hL.done hlt)
      clear hL
      go_wp2_with fail
      go_ret
      exact ⟨by rw [HD.out]; rfl, Below.refl _ _⟩
    · have t1 : decide ((10 : Int) ≤ (m : Int)) = true := by rw [decide_eq_true_iff]; omega
      have hN := hL.step hlt
      have hTl := hN.len hn20
      have HS := Lib.hid hN.step
      obtain ⟨q, hq⟩ : ∃ q, q = m / 10 := ⟨_, rfl⟩
      rw [← hq] at HS
      have hqm : q < m := by omega
      have d10 : (m : Int) / 10 = (q : Int) := by omega
      have d11 : (m : Int).tdiv 10 = (q : Int) := by rw [Int.tdiv_eq_ediv_of_nonneg (by omega)]; exact d10
      have wq : wrap64 (q : Int) = (q : Int) := by unfold wrap64; omega
      have eq := enc_int q
      have hcs := cons_str (dig q) T
      have hs1 : (⟨#[dig q]⟩ : ByteArray).size = 1 := rfl
      have hsz := str_size T
      clear hL hN hq
      go_wp2_with fail
      exact ⟨⟨q, _, rfl, rfl, HS.out⟩, by simp [intOf]; omega⟩

set_option maxRecDepth 100000 in
set_option maxHeartbeats 1000000 in
theorem refdigits_neg (n : Nat) (h1 : 1 ≤ n) (hn : n ≤ 9223372036854775808) (w : World) :
    Calls Tryd.prog 45 #[.int .i64 (-(n : Int))] w fun e w' => e = .returned (.string ⟨(45 :: Lib.decDigits n).toArray⟩) ∧ Below w.heap.size w w' := by
  have hn20 : n < 100000000000000000000 := by omega
  have HL0 := Lib.hid (show Nxt n n [] from ⟨Nat.le_refl _, by simp⟩)
  have t0 : decide (-(n : Int) < 0) = true := by rw [decide_eq_true_iff]; omega
  go_enter Tryd.func45, Tryd.ntmps45
  go_wp2_with fail
  go_loop [0, 3] (fun s0 s3 => ∃ (x : Int) (m : Nat) (T : List UInt8), s0 = .int .i64 x ∧ s3 = .string ⟨T.toArray⟩ ∧ Hid (x = -(m : Int)) ∧ 1 ≤ m ∧ Nxt n m T) (fun s0 _ => (-(intOf s0)).toNat)
  case atStart => exact ⟨_, n, [], rfl, rfl, Lib.hid rfl, h1, HL0.out⟩
  case round =>
    obtain ⟨x, m, T, rfl, rfl, HX, hm1, hL⟩ := hrel
    have hx := HX.out
    have hmn := hL.1
    have hTl := hL.len hn20
    have hsz := str_size T
    obtain ⟨y, hy⟩ : ∃ y, y = x.tmod 10 := ⟨_, rfl⟩
    have hy2 : y = -((m % 10 : Nat) : Int) := by rw [hy, hx, Int.neg_tmod, Int.tmod_eq_emod_of_nonneg (by omega)]; omega
    obtain ⟨z, hz⟩ : ∃ z, z = 48 - y := ⟨_, rfl⟩
    have hz2 : z = 48 + ((m % 10 : Nat) : Int) := by omega
    have hz48 : 48 ≤ z := by omega
    have hz57 : z ≤ 57 := by omega
    have ez : Utf8.encode z = ⟨#[dig m]⟩ := by rw [hz2]; exact enc_dig m _ rfl
    have r10 := hy.symm
    have rs := hz.symm
    have wz : wrap64 z = z := by unfold wrap64; omega
    have wz2 : IntKind.i32.wrap z = z := by rw [IntKind.wrap_i32]; omega
    have hcs := cons_str (dig m) T
    have hs1 : (⟨#[dig m]⟩ : ByteArray).size = 1 := rfl
    by_cases hlt : m < 10
    · have t1 : decide (x ≤ -10) = false := by rw [decide_eq_false_iff_not]; omega
      have HD := Lib.hid (hL.step.done hlt)
      clear hL hy hz hy2 hz2 hx
      go_wp2_with fail
      go_ret
      refine ⟨?_, Below.refl _ _⟩
      rw [HD.out]
      show Ending.returned (.string ((⟨#[45]⟩ : ByteArray) ++ ⟨#[dig m]⟩ ++ ⟨T.toArray⟩)) = _
      rw [ByteArray.append_assoc, cons_str, cons_str]
    · have t1 : decide (x ≤ -10) = true := by rw [decide_eq_true_iff]; omega
      have HS := Lib.hid (hL.step.step hlt)
      obtain ⟨q, hq⟩ : ∃ q, q = m / 10 := ⟨_, rfl⟩
      rw [← hq] at HS
      have hqm : q < m := by omega
      have hq1 : 1 ≤ q := by omega
      obtain ⟨x', hx'⟩ : ∃ x', x' = x.tdiv 10 := ⟨_, rfl⟩
      have hxq : x' = -(q : Int) := by rw [hx', hx, Int.neg_tdiv, Int.tdiv_eq_ediv_of_nonneg (by omega)]; omega
      have HXQ := Lib.hid hxq
      have d11 := hx'.symm
      have wq : wrap64 x' = x' := by unfold wrap64; omega
      clear hL hq hy hz hy2 hz2 hx hx' hxq
      go_wp2_with fail
      rw [wq]
      exact ⟨⟨x', q, _, rfl, rfl, HXQ, hq1, HS.out⟩, by have h1 := HXQ.out; have h2 := HX.out; show (-x').toNat < (-x).toNat; omega⟩

/-- the document's digits are the library's -/
theorem refdigits_any (u : Int) (h0 : -9223372036854775808 ≤ u) (h1 : u ≤ 9223372036854775807) (w : World) :
    Calls Tryd.prog 45 #[.int .i64 u] w fun e w' => e = .returned (.string ⟨(Lib.itoa u).toArray⟩) ∧ Below w.heap.size w w' := by
  by_cases hn : u < 0
  · obtain ⟨n, rfl⟩ : ∃ n : Nat, u = -(n : Int) := ⟨u.natAbs, by omega⟩
    have e : Lib.itoa (-(n : Int)) = 45 :: Lib.decDigits n := by rw [Lib.itoa, if_pos hn]; congr 2; omega
    rw [e]
    exact refdigits_neg n (by omega) (by omega) w
  · obtain ⟨n, rfl⟩ : ∃ n : Nat, u = (n : Int) := ⟨u.toNat, by omega⟩
    have e : Lib.itoa (n : Int) = Lib.decDigits n := by rw [Lib.itoa, if_neg hn]; congr 1
    rw [e]
    exact refdigits_nn n (by omega) w
theorem itoa_len (u : Int) (h0 : -9223372036854775808 ≤ u) (h1 : u ≤ 9223372036854775807) : (⟨(Lib.itoa u).toArray⟩ : ByteArray).size ≤ 21 := by
  rw [str_size, Lib.itoa]
  split
  · have := dec_len u.natAbs (by omega)
    rw [List.length_cons]; omega
  · have := dec_len u.toNat (by omega)
    omega
end Go.Proofs.YtgebdkbbdabomaaDoor.Seal

/-
  A NUMBER'S DIGITS, in a world where the library's table lies as it was laid.
-/
namespace Go.Proofs.YtgebdkbbdabomaaDoor.Seal
open Go.RowKit
open Go.Proofs.YtgebdkbbdabomaaDoor.Kit
open Go.Proofs.YtgebdkbbdabomaaDoor.Oct
open Go.Proofs.YtgebdkbbdabomaaDoor.Sha
set_option linter.unusedVariables false

/-- the library's table lies as it was laid -/
def Tens (w : World) : Prop := 1 < w.heap.size ∧ Lib.TabIs Tryd.prog w "internal/strconv.uint64pow10" .u64 Lib.pow10Tab
theorem tens_named : Tryd.prog.globalNamed "internal/strconv.uint64pow10" = some 1 := by kernel_rfl
theorem tab_same {w W : World} (h : Lib.TabIs Tryd.prog w "internal/strconv.uint64pow10" .u64 Lib.pow10Tab) (e : W.heap[1]? = w.heap[1]?) : Lib.TabIs Tryd.prog W "internal/strconv.uint64pow10" .u64 Lib.pow10Tab := by
  unfold Lib.TabIs World.var? at h ⊢
  rw [tens_named] at h ⊢
  simp only [Option.bind_some] at h ⊢
  rw [e]; exact h
theorem ito_any (u : Int) (h0 : -9223372036854775808 ≤ u) (h1 : u ≤ 9223372036854775807) (w : World) (hT : Tens w) : Ito w u ⟨(Lib.itoa u).toArray⟩ := fun W hW =>
  (Tryd.strconv_Itoa u h0 h1 W (tab_same hT.2 (hW hT.1))).mono fun e w' ⟨he, k, os, hw⟩ => ⟨he, hw ▸ Lib.below_grow _ W (Nat.le_refl _) k os⟩
theorem Tens.on {w W : World} (h : Tens w) (hb : Below w.heap.size w W) : Tens W := ⟨Nat.lt_of_lt_of_le h.1 hb.size, tab_same h.2 (hb.block _ h.1)⟩
theorem Tens.gb {w W : World} {g : Nat} (h : Tens w) (hg : w.grownBy W (some g)) (hne : g ≠ 1) : Tens W := ⟨Nat.lt_of_lt_of_le h.1 hg.size, tab_same h.2 (gb_block hg h.1 (fun e => hne e.symm))⟩
theorem tens_of4 {W : World} (h : laidMetH Tryd.prog laidL4 W) : Tens W := by
  rw [MakeChecks.laidMetH_plain _ _ _ (by kernel_rfl), laidL4_eq] at h
  have h2 := laidMet_tail (laidMet_tail (laidMet_tail h))
  have e : (Rows.laid_internal_strconv_uint64pow10 : DataW Unit) = Lib.tabData .u64 Lib.pow10Tab := by rfl
  rw [e] at h2
  have ht := Lib.tabIs_of_head (g := 1) (t := 120) (e := 43) (n := 20) tens_named (by kernel_rfl) Tryd.underlying120 Tryd.underlying43 (by kernel_rfl) (by kernel_rfl) h2
  refine ⟨?_, ht⟩
  exact block_lt_of_cell (ht.cell tens_named 0 (by rw [Lib.pow10Tab_length]; omega))
end Go.Proofs.YtgebdkbbdabomaaDoor.Seal
