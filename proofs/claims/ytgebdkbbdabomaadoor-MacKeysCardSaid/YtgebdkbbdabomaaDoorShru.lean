/-
  THE CONTRACTS of the document's primes and Turn, of layer 3.
-/
import Derived.Test.YtgebdkbbdabomaaDoorShrr
namespace Go.Proofs.YtgebdkbbdabomaaDoor.Sha
open Go.RowKit
open Go.Proofs.YtgebdkbbdabomaaDoor.Kit
set_option linter.unusedVariables false

theorem at0_get {L : List Nat} {k : Nat} (h : k < L.length) : L[k] = at0 L k := by rw [at0, List.getD_eq_getElem?_getD, List.getElem?_eq_getElem h]; rfl
theorem at0_mem {L : List Nat} {k : Nat} (h : k < L.length) : at0 L k ∈ L := by rw [← at0_get h]; exact List.getElem_mem _
theorem take_all {L : List Nat} {k : Nat} (p : Nat) (h : k < L.length) : ((L.take (k + 1)).all fun q => p % q != 0) = ((L.take k).all (fun q => p % q != 0) && (p % at0 L k != 0)) := by
  rw [List.take_add_one, List.getElem?_eq_getElem h, at0_get h, List.all_append]
  simp
def passes (p : Nat) (L : List Nat) (k : Nat) : Bool := (L.take k).all fun q => p % q != 0
theorem passes_zero (p : Nat) (L : List Nat) : passes p L 0 = true := rfl
theorem passes_next (p : Nat) {L : List Nat} {k : Nat} (h : k < L.length) : passes p L (k + 1) = (passes p L k && (p % at0 L k != 0)) := take_all p h
theorem passes_all (p : Nat) (L : List Nat) : passes p L L.length = noneS L p := by rw [passes, List.take_length]; rfl

set_option maxRecDepth 100000 in
set_option maxHeartbeats 2000000 in
theorem primes_own (w : World) : Calls Tryd.prog 36 #[.int .i64 64] w fun e w' => ∃ A c, e = .returned (.slice A 64 c) ∧ w'.ownsRow w.heap.size 43 1 (.slice A 64 c) 64 (primes64.map uv) ∧ Below w.heap.size w w' := by
  obtain ⟨i0, hi, hz0, hz1, hz2⟩ := info_parts info64
  have hlen : (primesS 310).length = 64 := by rw [primes_all]; rfl
  go_enter Tryd.func36, Tryd.ntmps36
  go_wp2_with fail
  go_loopw [3, 4, 5, 6] (fun s i _ _ wr => ∃ (m : Nat) (A : Option Addr) (l c : Nat), m ≤ 310 ∧ l = (primesS m).length ∧ i = .int .u64 ((m : Int) + 2) ∧ s = .slice A l c ∧ wr.ownsRow w.heap.size 43 1 (.slice A l c) l ((primesS m).map uv) ∧ Below w.heap.size w wr) (fun _ i _ _ _ => (312 - intOf i).toNat)
  case atStart => exact ⟨0, _, 0, _, by omega, by rw [primesS]; rfl, rfl, rfl, by rw [primesS]; exact own_new w (Nat.le_refl _) rfl (by omega), below_of_new w _⟩
  case round =>
    obtain ⟨m, A, l, c, hm, hl, rfl, rfl, hown, hbw⟩ := hrel
    by_cases hlt : l < 64
    · have hm2 : m < 310 := by
        rcases Nat.lt_or_ge m 310 with h | h
        · exact h
        · obtain rfl : m = 310 := by omega
          rw [hlen] at hl; omega
      have t1 : decide ((l : Int) < 64) = true := by rw [decide_eq_true_iff]; omega
      obtain ⟨L, hL⟩ : ∃ L, L = primesS m := ⟨_, rfl⟩
      obtain ⟨p, hp⟩ : ∃ p, p = 2 + m := ⟨_, rfl⟩
      have htwo : ∀ k, k < l → 2 ≤ at0 L k ∧ at0 L k < 512 := fun k hk => by
        have := primes_two m (at0 L k) (by rw [hL]; exact at0_mem (by omega))
        omega
      have hnx : primesS (m + 1) = if noneS L p then L ++ [p] else L := by rw [primesS, ← hL, ← hp]
      rw [show (m : Int) + 2 = (p : Int) from by omega]
      rw [← hL] at hl hown
      have hp312 : p < 312 := by omega
      have HL := Lib.hid hl
      have HNX := Lib.hid hnx
      have HTW := Lib.hid htwo
      have HP := Lib.hid hp
      have HOWN := Lib.hid hown
      have HBW := Lib.hid hbw
      clear hL hl hp hnx htwo hown hbw hlen
      go_wp2_with fail
      go_loopw [5, 6] (fun f i wx => ∃ k : Nat, k ≤ l ∧ i = .int .i64 (k : Int) ∧ f = .bool (passes p L k) ∧ wr = wx) (fun _ i _ => l - (intOf i).toNat)
      case atStart => exact ⟨0, by omega, rfl, by rw [passes_zero], by first | rfl | trivial⟩
      case round =>
        obtain ⟨k, hk, rfl, rfl, rfl⟩ := hrel
        by_cases hltk : k < l
        · have t2 : decide ((k : Int) < (l : Int)) = true := by rw [decide_eq_true_iff]; omega
          have hq := HTW.out k hltk
          have hps := passes_next p (L := L) (k := k) (by rw [← HL.out]; exact hltk)
          have hcell := (Rd.of_own HOWN.out).2.2.2 (by omega)
          obtain ⟨b, o, rfl, hb, hc⟩ := hcell
          have hcell := hc k _ (uv_at (by rw [← HL.out]; exact hltk))
          obtain ⟨q, hq2⟩ : ∃ q, q = at0 L k := ⟨_, rfl⟩
          obtain ⟨r, hr⟩ : ∃ r, r = p % q := ⟨_, rfl⟩
          rw [← hq2] at hq hps hcell
          rw [← hr] at hps
          have hqa := hq.1
          have hqb := hq.2
          have hq0 : ((q : Int) == 0) = false := by rw [beq_eq_false_iff_ne]; omega
          have e1 : (p : Int).tmod (q : Int) = (r : Int) := by rw [hr, Int.tmod_eq_emod_of_nonneg (by omega)]; norm_cast
          have hrb : r < 512 := by have := Nat.mod_lt p (show 0 < q by omega); omega
          unfold uv at hcell
          obtain ⟨B, hB⟩ : ∃ B, B = passes p L k := ⟨_, rfl⟩
          rw [← hB] at hps ⊢
          have HPS := Lib.hid hps
          clear hq hps hc hq2 hr hB
          by_cases h0 : r = 0
          · have t3 : ((r : Int) == 0) = true := by rw [h0]; rfl
            go_wp2_with fail
            exact ⟨⟨k + 1, by omega, by go_num, by rw [HPS.out, h0]; simp, by first | rfl | trivial⟩, by simp [intOf] <;> omega⟩
          · have t3 : ((r : Int) == 0) = false := by rw [beq_eq_false_iff_ne]; omega
            have hne : (r != 0) = true := by simp [h0]
            go_wp2_with fail
            exact ⟨⟨k + 1, by omega, by go_num, by rw [HPS.out, hne, Bool.and_true], by first | rfl | trivial⟩, by simp [intOf] <;> omega⟩
        · obtain rfl : k = l := by omega
          have t2 : decide ((k : Int) < (k : Int)) = false := by simp
          have hps : passes p L k = noneS L p := by rw [HL.out, passes_all]
          have hnx := HNX.out
          rw [← hps] at hnx
          obtain ⟨B, hB⟩ : ∃ B, B = passes p L k := ⟨_, rfl⟩
          rw [← hB] at hnx ⊢
          clear hps hB
          cases B
          · have HNX2 := Lib.hid (show primesS (m + 1) = L from hnx)
            clear hnx
            go_wp2_with fail
            exact ⟨⟨m + 1, A, k, c, by omega, by rw [HNX2.out]; exact HL.out, by have := HP.out; go_num, rfl, by rw [HNX2.out]; exact HOWN.out, HBW.out⟩, by have := HP.out; simp [intOf] <;> omega⟩
          · have HNX2 := Lib.hid (show primesS (m + 1) = L ++ [p] from hnx)
            clear hnx
            go_wp2_with (at_builtin; refine wpList_app _ rfl (.tmp 28) (.tmp 30) 61 rfl w.heap.size 43 i0 _ 8 Tryd.underlying61 hi hz0 hz1 hz2 rfl _ k _ rfl (HOWN.out.alloc _) _ (some ⟨wr.heap.size, 0, none⟩) 1 1 [uv p] rfl (rd_cells wr rfl rfl rfl (by omega)) (uv_one [p]) (by omega) (by omega) (by have := HBW.out.size; simp; omega) ?_; intro A2 c2 w3 hown3 hg3 hat3)
            have hrow : L.map uv ++ [uv p] = (primesS (m + 1)).map uv := by rw [HNX2.out, List.map_append]; rfl
            have hown3' := hown3
            rw [hrow] at hown3'
            have hb3 := below_own HBW.out HOWN.out (Nat.le_refl _) hg3
            clear hown3 hg3 hat3 hrow
            go_wp2_with fail
            exact ⟨⟨m + 1, A2, k + 1, c2, by omega, by rw [HNX2.out, List.length_append, ← HL.out]; rfl, by have := HP.out; go_num, rfl, hown3', hb3⟩, by have := HP.out; simp [intOf] <;> omega⟩
    · have hm3 : m = 310 := by
        rcases Nat.lt_or_ge m 310 with h | h
        · have := primes_bound (show m ≤ 309 by omega); omega
        · omega
      subst hm3
      rw [hlen] at hl
      subst hl
      rw [primes_all] at hown
      have HOWN := Lib.hid hown
      have HBW := Lib.hid hbw
      clear hown hbw hlen
      go_wp2_with fail
      go_ret
      exact ⟨_, _, rfl, HOWN.out, HBW.out⟩

set_option maxRecDepth 100000 in
theorem turn_any (x n : UInt32) (k : Nat) (hk : n.toNat = k) (h0 : 0 < k) (h32 : k < 32) (w : World) :
    Calls Tryd.prog 61 #[.int .u32 (wi x), .int .u64 (k : Int)] w fun e w' => e = .returned (.int .u32 (wi (rotr x n))) ∧ w = w' := by
  obtain ⟨m, hm⟩ : ∃ m, m = 32 - k := ⟨_, rfl⟩
  have hsub : ((32 : UInt32) - n).toNat = m := by
    rw [UInt32.toNat_sub_of_le _ _ (by rw [UInt32.le_iff_toNat_le, hk]; show k ≤ 32; omega), hk, hm]; rfl
  obtain ⟨a, ha⟩ : ∃ a, a = x >>> n := ⟨_, rfl⟩
  obtain ⟨b, hb⟩ : ∃ b, b = x <<< (32 - n) := ⟨_, rfl⟩
  obtain ⟨r, hr⟩ : ∃ r, r = a ||| b := ⟨_, rfl⟩
  have e1 : wi x / 2 ^ k = wi a := by rw [ha]; exact w_shr x n (2 ^ k) (by omega) (by rw [hk])
  have e2 : (32 : Int) - (k : Int) = (m : Int) := by omega
  have e3 : IntKind.u32.wrap (wi x * 2 ^ m) = wi b := by rw [hb, IntKind.wrap_u32']; exact w_shl x (32 - n) (2 ^ m) (by omega) (by rw [hsub])
  have e4 : bits .or .u32 (wi a) (wi b) = wi r := by rw [hr]; exact w_or a b
  have hres : rotr x n = r := by rw [rotr, hr, ha, hb]
  have hm32 : m < 32 := by omega
  rw [hres]
  obtain ⟨X, hX⟩ : ∃ X, X = wi x := ⟨_, rfl⟩
  rw [← hX] at e1 e3 ⊢
  clear hm hsub ha hb hr hres hk hX
  go_enter Tryd.func61, Tryd.ntmps61
  go_wp2_with fail
  go_ret
  exact ⟨rfl, by first | rfl | trivial⟩
end Go.Proofs.YtgebdkbbdabomaaDoor.Sha
