/-
  THE CONTRACT of the document's Ks, of layer 3.
-/
import Derived.Test.YtgebdkbbdabomaaDoorShrv
namespace Go.Proofs.YtgebdkbbdabomaaDoor.Sha
open Go.RowKit
open Go.Proofs.YtgebdkbbdabomaaDoor.Kit
set_option linter.unusedVariables false

theorem cube_at (k : Nat) (hk : k < 64) : cubeS (at0 primes64 k) 36 % 4294967296 = (wd shaK k).toNat := by
  have h := congrArg (fun l : List Nat => l[k]?) cubes_all
  simp only [List.getElem?_map] at h
  rw [List.getElem?_eq_getElem (show k < primes64.length from hk), List.getElem?_eq_getElem (show k < shaK.length from hk)] at h
  simp only [Option.map_some, Option.some.injEq] at h
  rw [at0_get (show k < primes64.length from hk)] at h
  rw [h, wd, List.getD_eq_getElem?_getD, List.getElem?_eq_getElem (show k < shaK.length from hk)]; rfl
theorem at0_prime (k : Nat) (hk : k < 64) : at0 primes64 k < 512 := by
  have h := primes_two 310 (at0 primes64 k) (by rw [primes_all]; exact at0_mem (show k < primes64.length from hk))
  omega
theorem shaK_take (k : Nat) (hk : k < 64) : (shaK.take k).map wv ++ [wv (wd shaK k)] = (shaK.take (k + 1)).map wv := by
  rw [List.take_add_one, List.getElem?_eq_getElem (show k < shaK.length from hk), List.map_append, wd, List.getD_eq_getElem?_getD, List.getElem?_eq_getElem (show k < shaK.length from hk)]; rfl

set_option maxRecDepth 100000 in
set_option maxHeartbeats 2000000 in
theorem ks_own (w : World) : Calls Tryd.prog 12 #[] w fun e w' => ∃ A c, e = .returned (.slice A 64 c) ∧ w'.ownsRow w.heap.size 63 1 (.slice A 64 c) 64 (shaK.map wv) ∧ Below w.heap.size w w' := by
  obtain ⟨i0, hi, hz0, hz1, hz2⟩ := info_parts info32
  go_enter Tryd.func12, Tryd.ntmps12
  go_wp2_with fail
  refine (primes_own w).mono ?_
  rintro e w1 ⟨Ap, cp, rfl, hp, hb1⟩
  have hrp := Rd.of_own hp
  obtain ⟨bp, op, rfl, hbp, hcp⟩ := hrp.2.2.2 (by omega)
  have HCP := Lib.hid (show ∀ W, Below w1.heap.size w1 W → ∀ j, j < 64 → W.cell? ⟨bp, op + j, none⟩ = some (.int .u64 ((at0 primes64 j : Nat) : Int)) from fun W h j hj => (h.cell (p := ⟨bp, op + j, none⟩) hbp).trans (hcp j _ (uv_at (show j < primes64.length from hj))))
  have HB1 := Lib.hid hb1
  clear hp hb1 hrp hcp
  go_wp2_with fail
  go_loopw [2, 3] (fun s i wr => ∃ (k : Nat) (A : Option Addr) (c : Nat), k ≤ 64 ∧ i = .int .i64 (k : Int) ∧ s = .slice A k c ∧ wr.ownsRow w1.heap.size 63 1 (.slice A k c) k ((shaK.take k).map wv) ∧ Below w1.heap.size w1 wr) (fun _ i _ => 64 - (intOf i).toNat)
  case atStart => exact ⟨0, _, _, by omega, rfl, rfl, own_new w1 (Nat.le_refl _) rfl (by omega), below_of_new w1 _⟩
  case round =>
    obtain ⟨k, A, c, hk, rfl, rfl, hown, hbw⟩ := hrel
    by_cases hlt : k < 64
    · have t1 : decide ((k : Int) < 64) = true := by rw [decide_eq_true_iff]; omega
      have c1 := HCP.out wr hbw k hlt
      have hcu := cube_at k hlt
      have hp512 := at0_prime k hlt
      obtain ⟨p, hp⟩ : ∃ p, p = at0 primes64 k := ⟨_, rfl⟩
      rw [← hp] at c1 hcu hp512
      have hcall : ∀ W, Calls Tryd.prog 37 #[.int .u64 (p : Int)] W fun e w' => e = .returned (.int .u32 (wi (wd shaK k))) ∧ Below W.heap.size W w' := fun W => by
        have := cube_any p W (by omega)
        rw [hcu] at this
        exact this
      obtain ⟨K, hK⟩ : ∃ z, z = wd shaK k := ⟨_, rfl⟩
      have hrow := shaK_take k hlt
      rw [← hK] at hcall hrow
      have HCALL := Lib.hid hcall
      have HROW := Lib.hid hrow
      have HOWN := Lib.hid hown
      have HBW := Lib.hid hbw
      clear hp hK hcall hrow hown hbw hcu
      go_wp2_with fail
      refine (HCALL.out _).mono ?_
      rintro e w2 ⟨rfl, hb2⟩
      have HO2 := Lib.hid (own_on HOWN.out hb2)
      have HB2 := Lib.hid (below_seq HBW.out hb2)
      clear hb2
      go_wp2_with (at_builtin; refine wpList_app _ rfl (.tmp 10) (.tmp 16) 27 rfl w1.heap.size 63 i0 _ 4 Tryd.underlying27 hi hz0 hz1 hz2 rfl _ k _ rfl (HO2.out.alloc _) _ (some ⟨w2.heap.size, 0, none⟩) 1 1 [wv K] rfl (rd_cells w2 rfl rfl rfl (by omega)) (wv_one [K]) (by omega) (by omega) (by have := HB2.out.size; simp; omega) ?_; intro A2 c2 w3 hown3 hg3 hat3)
      have hown3' := hown3
      rw [HROW.out] at hown3'
      have hb3 := below_own HB2.out HO2.out (Nat.le_refl _) hg3
      clear hown3 hg3 hat3
      go_wp2_with fail
      exact ⟨⟨k + 1, A2, c2, by omega, by go_num, rfl, hown3', hb3⟩, by simp [intOf] <;> omega⟩
    · obtain rfl : k = 64 := by omega
      have e : shaK.take 64 = shaK := rfl
      rw [e] at hown
      have hown' := World.ownsRow.mono hown HB1.out.size
      have HOWN := Lib.hid hown'
      have HBW := Lib.hid (below_seq HB1.out hbw)
      rw [show ((64 : Nat) : Int) = 64 from rfl]
      clear hown hbw hown' e
      go_wp2_with fail
      go_ret
      exact ⟨_, _, rfl, HOWN.out, HBW.out⟩
end Go.Proofs.YtgebdkbbdabomaaDoor.Sha
