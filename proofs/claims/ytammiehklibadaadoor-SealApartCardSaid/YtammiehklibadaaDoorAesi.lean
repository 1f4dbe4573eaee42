/-
  THE CONTRACT of aes's Block.
-/
import Derived.Test.YtammiehklibadaaDoorAesh
namespace Go.Proofs.YtammiehklibadaaDoor.Aes
open Go.RowKit
open Go.Proofs.YtammiehklibadaaDoor.Kit
set_option linter.unusedVariables false

theorem CipherAt.lt {w : World} {G : Nat} {key : Nat → UInt8} (h : CipherAt w G key) : G < w.heap.size := Arr.lt h
theorem CipherAt.on {w w' : World} {G B : Nat} {key : Nat → UInt8} (h : CipherAt w G key) (hb : Below B w w') (hG : G < B) : CipherAt w' G key := Arr.on h hb hG
theorem CipherAt.subs {w : World} {G : Nat} {key : Nat → UInt8} (h : CipherAt w G key) : SubsAt w G := subs_of (r := 11) (by omega) h
theorem key_facts {w : World} {G r : Nat} {key : Nat → UInt8} (h : CipherAt w G key) (hr : r < 11) : (rowOf w G (r * 16) 16).toArray = A16 (rk key r) ∧ HasRow w G (r * 16) 16 :=
  rowOf_arr (o := r * 16) (T := rk key r) h (by omega) (fun j hj => by rw [Nat.mul_comm]; exact cf_key key j r 11 hr hj)
theorem key_facts0 {w : World} {G : Nat} {key : Nat → UInt8} (h : CipherAt w G key) : (rowOf w G 0 16).toArray = A16 (rk key 0) ∧ HasRow w G 0 16 := by
  have := key_facts (r := 0) h (by omega)
  rw [Nat.zero_mul] at this
  exact this
theorem Arr.store {w : World} {g : Nat} {t : TypeId} {f : Nat → UInt8} (h : Arr w g t f 16) (T : Nat → UInt8) : Arr (w.setCells g 0 (A16 T).toList) g t T 16 := by
  rw [A16_toList]
  exact (h.setMid (T := T) (o := 0) (m := 16) (by omega)).congr fun i hi => by rw [if_pos (by omega), Nat.sub_zero]
/-- a block that is under way, in its own box; the result's box is empty -/
def BlkAt (w : World) (f : Nat → UInt8) (wr : World) : Prop := Arr wr w.heap.size 32 f 16 ∧ wr.heap[w.heap.size + 1]? = some (.cells Z16 32 (0, 0)) ∧ Below w.heap.size w wr
theorem BlkAt.facts {w wr : World} {f : Nat → UInt8} (h : BlkAt w f wr) : (rowOf wr w.heap.size 0 16).toArray = A16 f ∧ HasRow wr w.heap.size 0 16 :=
  rowOf_arr (o := 0) (T := f) h.1 (by omega) (fun j _ => by rw [Nat.zero_add])
theorem BlkAt.step {w wr w5 : World} {f : Nat → UInt8} (h : BlkAt w f wr) (hb : Below wr.heap.size wr w5) (T : Nat → UInt8) : There16 w5 w.heap.size 0 ∧ BlkAt w T (w5.setCells w.heap.size 0 (A16 T).toList) := by
  have h5 := h.1.on hb h.1.lt
  exact ⟨h5.there (by omega), h5.store T, (setCells_other (by omega) _ _ _).trans ((hb.block _ (block_lt_of_heap h.2.1)).trans h.2.1), setCells_below (h.2.2.trans (hb.mono h.2.2.size)) (Nat.le_refl _) _ _⟩
theorem BlkAt.drew {w wr : World} {f : Nat → UInt8} (h : BlkAt w f wr) : BlkAt w f wr.drew := ⟨h.1, h.2.1, below_drew' h.2.2⟩
theorem CipherAt.drew {w : World} {G : Nat} {key : Nat → UInt8} (h : CipherAt w G key) : CipherAt w.drew G key := h
theorem ag16 (f : Nat → UInt8) : Ag16 (A16 f) := ⟨A16_size _, A16_one _⟩
theorem below_one {w w' : World} (h : Below w.drew.heap.size w.drew w') : Below w.heap.size w w' := below_seq (below_of_drew ⟨1, rfl⟩ _) h

attribute [local go_sem ↓] wp_load16 wp_load16k wp_st16
attribute [local go_sem] HasRowAt_mk rowAt_mk StOk2_mk stAt_mk
set_option maxRecDepth 100000 in
set_option maxHeartbeats 2000000 in
theorem block_any (G : Nat) (key b : Nat → UInt8) (w : World) (hC : CipherAt w G key) : Calls Tryd.prog 75 #[.pointer (some ⟨G, 0, none⟩), .agg (A16 b)] w fun e w' => e = .returned (.agg (A16 (blk key b))) ∧ Below w.heap.size w w' := by
  obtain ⟨ZV, hZ⟩ : ∃ q, q = Z16 := ⟨_, rfl⟩
  have hz : ∀ w, (zeroValue 32).run Tryd.prog w = .ok (.agg ZV) w := by rw [hZ]; exact z16
  have hGlt := hC.lt
  obtain ⟨BV, hBV⟩ : ∃ q, q = A16 b := ⟨_, rfl⟩
  obtain ⟨W2, hW2⟩ : ∃ q, q = (w.alloc (.cells BV 32)).alloc (.cells ZV 32) := ⟨_, rfl⟩
  have h2 := heap2 w (.cells BV 32) (.cells ZV 32)
  have hB2 : BlkAt w b W2 := by
    refine ⟨?_, ?_, ?_⟩
    · rw [Arr, hW2, h2.1, hBV]; rfl
    · rw [hW2, h2.2, hZ]
    · rw [hW2]; exact below2 _ _ _
  obtain ⟨f1, f2⟩ := hB2.drew.facts
  obtain ⟨k1, k2⟩ := key_facts0 (hC.on hB2.2.2 hGlt).drew
  obtain ⟨KV, hKV⟩ : ∃ q, q = A16 (rk key 0) := ⟨_, rfl⟩
  obtain ⟨F1, hF1⟩ : ∃ q, q = A16 (stB key b 0) := ⟨_, rfl⟩
  have hsum : ∀ W, Calls Tryd.prog 85 #[.agg BV, .agg KV] W fun e w' => e = .returned (.agg F1) ∧ Below W.heap.size W w' := fun W => by
    rw [hBV, hKV, hF1]; exact sum_any b (rk key 0) W
  rw [← hBV] at f1
  rw [← hKV] at k1
  rw [← hBV]
  have a1 : Ag16 F1 := by rw [hF1]; exact ag16 _
  have HSUM := Lib.hid hsum
  have HB2 := Lib.hid hB2
  have HF1 := Lib.hid hF1
  have HW2 := Lib.hid hW2
  have HZ := Lib.hid hZ
  have HC := Lib.hid hC
  clear hZ hW2 h2 hB2 hKV hF1 hsum hBV hC
  go_enter Tryd.func75, Tryd.ntmps75
  go_wp2_with fail
  rw [← HW2.out]
  go_region_law ((first
    | (go_simp; go_at_call 85; refine (HSUM.out _).mono ?_; rintro e w3 ⟨rfl, hb3⟩; have hs3 := HB2.out.step (below_one hb3) (stB key b 0); rw [← HF1.out] at hs3; have hth := hs3.1)))
  all_goals
    have HS3 := Lib.hid hs3.2
    clear hs3 hth hb3 f1 f2 k1 k2
    go_wp2_with fail
    go_loopw [5, 13] (fun _ i wr => ∃ r : Nat, r ≤ 10 ∧ i = .int .i64 r ∧ BlkAt w (stB key b r) wr) (fun _ i _ => 10 - (intOf i).toNat)
    case atStart => exact ⟨0, by omega, rfl, HS3.out⟩
    case round =>
      clear a1
      obtain ⟨r, hr, rfl, hB⟩ := hrel
      by_cases hltr : r < 10
      · obtain ⟨r1, hr1⟩ : ∃ q, q = r + 1 := ⟨_, rfl⟩
        have e1 : IntKind.i64.wrap ((r : Int) + 1) = (r1 : Int) := wrap_nm (by omega) (by omega)
        have l2 : (r1 : Int) < 11 := by omega
        obtain ⟨f, hf⟩ : ∃ f, f = stB key b r := ⟨_, rfl⟩
        rw [← hf] at hB
        obtain ⟨F0, hF0⟩ : ∃ q, q = A16 f := ⟨_, rfl⟩
        obtain ⟨f1, f2⟩ := hB.facts
        rw [← hF0] at f1
        obtain ⟨F2, hF2⟩ : ∃ q, q = A16 (shB f) := ⟨_, rfl⟩
        have a2 : Ag16 F2 := by rw [hF2]; exact ag16 _
        have hsh : Calls Tryd.prog 86 #[.pointer (some ⟨G, 0, none⟩), .agg F0] wr fun e w' => e = .returned (.agg F2) ∧ Below wr.heap.size wr w' := by
          rw [hF0, hF2]; exact shifted_any G f wr (HC.out.on hB.2.2 hGlt).subs
        have HSH := Lib.hid hsh
        have HB := Lib.hid hB
        have HR1 := Lib.hid hr1
        have HF := Lib.hid hf
        have HF2 := Lib.hid hF2
        clear hr1 hf hF0 hF2 hsh hB
        by_cases h9 : r < 9
        · have t9 : (r : Int) < 9 := by omega
          go_wp2_with fail
          refine HSH.out.mono ?_
          rintro e w5 ⟨rfl, hb5⟩
          have hs5 := HB.out.step hb5 (shB f)
          obtain ⟨f3, f4⟩ := hs5.2.facts
          rw [← HF2.out] at hs5 f3 f4
          have th5 := hs5.1
          obtain ⟨F3, hF3⟩ : ∃ q, q = A16 (mixB (shB f)) := ⟨_, rfl⟩
          have a3 : Ag16 F3 := by rw [hF3]; exact ag16 _
          have hmx : ∀ W, Calls Tryd.prog 87 #[.agg F2] W fun e w' => e = .returned (.agg F3) ∧ Below W.heap.size W w' := fun W => by
            rw [HF2.out, hF3]; exact mixed_any (shB f) W
          have HMX := Lib.hid hmx
          have HB5 := Lib.hid hs5.2
          have HF3 := Lib.hid hF3
          clear hs5 hb5 hmx hF3
          go_wp2_with fail
          refine (HMX.out _).mono ?_
          rintro e w6 ⟨rfl, hb6⟩
          have hs6 := HB5.out.step hb6 (mixB (shB f))
          obtain ⟨f5, f6⟩ := hs6.2.drew.facts
          rw [← HF3.out] at hs6 f5 f6
          have th6 := hs6.1
          obtain ⟨k1, k2⟩ := key_facts (r := r1) (HC.out.on hs6.2.2.2 hGlt).drew (by omega)
          obtain ⟨K1, hK1⟩ : ∃ q, q = A16 (rk key r1) := ⟨_, rfl⟩
          rw [← hK1] at k1
          skip
          obtain ⟨F4, hF4⟩ : ∃ q, q = A16 (stB key b r1) := ⟨_, rfl⟩
          have a4 : Ag16 F4 := by rw [hF4]; exact ag16 _
          have hst : stB key b r1 = sumB (mixB (shB f)) (rk key r1) := by rw [HR1.out, stB, if_pos h9, ← HF.out]
          have hsm : ∀ W, Calls Tryd.prog 85 #[.agg F3, .agg K1] W fun e w' => e = .returned (.agg F4) ∧ Below W.heap.size W w' := fun W => by
            rw [HF3.out, hK1, hF4, hst]; exact sum_any _ _ W
          have HSM := Lib.hid hsm
          have HB6 := Lib.hid hs6.2
          have HF4 := Lib.hid hF4
          clear hs6 hb6 hsm hst hF4 hK1
          go_wp2_with fail
          go_region_law ((first
            | (go_simp; go_at_call 85; refine (HSM.out _).mono ?_; rintro e w7 ⟨rfl, hb7⟩; have hs7 := HB6.out.step (below_one hb7) (stB key b r1); rw [← HF4.out] at hs7; have th7 := hs7.1)))
          all_goals
            have HS7 := Lib.hid hs7.2
            clear hs7 th7 th6 hb7 f5 f6 k1 k2
            go_wp2_with fail
            have hr2 := HR1.out
            exact ⟨⟨r1, by omega, rfl, HS7.out⟩, by simp [intOf]; omega⟩
        · have t9 : decide ((r : Int) < 9) = false := by simp; omega
          go_wp2_with fail
          refine HSH.out.mono ?_
          rintro e w6 ⟨rfl, hb6⟩
          have hs6 := HB.out.step hb6 (shB f)
          obtain ⟨f5, f6⟩ := hs6.2.drew.facts
          rw [← HF2.out] at hs6 f5 f6
          have th6 := hs6.1
          obtain ⟨k1, k2⟩ := key_facts (r := r1) (HC.out.on hs6.2.2.2 hGlt).drew (by omega)
          obtain ⟨K1, hK1⟩ : ∃ q, q = A16 (rk key r1) := ⟨_, rfl⟩
          rw [← hK1] at k1
          skip
          obtain ⟨F4, hF4⟩ : ∃ q, q = A16 (stB key b r1) := ⟨_, rfl⟩
          have a4 : Ag16 F4 := by rw [hF4]; exact ag16 _
          have hst : stB key b r1 = sumB (shB f) (rk key r1) := by rw [HR1.out, stB, if_neg h9, ← HF.out]
          have hsm : ∀ W, Calls Tryd.prog 85 #[.agg F2, .agg K1] W fun e w' => e = .returned (.agg F4) ∧ Below W.heap.size W w' := fun W => by
            rw [HF2.out, hK1, hF4, hst]; exact sum_any _ _ W
          have HSM := Lib.hid hsm
          have HB6 := Lib.hid hs6.2
          have HF4 := Lib.hid hF4
          clear hs6 hb6 hsm hst hF4 hK1
          go_wp2_with fail
          go_region_law ((first
            | (go_simp; go_at_call 85; refine (HSM.out _).mono ?_; rintro e w7 ⟨rfl, hb7⟩; have hs7 := HB6.out.step (below_one hb7) (stB key b r1); rw [← HF4.out] at hs7; have th7 := hs7.1)))
          all_goals
            have HS7 := Lib.hid hs7.2
            clear hs7 th7 th6 hb7 f5 f6 k1 k2
            go_wp2_with fail
            have hr2 := HR1.out
            exact ⟨⟨r1, by omega, rfl, HS7.out⟩, by simp [intOf]; omega⟩
      · obtain rfl : r = 10 := by omega
        obtain ⟨PV, hPV⟩ : ∃ q, q = A16 (blk key b) := ⟨_, rfl⟩
        have hPs : PV.size = 16 := by rw [hPV, A16_size]
        have hI : (Tryd.prog.info? 32).map (·.size) = some PV.size := by rw [hPs]; exact info16
        have hP1 : PV.all (·.oneCell') = true := by rw [hPV, A16_one]
        have hg2 : wr.heap[w.heap.size]? = some (.cells PV 32 (0, 0)) := by rw [hPV]; exact hB.1
        have hgz := hB.2.1
        rw [← HZ.out] at hgz
        have hzl : ZV.size = 16 := by rw [HZ.out]; rfl
        have HI := Lib.hid hI
        have HP1 := Lib.hid hP1
        have HPS := Lib.hid hPs
        have HZL := Lib.hid hzl
        have HPV := Lib.hid hPV
        have hbw := hB.2.2
        have HG2 := Lib.hid hg2
        have HGZ := Lib.hid hgz
        obtain ⟨f1, f2⟩ := hB.facts
        have f1' : (rowOf wr w.heap.size 0 16).toArray = PV := by rw [f1, hPV]; rfl
        have th : There16 wr (w.heap.size + 1) 0 := by
          have h : Arr wr (w.heap.size + 1) 32 (fun _ => 0) 16 := hB.2.1
          exact h.there (by omega)
        have hres : (wr.setCells (w.heap.size + 1) 0 PV.toList).heap[w.heap.size + 1]? = some (.cells PV 32 (0, 0)) := by
          have h : Arr wr (w.heap.size + 1) 32 (fun _ => 0) 16 := hB.2.1
          rw [hPV]
          exact h.store (blk key b)
        have HRES := Lib.hid hres
        have hap : Ag16 PV := by rw [hPV]; exact ag16 _
        clear hPs hI hP1 hzl hPV hB hg2 hgz f1 hres
        go_wp2_with fail
        refine bodyPost_ret (v := .agg PV) (results_cell_row Tryd.results75 _ _ (w.heap.size + 1) 32 PV (0, 0) _ (by rfl) HRES.out Tryd.underlying32 rfl HI.out) rfl ?_
        exact ⟨by rw [HPV.out], setCells_below hbw (by omega) _ _⟩
end Go.Proofs.YtammiehklibadaaDoor.Aes
