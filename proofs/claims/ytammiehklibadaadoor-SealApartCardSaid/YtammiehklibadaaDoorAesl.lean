/-
  THE CONTRACT of aes's Stream.
-/
import Derived.Test.YtammiehklibadaaDoorAesj
import Derived.Outline
import Derived.Deep.OwnRows
namespace Go.Proofs.YtammiehklibadaaDoor.Aes
open Go.RowKit
open Go.Proofs.YtammiehklibadaaDoor.Kit
set_option linter.unusedVariables false

theorem info5a : (Tryd.prog.info? 5).map (fun i => (i.zero, i.size, i.bytes)) = some (some (.int .u8 0), 1, 1) := by kernel_rfl
theorem info5b : (Tryd.prog.info? 5).map (·.size) = some 1 := by kernel_rfl
def minI (x y : Int) : Int := if y < x then y else x
theorem run_min2 {P : Program} {w : World} (ts : Array TypeId) (t : TypeId) (k k' : IntKind) (x y : Int) : (Builtin.min_ ts t #[.int k x, .int k' y]).run P w = .ok (.int k (minI x y)) w := run_min_int2 w ts t k k' x y
/-- what each byte becomes -/
def strT (key n : Nat → UInt8) (bs : List UInt8) : Nat → UInt8 := fun i => at_ bs i ^^^ blk key (ctr n (i / 16)) (i % 16)
theorem strF_row (key n : Nat → UInt8) (bs : List UInt8) : strF key n bs = row (strT key n bs) bs.length := rfl
theorem arr_facts {w : World} {g : Nat} {t : TypeId} {f : Nat → UInt8} (h : Arr w g t f 16) : (rowOf w g 0 16).toArray = A16 f ∧ HasRow w g 0 16 :=
  rowOf_arr (o := 0) (T := f) h (by omega) (fun j _ => by rw [Nat.zero_add])

attribute [local go_sem high] run_min2
attribute [local go_sem ↓] wp_load16 wp_load16k wp_st16
attribute [local go_sem] HasRowAt_mk rowAt_mk StOk2_mk stAt_mk
set_option maxRecDepth 100000 in
set_option maxHeartbeats 2000000 in
theorem stream_any (G : Nat) (key from_ : Nat → UInt8) (A : Option Addr) (n c : Nat) (bs : List UInt8) (w : World) (hC : CipherAt w G key) (hb : RdB w w.heap.size A n c bs) (hn : n ≤ 1000000000) :
    Calls Tryd.prog 60 #[.pointer (some ⟨G, 0, none⟩), .agg (A16 from_), .slice A n c] w fun e w' => ∃ S, e = .returned (.slice (some ⟨S, 0, none⟩) n n) ∧ w.heap.size ≤ S ∧ Arr w' S 5 (strT key from_ bs) n ∧ Below w.heap.size w w' := by
  obtain ⟨ZV, hZ⟩ : ∃ q, q = Z16 := ⟨_, rfl⟩
  have hz : ∀ w, (zeroValue 32).run Tryd.prog w = .ok (.agg ZV) w := by rw [hZ]; exact z16
  have hGlt := hC.lt
  have hl := hb.len
  have hr := hb.room
  have hmk : ∀ W : World, (Instr.makeSlice 22 (.int .i64 (n : Int)) (.int .i64 (n : Int))).run Tryd.prog W = .ok (.slice (some ⟨W.heap.size, 0, none⟩) n n) (W.alloc (.cells (madeCells #[.int .u8 0] n) 5)) := fun W =>
    run_make_row' 22 5 (.int .u8 0) 1 Tryd.underlying22 info5a rfl .i64 .i64 n (by omega) (by omega) W
  obtain ⟨BV, hBV⟩ : ∃ q, q = A16 from_ := ⟨_, rfl⟩
  obtain ⟨S, hS⟩ : ∃ S, S = w.heap.size + 1 := ⟨_, rfl⟩
  obtain ⟨MC, hMC⟩ : ∃ q, q = madeCells #[.int .u8 0] n := ⟨_, rfl⟩
  have hMr : MC = ((row (fun _ => 0) n).map bv).toArray := by
    rw [hMC, row_const]
    apply Array.toList_inj.1
    rw [toList_madeCells_one]
  rw [← hMC] at hmk
  obtain ⟨W2, hW2⟩ : ∃ q, q = (w.alloc (.cells BV 32)).alloc (.cells MC 5) := ⟨_, rfl⟩
  have h2 := heap2 w (.cells BV 32) (.cells MC 5)
  have hbw2 : Below w.heap.size w W2 := by rw [hW2]; exact below2 _ _ _
  have hf2 : Arr W2 w.heap.size 32 from_ 16 := by rw [Arr, hW2, h2.1, hBV]; rfl
  have hz2 : Arr W2 S 5 (fun _ => 0) n := by rw [Arr, hW2, hS, h2.2, hMr]
  obtain ⟨ZL, hZL⟩ : ∃ q, q = (row (fun _ => 0) n).map bv := ⟨_, rfl⟩
  have hzl : ZL.length = n := by rw [hZL, List.length_map, row_len]
  have hg2 : W2.heap[S]? = some (.cells ZL.toArray 5 (0, 0)) := by rw [hZL]; exact hz2
  have hb2 := hb.on hbw2
  obtain ⟨BL, hBL⟩ : ∃ q, q = bs.map bv := ⟨_, rfl⟩
  have hbl : BL.length = n := by rw [hBL, List.length_map, hl]
  have hbo : ∀ v ∈ BL, v.oneCell' = true := by rw [hBL]; exact fun v hv => bv_one _ v hv
  have hpos : 0 < BL.length → some (⟨S, 0, none⟩ : Addr) = some ⟨S, 0, none⟩ ∧ ∃ ad, A = some ad ∧ ∀ j v, BL[j]? = some v → W2.cell? (ad.add j) = some v := fun h0 => by
    obtain ⟨b2, o2, e, _, hc⟩ := hb2.2.2.2 (by omega)
    refine ⟨rfl, _, e, fun j v hv => ?_⟩
    rw [add_off]
    rw [hBL] at hv
    exact hc j v hv
  have hsp : splice ZL 0 BL = (row (at_ bs) n).map bv := by
    rw [row_of bs hl, splice, List.take_zero, List.nil_append, Nat.zero_add, List.drop_eq_nil_of_le (by omega), List.append_nil, hBL]
  have HG2 := Lib.hid hg2
  have HPOS := Lib.hid hpos
  have HBL := Lib.hid hbl
  have HBO := Lib.hid hbo
  have HSP := Lib.hid hsp
  have HZLL := Lib.hid hzl
  have HF2 := Lib.hid hf2
  have HBW2 := Lib.hid hbw2
  have HW2 := Lib.hid hW2
  have HZ := Lib.hid hZ
  have HC := Lib.hid hC
  have HS := Lib.hid hS
  rw [← hBV]
  have hzs : w.heap.size < S := by omega
  clear hZ hW2 h2 hbw2 hf2 hz2 hZL hzl hg2 hb2 hbl hbo hpos hsp hMr hMC hBV hC hb hl hBL hS
  go_enter Tryd.func60, Tryd.ntmps60
  go_wp2_with (first
    | ((rw [← HW2.out, ← HS.out]; refine wpList_copy_splice rfl (.tmp 14) (.tmp 15) 22 22 rfl 5 Tryd.underlying22 info5b (some ⟨S, 0, none⟩) A n n n c rfl rfl S 0 ZL 5 HG2.out BL (by rw [HBL.out]; exact (Nat.min_self n).symm) HPOS.out (by rw [HBL.out, HZLL.out]; omega) HBO.out S _ (Below.refl _ _) (Nat.le_refl _) ?_)
       intro w3 hg3h hbl3
       have hg3 := hg3h.out
       rw [HSP.out] at hg3
       clear hg3h)
    | fail)
  have hf3 := HF2.out.on hbl3 hzs
  have ha3 : Arr w3 S 5 (upto 0 (strT key from_ bs) (at_ bs)) n := by rw [upto_zero]; exact hg3
  have hb3 : Below w.heap.size w w3 := HBW2.out.trans (hbl3.mono (by omega))
  have HF3 := Lib.hid hf3
  have HA3 := Lib.hid ha3
  have HB3 := Lib.hid hb3
  clear hf3 ha3 hb3 hg3 hbl3
  go_loopw [8, 9, 10, 31] (fun p _ _ _ wr => ∃ m : Nat, 16 * m < n + 16 ∧ p = .int .i64 ((16 * m : Nat) : Int) ∧ Arr wr w.heap.size 32 (ctr from_ m) 16 ∧ Arr wr S 5 (upto (16 * m) (strT key from_ bs) (at_ bs)) n ∧ Below w.heap.size w wr) (fun p _ _ _ _ => (n + 16) - (intOf p).toNat)
  case atStart => exact ⟨0, by omega, rfl, HF3.out, HA3.out, HB3.out⟩
  case round =>
    clear HF3 HA3 HB3 HF2 HBW2 HW2 HG2 HPOS HBL HBO HSP HZLL
    obtain ⟨m, hm, rfl, hfm, hsm, hbw⟩ := hrel
    obtain ⟨p, hp⟩ : ∃ p, p = 16 * m := ⟨_, rfl⟩
    rw [← hp] at hm hsm ⊢
    by_cases hlt : p < n
    · obtain ⟨d, hd⟩ : ∃ d, d = n - p := ⟨_, rfl⟩
      obtain ⟨q, hq⟩ : ∃ q, q = min 16 d := ⟨_, rfl⟩
      have e1 : IntKind.i64.wrap ((n : Int) - (p : Int)) = (d : Int) := wrap_nm (by omega) (by omega)
      have e1' : (n : Int) - (p : Int) = (d : Int) := by omega
      have e2 : minI 16 (d : Int) = (q : Int) := by unfold minI; split <;> omega
      have hq16 : q ≤ 16 ∧ p + q ≤ n := by omega
      obtain ⟨F0, hF0⟩ : ∃ q, q = A16 (ctr from_ m) := ⟨_, rfl⟩
      obtain ⟨f1, f2⟩ := arr_facts hfm
      rw [← hF0] at f1
      obtain ⟨KV, hKV⟩ : ∃ q, q = A16 (blk key (ctr from_ m)) := ⟨_, rfl⟩
      have a1 : Ag16 KV := by rw [hKV]; exact ag16 _
      have hblk : Calls Tryd.prog 75 #[.pointer (some ⟨G, 0, none⟩), .agg F0] wr fun e w' => e = .returned (.agg KV) ∧ Below wr.heap.size wr w' := by
        rw [hF0, hKV]; exact block_any G key (ctr from_ m) wr (HC.out.on hbw hGlt)
      have HBLK := Lib.hid hblk
      have HP := Lib.hid hp
      have HD := Lib.hid (And.intro hd hq)
      have HKV := Lib.hid hKV
      have HF0 := Lib.hid hF0
      have HFM := Lib.hid hfm
      have HSM := Lib.hid hsm
      have HBW := Lib.hid hbw
      have hSlt := hsm.lt
      clear hp hd hq hKV hF0 hblk hfm hsm hbw
      go_wp2_with fail
      refine HBLK.out.mono ?_
      rintro e w5 ⟨rfl, hb5⟩
      have hz5 := hb5.size
      obtain ⟨Kb, hKb⟩ : ∃ q, q = w5.heap.size := ⟨_, rfl⟩
      obtain ⟨W6, hW6⟩ : ∃ q, q = w5.alloc (.cells ZV 32) := ⟨_, rfl⟩
      have hk6 : Arr W6 Kb 32 (fun _ => 0) 16 := by rw [Arr, hW6, hKb, heap_alloc_new, HZ.out]; rfl
      have th6 : There16 W6 Kb 0 := hk6.there (by omega)
      have hb56 : Below w5.heap.size w5 W6 := by rw [hW6]; exact below_of_new _ _
      have hbl : Below wr.heap.size wr W6 := below_seq hb5 hb56
      have hbl7 : Below wr.heap.size wr (W6.setCells Kb 0 KV.toList) := setCells_below hbl (by omega) _ _
      have hk7 : Arr (W6.setCells Kb 0 KV.toList) Kb 32 (blk key (ctr from_ m)) 16 := by rw [HKV.out]; exact hk6.store _
      have hwl := HBW.out.size
      have hf7 := HFM.out.on hbl7 (by omega)
      have hs7 := HSM.out.on hbl7 hSlt
      have hb7 := HBW.out.trans (hbl7.mono hwl)
      have th6' : There16 (w5.alloc (.cells ZV 32)) w5.heap.size 0 := by rw [← hW6, ← hKb]; exact th6
      have HW6 := Lib.hid hW6
      have HKb := Lib.hid hKb
      have hKbS : S < Kb := by omega
      have HK7 := Lib.hid hk7
      have HF7 := Lib.hid hf7
      have HS7 := Lib.hid hs7
      have HB7 := Lib.hid hb7
      clear hW6 hKb hk6 hb56 hbl hbl7 hk7 hf7 hs7 hb7 hb5 f1 f2
      go_wp2_with fail
      rw [← HW6.out, ← HKb.out]
      obtain ⟨W7, hW7⟩ : ∃ q, q = W6.setCells Kb 0 KV.toList := ⟨_, rfl⟩
      rw [← hW7] at HK7 HF7 HS7 HB7 ⊢
      clear hW7 th6 th6' HW6 HKb hwl hz5 HBLK HFM HSM HBW hSlt e1 e1' e2 a1
      obtain ⟨wo, hwo⟩ : ∃ wo : World, wo = wr := ⟨_, rfl⟩
      clear hwo
      go_loopw [10, 31] (fun _ i wi => ∃ j : Nat, j ≤ q ∧ i = .int .i64 j ∧ Arr wi S 5 (upto (p + j) (strT key from_ bs) (at_ bs)) n ∧ Arr wi Kb 32 (blk key (ctr from_ m)) 16 ∧ Arr wi w.heap.size 32 (ctr from_ m) 16 ∧ Below w.heap.size w wi) (fun _ i _ => q - (intOf i).toNat)
      case atStart => exact ⟨0, by omega, rfl, by rw [Nat.add_zero]; exact HS7.out, HK7.out, HF7.out, HB7.out⟩
      case round =>
        clear HK7 HF7 HS7 HB7
        obtain ⟨j, hj, rfl, hs8, hk8, hf8, hb8⟩ := hrel
        by_cases hltj : j < q
        · obtain ⟨pj, hpj⟩ : ∃ q, q = p + j := ⟨_, rfl⟩
          have e3 : IntKind.i64.wrap ((p : Int) + (j : Int)) = (pj : Int) := wrap_nm (by omega) (by omega)
          have l1 : (pj : Int) < (n : Int) := by omega
          have l2 : (j : Int) < 16 := by omega
          have l1' : pj < n := by omega
          obtain ⟨x, hx⟩ : ∃ x, x = at_ bs pj := ⟨_, rfl⟩
          obtain ⟨y, hy⟩ : ∃ x, x = blk key (ctr from_ m) j := ⟨_, rfl⟩
          obtain ⟨v, hv⟩ : ∃ u, u = x ^^^ y := ⟨_, rfl⟩
          have y1 := xor_nm hv
          have c1 := hs8.cell (show pj < n by omega)
          rw [upto_ge _ _ (by omega), ← hx] at c1
          have c2 := hk8.cell (show j < 16 by omega)
          rw [← hy] at c2
          have f1 := hs8.frozen pj
          have hT : strT key from_ bs (p + j) = v := by
            rw [strT, show (p + j) / 16 = m from by have := HP.out; omega, show (p + j) % 16 = j from by have := HP.out; omega, ← hpj, ← hx, ← hy, ← hv]
          have hs1 : Arr (wr.setCell ⟨S, pj, none⟩ (.int .u8 (v.toNat : Int))) S 5 (upto (p + (j + 1)) (strT key from_ bs) (at_ bs)) n := by
            have := hs8.set (show p + j < n by omega)
            rw [hT, ← hpj] at this
            rw [← Nat.add_assoc, ← hpj]
            exact this
          have hs2 : Arr (wr.setCell ⟨S, pj, none⟩ (.int .u8 (v.toNat : Int))) Kb 32 (blk key (ctr from_ m)) 16 := hk8.block (heap_setCell_other _ _ _ _ (by simp; omega))
          have hs3 : Arr (wr.setCell ⟨S, pj, none⟩ (.int .u8 (v.toNat : Int))) w.heap.size 32 (ctr from_ m) 16 := hf8.block (heap_setCell_other _ _ _ _ (by simp; omega))
          have hs4 : Below w.heap.size w (wr.setCell ⟨S, pj, none⟩ (.int .u8 (v.toNat : Int))) := hb8.setCell (by simp; omega) _
          have HS1 := Lib.hid hs1
          have HS2 := Lib.hid hs2
          have HS3 := Lib.hid hs3
          have HS4 := Lib.hid (below_drew' hs4)
          clear hpj hx hy hv hT hs1 hs2 hs3 hs4 hs8 hk8 hf8 hb8
          go_wp2_with fail
          refine wp_region_still_tail 11 (by kernel_rfl) (by kernel_rfl) ?_
          simp only [List.take_succ_cons, List.take_zero, List.drop_succ_cons, List.drop_zero]
          repeat still_step
          refine wpStill_nil ?_
          go_wp2_with fail
          exact ⟨⟨j + 1, by omega, by go_num, HS1.out, HS2.out, HS3.out, HS4.out⟩, by simp [intOf]; omega⟩
        · obtain rfl : j = q := by omega
          obtain ⟨p2, hp2⟩ : ∃ q, q = p + 16 := ⟨_, rfl⟩
          have e4 : IntKind.i64.wrap ((p : Int) + 16) = (p2 : Int) := wrap_nm (by omega) (by omega)
          have e4' : (p : Int) + 16 = (p2 : Int) := by omega
          obtain ⟨f3, f4⟩ := arr_facts hf8
          rw [← HF0.out] at f3
          obtain ⟨F1, hF1⟩ : ∃ q, q = A16 (ctr from_ (m + 1)) := ⟨_, rfl⟩
          have a2 : Ag16 F1 := by rw [hF1]; exact ag16 _
          have haf : Calls Tryd.prog 76 #[.agg F0] wr fun e w' => e = .returned (.agg F1) ∧ Below wr.heap.size wr w' := by
            rw [HF0.out, hF1]; exact after_any (ctr from_ m) wr
          have hfin : ∀ w9, Below wr.heap.size wr w9 → There16 w9 w.heap.size 0 ∧ Arr (w9.setCells w.heap.size 0 F1.toList) w.heap.size 32 (ctr from_ (m + 1)) 16 ∧ Arr (w9.setCells w.heap.size 0 F1.toList) S 5 (upto (16 * (m + 1)) (strT key from_ bs) (at_ bs)) n ∧ Below w.heap.size w (w9.setCells w.heap.size 0 F1.toList) := fun w9 h9 => by
            have h1 := hf8.on h9 hf8.lt
            have h2 := hs8.on h9 hs8.lt
            refine ⟨h1.there (by omega), by rw [hF1]; exact h1.store _, ?_, setCells_below (hb8.trans (h9.mono hb8.size)) (Nat.le_refl _) _ _⟩
            refine (h2.block (setCells_other (by omega) _ _ _)).congr fun i hi => ?_
            have h3 := HP.out
            have h4 := HD.out
            unfold upto
            by_cases h5 : i < p + j
            · rw [if_pos h5, if_pos (by omega)]
            · rw [if_neg h5, if_neg (by omega)]
          have HAF := Lib.hid haf
          have HFIN := Lib.hid hfin
          have HP2 := Lib.hid hp2
          clear hF1 haf hfin hs8 hk8 hf8 hb8 hp2
          go_wp2_with fail
          refine HAF.out.mono ?_
          rintro e w9 ⟨rfl, hb9⟩
          have hF := HFIN.out w9 hb9
          have th9 := hF.1
          have HF9 := Lib.hid hF.2
          clear hF hb9 f3 f4
          go_wp2_with fail
          have h3 := HP.out
          have h4 := HP2.out
          exact ⟨⟨m + 1, by omega, by rw [show p2 = 16 * (m + 1) from by omega], HF9.out.1, HF9.out.2.1, HF9.out.2.2⟩, by simp [intOf]; omega⟩
    · have hfin : Arr wr S 5 (strT key from_ bs) n := hsm.congr fun i hi => upto_lt _ _ (by omega)
      have HFIN := Lib.hid hfin
      have HBW := Lib.hid hbw
      clear hfin hsm hfm hbw hp
      go_wp2_with fail
      go_ret
      exact ⟨S, rfl, by omega, HFIN.out, HBW.out⟩
end Go.Proofs.YtammiehklibadaaDoor.Aes
