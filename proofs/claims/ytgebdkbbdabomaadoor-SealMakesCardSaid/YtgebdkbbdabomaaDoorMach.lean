/-
  THE CONTRACT of mac's Text.
-/
import Derived.Test.YtgebdkbbdabomaaDoorMacy
import Derived.Test.YtgebdkbbdabomaaDoorAesp
namespace Go.Proofs.YtgebdkbbdabomaaDoor.Mac
open Go.RowKit
open Go.Proofs.YtgebdkbbdabomaaDoor.Kit
open Go.Proofs.YtgebdkbbdabomaaDoor.Oct
open Go.Proofs.YtgebdkbbdabomaaDoor.Sha
open Go.Proofs.YtgebdkbbdabomaaDoor.Aes (row row_len row_at row_of row_congr upto upto_set upto_lt upto_ge upto_all upto_zero at_ at_row)
set_option linter.unusedVariables false

/-- the sums, one of another, and what they come to, held against one another -/
def txC (p s : List UInt8) : Nat → List UInt8
  | 0 => macS p (s ++ [0, 0, 0, 1])
  | k + 1 => macS p (txC p s k)
theorem txC_len (p s : List UInt8) (k : Nat) : (txC p s k).length = 32 := by cases k <;> exact macS_len _ _
def txF (p s : List UInt8) : Nat → Nat → UInt8
  | 0 => at_ (txC p s 0)
  | k + 1 => fun i => txF p s k i ^^^ at_ (txC p s (k + 1)) i
def textS (p s : List UInt8) : List UInt8 := row (txF p s 15) 16
theorem textS_len (p s : List UInt8) : (textS p s).length = 16 := row_len _ _
theorem row_take (f : Nat → UInt8) (n k : Nat) (h : k ≤ n) : (row f n).take k = row f k := by
  rw [row, row, ← List.map_take, List.take_range, Nat.min_eq_left h]
theorem rdB_of {w : World} {G n c : Nat} {A : Option Addr} {bs : List UInt8} (h : RdS w (fun b => b < w.heap.size ∧ b ≠ G) A n c (bs.map bv)) : RdB w w.heap.size A n c bs := by
  obtain ⟨h1, h2, h3, h4⟩ := h
  refine ⟨h1, h2, h3, fun hn => ?_⟩
  obtain ⟨b, o, e, hb, hc⟩ := h4 hn
  exact ⟨b, o, e, hb.1, hc⟩
theorem rds_own {w : World} {B n c G : Nat} {A : Option Addr} {e : TypeId} {bs : List UInt8} (h : w.ownsRow B e 1 (.slice A n c) n (bs.map bv)) (hG : G < B) : RdS w (fun b => b < w.heap.size ∧ b ≠ G) A n c (bs.map bv) := by
  obtain ⟨h1, h2, h3, h4⟩ := Rd.of_own h
  refine ⟨h1, h2, h3, fun hn => ?_⟩
  obtain ⟨b, o, e', hb, hc⟩ := h4 hn
  refine ⟨b, o, e', ⟨hb, ?_⟩, hc⟩
  have := (h.lt b (by rw [e']; rcases own_cases h with ⟨_, _, h0⟩ | ⟨g, hg⟩
                      · omega
                      · rw [e'] at hg; injection hg with hg; injection hg with h1 h2; subst h2; rfl)).1
  omega
theorem rds_keep {w w' : World} {G n c : Nat} {A : Option Addr} {xs : List Value} (h : RdS w (fun b => b < w.heap.size ∧ b ≠ G) A n c xs) (hg : w.grownBy w' (some G)) : RdS w' (fun b => b < w'.heap.size ∧ b ≠ G) A n c xs :=
  h.keep (fun p hp => World.cell?_of_block (gb_block hg hp.1 hp.2)) (fun b hb => ⟨Nat.lt_of_lt_of_le hb.1 hg.size, hb.2⟩)

set_option maxRecDepth 100000 in
set_option maxHeartbeats 2000000 in
theorem text_any (p s : ByteArray) (hp : p.size ≤ 1000000000) (hs : s.size ≤ 1000000000) (w : World) (hR : Roots w) : Calls Tryd.prog 14 #[.string p, .string s] w fun e w' =>
    e = .returned (.agg ((textS (strL p) (strL s)).map bv).toArray) ∧ Below w.heap.size w w' := by
  obtain ⟨ZV, hZ⟩ : ∃ q, q = Z16 := ⟨_, rfl⟩
  have hz : ∀ w, (zeroValue 30).run Tryd.prog w = .ok (.agg ZV) w := by rw [hZ]; exact z16
  have hzl : ZV.size = 16 := by rw [hZ]; rfl
  obtain ⟨PV, hPV⟩ : ∃ q, q = ((textS (strL p) (strL s)).map bv).toArray := ⟨_, rfl⟩
  have hPs : PV.size = 16 := by rw [hPV]; simp [textS_len]
  have hI : (Tryd.prog.info? 30).map (·.size) = some PV.size := by rw [hPs]; exact infoKz
  have hP1 : PV.all (·.oneCell') = true := by rw [hPV]; exact all_oneCell_toArray (bv_one _)
  rw [← hPV]
  obtain ⟨W1, hW1⟩ : ∃ q, q = w.alloc (.cells ZV 30) := ⟨_, rfl⟩
  have hb1 : Below w.heap.size w W1 := by rw [hW1]; exact below_of_new w _
  have hg1 : W1.heap[w.heap.size]? = some (.cells ZV 30 (0, 0)) := by rw [hW1]; exact heap_alloc_new w _
  have hz1 : W1.heap.size = w.heap.size + 1 := by rw [hW1]; simp
  have kc := conv_str
  have hr2 := rd_str W1 p (by unfold maxLen; omega)
  have hb2 := below_str W1 p
  obtain ⟨W2, hW2⟩ : ∃ q, q = strW W1 p := ⟨_, rfl⟩
  obtain ⟨c2, hc2⟩ : ∃ q, q = grownCap W1 p.size 0 5 := ⟨_, rfl⟩
  rw [← hW2, ← hc2] at hr2
  rw [← hW2] at hb2
  have hr3 := rd_str W2 s (by unfold maxLen; omega)
  have hb3 := below_str W2 s
  obtain ⟨W3, hW3⟩ : ∃ q, q = strW W2 s := ⟨_, rfl⟩
  obtain ⟨c3, hc3⟩ : ∃ q, q = grownCap W2 s.size 0 5 := ⟨_, rfl⟩
  rw [← hW3, ← hc3] at hr3
  rw [← hW3] at hb3
  have hj : joinL [⟨some ⟨W2.heap.size, 0, none⟩, s.size, c3, strL s⟩, ⟨some ⟨W3.heap.size, 0, none⟩, 4, 4, [0, 0, 0, 1]⟩] = strL s ++ [0, 0, 0, 1] := by simp [joinL]
  have hsum := sum_own (some ⟨W1.heap.size, 0, none⟩) p.size c2 (strL p) (some ⟨W3.heap.size + 1, 0, none⟩) 2 2 [⟨some ⟨W2.heap.size, 0, none⟩, s.size, c3, strL s⟩, ⟨some ⟨W3.heap.size, 0, none⟩, 4, 4, [0, 0, 0, 1]⟩]
    ((W3.alloc (.cells #[.int .u8 0, .int .u8 0, .int .u8 0, .int .u8 1] 5)).alloc (.cells #[.slice (some ⟨W2.heap.size, 0, none⟩) s.size c3, .slice (some ⟨W3.heap.size, 0, none⟩) 4 4] 22))
    (((hr2.on hb3).lit _).lit _) (by omega) (rd_cells (n := 2) _ (by simp) rfl rfl (by omega))
    (by
      intro r hr
      simp only [List.mem_cons, List.not_mem_nil, or_false] at hr
      rcases hr with rfl | rfl
      · exact (hr3.lit _).lit _
      · have := rd_lit' W3 (g := W3.heap.size) (n := 4) (e := 5) (arr := #[.int .u8 0, .int .u8 0, .int .u8 0, .int .u8 1]) (bs := [0, 0, 0, 1]) rfl rfl rfl (by omega)
        exact this.lit _)
    (((((hR.on hb1).on hb2).on hb3).lit _).lit _) (by rw [hj, List.length_append, strL_len]; simp; omega)
  rw [hj, hz1] at hsum
  have hb13 : Below w.heap.size w W3 := below_seq hb1 (below_seq hb2 hb3)
  have hg3 := ((below_seq hb2 hb3).block w.heap.size (by omega)).trans hg1
  have hc0 : macS (strL p) (strL s ++ [0, 0, 0, 1]) = txC (strL p) (strL s) 0 := rfl
  rw [hc0] at hsum
  have hRt := hR.lt
  have HR := Lib.hid hR
  have HSUM := Lib.hid hsum
  have HG3 := Lib.hid hg3
  have HB3 := Lib.hid hb13
  have HI := Lib.hid hI
  have HP1 := Lib.hid hP1
  have HPS := Lib.hid hPs
  have HPV := Lib.hid hPV
  have HZL := Lib.hid hzl
  have HW1 := Lib.hid hW1
  have HW2 := Lib.hid hW2
  have HW3 := Lib.hid hW3
  have HC2 := Lib.hid hc2
  have HC3 := Lib.hid hc3
  have HZ1 := Lib.hid hz1
  have hz3 := HB3.out.size
  clear hZ hzl hPV hPs hI hP1 hW1 hb1 hg1 hz1 hr2 hb2 hW2 hc2 hr3 hb3 hW3 hc3 hj hsum hb13 hg3 hc0 hR
  go_enter Tryd.func14, Tryd.ntmps14
  go_wp2_with fail
  rw [← HW1.out, ← HC2.out, ← HW2.out, ← HC3.out, ← HW3.out]
  refine HSUM.out.mono ?_
  rintro e w4 ⟨A4, c4, B4, rfl, hB4, ho4, hb4⟩
  have hb34 := below_seq ((below_of_new W3 (.cells #[.int .u8 0, .int .u8 0, .int .u8 0, .int .u8 1] 5)).alloc (by simp) (.cells #[.slice (some ⟨W2.heap.size, 0, none⟩) s.size c3, .slice (some ⟨W3.heap.size, 0, none⟩) 4 4] 22)) hb4
  have hrd4 : RdB w4 w4.heap.size A4 32 c4 (txC (strL p) (strL s) 0) := Rd.of_own ho4
  have hgw3 := block_lt_of_heap HG3.out
  have hg4 := (hb34.block w.heap.size (by omega)).trans HG3.out
  have HB4 := Lib.hid (below_seq HB3.out hb34)
  have HG4 := Lib.hid hg4
  have HRD4 := Lib.hid hrd4
  have hz4 := hb34.size
  clear hb4 ho4 hb34 hg4 hrd4
  have hj4 : joinL [⟨A4, 32, c4, txC (strL p) (strL s) 0⟩] = txC (strL p) (strL s) 0 := by simp [joinL]
  have hjn := joined_any (some ⟨w4.heap.size, 0, none⟩) 1 1 _ [⟨A4, 32, c4, txC (strL p) (strL s) 0⟩] (w4.alloc (.cells #[.slice A4 32 c4] 22)) (rd_cells (n := 1) w4 rfl rfl rfl (by omega))
    (by
      intro r hr
      simp only [List.mem_cons, List.not_mem_nil, or_false] at hr
      subst hr
      exact HRD4.out.lit _) (Nat.le_refl _) (by rw [hj4, txC_len]; omega)
  rw [hj4, txC_len] at hjn
  have HJN := Lib.hid hjn
  clear hj4 hjn
  go_wp2_with fail
  refine HJN.out.mono ?_
  rintro e w5 ⟨A5, c5, rfl, ho5, hb5⟩
  obtain ⟨G, rfl⟩ : ∃ g, A5 = some ⟨g, 0, none⟩ := by
    rcases own_cases ho5 with ⟨_, _, h0⟩ | h
    · omega
    · exact h
  have hGlt := ho5.lt G rfl
  rw [World.size_alloc] at hGlt
  have hb45 := below_seq (below_of_new w4 _) hb5
  have hrd5 := rds_of HRD4.out (wr := w5) (G := G) (by omega) (fun b hb => hb45.block b hb) hb45.size
  have e0 : (txC (strL p) (strL s) 0).map bv = (row (txF (strL p) (strL s) 0) 32).map bv := by
    rw [txF, row_of _ (txC_len _ _ _)]
  rw [e0] at ho5
  have HO5 := Lib.hid ho5
  have HB5 := Lib.hid (below_seq HB4.out hb45)
  have HG5 := Lib.hid ((hb45.block w.heap.size (by have := block_lt_of_heap HG4.out; exact this)).trans HG4.out)
  have HRD5 := Lib.hid hrd5
  have hzw4 := HB4.out.size
  have hgw4 := block_lt_of_heap HG4.out
  obtain ⟨Ba, hBa⟩ : ∃ q, q = (w4.alloc (.cells #[.slice A4 32 c4] 22)).heap.size := ⟨_, rfl⟩
  rw [← hBa] at HO5
  have hBa2 : Ba ≤ G ∧ w4.heap.size < Ba := by rw [hBa, World.size_alloc]; omega
  clear ho5 hb5 hb45 hrd5 e0 hBa
  go_wp2_with fail
  go_loopw [5, 7, 18, 27] (fun s5 _ i _ wr => ∃ (k : Nat) (A : Option Addr) (c : Nat), k ≤ 15 ∧ i = .int .i64 k ∧ s5 = .slice A 32 c ∧ RdS wr (fun b => b < wr.heap.size ∧ b ≠ G) A 32 c ((txC (strL p) (strL s) k).map bv) ∧
    wr.ownsRow Ba 5 1 (.slice (some ⟨G, 0, none⟩) 32 c5) 32 ((row (txF (strL p) (strL s) k) 32).map bv) ∧ w5.grownBy wr (some G)) (fun _ _ i _ _ => 15 - (intOf i).toNat)
  case atStart => exact ⟨0, A4, c4, by omega, rfl, rfl, HRD5.out, HO5.out, World.grownBy.refl _ _⟩
  case round =>
    obtain ⟨k, A, c, hk, rfl, rfl, hrd, hown, hgb⟩ := hrel
    have hkeep : ∀ b, b < w.heap.size → wr.heap[b]? = w.heap[b]? := fun b hb => (gb_block hgb (by have := HB5.out.size; omega) (by omega)).trans (HB5.out.block b hb)
    have hrt : Roots wr := fun i hi => (World.cell?_of_block (hkeep _ hRt)).trans (HR.out i hi)
    have HRD := Lib.hid hrd
    have HOWN := Lib.hid hown
    have HRT := Lib.hid hrt
    have hzr := hgb.size
    clear hrd hown hrt hkeep
    by_cases hlt : k < 15
    · have hr6 := rd_str wr p (by unfold maxLen; omega)
      have hb6 := below_str wr p
      obtain ⟨W6, hW6⟩ : ∃ q, q = strW wr p := ⟨_, rfl⟩
      obtain ⟨c6, hc6⟩ : ∃ q, q = grownCap wr p.size 0 5 := ⟨_, rfl⟩
      rw [← hW6, ← hc6] at hr6
      rw [← hW6] at hb6
      have hj : joinL [⟨A, 32, c, txC (strL p) (strL s) k⟩] = txC (strL p) (strL s) k := by simp [joinL]
      have hsum := sum_own (some ⟨wr.heap.size, 0, none⟩) p.size c6 (strL p) (some ⟨W6.heap.size, 0, none⟩) 1 1 [⟨A, 32, c, txC (strL p) (strL s) k⟩] (W6.alloc (.cells #[.slice A 32 c] 22))
        (hr6.lit _) (by omega) (rd_cells (n := 1) W6 rfl rfl rfl (by omega))
        (by
          intro r hr
          simp only [List.mem_cons, List.not_mem_nil, or_false] at hr
          subst hr
          exact ((rdB_of HRD.out).on hb6).lit _)
        ((HRT.out.on hb6).lit _) (by rw [hj, txC_len]; omega)
      rw [hj] at hsum
      have hc1 : macS (strL p) (txC (strL p) (strL s) k) = txC (strL p) (strL s) (k + 1) := rfl
      rw [hc1] at hsum
      have HSUM6 := Lib.hid hsum
      have HW6 := Lib.hid hW6
      have HC6 := Lib.hid hc6
      have HB6 := Lib.hid hb6
      clear hr6 hb6 hW6 hc6 hj hsum hc1
      go_wp2_with fail
      rw [← HC6.out, ← HW6.out]
      refine HSUM6.out.mono ?_
      rintro e w7 ⟨A7, c7, B7, rfl, hB7, ho7, hb7⟩
      have hb67 := below_seq HB6.out (below_seq (below_of_new W6 _) hb7)
      have hz6 := HB6.out.size
      have hz7 := hb67.size
      rw [World.size_alloc] at hB7
      have hown7 : w7.ownsRow Ba 5 1 (.slice (some ⟨G, 0, none⟩) 32 c5) 32 ((row (upto 0 (txF (strL p) (strL s) (k + 1)) (txF (strL p) (strL s) k)) 32).map bv) := by
        rw [upto_zero]; exact own_on HOWN.out hb67
      have hrd7 := rds_own ho7 (G := G) (by omega)
      obtain ⟨b7, o7, rfl⟩ := (rdB_of hrd7).addr (by omega)
      have hgb7 := grown_trans hgb (gb_of_below hb67 (some G))
      have HOWN7 := Lib.hid hown7
      have HRD7 := Lib.hid hrd7
      have HGB7 := Lib.hid hgb7
      have hrm7 : 32 ≤ c7 ∧ c7 ≤ 9223372036854775807 := ⟨hrd7.2.1, hrd7.2.2.1⟩
      clear hown7 hrd7 hgb7 ho7 hb7 hb67 hgb
      go_wp2_with fail
      obtain ⟨wo, hwo⟩ : ∃ wo : World, wo = wr := ⟨_, rfl⟩
      go_loopw [7, 27] (fun _ i wi => ∃ j : Nat, j ≤ 32 ∧ i = .int .i64 j ∧ wi.ownsRow Ba 5 1 (.slice (some ⟨G, 0, none⟩) 32 c5) 32 ((row (upto j (txF (strL p) (strL s) (k + 1)) (txF (strL p) (strL s) k)) 32).map bv) ∧ w7.grownBy wi (some G)) (fun _ i _ => 32 - (intOf i).toNat)
      case atStart => exact ⟨0, by omega, rfl, HOWN7.out, World.grownBy.refl _ _⟩
      case round =>
        obtain ⟨j, hj, rfl, hown8, hgb8⟩ := hrel
        by_cases hlt8 : j < 32
        · obtain ⟨x, hx⟩ : ∃ x, x = txF (strL p) (strL s) k j := ⟨_, rfl⟩
          obtain ⟨y, hy⟩ : ∃ y, y = at_ (txC (strL p) (strL s) (k + 1)) j := ⟨_, rfl⟩
          have hxy : x ^^^ y = txF (strL p) (strL s) (k + 1) j := by rw [hx, hy]; rfl
          have hc8 := (own_cells hown8).1 j (.int .u8 (x.toNat : Int)) (by rw [List.getElem?_map, row_at _ hlt8, upto_ge _ _ (Nat.le_refl _), ← hx]; rfl)
          have hf8 := (own_cells hown8).2 j
          have hrd8 := rds_keep HRD7.out hgb8
          have hcd8 : wr.cell? ⟨b7, o7 + j, none⟩ = some (.int .u8 (y.toNat : Int)) := by
            obtain ⟨b, o, e, _, hc⟩ := hrd8.2.2.2 (by omega)
            injection e with e
            injection e with e1 e2
            subst e1 e2
            exact hc j _ (by rw [List.getElem?_map, hy, at_, List.getD_eq_getElem?_getD, List.getElem?_eq_getElem (by rw [txC_len]; omega)]; rfl)
          have hxor := xor_u8 x y
          have hst := hown8.stored j (.int .u8 ((x ^^^ y).toNat : Int))
          have hst1 : (wr.setCell ⟨G, j, none⟩ (.int .u8 ((x ^^^ y).toNat : Int))).ownsRow Ba 5 1 (.slice (some ⟨G, 0, none⟩) 32 c5) 32 ((row (upto (j + 1) (txF (strL p) (strL s) (k + 1)) (txF (strL p) (strL s) k)) 32).map bv) := by
            rw [← upto_set _ _ hlt8, List.map_set, ← hxy]
            exact hst.1
          have hst2 := grown_trans hgb8 hst.2
          have HST1 := Lib.hid hst1
          have HST2 := Lib.hid hst2
          clear hst hst1 hst2 hrd8 hown8 hx hy hxy
          simp only [UInt8.toNat_xor] at HST1 HST2 hxor
          go_wp2_with fail
          refine wp_region_still_tail 10 (by kernel_rfl) (by kernel_rfl) ?_
          simp only [List.take_succ_cons, List.take_zero, List.drop_succ_cons, List.drop_zero]
          repeat still_step
          refine wpStill_nil ?_
          go_wp2_with fail
          exact ⟨⟨j + 1, by omega, by go_num, HST1.out, grown_trans HST2.out (gb_drew _ 1 _)⟩, by simp [intOf]; omega⟩
        · obtain rfl : j = 32 := by omega
          rw [upto_all] at hown8
          have hgbf := grown_trans HGB7.out hgb8
          have hrdf := rds_keep HRD7.out hgb8
          have HOF := Lib.hid hown8
          have HGF := Lib.hid hgbf
          have HRF := Lib.hid hrdf
          clear hown8 hgbf hrdf hgb8
          go_wp2_with fail
          exact ⟨⟨k + 1, _, _, by omega, by go_num, rfl, HRF.out, HOF.out, HGF.out⟩, by simp [intOf]; omega⟩
    · obtain rfl : k = 15 := by omega
      have hg6 := (gb_block hgb (k := w.heap.size) (by have := block_lt_of_heap HG5.out; exact this) (by omega)).trans HG5.out
      have hb6 : Below w.heap.size w wr := HB5.out.trans (below_of_gb hgb (by omega) HB5.out.size)
      have HST := Lib.hid (start_any (some ⟨G, 0, none⟩) c5 _ wr (Rd.of_own HOWN.out))
      have HG6 := Lib.hid hg6
      have HB6 := Lib.hid hb6
      clear hg6 hb6
      go_wp2_with fail
      refine HST.out.mono ?_
      rintro e w7 ⟨rfl, hb7⟩
      have hg7 := (hb7.block w.heap.size (by have := block_lt_of_heap HG6.out; exact this)).trans HG6.out
      have HG7 := Lib.hid hg7
      have HB7 := Lib.hid (below_seq HB6.out hb7)
      clear hb7 hg7
      rw [row_take _ _ _ (by omega)]
      have e7 : (row (txF (strL p) (strL s) 15) 16).map bv = (textS (strL p) (strL s)).map bv := rfl
      rw [e7, ← HPV.out]
      clear e7
      go_wp2_with (first
        | (refine wpList_store_row rfl 30 (.tmp 4) (.tmp 43) rfl w.heap.size PV rfl rfl 30 _ HG7.out HI.out (by rw [HZL.out, HPS.out]) HP1.out ?_)
        | fail)
      have hres := setRow_heap _ w.heap.size _ PV _ _ HG7.out
      refine bodyPost_ret (v := .agg PV) (results_cell_row Tryd.results14 _ _ w.heap.size 30 PV (0, 0) _ (by rfl) hres Tryd.underlying30 rfl HI.out) rfl ?_
      exact ⟨by rw [HPV.out], below_setRow HB7.out (Nat.le_refl _) _⟩
end Go.Proofs.YtgebdkbbdabomaaDoor.Mac
