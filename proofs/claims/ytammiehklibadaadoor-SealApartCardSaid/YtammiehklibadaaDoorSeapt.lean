/-
  The walk of SealApart: boxes of the same bytes are unlike; two tapes of one seed have the same keys, whatever else is done.
-/
import Derived.Test.YtammiehklibadaaDoorSealg
import Derived.Test.YtammiehklibadaaDoorFin
namespace Go.Proofs.YtammiehklibadaaDoor.Seapt
open Go.RowKit
open Go.Proofs.YtammiehklibadaaDoor.Kit
open Go.Proofs.YtammiehklibadaaDoor.Oct
open Go.Proofs.YtammiehklibadaaDoor.Sha
open Go.Proofs.YtammiehklibadaaDoor.Seal
open Go.Proofs.YtammiehklibadaaDoor.Mac (derS derS_len macS macS_len strL strL_len textS textS_len infoKz)
set_option linter.unusedVariables false

theorem and7 (a : Int) : ∃ t : Nat, t ≤ 7 ∧ bits .and .i64 a 7 = t := by
  have hx : (BitVec.ofInt 64 a &&& BitVec.ofInt 64 7).toNat ≤ 7 := by
    rw [BitVec.toNat_and]
    exact Nat.le_trans Nat.and_le_right (by decide)
  refine ⟨(BitVec.ofInt 64 a &&& BitVec.ofInt 64 7).toNat, hx, ?_⟩
  show IntKind.i64.wrap ((BitVec.ofInt 64 a &&& BitVec.ofInt 64 7).toNat : Int) = _
  rw [IntKind.wrap_i64]
  omega
/-- another Real than the one that has turned -/
theorem RealAt.other {w w' : World} {g1 g2 : Nat} {s1 s2 : List UInt8} {k1 b1 k2 b2 : Nat} (h2 : RealAt w g2 s2 k2 b2) (h1 : RealAt w g1 s1 k1 b1) (hg : w.grownBy w' (some g1)) (hne : g2 ≠ g1) : RealAt w' g2 s2 k2 b2 := by
  have hl2 := h2.lt
  obtain ⟨A1, n1, c1, hc1, _, _⟩ := h1
  obtain ⟨A, n, c, hc, ⟨hr1, hr2, hr3, hr4⟩, hn⟩ := h2
  refine ⟨A, n, c, (gb_block hg hl2 hne).trans hc, ⟨hr1, hr2, hr3, fun h0 => ?_⟩, hn⟩
  obtain ⟨b, o, e, hb, hcell⟩ := hr4 h0
  refine ⟨b, o, e, hb, fun j u hu => ?_⟩
  by_cases hbg : b = g1
  · exfalso
    subst hbg
    have hj : 0 < s2.length := by rw [List.length_map] at hr1; omega
    have h3 := hcell 0 (bv (s2[0]'hj)) (by rw [List.getElem?_map, List.getElem?_eq_getElem hj]; rfl)
    rw [cell_of_row w b _ _ _ (0, 0) hc1] at h3
    have ho : o + 0 = 0 ∨ o + 0 = 1 ∨ o + 0 = 2 ∨ 3 ≤ o + 0 := by omega
    rcases ho with h | h | h | h
    · rw [h] at h3; cases h3
    · rw [h] at h3
      have h4 := Option.some.inj h3
      unfold bv at h4
      injection h4 with h5 _
      cases h5
    · rw [h] at h3
      have h4 := Option.some.inj h3
      unfold bv at h4
      injection h4 with h5 _
      cases h5
    · rw [Array.getElem?_eq_none (by simpa using h)] at h3; cases h3
  · exact (World.cell?_of_block (a := ⟨b, o + j, none⟩) (gb_block (k := b) hg (by omega) hbg)).trans (hcell j u hu)
/-- a box is unlike the one ahead of it -/
theorem box_unlike (k : List UInt8) (D : ByteArray) (b : List UInt8) (i : Nat) (hi : i < 7) (L : List UInt8) (hL : L = if i = 0 then [] else boxS k D (be 8 i) b) : decide (boxS k D (be 8 (i + 1)) b = L) = false := by
  rw [decide_eq_false_iff_not]
  intro h
  have h8 := congrArg (List.take 8) h
  have hb : ∀ j, (boxS k D (be 8 j) b).take 8 = be 8 j := fun j => by
    rw [boxS, txtS, List.append_assoc, List.take_append_of_le_length (by rw [be_len]; omega), List.take_of_length_le (by rw [be_len]; omega)]
  rw [hb, hL] at h8
  by_cases h0 : i = 0
  · rw [if_pos h0] at h8
    have := congrArg List.length h8
    rw [be_len] at this
    simp at this
  · rw [if_neg h0, hb] at h8
    have : i = 1 ∨ i = 2 ∨ i = 3 ∨ i = 4 ∨ i = 5 ∨ i = 6 := by omega
    rcases this with rfl | rfl | rfl | rfl | rfl | rfl <;> revert h8 <;> decide

def five : ByteArray := ⟨#[53]⟩
set_option maxRecDepth 100000 in
set_option maxHeartbeats 8000000 in
theorem walk (A : Option Addr) (n c : Nat) (seed k : List UInt8) (A' : Option Addr) (n' c' : Nat) (b : List UInt8) (v : Int) (w : World) (hx : RdB w w.heap.size A n c seed) (hk : k.length = 16) (hy : RdB w w.heap.size A' n' c' b) (hR : Roots w) :
    Calls Tryd.prog 8 #[.slice A n c, .agg (k.map bv).toArray, .slice A' n' c', .int .i64 v] w fun e w' => e = .returned (.bool true) ∧ Below w.heap.size w w' := by
  obtain ⟨i0, hi, hz0, hz1, hz2⟩ := info_parts info5
  have hrx := hx.room
  have hry := hy.room
  have hlb := hy.len
  obtain ⟨KL, hKL⟩ : ∃ q, q = k.map bv := ⟨_, rfl⟩
  have hKl : KL.length = 16 := by rw [hKL, List.length_map, hk]
  have hKs : KL.toArray.size = 16 := by simpa using hKl
  have hI : (Tryd.prog.info? 32).map (·.size) = some KL.toArray.size := by rw [hKs]; exact info16s
  obtain ⟨W1, hW1⟩ : ∃ q, q = w.alloc (.cells KL.toArray 32) := ⟨_, rfl⟩
  have hb1 : Below w.heap.size w W1 := by rw [hW1]; exact below_of_new w _
  have hg1 : W1.heap[w.heap.size]? = some (.cells KL.toArray 32 (0, 0)) := by rw [hW1]; exact heap_alloc_new w _
  have hx1 := hx.on hb1
  have hy1 := hy.on hb1
  have hR1 := hR.on hb1
  have hrl := hR1.lt
  have HKEY := Lib.hid (show ∀ W, Below W1.heap.size W1 W → W.heap[w.heap.size]? = some (.cells KL.toArray 32 (0, 0)) from fun W h => (h.block _ (block_lt_of_heap hg1)).trans hg1)
  have HROOT := Lib.hid (show ∀ W, Below W1.heap.size W1 W → Roots W from fun W h => hR1.on h)
  have HSEED := Lib.hid (show ∀ W, Below W1.heap.size W1 W → RdB W W.heap.size A n c seed from fun W h => hx1.on h)
  have HBB := Lib.hid (show ∀ W, Below W1.heap.size W1 W → RdB W W.heap.size A' n' c' b from fun W h => hy1.on h)
  have HBS := Lib.hid (show ∀ W G, Below W1.heap.size W1 W → W1.heap.size ≤ G → RdS W (fun j => j < W.heap.size ∧ j ≠ G) A' n' c' (b.map bv) from fun W G h hG => by
    obtain ⟨h1, h2, h3, h4⟩ := hy1
    refine ⟨h1, h2, h3, fun hn => ?_⟩
    obtain ⟨bb, o, e, hb, hc⟩ := h4 hn
    exact ⟨bb, o, e, ⟨by have := h.size; omega, by omega⟩, fun j u hu => (h.cell (p := ⟨bb, o + j, none⟩) hb).trans (hc j u hu)⟩)
  have HW1 := Lib.hid hW1
  have HB1 := Lib.hid hb1
  have HI := Lib.hid hI
  have HKL := Lib.hid hKL
  have HK := Lib.hid hk
  rw [← hKL]
  clear hKL hW1 hb1 hg1 hx1 hy1 hR1 hx hy hR hI hKs hk
  by_cases hbig : 100 < n ∨ 100 < n'
  · go_enter Tryd.func8, Tryd.ntmps8
    go_wp2_with fail
    rw [← HW1.out]
    refine (alive6_any W1 (HROOT.out _ (Below.refl _ _))).mono ?_
    rintro e w1 ⟨rfl, hb1⟩
    have HBE := Lib.hid (below_seq HB1.out hb1)
    clear hb1
    by_cases h1 : 100 < n
    · have t1 : decide ((100 : Int) < n) = true := by simp; omega
      go_wp2
      go_ret
      exact ⟨rfl, HBE.out⟩
    · have t1 : decide ((100 : Int) < n) = false := by simp; omega
      have t2 : decide ((100 : Int) < n') = true := by simp; omega
      go_wp2
      go_ret
      exact ⟨rfl, HBE.out⟩
  · have t1 : decide ((100 : Int) < n) = false := by simp; omega
    have t2 : decide ((100 : Int) < n') = false := by simp; omega
    obtain ⟨m, hm7, hm⟩ := and7 v
    go_enter Tryd.func8, Tryd.ntmps8
    go_wp2_with fail
    rw [← HW1.out]
    refine (alive6_any W1 (HROOT.out _ (Below.refl _ _))).mono ?_
    rintro e w1 ⟨rfl, hb1⟩
    have HB11 := Lib.hid hb1
    clear hb1
    go_wp2_with fail
    refine (new_real A n c seed w1 (HSEED.out _ HB11.out) (by omega)).mono ?_
    rintro e w2 ⟨g1, rfl, hg1, hra1, hb2⟩
    have hg1W : W1.heap.size ≤ g1 := by have := HB11.out.size; omega
    have hg1l := hra1.lt
    have HRA1 := Lib.hid hra1
    have HB12 := Lib.hid (below_seq HB11.out hb2)
    clear hra1 hb2
    go_wp2_with (at_builtin; refine wpList_app _ rfl (.tmp 29) (.tmp 30) 22 rfl w2.heap.size 5 i0 _ 1 Tryd.underlying22 hi hz0 hz1 hz2 rfl _ 0 _ rfl (own_new w2 (Nat.le_refl _) rfl (by omega)) _ A n c _ rfl (RdB.lit (HSEED.out _ HB12.out) _) (bv_one _) (by omega) (by omega) (by simp) ?_; intro A3 c3 w3 hown3 hg3 hat3)
    simp only [Nat.zero_add, List.nil_append] at hown3
    have hb23 := below_lit (Below.refl _ _) hg3
    have HS3 := Lib.hid (show RdB w3 w3.heap.size A3 n c3 seed from Rd.of_own hown3)
    have HRA13 := Lib.hid (HRA1.out.on hb23)
    have HB13 := Lib.hid (below_seq HB12.out hb23)
    have hs23 := hb23.size
    clear hown3 hg3 hat3 hb23
    go_wp2_with fail
    refine (new_real A3 n c3 seed w3 HS3.out (by omega)).mono ?_
    rintro e w4 ⟨g2, rfl, hg2, hra2, hb4⟩
    have hg2W : W1.heap.size ≤ g2 := by have := HB13.out.size; omega
    have hg12 : g2 ≠ g1 := by omega
    have HRA2 := Lib.hid hra2
    have HRA14 := Lib.hid (HRA13.out.on hb4)
    have HB14 := Lib.hid (below_seq HB13.out hb4)
    have hr1 : g1 ≠ 0 := by omega
    have hr2 : g2 ≠ 0 := by omega
    clear hra2 hb4 HRA1 HRA13 HS3
    go_wp2_with fail
    go_loopw [11, 12, 13, 14, 15, 16, 36] (fun l _ _ _ _ _ i wx => ∃ (j : Nat) (Al : Option Addr) (nl cl : Nat) (L : List UInt8), j ≤ m ∧ i = .int .i64 (j : Int) ∧ l = .slice Al nl cl ∧ RdS wx (fun q => q < wx.heap.size ∧ q ≠ g1 ∧ q ≠ g2) Al nl cl (L.map bv) ∧ (L = if j = 0 then [] else boxS k five (be 8 j) b) ∧ RealAt wx g1 seed j j ∧ RealAt wx g2 seed j 0 ∧ Below W1.heap.size W1 wx) (fun _ _ _ _ _ _ i _ => m - (intOf i).toNat)
    case atStart =>
      refine ⟨0, some ⟨w4.heap.size, 0, none⟩, 0, 0, [], by omega, rfl, rfl, ⟨rfl, Nat.le_refl _, by omega, fun h => by omega⟩, by rw [if_pos rfl], HRA14.out.on (below_of_new w4 _), HRA2.out.on (below_of_new w4 _), below_seq HB14.out (below_of_new w4 _)⟩
    case round =>
      clear HRA14 HRA2 HB14
      obtain ⟨j, Al, nl, cl, L, hj, rfl, rfl, hlast, hL, hra1, hra2, hbw⟩ := hrel
      have HLAST := Lib.hid hlast
      have HL := Lib.hid hL
      have HRA1 := Lib.hid hra1
      have HRA2 := Lib.hid hra2
      have HBW := Lib.hid hbw
      have hl1 := hra1.lt
      have hl2 := hra2.lt
      clear hlast hL hra1 hra2 hbw
      by_cases hlt : j < m
      · have t3 : decide ((j : Int) < (m : Int)) = true := by rw [decide_eq_true_iff]; omega
        obtain ⟨N, hN⟩ : ∃ N, N = n' + 24 := ⟨_, rfl⟩
        have hlast := HLAST.out
        have hseal := seal_any g1 seed j j k HK.out five 5 ito_5 (by decide) A' n' c' b wr HRA1.out (HROOT.out _ HBW.out) hr1 (by omega) (HBS.out _ _ HBW.out hg1W) (by omega)
        rw [← HKL.out, ← hN] at hseal
        have HSEAL := Lib.hid hseal
        have HN := Lib.hid hN
        clear hseal hN hlast
        go_wp2_with (first
          | (refine wpList_load_row rfl 32 (.tmp 5) rfl w.heap.size rfl 32 KL.toArray (0, 0) _ (HKEY.out _ HBW.out) Tryd.underlying32 rfl HI.out ?_)
          | fail)
        refine HSEAL.out.mono ?_
        rintro e w5 ⟨A5, c5, rfl, ho5, hra15, hgb5⟩
        obtain ⟨BX, hBX⟩ : ∃ q, q = boxS k five (be 8 (j + 1)) b := ⟨_, rfl⟩
        rw [← hBX] at ho5
        have hun := box_unlike k five b j (by omega) L HL.out
        rw [← hBX] at hun
        have hbw5 : Below W1.heap.size W1 w5 := HBW.out.trans (below_of_gb hgb5 hg1W HBW.out.size)
        have hra25 := RealAt.other HRA2.out HRA1.out hgb5 hg12
        have hr5 : RdB w5 w5.heap.size A5 N c5 BX := Rd.of_own ho5
        have hl5 : RdB w5 w5.heap.size Al nl cl L := by
          obtain ⟨h1, h2, h3, h4⟩ := HLAST.out
          refine ⟨h1, h2, h3, fun hn => ?_⟩
          obtain ⟨bb, o, e, ⟨q1, q2, q3⟩, hc⟩ := h4 hn
          exact ⟨bb, o, e, by have := hgb5.size; omega, fun i u hu => (World.cell?_of_block (a := ⟨bb, o + i, none⟩) (gb_block (k := bb) hgb5 q1 q2)).trans (hc i u hu)⟩
        have hbs5 : RdS w5 (fun q => q < w5.heap.size ∧ q ≠ g1 ∧ q ≠ g2) A5 N c5 (BX.map bv) := by
          obtain ⟨h1, h2, h3, h4⟩ := hr5
          refine ⟨h1, h2, h3, fun hn => ?_⟩
          obtain ⟨bb, o, e, hb, hc⟩ := h4 hn
          have hge := ho5.lt bb (by rw [e]; rfl)
          exact ⟨bb, o, e, ⟨hb, by omega, by omega⟩, hc⟩
        have HR5 := Lib.hid hr5
        have HL5 := Lib.hid hl5
        have HBS5 := Lib.hid hbs5
        have HRA15 := Lib.hid hra15
        have HRA25 := Lib.hid hra25
        have HBW5 := Lib.hid hbw5
        have HUN := Lib.hid hun
        have HBX := Lib.hid hBX
        have tN : ((N : Int) != (n' : Int) + 24) = false := by have := HN.out; rw [bne_eq_false_iff_eq]; omega
        clear ho5 hra15 hgb5 hBX hun hbw5 hra25 hr5 hl5 hbs5
        go_wp2_with fail
        refine (rsame_new _ _ _ _ _ _ BX L _ HR5.out HL5.out).mono ?_
        rintro e w6 ⟨rfl, hb6⟩
        rw [HUN.out]
        have HR6 := Lib.hid (HR5.out.on hb6)
        have HBS6 := Lib.hid (show RdS w6 (fun q => q < w6.heap.size ∧ q ≠ g1 ∧ q ≠ g2) A5 N c5 (BX.map bv) from HBS5.out.keep (fun p hp => World.cell?_of_block (hb6.block p.block hp.1)) (fun q hq => ⟨by have := hb6.size; omega, hq.2⟩))
        have HRA16 := Lib.hid (HRA15.out.on hb6)
        have HRA26 := Lib.hid (HRA25.out.on hb6)
        have HBW6 := Lib.hid (below_seq HBW5.out hb6)
        clear hb6
        have hbox := HR6.out
        rw [HBX.out, HN.out] at hbox
        have hop1 := open_yes g1 k HK.out five 5 ito_5 (by decide) A5 n' c5 (be 8 (j + 1)) b w6 (HROOT.out _ HBW6.out) (be_len _ _) hbox hlb (by omega)
        rw [← HKL.out, ← HN.out] at hop1
        have HOP1 := Lib.hid hop1
        clear hbox hop1
        go_wp2_with (first
          | (refine wpList_load_row rfl 32 (.tmp 5) rfl w.heap.size rfl 32 KL.toArray (0, 0) _ (HKEY.out _ HBW6.out) Tryd.underlying32 rfl HI.out ?_)
          | fail)
        refine HOP1.out.mono ?_
        rintro e w7 ⟨r7, rfl, hr7, hb7⟩
        have HIN7 := Lib.hid hr7
        have HR7 := Lib.hid (HR6.out.on hb7)
        have HBS7 := Lib.hid (show RdS w7 (fun q => q < w7.heap.size ∧ q ≠ g1 ∧ q ≠ g2) A5 N c5 (BX.map bv) from HBS6.out.keep (fun p hp => World.cell?_of_block (hb7.block p.block hp.1)) (fun q hq => ⟨by have := hb7.size; omega, hq.2⟩))
        have HRA17 := Lib.hid (HRA16.out.on hb7)
        have HRA27 := Lib.hid (HRA26.out.on hb7)
        have HBW7 := Lib.hid (below_seq HBW6.out hb7)
        clear hb7 hr7
        have hbox := HR7.out
        rw [HBX.out, HN.out] at hbox
        have hop2 := open_yes g2 k HK.out five 5 ito_5 (by decide) A5 n' c5 (be 8 (j + 1)) b w7 (HROOT.out _ HBW7.out) (be_len _ _) hbox hlb (by omega)
        rw [← HKL.out, ← HN.out] at hop2
        have HOP2 := Lib.hid hop2
        clear hbox hop2
        go_wp2_with (first
          | (refine wpList_load_row rfl 32 (.tmp 5) rfl w.heap.size rfl 32 KL.toArray (0, 0) _ (HKEY.out _ HBW7.out) Tryd.underlying32 rfl HI.out ?_)
          | fail)
        refine HOP2.out.mono ?_
        rintro e w8 ⟨r8, rfl, hr8, hb8⟩
        have HIN8 := Lib.hid (HIN7.out.on hb8)
        have HAG8 := Lib.hid hr8
        have HBS8 := Lib.hid (show RdS w8 (fun q => q < w8.heap.size ∧ q ≠ g1 ∧ q ≠ g2) A5 N c5 (BX.map bv) from HBS7.out.keep (fun p hp => World.cell?_of_block (hb8.block p.block hp.1)) (fun q hq => ⟨by have := hb8.size; omega, hq.2⟩))
        have HRA18 := Lib.hid (HRA17.out.on hb8)
        have HRA28 := Lib.hid (HRA27.out.on hb8)
        have HBW8 := Lib.hid (below_seq HBW7.out hb8)
        clear hb8 hr8
        go_wp2_with fail
        refine (rsame_new _ _ _ _ _ _ b b _ HIN8.out (HBB.out _ HBW8.out)).mono ?_
        rintro e w9 ⟨rfl, hb9⟩
        rw [show decide (b = b) = true from by simp]
        have HAG9 := Lib.hid (HAG8.out.on hb9)
        have HBS9 := Lib.hid (show RdS w9 (fun q => q < w9.heap.size ∧ q ≠ g1 ∧ q ≠ g2) A5 N c5 (BX.map bv) from HBS8.out.keep (fun p hp => World.cell?_of_block (hb9.block p.block hp.1)) (fun q hq => ⟨by have := hb9.size; omega, hq.2⟩))
        have HRA19 := Lib.hid (HRA18.out.on hb9)
        have HRA29 := Lib.hid (HRA28.out.on hb9)
        have HBW9 := Lib.hid (below_seq HBW8.out hb9)
        clear hb9
        go_wp2_with fail
        refine (rsame_new _ _ _ _ _ _ b b _ HAG9.out (HBB.out _ HBW9.out)).mono ?_
        rintro e wA ⟨rfl, hbA⟩
        rw [show decide (b = b) = true from by simp]
        have HBSA := Lib.hid (show RdS wA (fun q => q < wA.heap.size ∧ q ≠ g1 ∧ q ≠ g2) A5 N c5 (BX.map bv) from HBS9.out.keep (fun p hp => World.cell?_of_block (hbA.block p.block hp.1)) (fun q hq => ⟨by have := hbA.size; omega, hq.2⟩))
        have HRA1A := Lib.hid (HRA19.out.on hbA)
        have HRA2A := Lib.hid (HRA29.out.on hbA)
        have HBWA := Lib.hid (below_seq HBW9.out hbA)
        clear hbA
        obtain ⟨FV, hFV⟩ : ∃ q, q = ((freS seed (j + 1)).map bv).toArray := ⟨_, rfl⟩
        have hf1 := fresh_any g1 seed j (j + 1) wA HRA1A.out (HROOT.out _ HBWA.out) hr1 (by omega)
        rw [← hFV] at hf1
        have HF1 := Lib.hid hf1
        have e18 : ∀ w, (Op.equalIn 10000 33 (.agg FV) (.agg FV)).run Tryd.prog w = .ok true w := fun w => by rw [hFV, eq_keyS _ _ (freS_len _ _) (freS_len _ _)]; simp
        have HFV := Lib.hid hFV
        clear hf1 hFV
        go_wp2_with fail
        refine HF1.out.mono ?_
        rintro e wB ⟨rfl, hra1B, hgbB⟩
        have hra2B := RealAt.other HRA2A.out HRA1A.out hgbB hg12
        have hbwB : Below W1.heap.size W1 wB := HBWA.out.trans (below_of_gb hgbB hg1W HBWA.out.size)
        have HBSB := Lib.hid (show RdS wB (fun q => q < wB.heap.size ∧ q ≠ g1 ∧ q ≠ g2) A5 N c5 (BX.map bv) from HBSA.out.keep (fun p hp => World.cell?_of_block (gb_block hgbB hp.1 hp.2.1)) (fun q hq => ⟨by have := hgbB.size; omega, hq.2⟩))
        have HRA1B := Lib.hid hra1B
        have HRA2B := Lib.hid hra2B
        have HBWB := Lib.hid hbwB
        clear hra1B hra2B hbwB hgbB
        have hf2 := fresh_any g2 seed j 0 wB HRA2B.out (HROOT.out _ HBWB.out) hr2 (by omega)
        rw [← HFV.out] at hf2
        have HF2 := Lib.hid hf2
        clear hf2
        go_wp2_with fail
        refine HF2.out.mono ?_
        rintro e wC ⟨rfl, hra2C, hgbC⟩
        have hra1C := RealAt.other HRA1B.out HRA2B.out hgbC (fun e => hg12 e.symm)
        have hbwC : Below W1.heap.size W1 wC := HBWB.out.trans (below_of_gb hgbC hg2W HBWB.out.size)
        have HBSC := Lib.hid (show RdS wC (fun q => q < wC.heap.size ∧ q ≠ g1 ∧ q ≠ g2) A5 N c5 (BX.map bv) from HBSB.out.keep (fun p hp => World.cell?_of_block (gb_block hgbC hp.1 hp.2.2)) (fun q hq => ⟨by have := hgbC.size; omega, hq.2⟩))
        have HRA1C := Lib.hid hra1C
        have HRA2C := Lib.hid hra2C
        have HBWC := Lib.hid hbwC
        clear hra1C hra2C hbwC hgbC
        go_wp2_with fail
        exact ⟨⟨j + 1, A5, N, c5, BX, by omega, by go_num, rfl, HBSC.out, by rw [if_neg (by omega)]; exact HBX.out, HRA1C.out, HRA2C.out, HBWC.out⟩, by simp [intOf] <;> omega⟩
      · obtain rfl : j = m := by omega
        have t3 : decide ((j : Int) < (j : Int)) = false := by simp
        obtain ⟨TX, hTX⟩ : ∃ q, q = ((textS [97] [98]).map bv).toArray := ⟨_, rfl⟩
        obtain ⟨DX, hDX⟩ : ∃ q, q = ((derS k [120]).map bv).toArray := ⟨_, rfl⟩
        have e1 : ∀ w, (Op.equalIn 10000 33 (.agg TX) (.agg TX)).run Tryd.prog w = .ok true w := fun w => by rw [hTX, eq_keyS _ _ (textS_len _ _) (textS_len _ _)]; simp
        have e2 : ∀ w, (Op.equalIn 10000 33 (.agg DX) (.agg DX)).run Tryd.prog w = .ok true w := fun w => by rw [hDX, eq_keyS _ _ (derS_len _ _) (derS_len _ _)]; simp
        have HTX1 := Lib.hid (show ∀ W, Below wr.heap.size wr W → Calls Tryd.prog 30 #[.pointer (some ⟨g1, 0, none⟩), .string ⟨#[97]⟩, .string ⟨#[98]⟩] W fun e w' => e = .returned (.agg TX) ∧ Below W.heap.size W w' from fun W h => by
          rw [hTX]; exact textr_any g1 ⟨#[97]⟩ ⟨#[98]⟩ (by decide) (by decide) W (HROOT.out _ (below_seq HBW.out h)))
        have HTX2 := Lib.hid (show ∀ W, Below wr.heap.size wr W → Calls Tryd.prog 30 #[.pointer (some ⟨g2, 0, none⟩), .string ⟨#[97]⟩, .string ⟨#[98]⟩] W fun e w' => e = .returned (.agg TX) ∧ Below W.heap.size W w' from fun W h => by
          rw [hTX]; exact textr_any g2 ⟨#[97]⟩ ⟨#[98]⟩ (by decide) (by decide) W (HROOT.out _ (below_seq HBW.out h)))
        have HDX1 := Lib.hid (show ∀ W, Below wr.heap.size wr W → Calls Tryd.prog 31 #[.pointer (some ⟨g1, 0, none⟩), .agg KL.toArray, .string ⟨#[120]⟩] W fun e w' => e = .returned (.agg DX) ∧ Below W.heap.size W w' from fun W h => by
          rw [hDX, HKL.out]; exact deriver_any g1 k HK.out ⟨#[120]⟩ (by decide) W (HROOT.out _ (below_seq HBW.out h)))
        have HDX2 := Lib.hid (show ∀ W, Below wr.heap.size wr W → Calls Tryd.prog 31 #[.pointer (some ⟨g2, 0, none⟩), .agg KL.toArray, .string ⟨#[120]⟩] W fun e w' => e = .returned (.agg DX) ∧ Below W.heap.size W w' from fun W h => by
          rw [hDX, HKL.out]; exact deriver_any g2 k HK.out ⟨#[120]⟩ (by decide) W (HROOT.out _ (below_seq HBW.out h)))
        have HAR := Lib.hid (show ∀ W, Below wr.heap.size wr W → W.rangeAt w.heap.size 0 KL from fun W h => range_block (HKEY.out _ (below_seq HBW.out h)))
        have hiK : (Tryd.prog.info? 32).map (·.size) = some KL.length := by rw [hKl]; exact info16s
        have hbd : Below wr.heap.size wr wr.drew := below_of_drew ⟨1, rfl⟩ _
        clear hTX hDX
        go_wp2_with fail
        refine wp_region_held_drew (S := fun W => W.rangeAt w.heap.size 0 KL) (by kernel_rfl) (HAR.out _ hbd) (fun hHeld => ?_)
        refine wpAnyH_take (i := 0) (v := .pointer (some ⟨g1, 0, none⟩)) rfl (by kernel_rfl) (by kernel_rfl) (by kernel_rfl) (fun _ _ _ h => h) (Or.inl ⟨by rfl, fun w _ => by go_simp⟩) (by assumption) ?_
        go_simp
        refine wpAnyH_take (i := 2) (v := .pointer (some ⟨g2, 0, none⟩)) rfl (by kernel_rfl) (by kernel_rfl) (by kernel_rfl) (fun _ _ _ h => h) (Or.inl ⟨by rfl, fun w _ => by go_simp⟩) (by assumption) ?_
        go_simp
        refine wpAnyH_ready (rs := [1]) (by kernel_rfl) (by simp) ?_
        refine AllReadyH.cons rfl (fun K hK => ?_) AllReadyH.nil
        (go_simp; go_at_call 30; refine (HTX1.out _ (by assumption)).mono ?_; rintro e wa1 ⟨rfl, hba1⟩; have hca1 := below_seq (show Below wr.heap.size wr _ from (by assumption)) hba1)
        try go_simp
        refine hK.out _ _ (HAR.out _ (by assumption)) (fun hHeld => ?_)
        clear hK K
        refine wpAnyH_ready (rs := [3]) (by kernel_rfl) (by simp) ?_
        refine AllReadyH.cons rfl (fun K hK => ?_) AllReadyH.nil
        (go_simp; go_at_call 30; refine (HTX2.out _ (by assumption)).mono ?_; rintro e wa2 ⟨rfl, hba2⟩; have hca2 := below_seq (show Below wr.heap.size wr _ from (by assumption)) hba2)
        try go_simp
        refine hK.out _ _ (HAR.out _ (by assumption)) (fun hHeld => ?_)
        clear hK K
        refine wpAnyH_take (i := 4) (v := .bool true) rfl (by kernel_rfl) (by kernel_rfl) (by kernel_rfl) (fun _ _ _ h => h) (Or.inl ⟨by rfl, fun w _ => by go_simp⟩) (by assumption) ?_
        go_simp
        refine wpAnyH_take (i := 5) (v := .bool true) rfl (by kernel_rfl) (by kernel_rfl) (by kernel_rfl) (fun _ _ _ h => h) (Or.inl ⟨by rfl, fun w _ => by go_simp⟩) (by assumption) ?_
        go_simp
        refine wpAnyH_take (i := 6) (v := .pointer (some ⟨g1, 0, none⟩)) rfl (by kernel_rfl) (by kernel_rfl) (by kernel_rfl) (fun _ _ _ h => h) (Or.inl ⟨by rfl, fun w _ => by go_simp⟩) (by assumption) ?_
        go_simp
        refine wpAnyH_take (i := 7) (v := .agg KL.toArray) rfl (by kernel_rfl) (by kernel_rfl) (by kernel_rfl) (fun _ _ _ h => h) (yieldsIf_load_mid (by rfl) _ (.tmp 5) rfl w.heap.size 0 rfl KL _ (fun _ h => h) Tryd.underlying32 rfl hiK) (by assumption) ?_
        go_simp
        refine wpAnyH_take (i := 9) (v := .pointer (some ⟨g2, 0, none⟩)) rfl (by kernel_rfl) (by kernel_rfl) (by kernel_rfl) (fun _ _ _ h => h) (Or.inl ⟨by rfl, fun w _ => by go_simp⟩) (by assumption) ?_
        go_simp
        refine wpAnyH_take (i := 10) (v := .agg KL.toArray) rfl (by kernel_rfl) (by kernel_rfl) (by kernel_rfl) (fun _ _ _ h => h) (yieldsIf_load_mid (by rfl) _ (.tmp 5) rfl w.heap.size 0 rfl KL _ (fun _ h => h) Tryd.underlying32 rfl hiK) (by assumption) ?_
        go_simp
        refine wpAnyH_ready (rs := [8]) (by kernel_rfl) (by simp) ?_
        refine AllReadyH.cons rfl (fun K hK => ?_) AllReadyH.nil
        (go_simp; go_at_call 31; refine (HDX1.out _ (by assumption)).mono ?_; rintro e wa3 ⟨rfl, hba3⟩; have hca3 := below_seq (show Below wr.heap.size wr _ from (by assumption)) hba3)
        try go_simp
        refine hK.out _ _ (HAR.out _ (by assumption)) (fun hHeld => ?_)
        clear hK K
        refine wpAnyH_ready (rs := [11]) (by kernel_rfl) (by simp) ?_
        refine AllReadyH.cons rfl (fun K hK => ?_) AllReadyH.nil
        (go_simp; go_at_call 31; refine (HDX2.out _ (by assumption)).mono ?_; rintro e wa4 ⟨rfl, hba4⟩; have hca4 := below_seq (show Below wr.heap.size wr _ from (by assumption)) hba4)
        try go_simp
        refine hK.out _ _ (HAR.out _ (by assumption)) (fun hHeld => ?_)
        clear hK K
        refine wpAnyH_take (i := 12) (v := .bool true) rfl (by kernel_rfl) (by kernel_rfl) (by kernel_rfl) (fun _ _ _ h => h) (Or.inl ⟨by rfl, fun w _ => by go_simp⟩) (by assumption) ?_
        go_simp
        refine wpAnyH_take (i := 13) (v := .bool true) rfl (by kernel_rfl) (by kernel_rfl) (by kernel_rfl) (fun _ _ _ h => h) (Or.inl ⟨by rfl, fun w _ => by go_simp⟩) (by assumption) ?_
        go_simp
        refine wpAnyH_take (i := 14) (v := .bool true) rfl (by kernel_rfl) (by kernel_rfl) (by kernel_rfl) (fun _ _ _ h => h) (Or.inl ⟨by rfl, fun w _ => by go_simp⟩) (by assumption) ?_
        go_simp
        refine wpAnyH_done (by kernel_rfl) ?_ _
        have HBE := Lib.hid (below_seq HB1.out (below_seq HBW.out hca4))
        go_wp2
        go_ret
        exact ⟨rfl, HBE.out⟩
end Go.Proofs.YtammiehklibadaaDoor.Seapt
