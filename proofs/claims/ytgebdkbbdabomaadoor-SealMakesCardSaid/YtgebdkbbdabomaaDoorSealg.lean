/-
  THE CONTRACT of alive of layer 6.
-/
import Derived.Test.YtgebdkbbdabomaaDoorSealx
import Derived.Test.YtgebdkbbdabomaaDoorShal
import Derived.Test.YtgebdkbbdabomaaDoorShaz
namespace Go.Proofs.YtgebdkbbdabomaaDoor.Seal
open Go.RowKit
open Go.Proofs.YtgebdkbbdabomaaDoor.Kit
open Go.Proofs.YtgebdkbbdabomaaDoor.Oct
open Go.Proofs.YtgebdkbbdabomaaDoor.Sha
open Go.Proofs.YtgebdkbbdabomaaDoor.Mac (derS derS_len macS macS_len strL strL_len derive_any sum_any text_any textS textS_len infoKz rd_str keyK keyK_len)
set_option linter.unusedVariables false

theorem eq_keyS (xs ys : List UInt8) (hx : xs.length = 16) (hy : ys.length = 16) (w : World) : (Op.equalIn 10000 30 (.agg (xs.map bv).toArray) (.agg (ys.map bv).toArray)).run Tryd.prog w = .ok (xs == ys) w :=
  run_equalIn_bytes w 9998 30 5 16 Tryd.underlying30 Tryd.underlying5 (fun w => by kernel_rfl) xs ys hx hy
def sd : List UInt8 := [115, 101, 101, 100]
set_option maxRecDepth 100000 in
theorem two_keys : (freS sd 1 == freS sd 2) = false := by
  rw [freS, freS, Mac.macS, Mac.macS, dig_eq, dig_eq, dig_eq, dig_eq]
  decide +kernel

set_option maxRecDepth 100000 in
set_option maxHeartbeats 2000000 in
theorem digr_any (g : Nat) (A : Option Addr) (n c : Nat) (bs : List UInt8) (w : World) (hb : RdB w w.heap.size A n c bs) (hn : n ≤ 1000000) (hR : Roots w) :
    Calls Tryd.prog 24 #[.pointer (some ⟨g, 0, none⟩), .slice A n c] w fun e w' => ∃ A' c', e = .returned (.slice A' 16 c') ∧ RdB w' w'.heap.size A' 16 c' ((dig bs).take 16) ∧ Below w.heap.size w w' := by
  have hl := hb.len
  have hcall := of_any (some ⟨w.heap.size, 0, none⟩) 1 1 [⟨A, n, c, bs⟩] (w.alloc (.cells #[.slice A n c] 22)) (rd_cells (n := 1) w rfl rfl rfl (by omega))
    (by
      intro r hr
      obtain rfl := List.mem_singleton.1 hr
      exact hb.lit _) (hR.lit _) (by simp [joinL]; omega)
  rw [show joinL [⟨A, n, c, bs⟩] = bs from by simp [joinL]] at hcall
  have HCALL := Lib.hid hcall
  clear hcall hb hR
  go_enter Tryd.func24, Tryd.ntmps24
  go_wp2_with fail
  refine HCALL.out.mono ?_
  rintro e w2 ⟨A2, c2, rfl, hn2⟩
  have hr2 := hn2.rd
  have hrm2 := hr2.room
  have hfr := Rd.front (k := 16) hr2 (by omega)
  rw [← List.map_take] at hfr
  have hcut := front16 A2 32 c2 (by omega)
  have HFR := Lib.hid (show RdB w2 w2.heap.size A2 16 c2 ((dig bs).take 16) from hfr)
  have HB2 := Lib.hid (below_seq (below_of_new w _) hn2.bl)
  clear hfr hr2 hn2
  go_wp2_with fail
  have hj : joinL [⟨A2, 16, c2, (dig bs).take 16⟩] = (dig bs).take 16 := by simp [joinL]
  have hl2 : ((dig bs).take 16).length = 16 := by rw [List.length_take, dig_len]; rfl
  have hcall := joined_new (some ⟨w2.heap.size, 0, none⟩) 1 1 _ [⟨A2, 16, c2, (dig bs).take 16⟩] (w2.alloc (.cells #[.slice A2 16 c2] 22)) (rd_cells (n := 1) w2 rfl rfl rfl (by omega))
    (by
      intro r hr
      obtain rfl := List.mem_singleton.1 hr
      exact HFR.out.lit _) (Nat.le_refl _) (by rw [hj, hl2]; omega)
  rw [hj, hl2] at hcall
  refine hcall.mono ?_
  rintro e w3 ⟨A3, c3, rfl, hn3⟩
  have HN3 := Lib.hid hn3.rd
  have HB3 := Lib.hid (below_seq HB2.out (below_seq (below_of_new w2 _) hn3.bl))
  clear hn3 hcall hj hl2
  go_wp2_with fail
  go_ret
  exact ⟨A3, c3, rfl, HN3.out, HB3.out⟩

set_option maxRecDepth 100000 in
set_option maxHeartbeats 4000000 in
theorem alive6_any (w : World) (hR : Roots w) : Calls Tryd.prog 17 #[] w fun e w' => e = .returned (.bool true) ∧ Below w.heap.size w w' := by
  have kc := conv_const
  obtain ⟨ZV, hZ⟩ : ∃ q, q = Mac.Z16 := ⟨_, rfl⟩
  have hz : ∀ w, (zeroValue 30).run Tryd.prog w = .ok (.agg ZV) w := by rw [hZ]; exact Mac.z16
  have hzl : ZV.size = 16 := by rw [hZ]; rfl
  obtain ⟨k1, hk1⟩ : ∃ q, q = freS sd 1 := ⟨_, rfl⟩
  obtain ⟨k2, hk2⟩ : ∃ q, q = freS sd 2 := ⟨_, rfl⟩
  have hl1 : k1.length = 16 := by rw [hk1, freS_len]
  have hl2 : k2.length = 16 := by rw [hk2, freS_len]
  have hne12 : (k1 == k2) = false := by rw [hk1, hk2]; exact two_keys
  obtain ⟨KL, hKL⟩ : ∃ q, q = k1.map bv := ⟨_, rfl⟩
  obtain ⟨K2, hK2⟩ : ∃ q, q = (k2.map bv).toArray := ⟨_, rfl⟩
  have hKl : KL.length = 16 := by rw [hKL, List.length_map, hl1]
  have hKs : KL.toArray.size = 16 := by simpa using hKl
  have hI : (Tryd.prog.info? 30).map (·.size) = some KL.toArray.size := by rw [hKs]; exact infoKz
  have hP1 : KL.toArray.all (·.oneCell') = true := by rw [hKL]; exact all_oneCell_toArray (bv_one _)
  have e12 : ∀ w, (Op.equalIn 10000 30 (.agg KL.toArray) (.agg K2)).run Tryd.prog w = .ok false w := fun w => by rw [hKL, hK2, eq_keyS _ _ hl1 hl2, hne12]
  have hrl := hR.lt
  have HR := Lib.hid hR
  have HZL := Lib.hid hzl
  have HI := Lib.hid hI
  have HP1 := Lib.hid hP1
  have HKS := Lib.hid hKs
  have HK := Lib.hid (And.intro hk1 (And.intro hk2 (And.intro hKL hK2)))
  have HL := Lib.hid (And.intro hl1 hl2)
  clear hR hZ hzl hI hP1 hKs hk1 hk2 hKL hK2 hl1 hl2 hne12
  go_enter Tryd.func17, Tryd.ntmps17
  go_wp2_with fail
  refine (new_real _ 4 4 sd _ (rd_const w (n := 4) rfl rfl rfl (by omega)) (by omega)).mono ?_
  rintro e w1 ⟨g, rfl, hg1, hra1, hb1⟩
  have hgw : w.heap.size ≤ g := by have := (below_of_new w (.cells #[.int .u8 115, .int .u8 101, .int .u8 101, .int .u8 100] 5)).size; simp at hg1; omega
  have HRA1 := Lib.hid hra1
  have HB1 := Lib.hid (below_seq ((Below.refl _ _).alloc (Nat.le_refl _) _) hb1)
  have hgne : g ≠ 0 := by omega
  clear hra1 hb1 hg1
  go_wp2_with fail
  have e1 : ((freS sd (0 + 1)).map bv).toArray = KL.toArray := by rw [HK.out.2.2.1, HK.out.1]
  have hfr := fresh_any g sd 0 0 w1 HRA1.out (HR.out.on HB1.out) hgne (by omega)
  rw [e1] at hfr
  refine hfr.mono ?_
  rintro e w2 ⟨rfl, hra2, hgb2⟩
  have hb2 := gb_lift HB1.out hgb2 hgw
  have hg2 := heap_alloc_new w2 (.cells ZV 30)
  have hgl2 := hra2.lt
  have HG2 := Lib.hid hg2
  have HRA2 := Lib.hid hra2
  have HB2 := Lib.hid hb2
  clear hfr e1 hra2 hgb2 hb2 hg2 HRA1
  go_wp2_with (first
    | ((refine wpList_store_row rfl 30 (.tmp 2) (.tmp 12) rfl w2.heap.size KL.toArray rfl rfl 30 _ HG2.out HI.out (by rw [HZL.out, HKS.out]) HP1.out ?_)
       have hg3 := setRow_heap (w2.alloc (.cells ZV 30)) w2.heap.size _ KL.toArray _ _ HG2.out)
    | (refine wpList_load_row rfl 30 (.tmp 2) rfl w2.heap.size rfl 30 KL.toArray (0, 0) _ hg3 Tryd.underlying30 rfl HI.out ?_)
    | fail)
  obtain ⟨W3, hW3⟩ : ∃ q, q = (w2.alloc (.cells ZV 30)).setRow w2.heap.size KL.toArray := ⟨_, rfl⟩
  rw [← hW3] at hg3 ⊢
  have hz3 : W3.heap.size = w2.heap.size + 1 := by rw [hW3]; simp [World.setRow]
  have hb23 : Below w2.heap.size w2 W3 := by rw [hW3]; exact below_setRow (below_of_new w2 _) (Nat.le_refl _) _
  rw [← hz3]
  obtain ⟨W4, hW4⟩ : ∃ q, q = W3.alloc (.cells #[.int .u8 97, .int .u8 98, .int .u8 99] 5 (3, 4)) := ⟨_, rfl⟩
  have hb34 : Below W3.heap.size W3 W4 := by rw [hW4]; exact below_of_new W3 _
  have hlit : RdS W4 (fun b => b < W4.heap.size ∧ b ≠ g) (some ⟨W3.heap.size, 0, none⟩) 3 3 (([97, 98, 99] : List UInt8).map bv) := by rw [hW4]; exact rds_lit W3 rfl (by omega) rfl rfl (by omega)
  have hb24 := below_seq hb23 hb34
  have hsz4 := hb34.size
  have HB4 := Lib.hid (below_seq HB2.out hb24)
  have hg4 := (hb34.block w2.heap.size (by omega)).trans hg3
  have hgk : g ≠ w2.heap.size := by omega
  have hw24 : w2.heap.size < W4.heap.size := by omega
  have hseal := seal_any g sd (0 + 1) 0 k1 HL.out.1 ⟨#[50]⟩ 2 (by decide) (some ⟨W3.heap.size, 0, none⟩) 3 3 [97, 98, 99] W4 (HRA2.out.on hb24) (HR.out.on HB4.out) (fun _ _ => ito_2 _) hgne (by omega) hlit (by omega)
  rw [← HK.out.2.2.1] at hseal
  rw [← hW4]
  refine hseal.mono ?_
  rintro e w5 ⟨A5, c5, rfl, ho5, hra5, hgb5⟩
  obtain ⟨bx, rfl⟩ : ∃ q, A5 = some ⟨q, 0, none⟩ := by
    rcases own_cases ho5 with ⟨_, _, h⟩ | h
    · omega
    · exact h
  have hbx := ho5.lt bx rfl
  obtain ⟨BX, hBX⟩ : ∃ q, q = boxS k1 ⟨#[50]⟩ (be 8 1) [97, 98, 99] := ⟨_, rfl⟩
  rw [show be 8 (0 + 1) = be 8 1 from rfl, ← hBX] at ho5
  have c7 : BX[7]? = some 1 := by
    rw [hBX, boxS, txtS, List.getElem?_append_left (by rw [List.length_append, be_len]; omega), List.getElem?_append_left (by rw [be_len]; omega)]; rfl
  have hcell7 := (own_cells ho5).1 7 (.int .u8 1) (by rw [List.getElem?_map, c7]; rfl)
  have hr5 : RdB w5 w5.heap.size (some ⟨bx, 0, none⟩) 27 c5 BX := Rd.of_own ho5
  have hg5 := (gb_block hgb5 (show w2.heap.size < W4.heap.size by omega) (fun e => hgk e.symm)).trans hg4
  have HRA5 := Lib.hid hra5
  have HR5 := Lib.hid hr5
  have HG5 := Lib.hid hg5
  have HC7 := Lib.hid hcell7
  have HB5 := Lib.hid (gb_lift HB4.out hgb5 hgw)
  have HBX := Lib.hid hBX
  have hbg : g ≠ bx := by omega
  have hb5s := hgb5.size
  clear hW3 hz3 hb23 hW4 hb34 hlit hb24 hg3 hg4 hseal ho5 hBX c7 hcell7 hr5 hra5 hgb5 hg5 HG2 HRA2 HB2
  go_wp2_with (first
    | (refine wpList_load_row rfl 30 (.tmp 2) rfl w2.heap.size rfl 30 KL.toArray (0, 0) _ HG5.out Tryd.underlying30 rfl HI.out ?_)
    | fail)
  have hr5 := HR5.out
  rw [HBX.out] at hr5
  have hop := open_yes g k1 HL.out.1 ⟨#[50]⟩ 2 (by decide) (some ⟨bx, 0, none⟩) 3 c5 (be 8 1) [97, 98, 99] w5 (HR.out.on HB5.out) (ito_2 _) (be_len _ _) hr5 rfl (by omega)
  rw [← HK.out.2.2.1] at hop
  refine hop.mono ?_
  rintro e w6 ⟨r, rfl, hr6, hb6⟩
  have HRA6 := Lib.hid (HRA5.out.on hb6)
  have HB6 := Lib.hid (below_seq HB5.out hb6)
  have HBODY := Lib.hid (show ∀ W, Below w6.heap.size w6 W → RdB W W.heap.size (some ⟨r, 0, none⟩) 3 3 [97, 98, 99] from fun W h => hr6.on h)
  have hg6 := (hb6.block w2.heap.size (by omega)).trans HG5.out
  have hc6 := (hb6.cell (p := ⟨bx, 7, none⟩) hbx.2).trans HC7.out
  have hbx6 : bx < w6.heap.size := by have := hb6.size; omega
  have hw26 : w2.heap.size < w6.heap.size := by have := hb6.size; omega
  have HS := Lib.hid (show ∀ W, w6.grownBy W (some g) → (W.cell? ⟨bx, 7, none⟩ = some (.int .u8 1) ∧ W.rangeAt w2.heap.size 0 KL) from fun W h =>
    ⟨(World.cell?_of_block (gb_block h hbx6 (fun e => hbg e.symm))).trans hc6, range_block ((gb_block h hw26 (fun e => hgk e.symm)).trans hg6)⟩)
  have HROOT := Lib.hid (show ∀ W, w6.grownBy W (some g) → Roots W from fun W h => (HR.out.on HB6.out).gb h hgne)
  have hbd : Below w6.heap.size w6 w6.drew := below_of_drew ⟨1, rfl⟩ _
  have hgd : w6.grownBy w6.drew (some g) := gb_of_below hbd _
  have hu1 := Tryd.underlying30
  have hiK : (Tryd.prog.info? 30).map (·.size) = some KL.length := by rw [hKl]; exact infoKz
  have p0 : True := trivial
  have p1 : True := trivial
  have p2 : True := trivial
  clear hr5 hop hr6 hb6 hg6 hc6
  have HFR := Lib.hid (show ∀ W, Below w6.heap.size w6 W → Calls Tryd.prog 20 #[.pointer (some ⟨g, 0, none⟩)] W fun e w' => e = .returned (.agg K2) ∧ W.grownBy w' (some g) from fun W h => by
    have := fresh_any g sd (0 + 1) (0 + 1) W (HRA6.out.on h) (HROOT.out W (gb_of_below h _)) hgne (by omega)
    rw [HK.out.2.2.2, HK.out.2.1]
    exact this.mono fun e w' ⟨h1, _, h3⟩ => ⟨h1, h3⟩)
  have kc2 : ∀ (w : World) (C : Array Value) (g n c : Nat), g = w.heap.size → (convert 22 22 (.slice (some ⟨g, 0, none⟩) n c)).run Tryd.prog (w.alloc (.cells C 5)).drew = .ok (.slice (some ⟨g, 0, none⟩) n c) (w.alloc (.cells C 5 (C.size, C.size + 1))).drew := fun w C g n c h => conv_const w.drew C g n c h
  have hbl6 : Below w6.heap.size w6 (w6.alloc (.cells #[.int .u8 97, .int .u8 98, .int .u8 99] 5 (3, 4))).drew := Go.Proofs.YtgebdkbbdabomaaDoor.Aes.below_drew' (below_of_new w6 _)
  have hgl6 : w6.grownBy (w6.alloc (.cells #[.int .u8 97, .int .u8 98, .int .u8 99] 5 (3, 4))).drew (some g) := gb_of_below hbl6 _
  have HLIT := Lib.hid (show RdB (w6.alloc (.cells #[.int .u8 97, .int .u8 98, .int .u8 99] 5 (3, 4))).drew (w6.alloc (.cells #[.int .u8 97, .int .u8 98, .int .u8 99] 5 (3, 4))).drew.heap.size (some ⟨w6.heap.size, 0, none⟩) 3 3 [97, 98, 99] from RdB.on (rd_const w6 (n := 3) rfl rfl rfl (by omega)) (below_of_drew ⟨1, rfl⟩ _))
  go_wp2_with fail
  go_region_held_law (fun W => W.cell? ⟨bx, 7, none⟩ = some (.int .u8 1) ∧ W.rangeAt w2.heap.size 0 KL)
    (first | exact HS.out _ (by assumption) | exact HS.out _ (gb_of_below (Go.Proofs.YtgebdkbbdabomaaDoor.Aes.below_drew' (below_of_new w6 _)) _))
    (first
      | (clear p0; go_at_call 9; refine (rsame_new _ _ _ _ _ _ [97, 98, 99] [97, 98, 99] _ (HBODY.out _ hbl6) HLIT.out).mono ?_; rintro e wa ⟨rfl, hba⟩; rw [show decide (([97, 98, 99] : List UInt8) = [97, 98, 99]) = true from rfl]; have hca := below_seq hbl6 hba; have hga : w6.grownBy wa (some g) := gb_of_below hca _)
      | (clear p1; go_at_call 20; refine (HFR.out _ (below_seq hbl6 hba)).mono ?_; rintro e wb ⟨rfl, hgbb⟩; have hgb := grown_trans (show w6.grownBy wa (some g) from (by assumption)) hgbb)
      | (clear p2; go_at_call 24; refine (digr_any g none 0 0 [] _ (Rd.nil _ _) (by omega) (HROOT.out _ hgb)).mono ?_; rintro e wc ⟨Ac, cc, rfl, hrc, hbc⟩; have hgc := grown_trans hgb (gb_of_below hbc (some g))))
  have HBE := Lib.hid (gb_lift HB6.out hgc hgw)
  go_wp2
  go_ret
  exact ⟨rfl, HBE.out⟩
end Go.Proofs.YtgebdkbbdabomaaDoor.Seal
