/-
  The walk of MacKeys: of all keys and labels, and all passwords, the keys are as the document says.
-/
import Derived.Test.YtgebdkbbdabomaaDoorMaci
import Derived.Test.YtgebdkbbdabomaaDoorMacr
import Derived.Test.YtgebdkbbdabomaaDoorShrh
import Derived.Test.YtgebdkbbdabomaaDoorShar
import Derived.Test.YtgebdkbbdabomaaDoorFin
import Derived.Deep.RegionHeldLaw
namespace Go.Proofs.YtgebdkbbdabomaaDoor.Mkeys
open Go.RowKit
open Go.Proofs.YtgebdkbbdabomaaDoor.Kit
open Go.Proofs.YtgebdkbbdabomaaDoor.Oct
open Go.Proofs.YtgebdkbbdabomaaDoor.Mac
open Go.Proofs.YtgebdkbbdabomaaDoor.Sha
set_option linter.unusedVariables false

theorem info16b : (Tryd.prog.info? 29).map (·.size) = some 16 := by kernel_rfl

set_option maxRecDepth 100000 in
set_option maxHeartbeats 4000000 in
theorem walk (k : List UInt8) (l p s : ByteArray) (w : World) (hk : k.length = 16) (hR : Roots w) :
    Calls Tryd.prog 4 #[.agg (k.map bv).toArray, .string l, .string p, .string s] w fun e w' => e = .returned (.bool true) ∧ Below w.heap.size w w' := by
  obtain ⟨ZV, hZ⟩ : ∃ q, q = Z16 := ⟨_, rfl⟩
  have hz : ∀ w, (zeroValue 30).run Tryd.prog w = .ok (.agg ZV) w := by rw [hZ]; exact z16
  have hzl : ZV.size = 16 := by rw [hZ]; rfl
  obtain ⟨KV, hKV⟩ : ∃ q, q = (k.map bv).toArray := ⟨_, rfl⟩
  have hKs : KV.size = 16 := by rw [hKV]; simp [hk]
  have hIK : (Tryd.prog.info? 29).map (·.size) = some KV.size := by rw [hKs]; exact info16b
  obtain ⟨W1, hW1⟩ : ∃ q, q = w.alloc (.cells KV 29) := ⟨_, rfl⟩
  have hb1 : Below w.heap.size w W1 := by rw [hW1]; exact below_of_new w _
  have hg1 : W1.heap[w.heap.size]? = some (.cells KV 29 (0, 0)) := by rw [hW1]; exact heap_alloc_new w _
  have hR1 : Roots W1 := hR.on hb1
  rw [← hKV]
  have HW1 := Lib.hid hW1
  have HB1 := Lib.hid hb1
  have HG1 := Lib.hid hg1
  have HR1 := Lib.hid hR1
  have HKV := Lib.hid hKV
  have HIK := Lib.hid hIK
  have HZL := Lib.hid hzl
  have HK := Lib.hid hk
  clear hW1 hb1 hg1 hR1 hKV hIK hzl hk hR hZ
  by_cases hbig : 60 < l.size ∨ 60 < p.size ∨ 60 < s.size
  · go_enter Tryd.func4, Tryd.ntmps4
    go_wp2_with fail
    rw [← HW1.out]
    refine (alive4_any W1 HR1.out).mono ?_
    rintro e w1 ⟨rfl, hb1⟩
    have HBE := Lib.hid (below_seq HB1.out hb1)
    clear hb1
    by_cases h1 : 60 < l.size
    · have t1 : decide ((60 : Int) < l.size) = true := by simp; omega
      go_wp2
      go_ret
      exact ⟨rfl, HBE.out⟩
    · have t1 : decide ((60 : Int) < l.size) = false := by simp; omega
      by_cases h2 : 60 < p.size
      · have t2 : decide ((60 : Int) < p.size) = true := by simp; omega
        go_wp2
        go_ret
        exact ⟨rfl, HBE.out⟩
      · have t2 : decide ((60 : Int) < p.size) = false := by simp; omega
        have t3 : decide ((60 : Int) < s.size) = true := by simp; omega
        go_wp2
        go_ret
        exact ⟨rfl, HBE.out⟩
  · have t1 : decide ((60 : Int) < l.size) = false := by simp; omega
    have t2 : decide ((60 : Int) < p.size) = false := by simp; omega
    have t3 : decide ((60 : Int) < s.size) = false := by simp; omega
    go_enter Tryd.func4, Tryd.ntmps4
    go_wp2_with fail
    rw [← HW1.out]
    refine (alive4_any W1 HR1.out).mono ?_
    rintro e w1 ⟨rfl, hb1⟩
    have hlt1 := block_lt_of_heap HG1.out
    have HG2 := Lib.hid ((hb1.block w.heap.size hlt1).trans HG1.out)
    have HR2 := Lib.hid (HR1.out.on hb1)
    have HB2 := Lib.hid (below_seq HB1.out hb1)
    clear hb1
    go_wp2_with fail
    refine (ks_own w1).mono ?_
    rintro e w2 ⟨A2, c2, rfl, ho2, hb2⟩
    have hlt2 := block_lt_of_heap HG2.out
    have HG3 := Lib.hid ((hb2.block w.heap.size hlt2).trans HG2.out)
    have HR3 := Lib.hid (HR2.out.on hb2)
    have HO2 := Lib.hid (Rd.of_own ho2)
    have HB3 := Lib.hid (below_seq HB2.out hb2)
    clear ho2 hb2
    go_wp2_with (first
      | (refine wpList_load_row rfl 29 (.tmp 4) rfl w.heap.size rfl 29 KV (0, 0) _ HG3.out Tryd.underlying29 rfl HIK.out ?_)
      | fail)
    have hder := derive_any k HK.out l (by omega) w2 HR3.out
    rw [← HKV.out] at hder
    obtain ⟨D, hD⟩ : ∃ D, D = derS k (strL l) := ⟨_, rfl⟩
    have hDl : D.length = 16 := by rw [hD, derS_len]
    obtain ⟨DV, hDV⟩ : ∃ q, q = (D.map bv).toArray := ⟨_, rfl⟩
    rw [← hD, ← hDV] at hder
    refine hder.mono ?_
    rintro e w3 ⟨rfl, hb3⟩
    have htx := text_any p s (by omega) (by omega) w3 (HR3.out.on hb3)
    obtain ⟨T, hT⟩ : ∃ T, T = textS (strL p) (strL s) := ⟨_, rfl⟩
    have hTl : T.length = 16 := by rw [hT, textS_len]
    obtain ⟨TV, hTV⟩ : ∃ q, q = (T.map bv).toArray := ⟨_, rfl⟩
    rw [← hT, ← hTV] at htx
    have hDs : DV.size = 16 := by rw [hDV]; simp [hDl]
    have hTs : TV.size = 16 := by rw [hTV]; simp [hTl]
    have hP1 : DV.all (·.oneCell') = true := by rw [hDV]; exact all_oneCell_toArray (bv_one _)
    have hP2 : TV.all (·.oneCell') = true := by rw [hTV]; exact all_oneCell_toArray (bv_one _)
    have HP1 := Lib.hid hP1
    have HP2 := Lib.hid hP2
    have HDS := Lib.hid hDs
    have HTS := Lib.hid hTs
    have HD := Lib.hid (And.intro hD (And.intro hDV hDl))
    have HT := Lib.hid (And.intro hT (And.intro hTV hTl))
    have HTX := Lib.hid htx
    have HB23 := Lib.hid hb3
    clear htx hb3 hder hD hDV hT hTV hDl hTl hDs hTs hP1 hP2
    go_wp2_with fail
    refine HTX.out.mono ?_
    rintro e w4 ⟨rfl, hb4⟩
    have hID : (Tryd.prog.info? 30).map (·.size) = some DV.size := by rw [HDS.out]; exact infoKz
    have hIT : (Tryd.prog.info? 30).map (·.size) = some TV.size := by rw [HTS.out]; exact infoKz
    have hg40 : ((w4.alloc (.cells ZV 30)).alloc (.cells ZV 30)).heap[w4.heap.size]? = some (.cells ZV 30 (0, 0)) := (heap2 w4 _ _).1
    have hg41 : ((w4.alloc (.cells ZV 30)).alloc (.cells ZV 30)).heap[w4.heap.size + 1]? = some (.cells ZV 30 (0, 0)) := (heap2 w4 _ _).2
    have hne : w4.heap.size ≠ w4.heap.size + 1 := by omega
    have hb24 := below_seq HB23.out hb4
    have HG40 := Lib.hid hg40
    have HG41 := Lib.hid hg41
    have HID := Lib.hid hID
    have HIT := Lib.hid hIT
    have HB24 := Lib.hid hb24
    clear hg40 hg41 hID hIT hb24 hb4
    go_wp2_with (first
      | ((refine wpList_store_row rfl 30 (.tmp 10) (.tmp 30) rfl w4.heap.size DV rfl rfl 30 _ HG40.out HID.out (by rw [HZL.out, HDS.out]) HP1.out ?_)
         have hg50 := setRow_heap ((w4.alloc (.cells ZV 30)).alloc (.cells ZV 30)) w4.heap.size _ DV _ _ HG40.out
         have hg51 := (setRow_other ((w4.alloc (.cells ZV 30)).alloc (.cells ZV 30)) w4.heap.size (w4.heap.size + 1) DV hne.symm).trans HG41.out)
      | ((refine wpList_store_row rfl 30 (.tmp 11) (.tmp 33) rfl (w4.heap.size + 1) TV rfl rfl 30 _ hg51 HIT.out (by rw [HZL.out, HTS.out]) HP2.out ?_)
         have hg61 := setRow_heap _ (w4.heap.size + 1) _ TV _ _ hg51
         have hg60 := (setRow_other _ (w4.heap.size + 1) w4.heap.size TV hne).trans hg50)
      | fail)
    obtain ⟨W7, hW7⟩ : ∃ q, q = ((((w4.alloc (.cells ZV 30)).alloc (.cells ZV 30)).setRow w4.heap.size DV).setRow (w4.heap.size + 1) TV) := ⟨_, rfl⟩
    rw [← hW7] at hg60 hg61 ⊢
    have hb47 : Below w4.heap.size w4 W7 := by rw [hW7]; exact below_setRow (below_setRow (below_alloc (below_of_new w4 _) _) (Nat.le_refl _) _) (by omega) _
    have hb27 := below_seq HB24.out hb47
    have HB7 := Lib.hid (below_seq HB3.out hb27)
    have hlt3 := block_lt_of_heap HG3.out
    have hg3 := (hb27.block w.heap.size hlt3).trans HG3.out
    rw [HKV.out] at hg3
    have hrk : RdB W7 W7.heap.size (some ⟨w.heap.size, 0, none⟩) 16 16 k := rd_block hg3 HK.out (by omega)
    rw [HD.out.2.1] at hg60
    rw [HT.out.2.1] at hg61
    have HSD := Lib.hid (show ∀ W, Below W7.heap.size W7 W → RdB W W.heap.size (some ⟨w4.heap.size, 0, none⟩) 16 16 D from fun W h => (rd_block hg60 HD.out.2.2 (by omega)).on h)
    have HST := Lib.hid (show ∀ W, Below W7.heap.size W7 W → RdB W W.heap.size (some ⟨w4.heap.size + 1, 0, none⟩) 16 16 T from fun W h => (rd_block hg61 HT.out.2.2 (by omega)).on h)
    have HC7 := Lib.hid (show ∀ W, Below W7.heap.size W7 W → Rd W W.heap.size A2 64 c2 (shaK.map wv) from fun W h => (HO2.out.below (below_seq hb27 h)).more (below_seq hb27 h).size)
    have HRD := Lib.hid (show ∀ W, Below W7.heap.size W7 W → Calls Tryd.prog 15 #[.slice A2 64 c2, .slice (some ⟨w.heap.size, 0, none⟩) 16 16, .string l] W fun e w' => ∃ A' c', e = .returned (.slice A' 16 c') ∧ RdB w' w'.heap.size A' 16 c' D ∧ Below W.heap.size W w' from fun W h => by
      rw [HD.out.1]; exact refderive_new A2 _ c2 16 16 k l W (HC7.out W h) (hrk.on h) (by omega) (by omega))
    have HRT := Lib.hid (show ∀ W, Below W7.heap.size W7 W → Calls Tryd.prog 16 #[.slice A2 64 c2, .string p, .string s] W fun e w' => ∃ A' c', e = .returned (.slice A' 16 c') ∧ RdB w' w'.heap.size A' 16 c' T ∧ Below W.heap.size W w' from fun W h => by
      rw [HT.out.1]; exact reftext_new A2 c2 p s W (HC7.out W h) (by omega) (by omega))
    have hbd : Below W7.heap.size W7 W7.drew := below_of_drew ⟨1, rfl⟩ _
    have p0 : True := trivial
    have p1 : True := trivial
    have p2 : True := trivial
    have p3 : True := trivial
    clear hW7 hg60 hg61 hb47 hb27 hlt3 hg3 hrk
    go_region_held_law (fun _ => True) (trivial)
      (first
        | (clear p0; go_at_call 15; refine (HRD.out _ (by assumption)).mono ?_; rintro e wa ⟨Aa, ca, rfl, hra, hba⟩; have hca := below_seq (show Below W7.heap.size W7 _ from (by assumption)) hba)
        | (clear p1; go_at_call 9; refine (rsame_new _ _ _ _ _ _ D D _ (HSD.out _ (by assumption)) hra).mono ?_; rintro e wb ⟨rfl, hbb⟩; rw [show decide (D = D) = true from by simp]; have hcb := below_seq (show Below W7.heap.size W7 _ from (by assumption)) hbb)
        | (clear p2; go_at_call 16; refine (HRT.out _ (by assumption)).mono ?_; rintro e wc ⟨Ac, cc, rfl, hrc, hbc⟩; have hcc := below_seq (show Below W7.heap.size W7 _ from (by assumption)) hbc)
        | (clear p3; go_at_call 9; refine (rsame_new _ _ _ _ _ _ T T _ (HST.out _ (by assumption)) hrc).mono ?_; rintro e wd ⟨rfl, hbd2⟩; rw [show decide (T = T) = true from by simp]; have hcd := below_seq (show Below W7.heap.size W7 _ from (by assumption)) hbd2))
    have HBE := Lib.hid (below_seq HB7.out hcd)
    go_wp2
    go_ret
    exact ⟨rfl, HBE.out⟩
end Go.Proofs.YtgebdkbbdabomaaDoor.Mkeys
