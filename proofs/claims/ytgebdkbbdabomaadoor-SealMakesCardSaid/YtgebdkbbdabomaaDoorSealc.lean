/-
  THE CONTRACTS of seal's New and Fresh.
-/
import Derived.Test.YtgebdkbbdabomaaDoorSealb
namespace Go.Proofs.YtgebdkbbdabomaaDoor.Seal
open Go.RowKit
open Go.Proofs.YtgebdkbbdabomaaDoor.Kit
open Go.Proofs.YtgebdkbbdabomaaDoor.Oct
open Go.Proofs.YtgebdkbbdabomaaDoor.Sha
open Go.Proofs.YtgebdkbbdabomaaDoor.Mac (derS derS_len macS macS_len strL strL_len derive_any sum_any text_any textS textS_len infoKz rd_str keyK keyK_len)
set_option linter.unusedVariables false

/-- a Real in memory: its seed lies in blocks that were made before it -/
def RealAt (w : World) (g : Nat) (seed : List UInt8) (ks bs : Nat) : Prop :=
  ∃ A n c, w.heap[g]? = some (.cells #[.slice A n c, .int .u64 (ks : Int), .int .u64 (bs : Int)] 67 (0, 0)) ∧ RdB w g A n c seed ∧ n ≤ 1000000
theorem RealAt.lt {w : World} {g : Nat} {seed : List UInt8} {ks bs : Nat} (h : RealAt w g seed ks bs) : g < w.heap.size := by
  obtain ⟨A, n, c, h1, _⟩ := h; exact block_lt_of_heap h1
theorem RealAt.keep {w w' : World} {g : Nat} {seed : List UInt8} {ks bs : Nat} (h : RealAt w g seed ks bs) (hk : ∀ b, b ≤ g → w'.heap[b]? = w.heap[b]?) : RealAt w' g seed ks bs := by
  obtain ⟨A, n, c, h1, h2, h3⟩ := h
  exact ⟨A, n, c, (hk g (Nat.le_refl _)).trans h1, h2.keep (fun p hp => World.cell?_of_block (hk _ (Nat.le_of_lt hp))), h3⟩
theorem RealAt.on {w w' : World} {g : Nat} {seed : List UInt8} {ks bs : Nat} (h : RealAt w g seed ks bs) (hb : Below w.heap.size w w') : RealAt w' g seed ks bs :=
  h.keep (fun b hb' => hb.block b (by have := h.lt; omega))
theorem low_seq {B : Nat} {a b c : World} (h : Below B a b) (hB : B ≤ b.heap.size) (k : Below b.heap.size b c) : Below B a c := h.trans (k.mono hB)

set_option maxRecDepth 100000 in
set_option maxHeartbeats 2000000 in
theorem new_real (A : Option Addr) (n c : Nat) (seed : List UInt8) (w : World) (hs : RdB w w.heap.size A n c seed) (hn : n ≤ 1000000) :
    Calls Tryd.prog 18 #[.slice A n c] w fun e w' => ∃ g, e = .returned (.pointer (some ⟨g, 0, none⟩)) ∧ w.heap.size ≤ g ∧ RealAt w' g seed 0 0 ∧ Below w.heap.size w w' := by
  have hl := hs.len
  have HS := Lib.hid hs
  clear hs
  go_enter Tryd.func18, Tryd.ntmps18
  go_wp2_with fail
  have hj : joinL [⟨A, n, c, seed⟩] = seed := by simp [joinL]
  have hcall := joined_new (some ⟨w.heap.size, 0, none⟩) 1 1 _ [⟨A, n, c, seed⟩] (w.alloc (.cells #[.slice A n c] 22)) (rd_cells (n := 1) w rfl rfl rfl (by omega))
    (by
      intro r hr
      obtain rfl := List.mem_singleton.1 hr
      exact HS.out.lit _) (Nat.le_refl _) (by rw [hj]; omega)
  rw [hj, hl] at hcall
  refine hcall.mono ?_
  rintro e w2 ⟨A2, c2, rfl, hn2⟩
  have hb2 := below_seq (below_of_new w _) hn2.bl
  have HN2 := Lib.hid hn2.rd
  have HB2 := Lib.hid hb2
  clear hn2 hb2 hcall hj
  go_wp2_with fail
  go_ret
  refine ⟨_, rfl, HB2.out.size, ⟨A2, n, c2, heap_alloc_new w2 _, ?_, hn⟩, below_seq HB2.out (below_of_new w2 _)⟩
  exact HN2.out.keep (fun p hp => World.cell?_alloc_lt w2 _ p hp)

def freS (seed : List UInt8) (n : Nat) : List UInt8 := (macS seed (be 8 n)).take 16
theorem freS_len (seed : List UInt8) (n : Nat) : (freS seed n).length = 16 := by rw [freS, List.length_take, macS_len]; rfl

set_option maxRecDepth 100000 in
set_option maxHeartbeats 4000000 in
theorem fresh_any (g : Nat) (seed : List UInt8) (ks bs : Nat) (w : World) (h : RealAt w g seed ks bs) (hR : Roots w) (hne : g ≠ 0) (hks : ks < 1000000) :
    Calls Tryd.prog 20 #[.pointer (some ⟨g, 0, none⟩)] w fun e w' => e = .returned (.agg ((freS seed (ks + 1)).map bv).toArray) ∧ RealAt w' g seed (ks + 1) bs ∧ w.grownBy w' (some g) := by
  have hglt := h.lt
  obtain ⟨A, n, c, hg, hrd, hn⟩ := h
  obtain ⟨ZV, hZ⟩ : ∃ q, q = Mac.Z16 := ⟨_, rfl⟩
  have hz : ∀ w, (zeroValue 30).run Tryd.prog w = .ok (.agg ZV) w := by rw [hZ]; exact Mac.z16
  have hzl : ZV.size = 16 := by rw [hZ]; rfl
  obtain ⟨K1, hK1⟩ : ∃ q, q = ks + 1 := ⟨_, rfl⟩
  obtain ⟨PV, hPV⟩ : ∃ q, q = ((freS seed K1).map bv).toArray := ⟨_, rfl⟩
  have hPs : PV.size = 16 := by rw [hPV]; simp [freS_len]
  have hIP : (Tryd.prog.info? 30).map (·.size) = some PV.size := by rw [hPs]; exact infoKz
  have hP1 : PV.all (·.oneCell') = true := by rw [hPV]; exact all_oneCell_toArray (bv_one _)
  have hg1 : (w.alloc (.cells ZV 30)).heap[g]? = some (.cells #[.slice A n c, .int .u64 (ks : Int), .int .u64 (bs : Int)] 67 (0, 0)) := (heap_alloc_old w _ hglt).trans hg
  have c1 : (w.alloc (.cells ZV 30)).cell? ⟨g, 1, none⟩ = some (.int .u64 (ks : Int)) := by rw [cell_of_row _ g 1 _ _ (0, 0) hg1]; rfl
  have f1 : (w.alloc (.cells ZV 30)).frozen? ⟨g, 1, none⟩ = false := frozen_of_row _ g 1 _ _ hg1
  obtain ⟨V1, hV1⟩ : ∃ q, q = w.setCell ⟨g, 1, none⟩ (.int .u64 (K1 : Int)) := ⟨_, rfl⟩
  have hg2 : V1.heap[g]? = some (.cells #[.slice A n c, .int .u64 (K1 : Int), .int .u64 (bs : Int)] 67 (0, 0)) := by rw [hV1, heap_setCell_same w g 1 _ _ _ hg]; rfl
  have hgb : w.grownBy V1 (some g) := by
    rw [hV1]
    exact ⟨rfl, rfl, rfl, by simp [World.setCell], fun i hi hn => heap_setCell_other _ _ _ _ (fun e => hn (by rw [e]))⟩
  have hv1s : V1.heap.size = w.heap.size := by rw [hV1]; simp [World.setCell]
  have hr2 : RdB V1 g A n c seed := hrd.keep (fun p hp => World.cell?_of_block (gb_block hgb (by omega) (by omega)))
  have hR2 : Roots V1 := hR.gb hgb hne
  have HCELL := Lib.hid (show ∀ W, Below w.heap.size V1 W → (W.cell? ⟨g, 0, none⟩ = some (.slice A n c) ∧ W.cell? ⟨g, 1, none⟩ = some (.int .u64 (K1 : Int))) from fun W h => by
    have h1 := (h.block g hglt).trans hg2
    exact ⟨by rw [cell_of_row W g 0 _ _ (0, 0) h1]; rfl, by rw [cell_of_row W g 1 _ _ (0, 0) h1]; rfl⟩)
  have HSEED := Lib.hid (show ∀ W, Below w.heap.size V1 W → RdB W W.heap.size A n c seed from fun W h => (hr2.keep (fun p hp => World.cell?_of_block (h.block p.block (by omega)))).more (by have := h.size; omega))
  have HROOT := Lib.hid (show ∀ W, Below w.heap.size V1 W → Roots W from fun W h i hi => by
    have hl := hR.lt
    exact (h.cell (p := ⟨0, i, none⟩) hl).trans (hR2 i hi))
  have hnl := hrd.len
  obtain ⟨V3, hV3⟩ : ∃ q, q = (V1.alloc (.cells ZV 30)).alloc (.cells ZV 30) := ⟨_, rfl⟩
  have hg30 : V3.heap[w.heap.size]? = some (.cells ZV 30 (0, 0)) := by rw [hV3, ← hv1s]; exact (Mac.heap2 V1 _ _).1
  have hg31 : V3.heap[w.heap.size + 1]? = some (.cells ZV 30 (0, 0)) := by rw [hV3, ← hv1s]; exact (Mac.heap2 V1 _ _).2
  have hb3 : Below w.heap.size V1 V3 := by rw [hV3, ← hv1s]; exact below_alloc (below_of_new V1 _) _
  have hv3s : V3.heap.size = w.heap.size + 1 + 1 := by rw [hV3]; simp [hv1s]
  rw [← hK1, ← hPV]
  have eK : (ks : Int) + 1 = (K1 : Int) := by omega
  have hK18 : K1 < 18446744073709551616 := by omega
  have HV1 := Lib.hid hV1
  have HV3 := Lib.hid hV3
  have HG2 := Lib.hid hg2
  have HR2 := Lib.hid hr2
  have HGB := Lib.hid hgb
  have HB3 := Lib.hid hb3
  have HG30 := Lib.hid hg30
  have HG31 := Lib.hid hg31
  have HV1S := Lib.hid hv1s
  have HV3S := Lib.hid hv3s
  have HIP := Lib.hid hIP
  have HP1 := Lib.hid hP1
  have HPS := Lib.hid hPs
  have HPV := Lib.hid hPV
  have HZL := Lib.hid hzl
  clear hZ hK1 hPV hg hg1 hg2 hV1 hV3 hgb hr2 hR2 hg30 hg31 hb3 hv1s hv3s hIP hP1 hPs hzl hrd hR
  go_enter Tryd.func20, Tryd.ntmps20
  go_wp2_with fail
  rw [← HV1.out, ← HV3.out]
  have hbd : Below V3.heap.size V3 V3.drew := below_of_drew ⟨1, rfl⟩ _
  have HLOW := Lib.hid (show ∀ W, Below V3.heap.size V3 W → Below w.heap.size V1 W from fun W h => low_seq HB3.out (by have := HV3S.out; omega) h)
  have HPUT := Lib.hid (show ∀ W, Calls Tryd.prog 40 #[.int .u64 (K1 : Int)] W fun e w' => ∃ A c, e = .returned (.slice A 8 c) ∧ RdB w' w'.heap.size A 8 c (be 8 K1) ∧ Below W.heap.size W w' from fun W => (put_new K1 W hK18).mono fun e w' ⟨A, c, he, hn⟩ => ⟨A, c, he, hn.rd, hn.bl⟩)
  have HSUM := Lib.hid (show ∀ W A8 c8, Below V3.heap.size V3 W → RdB W W.heap.size A8 8 c8 (be 8 K1) → Calls Tryd.prog 10 #[.slice A n c, .slice (some ⟨W.heap.size, 0, none⟩) 1 1] (W.alloc (.cells #[.slice A8 8 c8] 22)) fun e w' => ∃ ad c', e = .returned (.slice (some ad) 32 c') ∧ (∀ j v, ((freS seed K1).map bv)[j]? = some v → w'.cell? (ad.add j) = some v) ∧ Below W.heap.size W w' from fun W A8 c8 h h8 => by
    refine (sum_any A n c seed _ 1 1 [⟨A8, 8, c8, be 8 K1⟩] _ ((HSEED.out W (HLOW.out W h)).lit _) (by omega) (rd_cells (n := 1) W rfl rfl rfl (by omega)) ?_ ((HROOT.out W (HLOW.out W h)).lit _) (by simp [joinL, be_len])).mono ?_
    · intro r hr
      obtain rfl := List.mem_singleton.1 hr
      exact h8.lit _
    · rintro e w' ⟨A', c', rfl, hnw⟩
      rw [show joinL [⟨A8, 8, c8, be 8 K1⟩] = be 8 K1 from by simp [joinL]] at hnw
      have hr := Rd.front (k := 16) hnw.rd (by omega)
      rw [← List.map_take] at hr
      obtain ⟨b, o, rfl, hb, hc⟩ := hr.2.2.2 (by omega)
      exact ⟨⟨b, o, none⟩, c', rfl, fun j v hv => by rw [add_off]; exact hc j v hv, below_seq (below_of_new W _) hnw.bl⟩)
  have HZB := Lib.hid (show ∀ W, Below V3.heap.size V3 W → W.heap[w.heap.size + 1]? = some (.cells ZV.toList.toArray 30 (0, 0)) from fun W h => (h.block _ (block_lt_of_heap HG31.out)).trans HG31.out)
  have hfl : ((freS seed K1).map bv).length = Nat.min 32 16 := by rw [List.length_map, freS_len]; rfl
  have hfit : 0 + ((freS seed K1).map bv).length ≤ ZV.toList.length := by rw [hfl, Array.length_toList, HZL.out]; decide
  have hBg : w.heap.size ≤ w.heap.size + 1 := by omega
  have HMONO := Lib.hid (show ∀ W, Below V3.heap.size V3 W → Below (w.heap.size + 1) V3 W from fun W h => h.mono (by have := HV3S.out; omega))
  have HLOW2 := Lib.hid (show ∀ W, Below (w.heap.size + 1) V3 W → Below w.heap.size V1 W from fun W h => HB3.out.trans (h.mono (by omega)))
  have HFL := Lib.hid hfl
  have HFT := Lib.hid hfit
  have p0 : True := trivial
  have p1 : True := trivial
  have p2 : True := trivial
  clear hfl hfit
  go_region_held_law (fun W => W.cell? ⟨g, 0, none⟩ = some (.slice A n c) ∧ W.cell? ⟨g, 1, none⟩ = some (.int .u64 (K1 : Int)))
    (first | exact HCELL.out _ (HLOW.out _ (by assumption)) | exact HCELL.out _ (HLOW.out _ (below_alloc (by assumption) _)) | exact HCELL.out _ (HLOW2.out _ (by assumption)))
    (first
      | (clear p0; go_at_call 40; refine (HPUT.out _).mono ?_; rintro e wa ⟨Aa, ca, rfl, hra, hba⟩; have hca := below_seq (show Below V3.heap.size V3 _ from (by assumption)) hba)
      | (clear p1; go_at_call 10; refine (HSUM.out _ _ _ (by assumption) hra).mono ?_; rintro e wb ⟨ad, cb, rfl, hsrc, hbb⟩; have hcb := below_seq (show Below V3.heap.size V3 wa from (by assumption)) hbb)
      | (clear p2; refine step_copy_splice rfl (.tmp 11) (.tmp 22) 22 22 rfl 5 Tryd.underlying22 info8s _ _ 16 16 32 _ rfl rfl (w.heap.size + 1) 0 ZV.toList 30 (HZB.out _ hcb) ((freS seed K1).map bv) HFL.out (fun _ => ⟨rfl, _, rfl, hsrc⟩) HFT.out (bv_one _) (w.heap.size + 1) V3 (HMONO.out _ hcb) (Nat.le_refl _) ?_; intro w6 hg6 hb6))
  have hsp : (splice ZV.toList 0 ((freS seed K1).map bv)).toArray = PV := by
    rw [splice, List.take_zero, List.nil_append, Nat.zero_add, HFL.out, HPV.out, List.drop_eq_nil_of_le (by rw [Array.length_toList, HZL.out]; decide), List.append_nil]
  have hg6' := hg6.out
  rw [hsp] at hg6'
  have hg60 : w6.heap[w.heap.size]? = some (.cells ZV 30 (0, 0)) := (hb6.block w.heap.size (by omega)).trans HG30.out
  have HG61 := Lib.hid hg6'
  have HG60 := Lib.hid hg60
  have HB6 := Lib.hid (HLOW2.out _ hb6)
  clear hg6 hg6' hg60 hb6 hsp
  go_wp2_with (first
    | (refine wpList_load_row rfl 30 (.tmp 3) rfl (w.heap.size + 1) rfl 30 PV (0, 0) _ HG61.out Tryd.underlying30 rfl HIP.out ?_)
    | (refine wpList_store_row rfl 30 (.tmp 2) (.tmp 24) rfl w.heap.size PV rfl rfl 30 _ HG60.out HIP.out (by rw [HZL.out, HPS.out]) HP1.out ?_)
    | fail)
  have hres := setRow_heap w6 w.heap.size _ PV _ _ HG60.out
  have hbe : Below w.heap.size V1 (w6.setRow w.heap.size PV) := below_setRow HB6.out (Nat.le_refl _) _
  refine bodyPost_ret (v := .agg PV) (results_cell_row Tryd.results20 _ _ w.heap.size 30 PV (0, 0) _ (by rfl) hres Tryd.underlying30 rfl HIP.out) rfl ?_
  refine ⟨rfl, ⟨A, n, c, (hbe.block g hglt).trans HG2.out, HR2.out.keep (fun p hp => World.cell?_of_block (hbe.block p.block (by omega))), hn⟩, ?_⟩
  have h1 := HGB.out
  exact ⟨hbe.os.trans h1.os, hbe.tape.trans h1.tape, hbe.output.trans h1.output, by have := hbe.size; have := HV1S.out; omega, fun i hi hn => (hbe.block i hi).trans (h1.block i hi hn)⟩
end Go.Proofs.YtgebdkbbdabomaaDoor.Seal
