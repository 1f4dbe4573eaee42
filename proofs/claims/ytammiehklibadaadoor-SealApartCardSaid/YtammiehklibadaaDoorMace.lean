/-
  THE CONTRACT of mac's Sum.
-/
import Derived.Test.YtammiehklibadaaDoorMacd
namespace Go.Proofs.YtammiehklibadaaDoor.Mac
open Go.RowKit
open Go.Proofs.YtammiehklibadaaDoor.Kit
open Go.Proofs.YtammiehklibadaaDoor.Oct
open Go.Proofs.YtammiehklibadaaDoor.Sha
set_option linter.unusedVariables false

/-- a key's block, held against a byte -/
def keyK (k : List UInt8) (x : UInt8) : List UInt8 := (padK (keyL k)).map (fun y => y ^^^ x)
theorem padKL_len (k : List UInt8) : (padK (keyL k)).length = 64 := padK_len _ (keyL_len k)
theorem keyK_len (k : List UInt8) (x : UInt8) : (keyK k x).length = 64 := by rw [keyK, List.length_map, padKL_len]
/-- the keyed sum -/
def macS (k b : List UInt8) : List UInt8 := dig (keyK k 92 ++ dig (keyK k 54 ++ b))
theorem macS_len (k b : List UInt8) : (macS k b).length = 32 := dig_len _
theorem mixed_54 (P : List UInt8) (hP : P.length = 64) (w : World) : Calls Tryd.prog 39 #[.agg (P.map bv).toArray, .int .u8 54] w fun e w' =>
    e = .returned (.slice (some ⟨w.heap.size, 0, none⟩) 64 64) ∧ w'.heap[w.heap.size]? = some (.cells ((P.map (fun x => x ^^^ 54)).map bv).toArray 64 (0, 0)) ∧ Below w.heap.size w w' := mixed_any P hP 54 w
theorem mixed_92 (P : List UInt8) (hP : P.length = 64) (w : World) : Calls Tryd.prog 39 #[.agg (P.map bv).toArray, .int .u8 92] w fun e w' =>
    e = .returned (.slice (some ⟨w.heap.size, 0, none⟩) 64 64) ∧ w'.heap[w.heap.size]? = some (.cells ((P.map (fun x => x ^^^ 92)).map bv).toArray 64 (0, 0)) ∧ Below w.heap.size w w' := mixed_any P hP 92 w
/-- a whole block reads as a row, for a Sum of another block -/
theorem rds_block {w : World} {g G n : Nat} {t : TypeId} {fr : Nat × Nat} {bs : List UInt8} (h : w.heap[g]? = some (.cells (bs.map bv).toArray t fr)) (hn : bs.length = n) (hm : n ≤ 9223372036854775807) (hne : g ≠ G) :
    RdS w (fun b => b < w.heap.size ∧ b ≠ G) (some ⟨g, 0, none⟩) n n (bs.map bv) := by
  refine ⟨by rw [List.length_map, hn], Nat.le_refl _, hm, fun _ => ⟨g, 0, rfl, ⟨block_lt_of_heap h, hne⟩, fun j u hu => ?_⟩⟩
  rw [cell_of_row w g _ _ t fr h, Nat.zero_add, List.getElem?_toArray]
  exact hu

set_option maxRecDepth 100000 in
set_option maxHeartbeats 2000000 in
theorem sum_own (Ak : Option Addr) (nk ck : Nat) (key : List UInt8) (A : Option Addr) (n c : Nat) (R : List Row) (w : World) (hkey : RdB w w.heap.size Ak nk ck key) (hnk : nk ≤ 576460752303423488)
    (h : Rd w w.heap.size A n c (R.map Row.v)) (hR : ∀ r ∈ R, RdB w w.heap.size r.A r.n r.c r.bs) (hRt : Roots w) (hT : 64 + (joinL R).length ≤ 576460752303423488) :
    Calls Tryd.prog 15 #[.slice Ak nk ck, .slice A n c] w fun e w' => ∃ A' c' B, e = .returned (.slice A' 32 c') ∧ w.heap.size ≤ B ∧ w'.ownsRow B 5 1 (.slice A' 32 c') 32 ((macS key (joinL R)).map bv) ∧ Below w.heap.size w w' := by
  obtain ⟨hle, hge⟩ : n ≤ R.length ∧ R.length ≤ n := by have := h.len; simp at this; omega
  have hr := h.room
  obtain ⟨P, hP⟩ : ∃ q, q = padK (keyL key) := ⟨_, rfl⟩
  have hPl : P.length = 64 := by rw [hP]; exact padKL_len key
  obtain ⟨K1, hK1⟩ : ∃ q, q = P.map (fun x => x ^^^ 54) := ⟨_, rfl⟩
  obtain ⟨K2, hK2⟩ : ∃ q, q = P.map (fun x => x ^^^ 92) := ⟨_, rfl⟩
  have hK1l : K1.length = 64 := by rw [hK1, List.length_map, hPl]
  have hK2l : K2.length = 64 := by rw [hK2, List.length_map, hPl]
  have hmac : macS key (joinL R) = dig (K2 ++ dig (K1 ++ joinL R)) := by rw [macS, keyK, keyK, ← hP, ← hK1, ← hK2]
  obtain ⟨PV, hPV⟩ : ∃ q, q = (P.map bv).toArray := ⟨_, rfl⟩
  have hPs : PV.size = 64 := by rw [hPV]; simp [hPl]
  have hI : (Tryd.prog.info? 64).map (·.size) = some PV.size := by rw [hPs]; exact info53z
  have hP1 : PV.all (·.oneCell') = true := by rw [hPV]; exact all_oneCell_toArray (bv_one _)
  obtain ⟨ZL, hZ⟩ : ∃ q, q = List.replicate 64 (Value.int .u8 0) := ⟨_, rfl⟩
  have hz : ∀ w, (zeroValue 64).run Tryd.prog w = .ok (.agg ZL.toArray) w := by rw [hZ]; exact z64
  have hzl : ZL.length = 64 := by rw [hZ]; rfl
  have hc54 := mixed_54 P hPl
  have hc92 := mixed_92 P hPl
  have hpad := padded_any Ak nk ck key w hkey hRt hnk
  rw [← hP, ← hPV] at hpad
  rw [← hPV, ← hK1] at hc54
  rw [← hPV, ← hK2] at hc92
  rw [hmac]
  have HT := Lib.hid hT
  have HH := Lib.hid h
  have HR := Lib.hid hR
  have HRT := Lib.hid hRt
  have HPAD := Lib.hid hpad
  have HC54 := Lib.hid hc54
  have HC92 := Lib.hid hc92
  have HI := Lib.hid hI
  have HP1 := Lib.hid hP1
  have HPS := Lib.hid hPs
  have HZL := Lib.hid hzl
  have HK1L := Lib.hid hK1l
  have HK2L := Lib.hid hK2l
  have hrt0 := hRt.lt
  clear hT h hR hRt hkey hP hPl hK1 hK2 hmac hPV hPs hI hP1 hZ hzl hc54 hc92 hpad hK1l hK2l
  go_enter Tryd.func15, Tryd.ntmps15
  go_wp2_with fail
  refine HPAD.out.mono ?_
  rintro e w1 ⟨rfl, hb1⟩
  have hs1 := hb1.size
  have hg1 := heap_alloc_new w1 (.cells ZL.toArray 64)
  have HB1 := Lib.hid hb1
  have HG1 := Lib.hid hg1
  clear hb1 hg1
  go_wp2_with (first
    | (refine wpList_store_row rfl 64 (.tmp 5) (.tmp 10) rfl w1.heap.size PV rfl rfl 64 _ HG1.out HI.out (by rw [List.size_toArray, HZL.out, HPS.out]) HP1.out ?_)
    | fail)
  have hres := setRow_heap (w1.alloc (.cells ZL.toArray 64)) w1.heap.size _ PV _ _ HG1.out
  have hb2 : Below w.heap.size w ((w1.alloc (.cells ZL.toArray 64)).setRow w1.heap.size PV) := below_setRow (below_alloc HB1.out _) hs1 _
  obtain ⟨W2, hW2⟩ : ∃ q, q = ((w1.alloc (.cells ZL.toArray 64)).setRow w1.heap.size PV) := ⟨_, rfl⟩
  have hz2 : W2.heap.size = w1.heap.size + 1 := by rw [hW2]; simp [World.setRow]
  rw [← hW2] at hres hb2 ⊢
  have HW := Lib.hid hb2
  have HRES := Lib.hid hres
  have HZ2 := Lib.hid (show w1.heap.size < W2.heap.size by omega)
  clear hW2 hb2 hres hz2
  refine (new_any W2).mono ?_
  rintro e w3 ⟨rfl, hs3, hb3, hlt3⟩
  have hgp : w1.heap.size < W2.heap.size := HZ2.out
  have HS3 := Lib.hid hs3
  have HB3 := Lib.hid (below_seq HW.out hb3)
  have hg3 := (hb3.block w1.heap.size (by omega)).trans HRES.out
  have hz3 := hb3.size
  clear hs3 hb3
  go_wp2_with (first
    | (refine wpList_load_row rfl 64 (.tmp 5) rfl w1.heap.size rfl 64 PV (0, 0) _ hg3 Tryd.underlying64 rfl HI.out ?_)
    | fail)
  refine (HC54.out w3).mono ?_
  rintro e w4 ⟨rfl, hg4, hb4⟩
  have hz4 := hb4.size
  have HB4 := Lib.hid (below_seq HB3.out hb4)
  have HG4 := Lib.hid ((hb4.block w1.heap.size (by omega)).trans hg3)
  have hrs4 := rds_block (G := W2.heap.size) hg4 HK1L.out (by omega) (by omega)
  have HRS4 := Lib.hid hrs4
  have HS4 := Lib.hid (HS3.out.below hlt3 hb4)
  have hne : W2.heap.size ≠ 0 := by have := HW.out.size; omega
  clear hg3 hg4 hb4 hrs4
  go_wp2_with fail
  refine (write_any W2.heap.size 64 64 _ [] K1 w4 HS4.out HRS4.out (HRT.out.on HB4.out) hne (by simp)).mono ?_
  rintro e w5 ⟨rfl, hs5, hgb5⟩
  rw [List.nil_append] at hs5
  have HS5 := Lib.hid hs5
  have HB5 := Lib.hid (HB4.out.trans (below_of_gb hgb5 (by have := HW.out.size; omega) HB4.out.size))
  have HG5 := Lib.hid ((gb_block hgb5 (k := w1.heap.size) (by omega) (by omega)).trans HG4.out)
  have hz5 := hgb5.size
  clear hs5 hgb5
  have hzw := HW.out.size
  go_wp2_with fail
  go_loopw [8, 18] (fun _ i wr => ∃ k : Nat, k ≤ n ∧ i = .int .i64 k ∧ SumAt wr W2.heap.size (K1 ++ joinL (R.take k)) ∧ w5.grownBy wr (some W2.heap.size)) (fun _ i _ => n - (intOf i).toNat)
  case atStart => exact ⟨0, Nat.zero_le _, rfl, by simpa [joinL] using HS5.out, World.grownBy.refl _ _⟩
  case round =>
    obtain ⟨k, hk, rfl, hs, hgb⟩ := hrel
    have hkeep : ∀ b, b < w.heap.size → wr.heap[b]? = w.heap[b]? := fun b hb => (gb_block hgb (by omega) (by omega)).trans (HB5.out.block b hb)
    have hsz : w5.heap.size ≤ wr.heap.size := hgb.size
    have hrt : Roots wr := fun i hi => (World.cell?_of_block (hkeep _ HRT.out.lt)).trans (HRT.out i hi)
    have hbw : Below w.heap.size w wr := HB5.out.trans (below_of_gb hgb (by omega) (by omega))
    have hgr := (gb_block hgb (k := w1.heap.size) (by omega) (by omega)).trans HG5.out
    have HS := Lib.hid hs
    have HRTW := Lib.hid hrt
    have HKP := Lib.hid hkeep
    have HBW := Lib.hid hbw
    have HGR := Lib.hid hgr
    clear hs hrt hkeep hbw hgr
    by_cases hlt : k < n
    · obtain ⟨b, o, rfl, hb, hc⟩ := HH.out.2.2.2 (by omega)
      have hcell := (World.cell?_of_block (HKP.out b hb) : wr.cell? ⟨b, o + k, none⟩ = w.cell? ⟨b, o + k, none⟩).trans (hc k _ (by rw [List.getElem?_map, List.getElem?_eq_getElem (by omega)]; rfl))
      have hrd := HR.out R[k] (List.getElem_mem _)
      have hts := joinL_take_succ R k (by omega)
      have htl := joinL_take_le R (k + 1)
      have hT := HT.out
      rw [hts, List.length_append, RdB.len hrd] at htl
      obtain ⟨r, hrk⟩ : ∃ r, r = R[k] := ⟨_, rfl⟩
      rw [← hrk] at hcell hrd hts htl
      have HTS := Lib.hid hts
      have HRD := Lib.hid (rds_of hrd (G := W2.heap.size) (by omega) HKP.out (by omega))
      have hbd : (K1 ++ joinL (R.take k)).length + r.n ≤ 1152921504606846976 := by rw [List.length_append, HK1L.out]; omega
      clear hts hrk hrd hc hT htl
      unfold Row.v at hcell
      go_wp2_with fail
      refine (write_any W2.heap.size r.n r.c r.A (K1 ++ joinL (R.take k)) r.bs wr HS.out HRD.out HRTW.out hne hbd).mono ?_
      rintro e w6 ⟨rfl, hs6, hgb6⟩
      rw [List.append_assoc, ← HTS.out] at hs6
      have hgbw := grown_trans hgb hgb6
      go_wp2
      go_roundw
      case rel => exact ⟨k + 1, by omega, by go_num, hs6, hgbw⟩
      case measure => simp [intOf]; omega
    · obtain rfl : k = n := by omega
      have e : R.take k = R := List.take_of_length_le (by omega)
      have hsf := HS.out
      rw [e] at hsf
      have HSF := Lib.hid hsf
      have hlf := hsf.lt
      clear e hsf HS
      have hgr := HGR.out
      go_wp2_with (first
        | (refine wpList_load_row rfl 64 (.tmp 5) rfl w1.heap.size rfl 64 PV (0, 0) _ hgr Tryd.underlying64 rfl HI.out ?_)
        | fail)
      refine (HC92.out wr).mono ?_
      rintro e w7 ⟨rfl, hg7, hb7⟩
      have HB7 := Lib.hid (below_seq HBW.out hb7)
      have HG7 := Lib.hid hg7
      have HS7 := Lib.hid (HSF.out.below hlf hb7)
      have HRT7 := Lib.hid (HRTW.out.on hb7)
      have hlt7 := block_lt_of_heap hg7
      have hz7 := hb7.size
      clear hg7 hb7 hgr
      go_wp2_with fail
      refine (digest_own W2.heap.size (K1 ++ joinL R) w7 HS7.out HRT7.out (by rw [List.length_append, HK1L.out]; exact HT.out)).mono ?_
      rintro e w8 ⟨A8, c8, B8, rfl, hB8, ho8, hb8⟩
      have hrd8 : RdB w8 w8.heap.size A8 32 c8 (dig (K1 ++ joinL R)) := Rd.of_own ho8
      have HRD8 := Lib.hid hrd8
      have HB8 := Lib.hid (below_seq HB7.out hb8)
      have HG8 := Lib.hid ((hb8.block wr.heap.size hlt7).trans HG7.out)
      have HRT8 := Lib.hid (HRT7.out.on hb8)
      have hz8 := hb8.size
      clear hrd8 ho8 hb8
      obtain ⟨D, hD⟩ : ∃ D, D = dig (K1 ++ joinL R) := ⟨_, rfl⟩
      have hDl : D.length = 32 := by rw [hD, dig_len]
      rw [← hD] at HRD8
      have HDL := Lib.hid hDl
      have HD := Lib.hid hD
      clear hD hDl
      go_wp2_with fail
      refine (of_own _ 2 2 [⟨some ⟨wr.heap.size, 0, none⟩, 64, 64, K2⟩, ⟨A8, 32, c8, D⟩] _ (rd_cells (n := 2) w8 rfl rfl rfl (by omega)) ?h1 (HRT8.out.lit _) (by simp [joinL, HK2L.out, HDL.out])).mono ?_
      case h1 =>
        intro r hr
        simp only [List.mem_cons, List.not_mem_nil, or_false] at hr
        rcases hr with rfl | rfl
        · have h := rd_block HG8.out HK2L.out (by omega)
          exact RdB.lit h _
        · exact HRD8.out.lit _
      rintro e w9 ⟨A9, c9, B9, rfl, hB9, ho9, hb9⟩
      have hj : joinL [⟨some ⟨wr.heap.size, 0, none⟩, 64, 64, K2⟩, ⟨A8, 32, c8, D⟩] = K2 ++ D := by simp [joinL]
      rw [hj, HD.out] at ho9
      have HO9 := Lib.hid ho9
      have HB9 := Lib.hid (below_seq HB8.out (below_seq (below_of_new w8 _) hb9))
      have hzz : w.heap.size ≤ B9 := by rw [World.size_alloc] at hB9; omega
      clear ho9 hb9 hj
      go_wp2
      go_ret
      exact ⟨A9, c9, B9, rfl, hzz, HO9.out, HB9.out⟩
theorem sum_any (Ak : Option Addr) (nk ck : Nat) (key : List UInt8) (A : Option Addr) (n c : Nat) (R : List Row) (w : World) (hkey : RdB w w.heap.size Ak nk ck key) (hnk : nk ≤ 576460752303423488)
    (h : Rd w w.heap.size A n c (R.map Row.v)) (hR : ∀ r ∈ R, RdB w w.heap.size r.A r.n r.c r.bs) (hRt : Roots w) (hT : 64 + (joinL R).length ≤ 576460752303423488) :
    Calls Tryd.prog 15 #[.slice Ak nk ck, .slice A n c] w fun e w' => ∃ A' c', e = .returned (.slice A' 32 c') ∧ New w w' A' 32 c' (macS key (joinL R)) :=
  (sum_own Ak nk ck key A n c R w hkey hnk h hR hRt hT).mono fun e w' ⟨A', c', B, he, _, ho, hbl⟩ => ⟨A', c', he, .of_own ho hbl⟩
end Go.Proofs.YtammiehklibadaaDoor.Mac
