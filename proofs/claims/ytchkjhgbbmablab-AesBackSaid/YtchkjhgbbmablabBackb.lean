/-
  AesBack holds: what bytes become becomes them; a beginning becomes a beginning; unlike blocks become unlike ones. No condition.
-/
import Derived.Test.YtchkjhgbbmablabAesm
import Derived.Test.YtchkjhgbbmablabFin
import Derived.Test.YtchkjhgbbmablabKit3
import Derived.Deep.RegionHeld3
import Derived.Orders
namespace Go.Proofs.Ytchkjhgbbmablab.Backa
open Go.RowKit
open Go.Proofs.Ytchkjhgbbmablab.Kit
open Go.Proofs.Ytchkjhgbbmablab.Oct
open Go.Proofs.Ytchkjhgbbmablab.Aes
set_option linter.unusedVariables false

theorem undB : Try.prog.underlying 28 = some (.slice (Try.prog.elem 28)) := by kernel_rfl
theorem elB (w : World) : (sizeOf (Try.prog.elem 28)).run Try.prog w = .ok 1 w := by kernel_rfl
theorem run_front (A : Option Addr) (n c k : Nat) (hkc : k ≤ c) (w : World) : (Instr.slice 28 (.slice A n c) none (some (.int .i64 (k : Int))) none).run Try.prog w = .ok (.slice A k c) w := by
  rw [run_slice_h w 28 A n c undB .i64 (k : Int) (by omega) (by omega), elB]
  have e : A.map (·.add 0) = A := by cases A <;> simp [Addr.add]
  simp [sliced, e]
/-- the three arrays that the law has boxed -/
def Boxes3 (g : Nat) (LK LA LB : List Value) (w : World) : Prop := w.rangeAt g 0 LK ∧ w.rangeAt (g + 1) 0 LA ∧ w.rangeAt (g + 1 + 1) 0 LB

attribute [local go_sem ↓] wp_load16 wp_load16k wp_st16 wp_load16g
attribute [local go_sem] HasRowAt_mk rowAt_mk StOk2_mk stAt_mk
set_option maxRecDepth 100000 in
set_option maxHeartbeats 8000000 in
theorem walk (key a b : Nat → UInt8) (A : Option Addr) (n c : Nat) (bs : List UInt8) (v : Int) (w : World) (hx : RdB w w.heap.size A n c bs) :
    Calls Try.prog 5 #[.agg (A16 key), .agg (A16 a), .agg (A16 b), .slice A n c, .int .i64 v] w fun e w' => e = .returned (.bool true) ∧ Below w.heap.size w w' := by
  have hrx := hx.room
  have hl := hx.len
  obtain ⟨LK, hLK⟩ : ∃ q, q = (row key 16).map bv := ⟨_, rfl⟩
  obtain ⟨LA, hLA⟩ : ∃ q, q = (row a 16).map bv := ⟨_, rfl⟩
  obtain ⟨LB, hLB⟩ : ∃ q, q = (row b 16).map bv := ⟨_, rfl⟩
  have eK : A16 key = LK.toArray := by rw [hLK]; rfl
  have eA : A16 a = LA.toArray := by rw [hLA]; rfl
  have eB : A16 b = LB.toArray := by rw [hLB]; rfl
  obtain ⟨W2, hW2⟩ : ∃ q, q = ((w.alloc (.cells LK.toArray 22)).alloc (.cells LA.toArray 22)).alloc (.cells LB.toArray 22) := ⟨_, rfl⟩
  have h2 := heap3 w (.cells LK.toArray 22) (.cells LA.toArray 22) (.cells LB.toArray 22)
  have hk2 : Arr W2 w.heap.size 22 key 16 := by rw [Arr, hW2, h2.1, hLK]
  have ha2 : Arr W2 (w.heap.size + 1) 22 a 16 := by rw [Arr, hW2, h2.2.1, hLA]
  have hb2 : Arr W2 (w.heap.size + 1 + 1) 22 b 16 := by rw [Arr, hW2, h2.2.2, hLB]
  have hbw2 : Below w.heap.size w W2 := by rw [hW2]; exact below3 _ _ _ _
  rw [eK, eA, eB]
  have HW2 := Lib.hid hW2
  have HARR := Lib.hid (show ∀ W, Below W2.heap.size W2 W → Arr W w.heap.size 22 key 16 ∧ Arr W (w.heap.size + 1) 22 a 16 ∧ Arr W (w.heap.size + 1 + 1) 22 b 16 from fun W h => ⟨hk2.on h hk2.lt, ha2.on h ha2.lt, hb2.on h hb2.lt⟩)
  have HBW2 := Lib.hid hbw2
  have HLK := Lib.hid hLK
  have HLA := Lib.hid hLA
  have HLB := Lib.hid hLB
  have EK := Lib.hid eK
  have EA := Lib.hid eA
  have EB := Lib.hid eB
  have HRD := Lib.hid hx
  have HL := Lib.hid hl
  clear hW2 h2 hk2 ha2 hb2 hbw2 hLK hLA hLB hx hl eK eA eB
  by_cases h300 : 300 < n
  · have t1 : decide ((300 : Int) < n) = true := by simp; omega
    go_enter Try.func5, Try.ntmps5
    go_wp2_with fail
    rw [← HW2.out]
    refine (alive5_any _).mono ?_
    rintro e w1 ⟨rfl, hb1⟩
    go_wp2
    go_ret
    exact ⟨rfl, below_seq HBW2.out hb1⟩
  · have t1 : decide ((300 : Int) < n) = false := by simp; omega
    obtain ⟨t0, ht1023, ht⟩ := and1023 v
    obtain ⟨t, htq, htl⟩ := mod_idx t0 (n + 1) (by omega)
    rw [Int.natCast_add, Int.natCast_one] at htq
    go_enter Try.func5, Try.ntmps5
    go_wp2_with fail
    rw [← HW2.out]
    refine (alive5_any _).mono ?_
    rintro e w1 ⟨rfl, hb1⟩
    obtain ⟨f1, f2⟩ := arr_facts (HARR.out w1 hb1).1
    rw [EK.out] at f1
    have HB1 := Lib.hid hb1
    clear hb1
    have hnew := new_any key w1
    rw [EK.out] at hnew
    have HNEW := Lib.hid hnew
    clear hnew
    go_wp2_with fail
    refine HNEW.out.mono ?_
    rintro e w3 ⟨S, rfl, hS, hC3, hb3⟩
    have hb23 := below_seq HB1.out hb3
    obtain ⟨f3, f4⟩ := arr_facts (HARR.out w3 hb23).2.1
    rw [EA.out] at f3
    have hst := stream_new S key a A n c bs w3 hC3 (HRD.out.on (below_seq HBW2.out hb23)) (by omega)
    rw [EA.out] at hst
    obtain ⟨D, hD⟩ : ∃ q, q = strF key a bs := ⟨_, rfl⟩
    rw [← hD] at hst
    have HST := Lib.hid hst
    have HC3 := Lib.hid hC3
    have HB3 := Lib.hid hb23
    have HD := Lib.hid hD
    clear hst hC3 hb23 hb3 hD f1 f2
    go_wp2_with fail
    refine HST.out.mono ?_
    rintro e wB ⟨S1, rfl, hr1, hb4⟩
    have hB2 := below_seq HB3.out hb4
    have hBw := below_seq HBW2.out hB2
    have hdl : D.length = n := by rw [HD.out, strF_len, HL.out]
    have HRT := Lib.hid (show ∀ W, Below wB.heap.size wB W → RdB W W.heap.size A n c bs ∧ RdB W W.heap.size A t c (bs.take t) from fun W h => by
      have h1 := (HRD.out.on hBw).on h
      refine ⟨h1, ?_⟩
      have := Rd.front (k := t) h1 (by omega)
      rw [← List.map_take] at this
      exact this)
    have HRX := Lib.hid (show ∀ W, Below wB.heap.size wB W → RdB W W.heap.size (some ⟨S1, 0, none⟩) n n D ∧ RdB W W.heap.size (some ⟨S1, 0, none⟩) t n (D.take t) from fun W h => by
      have h1 := RdB.on hr1 h
      refine ⟨h1, ?_⟩
      have := Rd.front (k := t) h1 (by omega)
      rw [← List.map_take] at this
      exact this)
    have HCC := Lib.hid (show ∀ W, Below wB.heap.size wB W → CipherAt W S key from fun W h => (HC3.out.on hb4 HC3.out.lt).on h (Nat.lt_of_lt_of_le HC3.out.lt hb4.size))
    have HAR := Lib.hid (show ∀ W, Below wB.heap.size wB W → W.rangeAt (w.heap.size + 1) 0 LA from fun W h => by rw [HLA.out]; exact (HARR.out W (below_seq hB2 h)).2.1.range)
    have HAR3 := Lib.hid (show ∀ W, Below wB.heap.size wB W → Boxes3 w.heap.size LK LA LB W from fun W h => by
      have h1 := HARR.out W (below_seq hB2 h)
      rw [HLK.out, HLA.out, HLB.out]
      exact ⟨h1.1.range, h1.2.1.range, h1.2.2.range⟩)
    have HS1 := Lib.hid (show ∀ W, Below wB.heap.size wB W → Calls Try.prog 13 #[.pointer (some ⟨S, 0, none⟩), .agg LA.toArray, .slice (some ⟨S1, 0, none⟩) n n] W fun e w' => ∃ S2, e = .returned (.slice (some ⟨S2, 0, none⟩) n n) ∧ RdB w' w'.heap.size (some ⟨S2, 0, none⟩) n n bs ∧ Below W.heap.size W w' from fun W h => by
      have := stream_new S key a (some ⟨S1, 0, none⟩) n n D W (HCC.out W h) (HRX.out W h).1 (by omega)
      rw [HD.out, strF_back, EA.out] at this
      exact this)
    have HS2 := Lib.hid (show ∀ W, Below wB.heap.size wB W → Calls Try.prog 13 #[.pointer (some ⟨S, 0, none⟩), .agg LA.toArray, .slice A t c] W fun e w' => ∃ S2, e = .returned (.slice (some ⟨S2, 0, none⟩) t t) ∧ RdB w' w'.heap.size (some ⟨S2, 0, none⟩) t t (D.take t) ∧ Below W.heap.size W w' from fun W h => by
      have := stream_new S key a A t c (bs.take t) W (HCC.out W h) (HRT.out W h).2 (by omega)
      rw [strF_take key a bs (by rw [HL.out]; omega), EA.out, ← HD.out] at this
      exact this)
    have hfr1 := run_front A n c t (by omega)
    have hfr2 := run_front (some ⟨S1, 0, none⟩) n n t (by omega)
    have hu22 := Try.underlying22
    have hiA : (Try.prog.info? 22).map (·.size) = some LA.length := by rw [HLA.out, List.length_map, row_len]; exact info16
    have hbd : Below wB.heap.size wB wB.drew := below_of_drew ⟨1, rfl⟩ _
    have HBW := Lib.hid hBw
    have hiK : (Try.prog.info? 22).map (·.size) = some LK.length := by rw [HLK.out, List.length_map, row_len]; exact info16
    have hiB : (Try.prog.info? 22).map (·.size) = some LB.length := by rw [HLB.out, List.length_map, row_len]; exact info16
    obtain ⟨XA, hXA⟩ : ∃ q, q = A16 (blk key a) := ⟨_, rfl⟩
    obtain ⟨XB, hXB⟩ : ∃ q, q = A16 (blk key b) := ⟨_, rfl⟩
    obtain ⟨q, hq⟩ : ∃ q, q = (row a 16 == row b 16) := ⟨_, rfl⟩
    have e1 : ∀ w, (Op.equalIn 10000 22 (.agg XA) (.agg XB)).run Try.prog w = .ok q w := fun w => by rw [hXA, hXB, eq16, blk_inj, hq]
    have e2 : ∀ w, (Op.equalIn 10000 22 (.agg LA.toArray) (.agg LB.toArray)).run Try.prog w = .ok q w := fun w => by rw [← EA.out, ← EB.out, eq16, hq]
    have e3 : ∀ w, (Op.equalIn 10000 22 (.agg XA) (.agg XA)).run Try.prog w = .ok true w := fun w => by rw [hXA, eq16]; simp
    have hqq : (q == q) = true := by simp
    have HXA := Lib.hid hXA
    have HXB := Lib.hid hXB
    clear hXA hXB hq hr1 hb4 hB2 hBw f3 f4
    go_wp2_with fail
    refine wp_region_held_drew (S := Boxes3 w.heap.size LK LA LB) (by kernel_rfl) (HAR3.out _ (by assumption)) (fun hHeld => ?_)
    refine wpAnyH_take (i := 0) (v := .pointer (some ⟨S, 0, none⟩)) rfl (by kernel_rfl) (by kernel_rfl) (by kernel_rfl) (fun _ _ _ h => h) (Or.inl ⟨by rfl, fun w _ => by go_simp⟩) (by assumption) ?_
    go_simp
    refine wpAnyH_take (i := 1) (v := .agg LA.toArray) rfl (by kernel_rfl) (by kernel_rfl) (by kernel_rfl) (fun _ _ _ h => h) (yieldsIf_load_mid (by rfl) _ (.tmp 6) rfl (w.heap.size + 1) 0 rfl LA _ (fun _ h => h.2.1) Try.underlying22 rfl hiA) (by assumption) ?_
    go_simp
    refine wpAnyH_take (i := 2) (v := .slice (some ⟨S1, 0, none⟩) n n) rfl (by kernel_rfl) (by kernel_rfl) (by kernel_rfl) (fun _ _ _ h => h) (Or.inl ⟨by rfl, fun w _ => by go_simp⟩) (by assumption) ?_
    go_simp
    refine wpAnyH_take (i := 4) (v := .slice A n c) rfl (by kernel_rfl) (by kernel_rfl) (by kernel_rfl) (fun _ _ _ h => h) (Or.inl ⟨by rfl, fun w _ => by go_simp⟩) (by assumption) ?_
    go_simp
    refine wpAnyH_ready (rs := [3]) (by kernel_rfl) (by simp) ?_
    refine AllReadyH.cons rfl (fun K hK => ?_) AllReadyH.nil
    (go_simp; go_at_call 13; refine (HS1.out _ (by assumption)).mono ?_; rintro e wq ⟨S2, rfl, hr2, hbq⟩; have hbn := below_seq (show Below wB.heap.size wB _ from (by assumption)) hbq)
    try go_simp
    refine hK.out _ _ (HAR3.out _ (by assumption)) (fun hHeld => ?_)
    clear hK K
    refine wpAnyH_ready (rs := [5]) (by kernel_rfl) (by simp) ?_
    refine AllReadyH.cons rfl (fun K hK => ?_) AllReadyH.nil
    (go_simp; go_at_call 10; refine (same_new _ _ _ _ _ _ bs bs _ hr2 (HRT.out _ (by assumption)).1).mono ?_; rintro e wz ⟨rfl, hbz⟩; rw [show decide (bs = bs) = true from by simp]; have hbm := below_seq (show Below wB.heap.size wB _ from (by assumption)) hbz)
    try go_simp
    refine hK.out _ _ (HAR3.out _ (by assumption)) (fun hHeld => ?_)
    clear hK K
    refine wpAnyH_take (i := 6) (v := .bool false) rfl (by kernel_rfl) (by kernel_rfl) (by kernel_rfl) (fun _ _ _ h => h) (Or.inl ⟨by rfl, fun w _ => by go_simp⟩) (by assumption) ?_
    go_simp
    refine wpAnyH_take (i := 7) (v := .bool false) rfl (by kernel_rfl) (by kernel_rfl) (by kernel_rfl) (fun _ _ _ h => h) (Or.inl ⟨by rfl, fun w _ => by go_simp⟩) (by assumption) ?_
    go_simp
    refine wpAnyH_take (i := 8) (v := .pointer (some ⟨S, 0, none⟩)) rfl (by kernel_rfl) (by kernel_rfl) (by kernel_rfl) (fun _ _ _ h => h) (Or.inl ⟨by rfl, fun w _ => by go_simp⟩) (by assumption) ?_
    go_simp
    refine wpAnyH_take (i := 9) (v := .agg LA.toArray) rfl (by kernel_rfl) (by kernel_rfl) (by kernel_rfl) (fun _ _ _ h => h) (yieldsIf_load_mid (by rfl) _ (.tmp 6) rfl (w.heap.size + 1) 0 rfl LA _ (fun _ h => h.2.1) Try.underlying22 rfl hiA) (by assumption) ?_
    go_simp
    refine wpAnyH_take (i := 10) (v := .slice A n c) rfl (by kernel_rfl) (by kernel_rfl) (by kernel_rfl) (fun _ _ _ h => h) (Or.inl ⟨by rfl, fun w _ => by go_simp⟩) (by assumption) ?_
    go_simp
    refine wpAnyH_take (i := 11) (v := .int .i64 (t : Int)) rfl (by kernel_rfl) (by kernel_rfl) (by kernel_rfl) (fun _ _ _ h => h) (Or.inl ⟨by rfl, fun w _ => by go_simp⟩) (by assumption) ?_
    go_simp
    refine wpAnyH_take (i := 12) (v := .slice A t c) rfl (by kernel_rfl) (by kernel_rfl) (by kernel_rfl) (fun _ _ _ h => h) (Or.inl ⟨by rfl, fun w _ => by go_simp⟩) (by assumption) ?_
    go_simp
    refine wpAnyH_take (i := 14) (v := .slice (some ⟨S1, 0, none⟩) n n) rfl (by kernel_rfl) (by kernel_rfl) (by kernel_rfl) (fun _ _ _ h => h) (Or.inl ⟨by rfl, fun w _ => by go_simp⟩) (by assumption) ?_
    go_simp
    refine wpAnyH_take (i := 15) (v := .int .i64 (t : Int)) rfl (by kernel_rfl) (by kernel_rfl) (by kernel_rfl) (fun _ _ _ h => h) (Or.inl ⟨by rfl, fun w _ => by go_simp⟩) (by assumption) ?_
    go_simp
    refine wpAnyH_take (i := 16) (v := .slice (some ⟨S1, 0, none⟩) t n) rfl (by kernel_rfl) (by kernel_rfl) (by kernel_rfl) (fun _ _ _ h => h) (Or.inl ⟨by rfl, fun w _ => by go_simp⟩) (by assumption) ?_
    go_simp
    refine wpAnyH_ready (rs := [13]) (by kernel_rfl) (by simp) ?_
    refine AllReadyH.cons rfl (fun K hK => ?_) AllReadyH.nil
    (go_simp; go_at_call 13; refine (HS2.out _ (by assumption)).mono ?_; rintro e wp ⟨S3, rfl, hr3, hbp⟩; have hbo := below_seq (show Below wB.heap.size wB _ from (by assumption)) hbp)
    try go_simp
    refine hK.out _ _ (HAR3.out _ (by assumption)) (fun hHeld => ?_)
    clear hK K
    refine wpAnyH_ready (rs := [17]) (by kernel_rfl) (by simp) ?_
    refine AllReadyH.cons rfl (fun K hK => ?_) AllReadyH.nil
    (go_simp; go_at_call 10; refine (same_new _ _ _ _ _ _ (D.take t) (D.take t) _ hr3 (HRX.out _ (by assumption)).2).mono ?_; rintro e wC ⟨rfl, hbC⟩; rw [show decide (D.take t = D.take t) = true from by simp]; have hbl := below_seq (show Below wB.heap.size wB _ from (by assumption)) hbC)
    try go_simp
    refine hK.out _ _ (HAR3.out _ (by assumption)) (fun hHeld => ?_)
    clear hK K
    refine wpAnyH_take (i := 18) (v := .bool false) rfl (by kernel_rfl) (by kernel_rfl) (by kernel_rfl) (fun _ _ _ h => h) (Or.inl ⟨by rfl, fun w _ => by go_simp⟩) (by assumption) ?_
    go_simp
    refine wpAnyH_take (i := 19) (v := .bool false) rfl (by kernel_rfl) (by kernel_rfl) (by kernel_rfl) (fun _ _ _ h => h) (Or.inl ⟨by rfl, fun w _ => by go_simp⟩) (by assumption) ?_
    go_simp
    refine wpAnyH_take (i := 20) (v := .bool false) rfl (by kernel_rfl) (by kernel_rfl) (by kernel_rfl) (fun _ _ _ h => h) (Or.inl ⟨by rfl, fun w _ => by go_simp⟩) (by assumption) ?_
    go_simp
    refine wpAnyH_take (i := 21) (v := .slice (some ⟨S1, 0, none⟩) n n) rfl (by kernel_rfl) (by kernel_rfl) (by kernel_rfl) (fun _ _ _ h => h) (Or.inl ⟨by rfl, fun w _ => by go_simp⟩) (by assumption) ?_
    go_simp
    refine wpAnyH_take (i := 22) (v := .int .i64 (n : Int)) rfl (by kernel_rfl) (by kernel_rfl) (by kernel_rfl) (fun _ _ _ h => h) (Or.inl ⟨by rfl, fun w _ => by go_simp⟩) (by assumption) ?_
    go_simp
    refine wpAnyH_take (i := 23) (v := .slice A n c) rfl (by kernel_rfl) (by kernel_rfl) (by kernel_rfl) (fun _ _ _ h => h) (Or.inl ⟨by rfl, fun w _ => by go_simp⟩) (by assumption) ?_
    go_simp
    refine wpAnyH_take (i := 24) (v := .int .i64 (n : Int)) rfl (by kernel_rfl) (by kernel_rfl) (by kernel_rfl) (fun _ _ _ h => h) (Or.inl ⟨by rfl, fun w _ => by go_simp⟩) (by assumption) ?_
    go_simp
    refine wpAnyH_take (i := 25) (v := .bool false) rfl (by kernel_rfl) (by kernel_rfl) (by kernel_rfl) (fun _ _ _ h => h) (Or.inl ⟨by rfl, fun w _ => by go_simp⟩) (by assumption) ?_
    go_simp
    refine wpAnyH_take (i := 26) (v := .bool false) rfl (by kernel_rfl) (by kernel_rfl) (by kernel_rfl) (fun _ _ _ h => h) (Or.inl ⟨by rfl, fun w _ => by go_simp⟩) (by assumption) ?_
    go_simp
    refine wpAnyH_done (by kernel_rfl) ?_ _
    have hbC2 := hbl
    have HBC := Lib.hid hbC2
    have hAR3 := HAR3.out wC hbC2
    have hcC := HCC.out wC hbC2
    have HAC := Lib.hid (show ∀ W, Below wC.heap.size wC W → Boxes3 w.heap.size LK LA LB W from fun W h => HAR3.out W (below_seq hbC2 h))
    have HBA := Lib.hid (show ∀ W, Below wC.heap.size wC W → Calls Try.prog 9 #[.pointer (some ⟨S, 0, none⟩), .agg LA.toArray] W fun e w' => e = .returned (.agg XA) ∧ Below W.heap.size W w' from fun W h => by
      have := block_any S key a W (HCC.out W (below_seq hbC2 h))
      rw [EA.out, ← HXA.out] at this
      exact this)
    have HBB := Lib.hid (show ∀ W, Below wC.heap.size wC W → Calls Try.prog 9 #[.pointer (some ⟨S, 0, none⟩), .agg LB.toArray] W fun e w' => e = .returned (.agg XB) ∧ Below W.heap.size W w' from fun W h => by
      have := block_any S key b W (HCC.out W (below_seq hbC2 h))
      rw [EB.out, ← HXB.out] at this
      exact this)
    have HNK := Lib.hid (show ∀ W : World, Calls Try.prog 8 #[.agg LK.toArray] W fun e w' => ∃ S, e = .returned (.pointer (some ⟨S, 0, none⟩)) ∧ W.heap.size ≤ S ∧ CipherAt w' S key ∧ Below W.heap.size W w' from fun W => by
      have := new_any key W
      rw [EK.out] at this
      exact this)
    have HB9 := Lib.hid (show ∀ W S9, CipherAt W S9 key → Calls Try.prog 9 #[.pointer (some ⟨S9, 0, none⟩), .agg LA.toArray] W fun e w' => e = .returned (.agg XA) ∧ Below W.heap.size W w' from fun W S9 h => by
      have := block_any S9 key a W h
      rw [EA.out, ← HXA.out] at this
      exact this)
    have hbd2 : Below wC.heap.size wC wC.drew := below_of_drew ⟨1, rfl⟩ _
    have HBW3 := Lib.hid (below_seq HBW.out hbC2)
    clear hr2 hbq hbn hbz hbm hr3 hbp hbo hbC hbl hbC2 hbd hAR3 hcC hHeld HS1 HS2 HRT HRX HAR HAR3
    go_wp2_with fail
    refine wp_region_held_drew (S := Boxes3 w.heap.size LK LA LB) (by kernel_rfl) (HAC.out _ (by assumption)) (fun hHeld => ?_)
    refine wpAnyH_take (i := 0) (v := .pointer (some ⟨S, 0, none⟩)) rfl (by kernel_rfl) (by kernel_rfl) (by kernel_rfl) (fun _ _ _ h => h) (Or.inl ⟨by rfl, fun w _ => by go_simp⟩) (by assumption) ?_
    go_simp
    refine wpAnyH_take (i := 1) (v := .agg LA.toArray) rfl (by kernel_rfl) (by kernel_rfl) (by kernel_rfl) (fun _ _ _ h => h) (yieldsIf_load_mid (by rfl) _ (.tmp 6) rfl (w.heap.size + 1) 0 rfl LA _ (fun _ h => h.2.1) Try.underlying22 rfl hiA) (by assumption) ?_
    go_simp
    refine wpAnyH_take (i := 3) (v := .pointer (some ⟨S, 0, none⟩)) rfl (by kernel_rfl) (by kernel_rfl) (by kernel_rfl) (fun _ _ _ h => h) (Or.inl ⟨by rfl, fun w _ => by go_simp⟩) (by assumption) ?_
    go_simp
    refine wpAnyH_take (i := 4) (v := .agg LB.toArray) rfl (by kernel_rfl) (by kernel_rfl) (by kernel_rfl) (fun _ _ _ h => h) (yieldsIf_load_mid (by rfl) _ (.tmp 7) rfl (w.heap.size + 1 + 1) 0 rfl LB _ (fun _ h => h.2.2) Try.underlying22 rfl hiB) (by assumption) ?_
    go_simp
    refine wpAnyH_take (i := 7) (v := .agg LA.toArray) rfl (by kernel_rfl) (by kernel_rfl) (by kernel_rfl) (fun _ _ _ h => h) (yieldsIf_load_mid (by rfl) _ (.tmp 6) rfl (w.heap.size + 1) 0 rfl LA _ (fun _ h => h.2.1) Try.underlying22 rfl hiA) (by assumption) ?_
    go_simp
    refine wpAnyH_take (i := 8) (v := .agg LB.toArray) rfl (by kernel_rfl) (by kernel_rfl) (by kernel_rfl) (fun _ _ _ h => h) (yieldsIf_load_mid (by rfl) _ (.tmp 7) rfl (w.heap.size + 1 + 1) 0 rfl LB _ (fun _ h => h.2.2) Try.underlying22 rfl hiB) (by assumption) ?_
    go_simp
    refine wpAnyH_take (i := 9) (v := .bool q) rfl (by kernel_rfl) (by kernel_rfl) (by kernel_rfl) (fun _ _ _ h => h) (Or.inl ⟨by rfl, fun w _ => by go_simp⟩) (by assumption) ?_
    go_simp
    refine wpAnyH_ready (rs := [2]) (by kernel_rfl) (by simp) ?_
    refine AllReadyH.cons rfl (fun K hK => ?_) AllReadyH.nil
    (go_simp; go_at_call 9; refine (HBA.out _ (by assumption)).mono ?_; rintro e we1 ⟨rfl, hbe1⟩; have hce1 := below_seq (show Below wC.heap.size wC _ from (by assumption)) hbe1)
    try go_simp
    refine hK.out _ _ (HAC.out _ (by assumption)) (fun hHeld => ?_)
    clear hK K
    refine wpAnyH_ready (rs := [5]) (by kernel_rfl) (by simp) ?_
    refine AllReadyH.cons rfl (fun K hK => ?_) AllReadyH.nil
    (go_simp; go_at_call 9; refine (HBB.out _ (by assumption)).mono ?_; rintro e we2 ⟨rfl, hbe2⟩; have hce2 := below_seq (show Below wC.heap.size wC _ from (by assumption)) hbe2)
    try go_simp
    refine hK.out _ _ (HAC.out _ (by assumption)) (fun hHeld => ?_)
    clear hK K
    refine wpAnyH_take (i := 6) (v := .bool q) rfl (by kernel_rfl) (by kernel_rfl) (by kernel_rfl) (fun _ _ _ h => h) (Or.inl ⟨by rfl, fun w _ => by go_simp⟩) (by assumption) ?_
    go_simp
    refine wpAnyH_take (i := 10) (v := .bool true) rfl (by kernel_rfl) (by kernel_rfl) (by kernel_rfl) (fun _ _ _ h => h) (Or.inl ⟨by rfl, fun w _ => by go_simp⟩) (by assumption) ?_
    go_simp
    refine wpAnyH_take (i := 11) (v := .bool true) rfl (by kernel_rfl) (by kernel_rfl) (by kernel_rfl) (fun _ _ _ h => h) (Or.inl ⟨by rfl, fun w _ => by go_simp⟩) (by assumption) ?_
    go_simp
    refine wpAnyH_take (i := 12) (v := .agg LK.toArray) rfl (by kernel_rfl) (by kernel_rfl) (by kernel_rfl) (fun _ _ _ h => h) (yieldsIf_load_mid (by rfl) _ (.tmp 5) rfl (w.heap.size) 0 rfl LK _ (fun _ h => h.1) Try.underlying22 rfl hiK) (by assumption) ?_
    go_simp
    refine wpAnyH_take (i := 14) (v := .agg LA.toArray) rfl (by kernel_rfl) (by kernel_rfl) (by kernel_rfl) (fun _ _ _ h => h) (yieldsIf_load_mid (by rfl) _ (.tmp 6) rfl (w.heap.size + 1) 0 rfl LA _ (fun _ h => h.2.1) Try.underlying22 rfl hiA) (by assumption) ?_
    go_simp
    refine wpAnyH_take (i := 16) (v := .pointer (some ⟨S, 0, none⟩)) rfl (by kernel_rfl) (by kernel_rfl) (by kernel_rfl) (fun _ _ _ h => h) (Or.inl ⟨by rfl, fun w _ => by go_simp⟩) (by assumption) ?_
    go_simp
    refine wpAnyH_take (i := 17) (v := .agg LA.toArray) rfl (by kernel_rfl) (by kernel_rfl) (by kernel_rfl) (fun _ _ _ h => h) (yieldsIf_load_mid (by rfl) _ (.tmp 6) rfl (w.heap.size + 1) 0 rfl LA _ (fun _ h => h.2.1) Try.underlying22 rfl hiA) (by assumption) ?_
    go_simp
    refine wpAnyH_ready (rs := [13]) (by kernel_rfl) (by simp) ?_
    refine AllReadyH.cons rfl (fun K hK => ?_) AllReadyH.nil
    (go_simp; go_at_call 8; refine (HNK.out _).mono ?_; rintro e we3 ⟨S9, rfl, hS9, hC9, hbe3⟩; have hce3 := below_seq (show Below wC.heap.size wC _ from (by assumption)) hbe3)
    try go_simp
    refine hK.out _ _ (HAC.out _ (by assumption)) (fun hHeld => ?_)
    clear hK K
    refine wpAnyH_ready (rs := [15]) (by kernel_rfl) (by simp) ?_
    refine AllReadyH.cons rfl (fun K hK => ?_) AllReadyH.nil
    (go_simp; go_at_call 9; refine (HB9.out _ _ hC9).mono ?_; rintro e we4 ⟨rfl, hbe4⟩; have hce4 := below_seq (show Below wC.heap.size wC _ from (by assumption)) hbe4)
    try go_simp
    refine hK.out _ _ (HAC.out _ (by assumption)) (fun hHeld => ?_)
    clear hK K
    refine wpAnyH_ready (rs := [18]) (by kernel_rfl) (by simp) ?_
    refine AllReadyH.cons rfl (fun K hK => ?_) AllReadyH.nil
    (go_simp; go_at_call 9; refine (HBA.out _ (by assumption)).mono ?_; rintro e we5 ⟨rfl, hbe5⟩; have hce5 := below_seq (show Below wC.heap.size wC _ from (by assumption)) hbe5)
    try go_simp
    refine hK.out _ _ (HAC.out _ (by assumption)) (fun hHeld => ?_)
    clear hK K
    refine wpAnyH_take (i := 19) (v := .bool true) rfl (by kernel_rfl) (by kernel_rfl) (by kernel_rfl) (fun _ _ _ h => h) (Or.inl ⟨by rfl, fun w _ => by go_simp⟩) (by assumption) ?_
    go_simp
    refine wpAnyH_take (i := 20) (v := .bool true) rfl (by kernel_rfl) (by kernel_rfl) (by kernel_rfl) (fun _ _ _ h => h) (Or.inl ⟨by rfl, fun w _ => by go_simp⟩) (by assumption) ?_
    go_simp
    refine wpAnyH_take (i := 21) (v := .bool true) rfl (by kernel_rfl) (by kernel_rfl) (by kernel_rfl) (fun _ _ _ h => h) (Or.inl ⟨by rfl, fun w _ => by go_simp⟩) (by assumption) ?_
    go_simp
    refine wpAnyH_done (by kernel_rfl) ?_ _
    have HBE := Lib.hid (below_seq HBW3.out hce5)
    go_wp2
    go_ret
    exact ⟨rfl, HBE.out⟩
end Go.Proofs.Ytchkjhgbbmablab.Backa
