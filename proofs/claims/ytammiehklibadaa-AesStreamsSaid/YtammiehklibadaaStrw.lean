/-
  AesStreams holds: of all keys and bytes what they become is as the document says, wherever the numbers begin. No condition.
-/
import Derived.Test.YtammiehklibadaaAesm
import Derived.Test.YtammiehklibadaaReff
import Derived.Test.YtammiehklibadaaFin
import Derived.Test.YtammiehklibadaaKit3
import Derived.Deep.RegionHeld3
import Derived.Orders
namespace Go.Proofs.Ytammiehklibadaa.Strw
open Go.RowKit
open Go.Proofs.Ytammiehklibadaa.Kit
open Go.Proofs.Ytammiehklibadaa.Oct
open Go.Proofs.Ytammiehklibadaa.Aes
set_option linter.unusedVariables false

/-- the two arrays that the law has boxed -/
def Boxes2 (g : Nat) (LK LF : List Value) (w : World) : Prop := w.rangeAt g 0 LK ∧ w.rangeAt (g + 1) 0 LF

attribute [local go_sem ↓] wp_load16 wp_load16k wp_st16 wp_load16g
attribute [local go_sem] HasRowAt_mk rowAt_mk StOk2_mk stAt_mk
set_option maxRecDepth 100000 in
set_option maxHeartbeats 8000000 in
theorem walk (key F : Nat → UInt8) (A : Option Addr) (n c : Nat) (bs : List UInt8) (w : World) (hx : RdB w w.heap.size A n c bs) :
    Calls Try.prog 4 #[.agg (A16 key), .agg (A16 F), .slice A n c] w fun e w' => e = .returned (.bool true) ∧ Below w.heap.size w w' := by
  have hrx := hx.room
  obtain ⟨LK, hLK⟩ : ∃ q, q = (row key 16).map bv := ⟨_, rfl⟩
  obtain ⟨LF, hLF⟩ : ∃ q, q = (row F 16).map bv := ⟨_, rfl⟩
  have eK : A16 key = LK.toArray := by rw [hLK]; rfl
  have eF : A16 F = LF.toArray := by rw [hLF]; rfl
  obtain ⟨W2, hW2⟩ : ∃ q, q = (w.alloc (.cells LK.toArray 22)).alloc (.cells LF.toArray 22) := ⟨_, rfl⟩
  have h2 := heap2 w (.cells LK.toArray 22) (.cells LF.toArray 22)
  have hk2 : Arr W2 w.heap.size 22 key 16 := by rw [Arr, hW2, h2.1, hLK]
  have hf2 : Arr W2 (w.heap.size + 1) 22 F 16 := by rw [Arr, hW2, h2.2, hLF]
  have hbw2 : Below w.heap.size w W2 := by rw [hW2]; exact below2 _ _ _
  rw [eK, eF]
  have HW2 := Lib.hid hW2
  have HARR := Lib.hid (show ∀ W, Below W2.heap.size W2 W → Arr W w.heap.size 22 key 16 ∧ Arr W (w.heap.size + 1) 22 F 16 from fun W h => ⟨hk2.on h hk2.lt, hf2.on h hf2.lt⟩)
  have HBW2 := Lib.hid hbw2
  have HLK := Lib.hid hLK
  have HLF := Lib.hid hLF
  have EK := Lib.hid eK
  have EF := Lib.hid eF
  have HRD := Lib.hid hx
  clear hx
  clear hW2 h2 hk2 hf2 hbw2 hLK hLF eK eF
  by_cases h60 : 60 < n
  · have t1 : decide ((60 : Int) < n) = true := by simp; omega
    go_enter Try.func4, Try.ntmps4
    go_wp2_with fail
    rw [← HW2.out]
    refine (alive5_any _).mono ?_
    rintro e w1 ⟨rfl, hb1⟩
    go_wp2
    go_ret
    exact ⟨rfl, below_seq HBW2.out hb1⟩
  · have t1 : decide ((60 : Int) < n) = false := by simp; omega
    go_enter Try.func4, Try.ntmps4
    go_wp2_with fail
    rw [← HW2.out]
    refine (alive5_any _).mono ?_
    rintro e w1 ⟨rfl, hb1⟩
    have hiK : (Try.prog.info? 22).map (·.size) = some LK.length := by rw [HLK.out, List.length_map, row_len]; exact info16
    have hiF : (Try.prog.info? 22).map (·.size) = some LF.length := by rw [HLF.out, List.length_map, row_len]; exact info16
    have HAR := Lib.hid (show ∀ W, Below w1.heap.size w1 W → Boxes2 w.heap.size LK LF W from fun W h => by
      have h1 := HARR.out W (below_seq hb1 h)
      rw [HLK.out, HLF.out]
      exact ⟨h1.1.range, h1.2.range⟩)
    have HRK := Lib.hid (show ∀ W, Below w1.heap.size w1 W → RdB W W.heap.size (some ⟨w.heap.size, 0, none⟩) 16 16 (row key 16) ∧ RdB W W.heap.size (some ⟨w.heap.size + 1, 0, none⟩) 16 16 (row F 16) from fun W h => by
      have h1 := HARR.out W (below_seq hb1 h)
      exact ⟨h1.1.rd (by omega), h1.2.rd (by omega)⟩)
    have HN := Lib.hid (show ∀ W : World, Calls Try.prog 6 #[.agg LK.toArray] W fun e w' => ∃ S, e = .returned (.pointer (some ⟨S, 0, none⟩)) ∧ W.heap.size ≤ S ∧ CipherAt w' S key ∧ Below W.heap.size W w' from fun W => by
      have := new_any key W
      rw [EK.out] at this
      exact this)
    have HBX := Lib.hid (show ∀ W : World, Calls Try.prog 10 #[] W fun e w' => ∃ A c, e = .returned (.slice A 256 c) ∧ RdB w' w'.heap.size A 256 c (row sbN 256) ∧ Below W.heap.size W w' from fun W => (boxes_own W).mono fun e w' ⟨A, c, he, ho, hb⟩ => ⟨A, c, he, Rd.of_own ho, hb⟩)
    obtain ⟨D, hD⟩ : ∃ q, q = strF key F bs := ⟨_, rfl⟩
    have HST := Lib.hid (show ∀ W S, Below w1.heap.size w1 W → CipherAt W S key → Calls Try.prog 11 #[.pointer (some ⟨S, 0, none⟩), .agg LF.toArray, .slice A n c] W fun e w' => ∃ S1, e = .returned (.slice (some ⟨S1, 0, none⟩) n n) ∧ RdB w' w'.heap.size (some ⟨S1, 0, none⟩) n n D ∧ Below W.heap.size W w' from fun W S h hC => by
      have := stream_new S key F A n c bs W hC (HRD.out.on (below_seq HBW2.out (below_seq hb1 h))) (by omega)
      rw [EF.out, ← hD] at this
      exact this)
    have HRS := Lib.hid (show ∀ W Ab cb, Below w1.heap.size w1 W → RdB W W.heap.size Ab 256 cb (row sbN 256) → Calls Try.prog 12 #[.slice Ab 256 cb, .slice (some ⟨w.heap.size, 0, none⟩) 16 16, .slice (some ⟨w.heap.size + 1, 0, none⟩) 16 16, .slice A n c] W fun e w' => ∃ A' c', e = .returned (.slice A' n c') ∧ RdB w' w'.heap.size A' n c' D ∧ Below W.heap.size W w' from fun W Ab cb h hb => by
      rw [hD]
      exact (refstream_new Ab _ _ A cb 16 16 n c key F bs W hb (HRK.out W h).1 (HRK.out W h).2 (HRD.out.on (below_seq HBW2.out (below_seq hb1 h))) (by omega)).mono fun e w' ⟨A', c', he, hn⟩ => ⟨A', c', he, hn.rd, hn.bl⟩)
    have hbd : Below w1.heap.size w1 w1.drew := below_of_drew ⟨1, rfl⟩ _
    have HB1 := Lib.hid (below_seq HBW2.out hb1)
    clear hb1 hD
    go_wp2_with fail
    refine wp_region_held_drew (S := Boxes2 w.heap.size LK LF) (by kernel_rfl) (HAR.out _ (by assumption)) (fun hHeld => ?_)
    refine wpAnyH_take (i := 0) (v := .agg LK.toArray) rfl (by kernel_rfl) (by kernel_rfl) (by kernel_rfl) (fun _ _ _ h => h) (yieldsIf_load_mid (by rfl) _ (.tmp 3) rfl (w.heap.size) 0 rfl LK _ (fun _ h => h.1) Try.underlying22 rfl hiK) (by assumption) ?_
    go_simp
    refine wpAnyH_take (i := 2) (v := .agg LF.toArray) rfl (by kernel_rfl) (by kernel_rfl) (by kernel_rfl) (fun _ _ _ h => h) (yieldsIf_load_mid (by rfl) _ (.tmp 4) rfl (w.heap.size + 1) 0 rfl LF _ (fun _ h => h.2) Try.underlying22 rfl hiF) (by assumption) ?_
    go_simp
    refine wpAnyH_take (i := 3) (v := .slice A n c) rfl (by kernel_rfl) (by kernel_rfl) (by kernel_rfl) (fun _ _ _ h => h) (Or.inl ⟨by rfl, fun w _ => by go_simp⟩) (by assumption) ?_
    go_simp
    refine wpAnyH_take (i := 6) (v := .slice (some ⟨w.heap.size, 0, none⟩) 16 16) rfl (by kernel_rfl) (by kernel_rfl) (by kernel_rfl) (fun _ _ _ h => h) (Or.inl ⟨by rfl, fun w _ => by go_simp⟩) (by assumption) ?_
    go_simp
    refine wpAnyH_take (i := 7) (v := .slice (some ⟨w.heap.size + 1, 0, none⟩) 16 16) rfl (by kernel_rfl) (by kernel_rfl) (by kernel_rfl) (fun _ _ _ h => h) (Or.inl ⟨by rfl, fun w _ => by go_simp⟩) (by assumption) ?_
    go_simp
    refine wpAnyH_take (i := 8) (v := .slice A n c) rfl (by kernel_rfl) (by kernel_rfl) (by kernel_rfl) (fun _ _ _ h => h) (Or.inl ⟨by rfl, fun w _ => by go_simp⟩) (by assumption) ?_
    go_simp
    refine wpAnyH_ready (rs := [1]) (by kernel_rfl) (by simp) ?_
    refine AllReadyH.cons rfl (fun K hK => ?_) AllReadyH.nil
    (go_simp; go_at_call 6; refine (HN.out _).mono ?_; rintro e wa ⟨S, rfl, hS, hC, hbwa⟩; have hcwa := below_seq (show Below w1.heap.size w1 _ from (by assumption)) hbwa)
    try go_simp
    refine hK.out _ _ (HAR.out _ (by assumption)) (fun hHeld => ?_)
    clear hK K
    refine wpAnyH_ready (rs := [4]) (by kernel_rfl) (by simp) ?_
    refine AllReadyH.cons rfl (fun K hK => ?_) AllReadyH.nil
    (go_simp; go_at_call 11; refine (HST.out _ _ (by assumption) hC).mono ?_; rintro e wb ⟨S1, rfl, hr1, hbwb⟩; have hcwb := below_seq (show Below w1.heap.size w1 _ from (by assumption)) hbwb)
    try go_simp
    refine hK.out _ _ (HAR.out _ (by assumption)) (fun hHeld => ?_)
    clear hK K
    refine wpAnyH_ready (rs := [5]) (by kernel_rfl) (by simp) ?_
    refine AllReadyH.cons rfl (fun K hK => ?_) AllReadyH.nil
    (go_simp; go_at_call 10; refine (HBX.out _).mono ?_; rintro e wc ⟨Ab, cb, rfl, hrb, hbwc⟩; have hcwc := below_seq (show Below w1.heap.size w1 _ from (by assumption)) hbwc; have hr2 := hr1.on hbwc)
    try go_simp
    refine hK.out _ _ (HAR.out _ (by assumption)) (fun hHeld => ?_)
    clear hK K
    refine wpAnyH_ready (rs := [9]) (by kernel_rfl) (by simp) ?_
    refine AllReadyH.cons rfl (fun K hK => ?_) AllReadyH.nil
    (go_simp; go_at_call 12; refine (HRS.out _ _ _ (by assumption) hrb).mono ?_; rintro e wd ⟨Ar, cr, rfl, hrr, hbwd⟩; have hcwd := below_seq (show Below w1.heap.size w1 _ from (by assumption)) hbwd; have hr3 := hr2.on hbwd)
    try go_simp
    refine hK.out _ _ (HAR.out _ (by assumption)) (fun hHeld => ?_)
    clear hK K
    refine wpAnyH_ready (rs := [10]) (by kernel_rfl) (by simp) ?_
    refine AllReadyH.cons rfl (fun K hK => ?_) AllReadyH.nil
    (go_simp; go_at_call 8; refine (same_new _ _ _ _ _ _ D D _ hr3 hrr).mono ?_; rintro e we ⟨rfl, hbwe⟩; have hcwe := below_seq (show Below w1.heap.size w1 _ from (by assumption)) hbwe; rw [show decide (D = D) = true from by simp])
    try go_simp
    refine hK.out _ _ (HAR.out _ (by assumption)) (fun hHeld => ?_)
    clear hK K
    refine wpAnyH_take (i := 11) (v := .bool true) rfl (by kernel_rfl) (by kernel_rfl) (by kernel_rfl) (fun _ _ _ h => h) (Or.inl ⟨by rfl, fun w _ => by go_simp⟩) (by assumption) ?_
    go_simp
    refine wpAnyH_done (by kernel_rfl) ?_ _
    have HBE := Lib.hid (below_seq HB1.out hcwe)
    go_wp2
    go_ret
    exact ⟨rfl, HBE.out⟩
end Go.Proofs.Ytammiehklibadaa.Strw
