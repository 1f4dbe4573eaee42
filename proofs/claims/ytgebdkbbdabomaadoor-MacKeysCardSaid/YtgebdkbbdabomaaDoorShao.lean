/-
  THE CONTRACT of sha's Of.
-/
import Derived.Test.YtgebdkbbdabomaaDoorShad
namespace Go.Proofs.YtgebdkbbdabomaaDoor.Sha
open Go.RowKit
open Go.Proofs.YtgebdkbbdabomaaDoor.Kit
open Go.Proofs.YtgebdkbbdabomaaDoor.Oct
set_option linter.unusedVariables false

/-- bytes that could be read before, handed to a Sum that was made since -/
theorem rds_of {w wr : World} {G n c : Nat} {A : Option Addr} {bs : List UInt8} (h : RdB w w.heap.size A n c bs) (hG : w.heap.size ≤ G) (hk : ∀ b, b < w.heap.size → wr.heap[b]? = w.heap[b]?) (hs : w.heap.size ≤ wr.heap.size) : RdS wr (fun b => b < wr.heap.size ∧ b ≠ G) A n c (bs.map bv) := by
  obtain ⟨h1, h2, h3, h4⟩ := h
  refine ⟨h1, h2, h3, fun hn => ?_⟩
  obtain ⟨b, o, e, hb, hc⟩ := h4 hn
  exact ⟨b, o, e, ⟨by omega, by omega⟩, fun j u hu => (World.cell?_of_block (hk b hb)).trans (hc j u hu)⟩

set_option maxRecDepth 100000 in
set_option maxHeartbeats 1000000 in
theorem of_own (A : Option Addr) (n c : Nat) (R : List Row) (w : World) (h : Rd w w.heap.size A n c (R.map Row.v)) (hR : ∀ r ∈ R, RdB w w.heap.size r.A r.n r.c r.bs) (hRt : Roots w) (hT : (joinL R).length ≤ 576460752303423488) :
    Calls Tryd.prog 33 #[.slice A n c] w fun e w' => ∃ A' c' B, e = .returned (.slice A' 32 c') ∧ w.heap.size ≤ B ∧ w'.ownsRow B 5 1 (.slice A' 32 c') 32 ((dig (joinL R)).map bv) ∧ Below w.heap.size w w' := by
  obtain ⟨hle, hge⟩ : n ≤ R.length ∧ R.length ≤ n := by have := h.len; simp at this; omega
  have hr := h.room
  have HT := Lib.hid hT
  have HH := Lib.hid h
  have HR := Lib.hid hR
  have HRT := Lib.hid hRt
  have hne : w.heap.size ≠ 0 := by have := hRt.lt; omega
  clear hT h hR hRt
  go_enter Tryd.func33, Tryd.ntmps33
  go_wp2_with fail
  refine (new_any _).mono ?_
  rintro e w1 ⟨rfl, hs1, hb1, hlt1⟩
  have HS1 := Lib.hid hs1
  have HB1 := Lib.hid hb1
  clear hs1 hb1
  go_wp2_with fail
  go_loopw [5, 9] (fun _ i wr => ∃ k : Nat, k ≤ n ∧ i = .int .i64 k ∧ SumAt wr w.heap.size (joinL (R.take k)) ∧ w1.grownBy wr (some w.heap.size)) (fun _ i _ => n - (intOf i).toNat)
  case atStart => exact ⟨0, Nat.zero_le _, rfl, HS1.out, World.grownBy.refl _ _⟩
  case round =>
    obtain ⟨k, hk, rfl, hs, hgb⟩ := hrel
    have hkeep : ∀ b, b < w.heap.size → wr.heap[b]? = w.heap[b]? := fun b hb => (gb_block hgb (by omega) (by omega)).trans (HB1.out.block b hb)
    have hsz : w.heap.size ≤ wr.heap.size := by have := hgb.size; omega
    have hrt : Roots wr := fun i hi => (World.cell?_of_block (hkeep _ HRT.out.lt)).trans (HRT.out i hi)
    have hbw : Below w.heap.size w wr := HB1.out.trans (below_of_gb hgb (Nat.le_refl _) (by omega))
    have HS := Lib.hid hs
    have HRTW := Lib.hid hrt
    have HKP := Lib.hid hkeep
    clear hs hrt hkeep
    by_cases hlt : k < n
    · obtain ⟨b, o, rfl, hb, hc⟩ := HH.out.2.2.2 (by omega)
      have hcell := (World.cell?_of_block (HKP.out b hb) : wr.cell? ⟨b, o + k, none⟩ = w.cell? ⟨b, o + k, none⟩).trans (hc k _ (by rw [List.getElem?_map, List.getElem?_eq_getElem (by omega)]; rfl))
      have hrd := HR.out R[k] (List.getElem_mem _)
      have hts := joinL_take_succ R k (by omega)
      have htl := Nat.le_trans (joinL_take_le R (k + 1)) HT.out
      rw [hts, List.length_append, RdB.len hrd] at htl
      obtain ⟨r, hrk⟩ : ∃ r, r = R[k] := ⟨_, rfl⟩
      rw [← hrk] at hcell hrd hts htl
      have HTS := Lib.hid hts
      have HRD := Lib.hid (rds_of hrd (Nat.le_refl _) HKP.out hsz)
      clear hts hrk hrd hc
      unfold Row.v at hcell
      go_wp2_with fail
      refine (write_any w.heap.size r.n r.c r.A (joinL (R.take k)) r.bs wr HS.out HRD.out HRTW.out hne (by omega)).mono ?_
      rintro e w2 ⟨rfl, hs2, hgb2⟩
      rw [← HTS.out] at hs2
      have hgbw := grown_trans hgb hgb2
      go_wp2
      go_roundw
      case rel => exact ⟨k + 1, by omega, by go_num, hs2, hgbw⟩
      case measure => simp [intOf]; omega
    · obtain rfl : k = n := by omega
      have e : R.take k = R := List.take_of_length_le (by omega)
      have hsf := HS.out
      rw [e] at hsf
      have HSF := Lib.hid hsf
      clear e hsf HS
      go_wp2_with fail
      refine (digest_own w.heap.size (joinL R) wr HSF.out HRTW.out HT.out).mono ?_
      rintro e w2 ⟨A2, c2, B2, rfl, hB2, ho2, hbl2⟩
      have HN2 := Lib.hid ho2
      clear ho2
      go_wp2
      go_ret
      exact ⟨A2, c2, B2, rfl, Nat.le_trans hsz hB2, HN2.out, below_seq hbw hbl2⟩
theorem of_any (A : Option Addr) (n c : Nat) (R : List Row) (w : World) (h : Rd w w.heap.size A n c (R.map Row.v)) (hR : ∀ r ∈ R, RdB w w.heap.size r.A r.n r.c r.bs) (hRt : Roots w) (hT : (joinL R).length ≤ 576460752303423488) :
    Calls Tryd.prog 33 #[.slice A n c] w fun e w' => ∃ A' c', e = .returned (.slice A' 32 c') ∧ New w w' A' 32 c' (dig (joinL R)) :=
  (of_own A n c R w h hR hRt hT).mono fun e w' ⟨A', c', B, he, _, ho, hbl⟩ => ⟨A', c', he, .of_own ho hbl⟩
end Go.Proofs.YtgebdkbbdabomaaDoor.Sha
