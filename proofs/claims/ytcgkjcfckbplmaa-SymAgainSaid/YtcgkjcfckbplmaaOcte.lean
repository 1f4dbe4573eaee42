/-
  THE CONTRACT of octet.Joined, and of octet.Zero.
-/
import Derived.Test.YtcgkjcfckbplmaaOctb
import Derived.Lib.SliceRun
namespace Go.Proofs.Ytcgkjcfckbplmaa.Oct
open Go.RowKit
open Go.Proofs.Ytcgkjcfckbplmaa.Kit
set_option linter.unusedVariables false

theorem joined_any (A : Option Addr) (n c B : Nat) (R : List Row) (w : World) (h : Rd w B A n c (R.map Row.v)) (hR : ∀ r ∈ R, RdB w B r.A r.n r.c r.bs) (hB : B ≤ w.heap.size) (hT : (joinL R).length ≤ 70368744177664) :
    Calls Try.prog 32 #[.slice A n c] w fun e w' => ∃ A' c', e = .returned (.slice A' (joinL R).length c') ∧ w'.ownsRow w.heap.size 5 1 (.slice A' (joinL R).length c') (joinL R).length ((joinL R).map bv) ∧ Below w.heap.size w w' := by
  obtain ⟨i0, hi, hz0, hz1, hz2⟩ := info_parts info5
  obtain ⟨hle, hge⟩ : n ≤ R.length ∧ R.length ≤ n := by have := h.len; simp at this; omega
  have hr := h.room
  have HT := Lib.hid hT
  clear hT
  go_enter Try.func32, Try.ntmps32
  go_wp2
  go_loopw [3, 8] (fun v i wr => ∃ k A' c', k ≤ n ∧ i = .int .i64 (k : Nat) ∧ v = .slice A' (joinL (R.take k)).length c' ∧ wr.ownsRow w.heap.size 5 1 (.slice A' (joinL (R.take k)).length c') (joinL (R.take k)).length ((joinL (R.take k)).map bv) ∧ Below w.heap.size w wr)
    (fun _ i _ => n - (intOf i).toNat)
  case atStart => exact ⟨0, none, 0, Nat.zero_le _, rfl, rfl, World.ownsRow_nil _ _ _ _, Below.refl _ _⟩
  case round =>
    obtain ⟨k, A', c', hk, rfl, rfl, hown, hbw⟩ := hrel
    obtain ⟨m, hm⟩ : ∃ m, m = (joinL (R.take k)).length := ⟨_, rfl⟩
    rw [← hm] at hown ⊢
    have HM := Lib.hid hm
    clear hm
    by_cases hlt : k < n
    · obtain ⟨b, o, rfl, hb, hc⟩ := h.2.2.2 (by omega)
      have hcell := (hbw.cell (p := ⟨b, o + k, none⟩) (Nat.lt_of_lt_of_le hb hB)).trans (hc k _ (by rw [List.getElem?_map, List.getElem?_eq_getElem (by omega)]; rfl))
      have hrd := (hR R[k] (List.getElem_mem _)).more hB
      have hrd2 := hrd.below hbw
      have hts := joinL_take_succ R k (by omega)
      have htl := Nat.le_trans (joinL_take_le R (k + 1)) HT.out
      rw [hts, List.length_append, ← HM.out, RdB.len hrd] at htl
      obtain ⟨r, hrk⟩ : ∃ r, r = R[k] := ⟨_, rfl⟩
      rw [← hrk] at hcell hrd hrd2 hts htl
      have HS := Lib.hid hts
      have hlr := Lib.hid (RdB.len hrd2)
      clear hts hrk hrd hc
      unfold Row.v at hcell
      go_wp2_with (at_builtin; refine wpList_app _ rfl (.tmp 12) (.tmp 13) 29 rfl w.heap.size 5 i0 _ 1 Try.underlying29 hi hz0 hz1 hz2 rfl _ m _ rfl hown w.heap.size r.A r.n r.c _ rfl hrd2 (bv_one _) (by omega) (by omega) hbw.size ?_; intro A2 c2 w' hown' hg hat)
      have hb' := hbw.grown hg hbw.size (fun g hg => (hown.lt g hg).1)
      have HS2 : m + r.n = (joinL (R.take (k + 1))).length := by rw [HS.out, List.length_append, hlr.out, ← HM.out]
      rw [← List.map_append, ← HS.out, HS2] at hown'
      have HS3 := Lib.hid HS2
      clear HS2 hg hat hown
      go_wp2
      go_roundw
      case rel => exact ⟨k + 1, A2, c2, by omega, by go_num, by rw [HS3.out], hown', hb'⟩
      case measure => simp [intOf]; omega
    · obtain rfl : k = n := by omega
      have e : R.take k = R := List.take_of_length_le (by omega)
      rw [e] at hown HM
      have HE := Lib.hid HM.out
      clear HM e
      go_wp2
      go_ret
      have he := HE.out
      subst he
      exact ⟨A', c', rfl, hown, hbw⟩
theorem zero5 (w : World) : (zeroValue 5).run Try.prog w = .ok (.int .u8 0) w := by kernel_rfl
end Go.Proofs.Ytcgkjcfckbplmaa.Oct
