/-
  The walk of NameFolds.
-/
import Derived.Test.YtlkokljlghlldaaDoorNams
namespace Go.Proofs.YtlkokljlghlldaaDoor.Nam
open Go.RowKit
open Go.Proofs.YtlkokljlghlldaaDoor.Kit
set_option linter.unusedVariables false

theorem foldL_len : ∀ l : List Nat, (foldL l).length ≤ 4 * l.length
  | [] => Nat.le_refl _
  | r :: l => by
    have h1 := foldL_len l
    have h2 := enc_le (foldR r)
    have e : foldL (r :: l) = Lib.encodeRune ((foldR r : Nat) : Int) ++ foldL l := rfl
    rw [e, List.length_append, List.length_cons]
    omega
theorem foldS_size (s : ByteArray) : (foldS s).size ≤ 4 * s.size := by
  have h1 := foldL_len (runesS s)
  have h2 := runs_len s s.size 0
  have e : (foldS s).size = (foldL (runesS s)).length := by
    show (foldL (runesS s)).toArray.size = _
    rw [List.size_toArray]
  have h3 : (runesS s).length ≤ s.size := h2
  omega

set_option maxRecDepth 100000 in
set_option maxHeartbeats 4000000 in
theorem folds_walk (s : ByteArray) (w : World) (hz : s.size ≤ maxLen) (hM : MaxL w) : Calls Tryd.prog 5 #[.string s] w fun e w' => e = .returned (.bool true) ∧ Below w.heap.size w w' := by
  have HM := Lib.hid hM
  clear hM
  by_cases hbig : 120 < s.size
  · have t1 : decide ((120 : Int) < (s.size : Int)) = true := decide_eq_true (by omega)
    go_enter Tryd.func5, Tryd.ntmps5
    go_wp2_with fail
    refine (alive9_any w HM.out).mono ?_
    rintro e w1 ⟨rfl, hb1⟩
    go_wp2_with fail
    go_ret
    exact ⟨rfl, hb1⟩
  · have t1 : decide ((120 : Int) < (s.size : Int)) = false := decide_eq_false (by omega)
    obtain ⟨F, hF⟩ : ∃ F, F = foldS s := ⟨_, rfl⟩
    have hFz : F.size ≤ 480 := by have := foldS_size s; rw [hF]; omega
    have hFF : foldS F = F := by rw [hF, foldS_idem]
    have hft := fold_text s
    have hno := name_own s
    rw [← hF] at hft hno
    have HNO := Lib.hid hno
    have HFF := Lib.hid hFF
    have HF := Lib.hid hF
    clear hno hFF
    cases hR : rightS F
    · have hs0 : rightS s = false := by
        cases hs : rightS s
        · rfl
        · have := HNO.out hs
          rw [this, hs] at hR
          cases hR
      have HR := Lib.hid hR
      have HS0 := Lib.hid hs0
      clear hR hs0 hft hF
      go_enter Tryd.func5, Tryd.ntmps5
      go_wp2_with fail
      refine (alive9_any w HM.out).mono ?_
      rintro e w1 ⟨rfl, hb1⟩
      go_wp2_with fail
      refine (fold_any s (by omega) w1).mono ?_
      rintro e w2 ⟨rfl, hb2⟩
      rw [← HF.out, HR.out]
      go_wp2_with fail
      refine (fold_any F (by omega) w2).mono ?_
      rintro e w3 ⟨rfl, hb3⟩
      rw [HFF.out, HR.out]
      go_wp2_with fail
      refine (right_any F (by omega) w3).mono ?_
      rintro e w4 ⟨rfl, hb4⟩
      rw [HR.out]
      go_wp2_with fail
      refine (right_any s (by omega) w4).mono ?_
      rintro e w5 ⟨rfl, hb5⟩
      rw [HS0.out]
      go_wp2_with fail
      go_ret
      exact ⟨rfl, below_seq (below_seq (below_seq (below_seq hb1 hb2) hb3) hb4) hb5⟩
    · have hT := hft hR
      have HR := Lib.hid hR
      have HT := Lib.hid hT.1
      have HW := Lib.hid hT.2
      clear hR hT hft hF
      go_enter Tryd.func5, Tryd.ntmps5
      go_wp2_with fail
      refine (alive9_any w HM.out).mono ?_
      rintro e w1 ⟨rfl, hb1⟩
      go_wp2_with fail
      refine (fold_any s (by omega) w1).mono ?_
      rintro e w2 ⟨rfl, hb2⟩
      rw [← HF.out, HR.out]
      go_wp2_with fail
      refine (fold_any F (by omega) w2).mono ?_
      rintro e w3 ⟨rfl, hb3⟩
      rw [HFF.out, HR.out]
      go_wp2_with fail
      refine (right_any F (by omega) w3).mono ?_
      rintro e w4 ⟨rfl, hb4⟩
      rw [HR.out]
      go_wp2_with fail
      refine (right_any s (by omega) w4).mono ?_
      rintro e w5 ⟨rfl, hb5⟩
      have hb05 : Below w.heap.size w w5 := below_seq (below_seq (below_seq (below_seq hb1 hb2) hb3) hb4) hb5
      have HB5 := Lib.hid hb05
      clear hb1 hb2 hb3 hb4 hb5 hb05
      cases hs : rightS s
      · go_wp2_with fail
        refine (text_any F (by omega) 16 w5).mono ?_
        rintro e w6 ⟨rfl, hb6⟩
        rw [HT.out]
        go_wp2_with fail
        obtain ⟨m, hm⟩ := HM.out.on (below_seq HB5.out hb6)
        have hw := words_any F (by omega) m w6 hm
        rw [HW.out] at hw
        refine hw.mono ?_
        rintro e w7 ⟨rfl, hw7⟩
        have hb7 : Below w6.heap.size w6 w7 := by rw [hw7]; exact below_of_new w6 _
        clear hw7 hw hm
        go_wp2_with fail
        go_ret
        exact ⟨rfl, below_seq (below_seq HB5.out hb6) hb7⟩
      · have eS : (F.toList == s.toList) = true := by rw [HNO.out hs]; exact beq_self_eq_true _
        go_wp2_with fail
        refine (text_any F (by omega) 16 w5).mono ?_
        rintro e w6 ⟨rfl, hb6⟩
        rw [HT.out]
        go_wp2_with fail
        obtain ⟨m, hm⟩ := HM.out.on (below_seq HB5.out hb6)
        have hw := words_any F (by omega) m w6 hm
        rw [HW.out] at hw
        refine hw.mono ?_
        rintro e w7 ⟨rfl, hw7⟩
        have hb7 : Below w6.heap.size w6 w7 := by rw [hw7]; exact below_of_new w6 _
        clear hw7 hw hm
        go_wp2_with fail
        go_ret
        exact ⟨rfl, below_seq (below_seq HB5.out hb6) hb7⟩
end Go.Proofs.YtlkokljlghlldaaDoor.Nam
