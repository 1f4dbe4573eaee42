/-
  The walk of NameTells.
-/
import Derived.Test.YtlkokljlghlldaaDoorNamwd
import Derived.Test.YtlkokljlghlldaaDoorNamu
namespace Go.Proofs.YtlkokljlghlldaaDoor.Nam
open Go.RowKit
open Go.Proofs.YtlkokljlghlldaaDoor.Kit
set_option linter.unusedVariables false

theorem words_len (s : ByteArray) : Lib.countB s ⟨#[32]⟩ + 1 = (wordsS s).length := (Lib.splitB_all ⟨#[32]⟩ (by decide) 0 _ s rfl).symm

set_option maxRecDepth 100000 in
set_option maxHeartbeats 4000000 in
theorem tells_walk (s : ByteArray) (most : Int) (w : World) (hz : s.size ≤ maxLen) (hmo : -9223372036854775808 ≤ most ∧ most ≤ 9223372036854775807) (hM : MaxL w) : Calls Tryd.prog 3 #[.string s, .int .i64 most] w fun e w' => e = .returned (.bool true) ∧ Below w.heap.size w w' := by
  have HM := Lib.hid hM
  clear hM
  by_cases hbig : 120 < s.size
  · have t1 : decide ((120 : Int) < (s.size : Int)) = true := decide_eq_true (by omega)
    go_enter Tryd.func3, Tryd.ntmps3
    go_wp2_with fail
    refine (alive9_any w HM.out).mono ?_
    rintro e w1 ⟨rfl, hb1⟩
    go_wp2_with fail
    go_ret
    exact ⟨rfl, hb1⟩
  · have t1 : decide ((120 : Int) < (s.size : Int)) = false := decide_eq_false (by omega)
    obtain ⟨F, hF⟩ : ∃ F, F = foldS s := ⟨_, rfl⟩
    have hFz : F.size ≤ 480 := by have := foldS_size s; rw [hF]; omega
    obtain ⟨L, hL⟩ : ∃ L, L = wordsS s := ⟨_, rfl⟩
    obtain ⟨n, hn⟩ : ∃ n, n = L.length := ⟨_, rfl⟩
    have hcn : Lib.countB s ⟨#[32]⟩ + 1 = n := by rw [hn, hL]; exact words_len s
    have hn1 : 1 ≤ n := by omega
    have hnz : n ≤ 121 := by have := Lib.countB_le ⟨#[32]⟩ (by decide) s.size s (Nat.le_refl _); omega
    obtain ⟨R, hR⟩ : ∃ R, R = rightS s := ⟨_, rfl⟩
    obtain ⟨RF, hRF⟩ : ∃ R, R = rightS F := ⟨_, rfl⟩
    obtain ⟨X, hX⟩ : ∃ X, X = textS s most := ⟨_, rfl⟩
    have HF := Lib.hid hF
    have HL := Lib.hid hL
    have HN := Lib.hid hn
    have HCN := Lib.hid hcn
    have HR := Lib.hid hR
    have HRF := Lib.hid hRF
    have HX := Lib.hid hX
    clear hF hL hn hcn hR hRF hX
    go_enter Tryd.func3, Tryd.ntmps3
    go_wp2_with fail
    refine (alive9_any w HM.out).mono ?_
    rintro e w1 ⟨rfl, hb1⟩
    have HB1 := Lib.hid hb1
    clear hb1
    go_wp2_with fail
    refine (fold_any s (by omega) w1).mono ?_
    rintro e w2 ⟨rfl, hb2⟩
    rw [← HF.out, ← HRF.out]
    have HB2 := Lib.hid (below_seq HB1.out hb2)
    clear hb2
    go_wp2_with fail
    obtain ⟨m, hm⟩ := HM.out.on HB2.out
    have hw := words_any s (by omega) m w2 hm
    rw [HCN.out, ← HL.out] at hw
    refine hw.mono ?_
    rintro e w3 ⟨rfl, hw3⟩
    have hg3 : w3.heap[w2.heap.size]? = some (.cells (L.map Value.string).toArray 9 (0, 0)) := by rw [hw3]; exact heap_alloc_new w2 _
    have hb3 : Below w2.heap.size w2 w3 := by rw [hw3]; exact below_of_new w2 _
    have hlt3 : w2.heap.size < w3.heap.size := by rw [hw3]; simp
    have HG3 := Lib.hid hg3
    have HB3 := Lib.hid (below_seq HB2.out hb3)
    clear hw hw3 hg3 hb3 hm
    go_wp2_with fail
    refine (refWords_any s (by omega) w3).mono ?_
    rintro e w4 ⟨A, n', c', rfl, ho4, hl4, hb4⟩
    rw [← HL.out] at ho4 hl4
    have en : n' = n := by rw [HN.out]; exact hl4.symm
    rw [en] at ho4 ⊢
    clear en hl4
    rcases own_cases ho4 with ⟨_, _, h0⟩ | ⟨g, rfl⟩
    · omega
    have HO4 := Lib.hid ho4
    have HG4 := Lib.hid ((hb4.block _ hlt3).trans HG3.out)
    have hlt4 : w2.heap.size < w4.heap.size := by have := hb4.size; omega
    have HB4 := Lib.hid (below_seq HB3.out hb4)
    clear ho4 hb4
    go_wp2_with fail
    refine (right_any s (by omega) w4).mono ?_
    rintro e w5 ⟨rfl, hb5⟩
    rw [← HR.out]
    go_wp2_with fail
    refine (refRight_any s (by omega) w5).mono ?_
    rintro e w5' ⟨rfl, rfl⟩
    rw [← HR.out]
    go_wp2_with fail
    refine (text_any s (by omega) most w5).mono ?_
    rintro e w6 ⟨rfl, hb6⟩
    rw [← HX.out]
    go_wp2_with fail
    refine (refText_any s (by omega) most w6).mono ?_
    rintro e w6' ⟨rfl, rfl⟩
    rw [← HX.out]
    go_wp2_with fail
    refine (refFold_any s (by omega) w6).mono ?_
    rintro e w6' ⟨rfl, rfl⟩
    rw [← HF.out]
    go_wp2_with fail
    refine (refRight_any F (by omega) w6).mono ?_
    rintro e w6' ⟨rfl, rfl⟩
    rw [← HRF.out]
    have hb46 := below_seq hb5 hb6
    have HO6 := Lib.hid (own_on HO4.out hb46)
    have HG6 := Lib.hid ((hb46.block _ hlt4).trans HG4.out)
    have HB6 := Lib.hid (below_seq HB4.out hb46)
    clear hb5 hb6 hb46 HO4 HG4
    go_wp2_with fail
    go_loopw [60] (fun i wr => ∃ k : Nat, k ≤ n ∧ i = .int .i64 k ∧ w6 = wr) (fun i _ => n - (intOf i).toNat)
    case atStart => exact ⟨0, by omega, rfl, rfl⟩
    case round =>
      obtain ⟨k, hk, e60, ew⟩ := hrel
      subst e60 ew
      by_cases hlt : k < n
      · have hd : decide ((k : Int) < (n : Int)) = true := decide_eq_true (by omega)
        obtain ⟨x, hx⟩ : ∃ x, L[k]? = some x := ⟨_, List.getElem?_eq_getElem (by rw [← HN.out]; exact hlt)⟩
        have hx' : (L.map Value.string)[k]? = some (.string x) := by rw [List.getElem?_map, hx]; rfl
        have c1 : w6.cell? ⟨w2.heap.size, k, none⟩ = some (.string x) := by rw [cell_of_row w6 w2.heap.size k _ _ (0, 0) HG6.out]; simpa using hx'
        have c2 := (own_cells HO6.out).1 k _ hx'
        clear hx hx'
        go_wp2
        go_roundw
        case rel => exact ⟨k + 1, by omega, by go_num, by first | rfl | trivial⟩
        case measure => simp [intOf]; omega
      · have hd : decide ((k : Int) < (n : Int)) = false := decide_eq_false (by omega)
        go_wp2
        go_ret
        exact ⟨rfl, HB6.out⟩
end Go.Proofs.YtlkokljlghlldaaDoor.Nam
