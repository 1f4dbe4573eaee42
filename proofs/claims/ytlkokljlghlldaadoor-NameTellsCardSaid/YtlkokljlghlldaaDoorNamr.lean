/-
  name's Fold and Words.
-/
import Derived.Test.YtlkokljlghlldaaDoorNamq
import Derived.Test.YtlkokljlghlldaaDoorNamw
import Derived.Test.YtlkokljlghlldaaDoorNampc
namespace Go.Proofs.YtlkokljlghlldaaDoor.Nam
open Go.RowKit
set_option linter.unusedVariables false

set_option maxRecDepth 100000 in
set_option maxHeartbeats 4000000 in
theorem fold_any (s : ByteArray) (hs : s.size ≤ 1000000) (w : World) : Calls Tryd.prog 7 #[.string s] w fun e w' => e = .returned (.tuple #[.string (foldS s), .bool (rightS (foldS s))]) ∧ Below w.heap.size w w' := by
  go_enter Tryd.func7, Tryd.ntmps7
  go_wp2
  go_loopw [] (fun wr => ∃ (pos fuel : Nat) (acc : List UInt8), Lib.IsBuilderF 36 5 w.heap.size w.heap.size (Lib.byteCells acc) wr ∧ wr.heap[w.heap.size + 1]? = some (.stringIter s pos) ∧ Below w.heap.size w wr ∧ acc ++ foldL (runs s fuel pos) = foldL (runesS s) ∧ s.size ≤ pos + fuel ∧ acc.length ≤ 4 * pos ∧ pos ≤ s.size) (fun wr => s.size - wr.iterPos (w.heap.size + 1))
  case atStart =>
    refine ⟨0, s.size, [], (Lib.IsBuilderF.of (Lib.fresh_isBuilder 36 5 w)).alloc _, ?_, ((Below.refl _ w).alloc (Nat.le_refl _) _).alloc (by simp) _, rfl, by omega, by simp, by omega⟩
    have := World.iter_heap (w.alloc (.cells #[.pointer none, .slice none 0 0] 36)) s 0
    simpa using this
  case round =>
    obtain ⟨pos, fuel, acc, hI, hit, hbw, hacc, hfu, hal, hpl⟩ := hrel
    have hsz : w.heap.size + 1 < wr.heap.size := (Array.getElem?_eq_some_iff.1 hit).1
    by_cases hp : pos < s.size
    · have hnx : ∀ ty, (Instr.next (.pointer (some ⟨w.heap.size + 1, 0, none⟩)) true ty).run Tryd.prog wr = _ := fun ty => Lib.run_next_any_at wr (w.heap.size + 1) s pos ty hit hp
      have hwd := width_at s pos
      have hin := width_in s pos hp
      have hru := rune_at s pos
      unfold Rune at hru
      have hI2 := hI.iterAt hit (pos + (Utf8.decode s pos).2)
      have hit2 := Lib.iterAt_heap wr (w.heap.size + 1) s pos (pos + (Utf8.decode s pos).2) hit
      have hbw2 := Lib.below_iterAt hbw (k := w.heap.size + 1) (by omega) s (pos + (Utf8.decode s pos).2)
      have hsz2 : w.heap.size ≤ (wr.iterAt (w.heap.size + 1) s (pos + (Utf8.decode s pos).2)).heap.size := by rw [Lib.iterAt_size]; omega
      obtain ⟨f, rfl⟩ : ∃ f, fuel = f + 1 := ⟨fuel - 1, by omega⟩
      rw [runs_step s f pos hp] at hacc
      have hbg := big_any ((Utf8.decode s pos).1 : Int) (by omega) (by omega) (wr.iterAt (w.heap.size + 1) s (pos + (Utf8.decode s pos).2))
      have hE : ∀ x : Nat, foldR (Utf8.decode s pos).1 = x → acc ++ Lib.encodeRune (x : Int) ++ foldL (runs s f (pos + (Utf8.decode s pos).2)) = foldL (runesS s) := fun x hx => by
        rw [← hacc, ← hx, List.append_assoc]
        rfl
      have hL : ∀ x : Nat, (acc ++ Lib.encodeRune (x : Int)).length ≤ 4 * (pos + (Utf8.decode s pos).2) := fun x => by
        have := enc_le x
        rw [List.length_append]
        omega
      cases hb : bigN ((Utf8.decode s pos).1 : Int)
      · rw [hb] at hbg
        have hx : foldR (Utf8.decode s pos).1 = (Utf8.decode s pos).1 := by unfold foldR; rw [if_neg (by rw [hb]; decide)]
        go_wp2_with fail
        refine hbg.mono ?_
        rintro e w' ⟨rfl, rfl⟩
        go_wp2_with fail
        refine (writeRune_any w.heap.size w.heap.size _ _ (by omega) (by omega) _ hI2 (by rw [Lib.byteCells_length]; omega) hsz2).mono ?_
        rintro e W1 ⟨rfl, h1, b1, k1⟩
        go_wp2
        go_roundw
        case rel =>
          refine ⟨pos + (Utf8.decode s pos).2, f, acc ++ Lib.encodeRune ((Utf8.decode s pos).1 : Int), ?_, k1.iter hit2 (by omega), hbw2.trans b1, hE _ hx, by omega, hL _, hin⟩
          rw [Lib.byteCells_append, Lib.byteCells_encodeRune]; exact Or.inr h1
        case measure =>
          simp only [World.iterPos, k1.iter hit2 (by omega), hit]
          omega
      · rw [hb] at hbg
        have hx : foldR (Utf8.decode s pos).1 = (Utf8.decode s pos).1 + 32 := by unfold foldR; rw [if_pos hb]
        have hcast : (((Utf8.decode s pos).1 + 32 : Nat) : Int) = ((Utf8.decode s pos).1 : Int) + 32 := by omega
        have hE2 := hE _ hx
        have hL2 := hL ((Utf8.decode s pos).1 + 32)
        rw [hcast] at hE2 hL2
        go_wp2_with fail
        refine hbg.mono ?_
        rintro e w' ⟨rfl, rfl⟩
        go_wp2_with fail
        refine (writeRune_any w.heap.size w.heap.size _ (((Utf8.decode s pos).1 : Int) + 32) (by omega) (by omega) _ hI2 (by rw [Lib.byteCells_length]; omega) hsz2).mono ?_
        rintro e W1 ⟨rfl, h1, b1, k1⟩
        go_wp2
        go_roundw
        case rel =>
          refine ⟨pos + (Utf8.decode s pos).2, f, acc ++ Lib.encodeRune (((Utf8.decode s pos).1 : Int) + 32), ?_, k1.iter hit2 (by omega), hbw2.trans b1, hE2, by omega, hL2, hin⟩
          rw [Lib.byteCells_append, Lib.byteCells_encodeRune]; exact Or.inr h1
        case measure =>
          simp only [World.iterPos, k1.iter hit2 (by omega), hit]
          omega
    · have hnx : ∀ ty, (Instr.next (.pointer (some ⟨w.heap.size + 1, 0, none⟩)) true ty).run Tryd.prog wr = _ := fun ty => Lib.run_next_end_at wr (w.heap.size + 1) s pos ty hit hp
      rw [runs_end s fuel pos hp, show foldL [] = [] from rfl, List.append_nil] at hacc
      have hfs : (⟨acc.toArray⟩ : ByteArray) = foldS s := by rw [hacc]; rfl
      have hfl : (foldS s).size ≤ 1000000 * 4 := by rw [← hfs]; show acc.toArray.size ≤ _; rw [List.size_toArray]; omega
      go_wp2_with fail
      refine (Tryd.Builder_String_any_k w.heap.size w.heap.size acc _ hI (by omega)).mono ?_
      rintro e W1 ⟨rfl, h1, b1, k1⟩
      rw [hfs]
      have hs1 := b1.size
      go_wp2_with fail
      refine (Tryd.Builder_String_any_k w.heap.size w.heap.size acc _ h1 (by omega)).mono ?_
      rintro e W2 ⟨rfl, h2, b2, k2⟩
      rw [hfs]
      go_wp2_with fail
      refine (right_any (foldS s) (by omega) W2).mono ?_
      rintro e W3 ⟨rfl, b3⟩
      go_wp2
      go_ret2
      have hs2 := b2.size
      exact ⟨rfl, (hbw.trans (b1.trans b2)).trans (b3.mono (by omega))⟩

theorem words_any (s : ByteArray) (hs : s.size ≤ 1000000) (m : Int) (w : World) (hm : w.cell? ⟨0, 0, none⟩ = some (.int .i64 m)) : Calls Tryd.prog 8 #[.string s] w fun e w' =>
    e = .returned (.slice (some ⟨w.heap.size, 0, none⟩) (Lib.countB s ⟨#[32]⟩ + 1 : Nat) (Lib.countB s ⟨#[32]⟩ + 1 : Nat)) ∧ w' = w.alloc (.cells ((wordsS s).map Value.string).toArray 9) := by
  have hc := Tryd.strings_Split s ⟨#[32]⟩ m w (by omega) hm (by decide)
  go_enter Tryd.func8, Tryd.ntmps8
  go_wp2_with (go_at_call 20; refine hc.mono ?_; rintro e w' ⟨rfl, hw⟩; rw [hw])
  go_ret
  exact ⟨rfl, rfl⟩
end Go.Proofs.YtlkokljlghlldaaDoor.Nam
