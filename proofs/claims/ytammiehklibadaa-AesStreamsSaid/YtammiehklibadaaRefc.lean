/-
  THE CONTRACT of the document's Boxes.
-/
import Derived.Test.YtammiehklibadaaRefb
namespace Go.Proofs.Ytammiehklibadaa.Aes
open Go.RowKit
open Go.Proofs.Ytammiehklibadaa.Kit
set_option linter.unusedVariables false

theorem sb_at (x : UInt8) : sb x = sbN x.toNat := rfl
attribute [local irreducible] sbN boxS sb
theorem info5c : (Try.prog.info? 5).map (fun i => (i.zero, i.size, i.bytes)) = some (some (.int .u8 0), 1, 1) := by kernel_rfl
theorem row_snoc (f : Nat → UInt8) (k : Nat) : row f (k + 1) = row f k ++ [f k] := by
  rw [row, row, List.range_succ, List.map_append]; rfl
theorem below_own {w wr w' : World} {o : Obj} {base k c : Nat} {A : Option Addr} {e : TypeId} {xs : List Value} (hb : Below w.heap.size w wr) (ho : wr.ownsRow base e 1 (.slice A k c) k xs) (hB : w.heap.size ≤ base) (hg : (wr.alloc o).grownBy w' (Value.slice A k c).ownBlock) : Below w.heap.size w w' :=
  (below_alloc hb o).grown hg (by have := hb.size; simp; omega) (fun j hj => by have := (ho.lt j hj).1; omega)

set_option maxRecDepth 100000 in
set_option maxHeartbeats 1000000 in
theorem boxes_own (w : World) : Calls Try.prog 10 #[] w fun e w' => ∃ A c, e = .returned (.slice A 256 c) ∧ w'.ownsRow w.heap.size 5 1 (.slice A 256 c) 256 ((row sbN 256).map bv) ∧ Below w.heap.size w w' := by
  obtain ⟨i0, hi, hz0, hz1, hz2⟩ := info_parts info5c
  go_enter Try.func10, Try.ntmps10
  go_wp2_with fail
  go_loopw [1, 2] (fun s i wr => ∃ (k : Nat) (A : Option Addr) (c : Nat), k ≤ 256 ∧ i = .int .i64 (k : Int) ∧ s = .slice A k c ∧ wr.ownsRow w.heap.size 5 1 (.slice A k c) k ((row sbN k).map bv) ∧ Below w.heap.size w wr) (fun _ i _ => 256 - (intOf i).toNat)
  case atStart => exact ⟨0, _, _, by omega, rfl, rfl, own_new w (Nat.le_refl _) rfl (by omega), below_of_new w _⟩
  case round =>
    obtain ⟨k, A, c, hk, rfl, rfl, hown, hbw⟩ := hrel
    by_cases hlt : k < 256
    · obtain ⟨x, hx⟩ : ∃ x, x = UInt8.ofNat k := ⟨_, rfl⟩
      obtain ⟨y, hy⟩ : ∃ y, y = sbN k := ⟨_, rfl⟩
      have e1 := byte_nm hx
      have hxk : x.toNat = k := by rw [hx, UInt8.toNat_ofNat']; omega
      have hbx : ∀ W, Calls Try.prog 21 #[.int .u8 (x.toNat : Int)] W fun e w' => e = .returned (.int .u8 (y.toNat : Int)) ∧ W = w' := fun W => by
        have e : boxS x = y := (box_eq x).trans ((sb_at x).trans (by rw [hxk, hy]))
        have := box_any x W
        rw [e] at this
        exact this
      have hrow : (row sbN k).map bv ++ [bv y] = (row sbN (k + 1)).map bv := by rw [row_snoc, List.map_append, hy]; rfl
      have HBX := Lib.hid hbx
      have HROW := Lib.hid hrow
      have HOWN := Lib.hid hown
      have HBW := Lib.hid hbw
      clear hx hy hxk hbx hrow hown hbw
      go_wp2_with fail
      refine (HBX.out _).mono ?_
      rintro e w2 ⟨rfl, rfl⟩
      go_wp2_with (at_builtin; refine wpList_app _ rfl (.tmp 8) (.tmp 12) 28 rfl w.heap.size 5 i0 _ 1 Try.underlying28 hi hz0 hz1 hz2 rfl _ k _ rfl (HOWN.out.alloc _) _ (some ⟨wr.heap.size, 0, none⟩) 1 1 [bv y] rfl (rd_lit' wr (n := 1) (bs := [y]) rfl rfl rfl (by omega)) (bv_one [y]) (by omega) (by omega) (by have := HBW.out.size; simp; omega) ?_; intro A2 c2 w3 hown3 hg3 hat3)
      have hown3' := hown3
      rw [HROW.out] at hown3'
      have hb3 := below_own HBW.out HOWN.out (Nat.le_refl _) hg3
      clear hown3 hg3 hat3
      go_wp2_with fail
      exact ⟨⟨k + 1, A2, c2, by omega, by go_num, rfl, hown3', hb3⟩, by simp [intOf]; omega⟩
    · obtain rfl : k = 256 := by omega
      go_wp2_with fail
      go_ret
      exact ⟨A, c, rfl, hown, hbw⟩
end Go.Proofs.Ytammiehklibadaa.Aes
