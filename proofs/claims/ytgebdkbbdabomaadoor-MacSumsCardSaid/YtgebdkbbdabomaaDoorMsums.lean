/-
  The walk of MacSums: of all keys and bytes the sum is as the document says.
-/
import Derived.Test.YtgebdkbbdabomaaDoorMaci
import Derived.Test.YtgebdkbbdabomaaDoorMacq
import Derived.Test.YtgebdkbbdabomaaDoorShrh
import Derived.Test.YtgebdkbbdabomaaDoorShar
import Derived.Test.YtgebdkbbdabomaaDoorFin
namespace Go.Proofs.YtgebdkbbdabomaaDoor.Msums
open Go.RowKit
open Go.Proofs.YtgebdkbbdabomaaDoor.Kit
open Go.Proofs.YtgebdkbbdabomaaDoor.Oct
open Go.Proofs.YtgebdkbbdabomaaDoor.Mac
open Go.Proofs.YtgebdkbbdabomaaDoor.Sha
set_option linter.unusedVariables false

set_option maxRecDepth 100000 in
set_option maxHeartbeats 2000000 in
theorem walk (A : Option Addr) (n c : Nat) (ks : List UInt8) (A' : Option Addr) (n' c' : Nat) (bs : List UInt8) (w : World) (hx : RdB w w.heap.size A n c ks) (hy : RdB w w.heap.size A' n' c' bs) (hR : Roots w) :
    Calls Tryd.prog 3 #[.slice A n c, .slice A' n' c'] w fun e w' => e = .returned (.bool true) ∧ Below w.heap.size w w' := by
  have hrx := hx.room
  have hry := hy.room
  have hly := hy.len
  have HX := Lib.hid hx
  have HY := Lib.hid hy
  have HR := Lib.hid hR
  clear hx hy hR
  by_cases hbig : 200 < n ∨ 200 < n'
  · have t1 : (decide ((200 : Int) < n) || decide ((200 : Int) < n')) = true := by
      rw [Bool.or_eq_true, decide_eq_true_iff, decide_eq_true_iff]; omega
    go_enter Tryd.func3, Tryd.ntmps3
    go_wp2_with fail
    refine (alive4_any w HR.out).mono ?_
    rintro e w1 ⟨rfl, hb1⟩
    by_cases h1 : 200 < n
    · have t2 : decide ((200 : Int) < n) = true := by simp; omega
      go_wp2
      go_ret
      exact ⟨rfl, hb1⟩
    · have t2 : decide ((200 : Int) < n) = false := by simp; omega
      have t3 : decide ((200 : Int) < n') = true := by simp; omega
      go_wp2
      go_ret
      exact ⟨rfl, hb1⟩
  · have t2 : decide ((200 : Int) < n) = false := by simp; omega
    have t3 : decide ((200 : Int) < n') = false := by simp; omega
    go_enter Tryd.func3, Tryd.ntmps3
    go_wp2_with fail
    refine (alive4_any w HR.out).mono ?_
    rintro e w1 ⟨rfl, hb1⟩
    have HX1 := Lib.hid (HX.out.on hb1)
    have HY1 := Lib.hid (HY.out.on hb1)
    have HR1 := Lib.hid (HR.out.on hb1)
    have HB1 := Lib.hid hb1
    clear hb1
    go_wp2_with fail
    refine (sum_any A n c ks _ 1 1 [⟨A', n', c', bs⟩] _ (HX1.out.lit _) (by omega) (rd_cells (n := 1) w1 rfl rfl rfl (by omega)) ?h1 (HR1.out.lit _) (by simp [joinL]; omega)).mono ?_
    case h1 =>
      intro r hr
      obtain rfl := List.mem_singleton.1 hr
      exact HY1.out.lit _
    rintro e w2 ⟨A2, c2, rfl, hn2⟩
    rw [show joinL [⟨A', n', c', bs⟩] = bs from by simp [joinL]] at hn2
    have hb2 := below_seq HB1.out (below_seq (below_of_new w1 _) hn2.bl)
    obtain ⟨D, hD⟩ : ∃ D, D = macS ks bs := ⟨_, rfl⟩
    rw [← hD] at hn2
    have HN2 := Lib.hid hn2.rd
    have HB2 := Lib.hid hb2
    have HD := Lib.hid hD
    clear hn2 hb2 hD
    go_wp2_with fail
    refine (ks_own w2).mono ?_
    rintro e w3 ⟨A3, c3, rfl, ho3, hb3⟩
    have HO3 := Lib.hid (Rd.of_own ho3)
    have HN3 := Lib.hid (HN2.out.on hb3)
    have HB3 := Lib.hid (below_seq HB2.out hb3)
    clear ho3 hb3
    go_wp2_with fail
    refine (refsum_own A3 A A' c3 n c n' c' ks bs w3 HO3.out (HX.out.on HB3.out) (HY.out.on HB3.out) (by omega) (by omega)).mono ?_
    rintro e w4 ⟨A4, c4, rfl, ho4, hb4⟩
    rw [← HD.out] at ho4
    have hn4 := HN3.out.on hb4
    have HB4 := Lib.hid (below_seq HB3.out hb4)
    have ho4' : RdB w4 w4.heap.size A4 32 c4 D := Rd.of_own ho4
    clear hb4 ho4
    go_wp2_with fail
    refine (rsame_new _ _ _ _ _ _ D D _ hn4 ho4').mono ?_
    rintro e w5 ⟨rfl, hb5⟩
    rw [show decide (D = D) = true from by simp]
    go_wp2
    go_ret
    exact ⟨rfl, below_seq HB4.out hb5⟩
end Go.Proofs.YtgebdkbbdabomaaDoor.Msums
