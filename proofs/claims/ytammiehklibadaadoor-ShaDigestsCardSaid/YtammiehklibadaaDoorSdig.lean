/-
  The walk of ShaDigests: of all bytes the digest is as the document says.
-/
import Derived.Test.YtammiehklibadaaDoorShal
import Derived.Test.YtammiehklibadaaDoorShar
import Derived.Test.YtammiehklibadaaDoorShrg
import Derived.Test.YtammiehklibadaaDoorShrh
import Derived.Test.YtammiehklibadaaDoorFin
import Derived.Test.YtammiehklibadaaDoorKit3
namespace Go.Proofs.YtammiehklibadaaDoor.Sdig
open Go.RowKit
open Go.Proofs.YtammiehklibadaaDoor.Kit
open Go.Proofs.YtammiehklibadaaDoor.Oct
open Go.Proofs.YtammiehklibadaaDoor.Sha
set_option linter.unusedVariables false

set_option maxRecDepth 100000 in
set_option maxHeartbeats 1000000 in
theorem walk (A : Option Addr) (n c : Nat) (bs : List UInt8) (w : World) (hx : RdB w w.heap.size A n c bs) (hR : Roots w) :
    Calls Tryd.prog 3 #[.slice A n c] w fun e w' => e = .returned (.bool true) ∧ Below w.heap.size w w' := by
  have hrx := hx.room
  have hlen := hx.len
  have HX := Lib.hid hx
  have HR := Lib.hid hR
  clear hx hR
  by_cases h400 : 400 < n
  · have t1 : decide ((400 : Int) < n) = true := by simp; omega
    go_enter Tryd.func3, Tryd.ntmps3
    go_wp2_with fail
    refine (alive3_any w HR.out).mono ?_
    rintro e w1 ⟨rfl, hb1⟩
    go_wp2
    go_ret
    exact ⟨rfl, hb1⟩
  · have t1 : decide ((400 : Int) < n) = false := by simp; omega
    go_enter Tryd.func3, Tryd.ntmps3
    go_wp2_with fail
    refine (alive3_any w HR.out).mono ?_
    rintro e w1 ⟨rfl, hb1⟩
    have HX1 := Lib.hid (HX.out.on hb1)
    have HR1 := Lib.hid (HR.out.on hb1)
    have HB1 := Lib.hid hb1
    clear hb1
    go_wp2_with fail
    refine (of_any _ 1 1 [⟨A, n, c, bs⟩] _ (rd_cells (n := 1) w1 rfl rfl rfl (by omega)) ?h1 (HR1.out.lit _) (by simp [joinL]; omega)).mono ?_
    case h1 =>
      intro r hr
      obtain rfl := List.mem_singleton.1 hr
      exact HX1.out.lit _
    rintro e w2 ⟨A2, c2, rfl, hn2⟩
    rw [show joinL [⟨A, n, c, bs⟩] = bs from by simp [joinL]] at hn2
    have hb2 := below_seq HB1.out (below_seq (below_of_new w1 _) hn2.bl)
    obtain ⟨D, hD⟩ : ∃ D, D = dig bs := ⟨_, rfl⟩
    rw [← hD] at hn2
    have HN2 := Lib.hid hn2.rd
    have HB2 := Lib.hid hb2
    have HD := Lib.hid hD
    clear hn2 hb2 hD
    go_wp2_with fail
    refine (ks_own w2).mono ?_
    rintro e w3 ⟨A3, c3, rfl, ho3, hb3⟩
    have HO3 := Lib.hid (Rd.of_own ho3)
    have HN3 := Lib.hid (HN2.out.on hb3)
    have HB3 := Lib.hid (below_seq HB2.out hb3)
    clear ho3 hb3
    go_wp2_with fail
    refine (refdigest_own A3 A c3 n c bs w3 HO3.out (HX.out.on HB3.out) (by omega)).mono ?_
    rintro e w4 ⟨A4, c4, rfl, ho4, hb4⟩
    rw [← HD.out] at ho4
    have hn4 := HN3.out.on hb4
    have HB4 := Lib.hid (below_seq HB3.out hb4)
    have ho4' : RdB w4 w4.heap.size A4 32 c4 D := Rd.of_own ho4
    clear hb4 ho4
    go_wp2_with fail
    refine (rsame_new _ _ _ _ _ _ D D _ hn4 ho4').mono ?_
    rintro e w5 ⟨rfl, hb5⟩
    rw [show decide (D = D) = true from by simp]
    go_wp2
    go_ret
    exact ⟨rfl, below_seq HB4.out hb5⟩
end Go.Proofs.YtammiehklibadaaDoor.Sdig
