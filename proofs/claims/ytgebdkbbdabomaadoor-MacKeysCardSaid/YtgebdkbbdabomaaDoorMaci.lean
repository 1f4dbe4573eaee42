/-
  THE ALIVE of layer 4; keys held against one another.
-/
import Derived.Test.YtgebdkbbdabomaaDoorMach
import Derived.Test.YtgebdkbbdabomaaDoorShax
import Derived.Stop.BytesEq
namespace Go.Proofs.YtgebdkbbdabomaaDoor.Mac
open Go.RowKit
open Go.Proofs.YtgebdkbbdabomaaDoor.Kit
open Go.Proofs.YtgebdkbbdabomaaDoor.Oct
open Go.Proofs.YtgebdkbbdabomaaDoor.Sha
set_option linter.unusedVariables false

theorem eq_key (xs ys : List UInt8) (hx : xs.length = 16) (hy : ys.length = 16) (w : World) : (Op.equalIn 10000 30 (.agg (xs.map bv).toArray) (.agg (ys.map bv).toArray)).run Tryd.prog w = .ok (xs == ys) w :=
  run_equalIn_bytes w 9998 30 5 16 Tryd.underlying30 Tryd.underlying5 (fun w => by kernel_rfl) xs ys hx hy

theorem macF (k b : List UInt8) : macS k b = digF (keyK k 92 ++ digF (keyK k 54 ++ b)) := by rw [macS, dig_eq, dig_eq]
def foxK : List UInt8 := [107, 101, 121]
def fox1 : List UInt8 := [84, 104, 101, 32, 113, 117, 105, 99, 107, 32, 98, 114, 111, 119, 110, 32, 102, 111, 120, 32]
def fox2 : List UInt8 := [106, 117, 109, 112, 115, 32, 111, 118, 101, 114, 32, 116, 104, 101, 32, 108, 97, 122, 121, 32, 100, 111, 103]
set_option maxRecDepth 100000 in
theorem mac_fox : (macS foxK (fox1 ++ fox2)).take 4 = [0xf7, 0xbc, 0x83, 0xf4] := by rw [macF]; decide +kernel
def k1 : List UInt8 := [1, 0, 0, 0, 0, 0, 0, 0, 0, 0, 0, 0, 0, 0, 0, 0]
set_option maxRecDepth 100000 in
theorem der_ab : (derS k1 [97] == derS k1 [98]) = false := by rw [derS, derS, macF, macF]; decide +kernel
def sA : ByteArray := ⟨#[97]⟩
def sB : ByteArray := ⟨#[98]⟩
theorem der_a (w : World) (hR : Roots w) : Calls Tryd.prog 13 #[.agg #[.int .u8 1, .int .u8 0, .int .u8 0, .int .u8 0, .int .u8 0, .int .u8 0, .int .u8 0, .int .u8 0, .int .u8 0, .int .u8 0, .int .u8 0, .int .u8 0, .int .u8 0, .int .u8 0, .int .u8 0, .int .u8 0], .string ⟨#[97]⟩] w fun e w' =>
    e = .returned (.agg ((derS k1 [97]).map bv).toArray) ∧ Below w.heap.size w w' := derive_any k1 rfl sA (by decide) w hR
theorem der_b (w : World) (hR : Roots w) : Calls Tryd.prog 13 #[.agg #[.int .u8 1, .int .u8 0, .int .u8 0, .int .u8 0, .int .u8 0, .int .u8 0, .int .u8 0, .int .u8 0, .int .u8 0, .int .u8 0, .int .u8 0, .int .u8 0, .int .u8 0, .int .u8 0, .int .u8 0, .int .u8 0], .string ⟨#[98]⟩] w fun e w' =>
    e = .returned (.agg ((derS k1 [98]).map bv).toArray) ∧ Below w.heap.size w w' := derive_any k1 rfl sB (by decide) w hR
theorem text_ab (w : World) (hR : Roots w) : Calls Tryd.prog 14 #[.string ⟨#[97]⟩, .string ⟨#[98]⟩] w fun e w' =>
    e = .returned (.agg ((textS [97] [98]).map bv).toArray) ∧ Below w.heap.size w w' := text_any sA sB (by decide) (by decide) w hR

set_option maxRecDepth 100000 in
set_option maxHeartbeats 2000000 in
theorem alive4_any (w : World) (hR : Roots w) : Calls Tryd.prog 8 #[] w fun e w' => e = .returned (.bool true) ∧ Below w.heap.size w w' := by
  have hda := der_a
  have hdb := der_b
  have htx := text_ab
  obtain ⟨DA, hDA⟩ : ∃ q, q = ((derS k1 [97]).map bv).toArray := ⟨_, rfl⟩
  obtain ⟨DB, hDB⟩ : ∃ q, q = ((derS k1 [98]).map bv).toArray := ⟨_, rfl⟩
  obtain ⟨TX, hTX⟩ : ∃ q, q = ((textS [97] [98]).map bv).toArray := ⟨_, rfl⟩
  have e1 : ∀ w, (Op.equalIn 10000 30 (.agg DA) (.agg DB)).run Tryd.prog w = .ok false w := fun w => by
    rw [hDA, hDB, eq_key _ _ (derS_len _ _) (derS_len _ _), der_ab]
  have e2 : ∀ w, (Op.equalIn 10000 30 (.agg TX) (.agg TX)).run Tryd.prog w = .ok true w := fun w => by
    rw [hTX, eq_key _ _ (textS_len _ _) (textS_len _ _)]; simp
  rw [← hDA] at hda
  rw [← hDB] at hdb
  rw [← hTX] at htx
  have HDA := Lib.hid hda
  have HDB := Lib.hid hdb
  have HTX := Lib.hid htx
  have HR := Lib.hid hR
  clear hR hda hdb htx hDA hDB hTX
  have kc := conv_const
  go_enter Tryd.func8, Tryd.ntmps8
  go_wp2_with fail
  refine (sum_any _ 3 3 foxK _ 2 2 [⟨some ⟨w.heap.size + 1, 0, none⟩, 20, 20, fox1⟩, ⟨some ⟨w.heap.size + 1 + 1, 0, none⟩, 23, 23, fox2⟩] _ ?h1 (by omega) (rd_cells (n := 2) _ (by simp) rfl rfl (by omega)) ?h2 ((((HR.out.lit _).lit _).lit _).lit _) (by simp [joinL, fox1, fox2])).mono ?_
  case h1 => exact (((rd_const w (n := 3) rfl rfl rfl (by omega)).lit _).lit _).lit _
  case h2 =>
    intro r hr
    simp only [List.mem_cons, List.not_mem_nil, or_false] at hr
    rcases hr with rfl | rfl
    · exact ((rd_const _ (n := 20) (by simp) rfl rfl (by omega)).lit _).lit _
    · exact (rd_const _ (n := 23) (by simp) rfl rfl (by omega)).lit _
  rintro e w1 ⟨A1, c1, rfl, hn1⟩
  have hj : joinL [⟨some ⟨w.heap.size + 1, 0, none⟩, 20, 20, fox1⟩, ⟨some ⟨w.heap.size + 1 + 1, 0, none⟩, 23, 23, fox2⟩] = fox1 ++ fox2 := by simp [joinL]
  rw [hj] at hn1
  have hb1 := below_seq ((((below_of_new w _).alloc (by simp) _).alloc (by simp; omega) _).alloc (by simp; omega) _) hn1.bl
  have hrd1 := hn1.rd
  obtain ⟨b1, o1, rfl⟩ := hrd1.addr (by omega)
  have hrm1 := hrd1.room
  have hfr : RdB w1 w1.heap.size (some ⟨b1, o1, none⟩) 4 c1 ((macS foxK (fox1 ++ fox2)).take 4) := by
    have := Rd.front (k := 4) hrd1 (by omega)
    rw [← List.map_take] at this
    exact this
  rw [mac_fox] at hfr
  have HFR := Lib.hid hfr
  have HB1 := Lib.hid hb1
  clear hfr hb1 hrd1 hn1 hj
  go_wp2_with fail
  refine (rsame_new _ _ _ _ _ _ [0xf7, 0xbc, 0x83, 0xf4] [0xf7, 0xbc, 0x83, 0xf4] _ (HFR.out.lit _) (rd_lit' w1 (n := 4) rfl rfl rfl (by omega))).mono ?_
  rintro e w2 ⟨rfl, hb2⟩
  rw [show decide (([0xf7, 0xbc, 0x83, 0xf4] : List UInt8) = [0xf7, 0xbc, 0x83, 0xf4]) = true from rfl]
  have HB2 := Lib.hid (below_seq HB1.out (below_seq (below_of_new w1 _) hb2))
  clear hb2
  go_wp2_with fail
  refine (HDA.out _ (HR.out.on HB2.out)).mono ?_
  rintro e w3 ⟨rfl, hb3⟩
  have HB3 := Lib.hid (below_seq HB2.out hb3)
  clear hb3
  go_wp2_with fail
  refine (HDB.out _ (HR.out.on HB3.out)).mono ?_
  rintro e w4 ⟨rfl, hb4⟩
  have HB4 := Lib.hid (below_seq HB3.out hb4)
  clear hb4
  go_wp2_with fail
  refine (HTX.out _ (HR.out.on HB4.out)).mono ?_
  rintro e w5 ⟨rfl, hb5⟩
  have HB5 := Lib.hid (below_seq HB4.out hb5)
  clear hb5
  go_wp2_with fail
  refine (HTX.out _ (HR.out.on HB5.out)).mono ?_
  rintro e w6 ⟨rfl, hb6⟩
  have HB6 := Lib.hid (below_seq HB5.out hb6)
  clear hb6
  go_wp2
  go_ret
  exact ⟨rfl, HB6.out⟩
end Go.Proofs.YtgebdkbbdabomaaDoor.Mac
