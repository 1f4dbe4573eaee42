/-
  THE CONTRACT of alive of layer 3.
-/
import Derived.Test.YtammiehklibadaaDoorShaz
import Derived.Lib.SlBytesConst
namespace Go.Proofs.YtammiehklibadaaDoor.Sha
open Go.RowKit
open Go.Proofs.YtammiehklibadaaDoor.Kit
open Go.Proofs.YtammiehklibadaaDoor.Oct
set_option linter.unusedVariables false

theorem SumAt.on {w w' : World} {g : Nat} {x : List UInt8} (h : SumAt w g x) (hb : Below w.heap.size w w') : SumAt w' g x := h.below h.lt hb
theorem SumAt.lit {w : World} {g : Nat} {x : List UInt8} (h : SumAt w g x) (o : Obj) : SumAt (w.alloc o) g x := h.on (below_of_new w o)
theorem rds_lit (w : World) {g G n : Nat} {e : TypeId} {arr : Array Value} {bs : List UInt8} {fr : Nat × Nat} (hg : g = w.heap.size) (hG : G < w.heap.size) (ha : arr.toList = bs.map bv) (hn : bs.length = n) (hm : n ≤ 9223372036854775807) :
    RdS (w.alloc (.cells arr e fr)) (fun b => b < (w.alloc (.cells arr e fr)).heap.size ∧ b ≠ G) (some ⟨g, 0, none⟩) n n (bs.map bv) := by
  subst hg
  refine ⟨by rw [List.length_map, hn], Nat.le_refl _, hm, fun _ => ⟨w.heap.size, 0, rfl, ⟨by simp, by omega⟩, fun j u hu => ?_⟩⟩
  rw [Nat.zero_add, cell_of_row _ _ j _ _ fr (heap_alloc_new w _), ← hu, ← ha]
  simp
/-- bytes of a constant read as they stand -/
theorem rd_const (w : World) {g n : Nat} {e : TypeId} {arr : Array Value} {bs : List UInt8} {fr : Nat × Nat} (hg : g = w.heap.size) (ha : arr.toList = bs.map bv) (hn : bs.length = n) (hm : n ≤ 9223372036854775807) :
    RdB (w.alloc (.cells arr e fr)) (w.alloc (.cells arr e fr)).heap.size (some ⟨g, 0, none⟩) n n bs := by
  subst hg
  refine ⟨by rw [List.length_map, hn], Nat.le_refl _, hm, fun _ => ⟨w.heap.size, 0, rfl, by simp, fun j u hu => ?_⟩⟩
  rw [Nat.zero_add, cell_of_row _ _ j _ _ fr (heap_alloc_new w _), ← hu, ← ha]
  simp
theorem conv_const (w : World) (C : Array Value) (g n c : Nat) (hg : g = w.heap.size) :
    (convert 22 22 (.slice (some ⟨g, 0, none⟩) n c)).run Tryd.prog (w.alloc (.cells C 5)) = .ok (.slice (some ⟨g, 0, none⟩) n c) (w.alloc (.cells C 5 (C.size, C.size + 1))) := by
  subst hg
  exact Lib.run_convert_bytes_const w 22 5 C n c Tryd.underlying22 Tryd.underlying5
theorem gb_lift {w a b : World} {G : Nat} (h : Below w.heap.size w a) (hg : a.grownBy b (some G)) (hG : w.heap.size ≤ G) : Below w.heap.size w b := h.trans (below_of_gb hg hG h.size)

set_option maxRecDepth 100000 in
set_option maxHeartbeats 1000000 in
theorem alive3_any (w : World) (hR : Roots w) : Calls Tryd.prog 9 #[] w fun e w' => e = .returned (.bool true) ∧ Below w.heap.size w w' := by
  have HR := Lib.hid hR
  have hne : w.heap.size ≠ 0 := by have := hR.lt; omega
  clear hR
  have kc := conv_const
  go_enter Tryd.func9, Tryd.ntmps9
  go_wp2_with fail
  refine (new_any _).mono ?_
  rintro e w1 ⟨rfl, hs1, hb1, hlt1⟩
  have HS1 := Lib.hid hs1
  clear hs1
  go_wp2_with fail
  refine (write_any w.heap.size 1 1 _ [] [97] _ (HS1.out.lit _) (rds_lit w1 (arr := #[.int .u8 97]) rfl hlt1 rfl rfl (by omega)) ((HR.out.on hb1).lit _) hne (by simp)).mono ?_
  rintro e w2 ⟨rfl, hs2, hg2⟩
  have hb2 := gb_lift (below_alloc hb1 _) hg2 (Nat.le_refl _)
  have hlt2 := hs2.lt
  have HS2 := Lib.hid hs2
  clear hs2 hg2 hb1 HS1
  go_wp2_with fail
  refine (write_any w.heap.size 2 2 _ ([] ++ [97]) [98, 99] _ (HS2.out.lit _) (rds_lit w2 (arr := #[.int .u8 98, .int .u8 99]) rfl hlt2 rfl rfl (by omega)) ((HR.out.on hb2).lit _) hne (by simp)).mono ?_
  rintro e w3 ⟨rfl, hs3, hg3⟩
  have hb3 := gb_lift (below_alloc hb2 _) hg3 (Nat.le_refl _)
  have hs3' : SumAt w3 w.heap.size [97, 98, 99] := hs3
  have HS3 := Lib.hid hs3'
  clear hs3 hs3' hg3 hb2 HS2
  go_wp2_with fail
  refine (digest_any w.heap.size [97, 98, 99] _ HS3.out (HR.out.on hb3) (by simp)).mono ?_
  rintro e w4 ⟨A4, c4, rfl, hn4⟩
  have hb4 := below_seq hb3 hn4.bl
  have hrd4 := hn4.rd
  obtain ⟨b4, o4, rfl⟩ := hrd4.addr (by omega)
  have hrm4 := hrd4.room
  obtain ⟨D, hD⟩ : ∃ D, D = dig [97, 98, 99] := ⟨_, rfl⟩
  rw [← hD] at hrd4
  have hfr : RdB w4 w4.heap.size (some ⟨b4, o4, none⟩) 4 c4 (D.take 4) := by
    have := Rd.front (k := 4) hrd4 (by omega)
    rw [← List.map_take] at this
    exact this
  have h4 : D.take 4 = [186, 120, 22, 191] := by rw [hD]; exact dig_abc
  rw [h4] at hfr
  have HFR := Lib.hid hfr
  have HRD4 := Lib.hid hrd4
  have HD := Lib.hid hD
  clear hfr h4 hD hrd4 hn4 hb3
  go_wp2_with fail
  refine (rsame_new _ _ _ _ _ _ [186, 120, 22, 191] [186, 120, 22, 191] _ (HFR.out.lit _) (rd_lit' w4 (n := 4) rfl rfl rfl (by omega))).mono ?_
  rintro e w5 ⟨rfl, hb5⟩
  rw [show decide (([186, 120, 22, 191] : List UInt8) = [186, 120, 22, 191]) = true from rfl]
  have hb45 := below_seq (below_of_new w4 _) hb5
  have hB5 := below_seq hb4 hb45
  clear hb5
  go_wp2_with fail
  refine (of_any _ 2 2 [⟨some ⟨w5.heap.size, 0, none⟩, 2, 2, [97, 98]⟩, ⟨some ⟨w5.heap.size + 1, 0, none⟩, 1, 1, [99]⟩] _ (rd_cells (n := 2) _ (by simp) rfl rfl (by omega)) ?h1 ((((HR.out.on hB5).lit _).lit _).lit _) (by simp [joinL])).mono ?_
  case h1 =>
    intro r hr
    simp only [List.mem_cons, List.not_mem_nil, or_false] at hr
    rcases hr with rfl | rfl
    · exact ((rd_const w5 (n := 2) rfl rfl rfl (by omega)).lit _).lit _
    · exact (rd_const _ (n := 1) (by simp) rfl rfl (by omega)).lit _
  rintro e w6 ⟨A6, c6, rfl, hn6⟩
  have hj : joinL [⟨some ⟨w5.heap.size, 0, none⟩, 2, 2, [97, 98]⟩, ⟨some ⟨w5.heap.size + 1, 0, none⟩, 1, 1, [99]⟩] = [97, 98, 99] := rfl
  rw [hj, ← HD.out] at hn6
  have hb56 := below_seq (((below_of_new w5 _).alloc (by simp) _).alloc (by simp; omega) _) hn6.bl
  have HN6 := Lib.hid hn6.rd
  have HD6 := Lib.hid (HRD4.out.on (below_seq hb45 hb56))
  have hB6 := below_seq hB5 hb56
  clear hn6 hj hb45 hb56
  go_wp2_with fail
  refine (rsame_new _ _ _ _ _ _ D D _ HD6.out HN6.out).mono ?_
  rintro e w7 ⟨rfl, hb7⟩
  rw [show decide (D = D) = true from by simp]
  go_wp2
  go_ret
  exact ⟨rfl, below_seq hB6 hb7⟩
end Go.Proofs.YtammiehklibadaaDoor.Sha
