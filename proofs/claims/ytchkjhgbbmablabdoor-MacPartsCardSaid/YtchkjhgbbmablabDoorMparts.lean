/-
  MacParts holds: rows of bytes have the sum of all, one behind the other; what is handed in isn't turned. No condition.
-/
import Derived.Test.YtchkjhgbbmablabDoorCards
import Derived.Test.YtchkjhgbbmablabDoorTie
import Derived.Test.YtchkjhgbbmablabDoorMaci
import Derived.Test.YtchkjhgbbmablabDoorShar
import Derived.Test.YtchkjhgbbmablabDoorFin
import Derived.SevenTiedAt
import Derived.Stop.Joined
namespace Go.Proofs.YtchkjhgbbmablabDoor.Mparts
open Go.ChangeShapes Go.WideShapes Go.ChangeAt Go.RowKit
open Go.Proofs.YtchkjhgbbmablabDoor.Kit
open Go.Proofs.YtchkjhgbbmablabDoor.Oct
open Go.Proofs.YtchkjhgbbmablabDoor.Sha
open Go.Proofs.YtchkjhgbbmablabDoor.Mac
set_option linter.unusedVariables false

/-- a row of slices that was laid in a world -/
theorem rd_row {w : World} {g n : Nat} {arr : Array Value} {e : TypeId} {fr : Nat × Nat} (h : w.heap[g]? = some (.cells arr e fr)) (hn : arr.size = n) (hm : n ≤ 9223372036854775807) : Rd w w.heap.size (some ⟨g, 0, none⟩) n n arr.toList := by
  refine ⟨by rw [Array.length_toList, hn], Nat.le_refl _, hm, fun _ => ⟨g, 0, rfl, block_lt_of_heap h, fun j u hu => ?_⟩⟩
  rw [cell_of_row w g (0 + j) _ e fr h, Nat.zero_add]
  simpa using hu
theorem below_drew (w : World) : Below w.heap.size w w.drew := below_of_drew ⟨1, rfl⟩ _
theorem run_front {P : Program} {t : TypeId} (ht : P.underlying t = some (.slice (P.elem t))) (hs : ∀ w, (sizeOf (P.elem t)).run P w = .ok 1 w) (A : Option Addr) (n c k : Nat) (hkc : k ≤ c) (w : World) : (Instr.slice t (.slice A n c) none (some (.int .i64 (k : Int))) none).run P w = .ok (.slice A k c) w := by
  rw [run_slice_h w t A n c ht .i64 (k : Int) (by omega) (by omega), hs]
  have e : A.map (·.add 0) = A := by cases A <;> simp [Addr.add]
  simp [sliced, e]

set_option maxRecDepth 100000 in
set_option maxHeartbeats 4000000 in
theorem walk (A : Option Addr) (n c : Nat) (xs : List UInt8) (A' : Option Addr) (n' c' : Nat) (ys : List UInt8) (a : Int) (w : World) (hx : RdB w w.heap.size A n c xs) (hy : RdB w w.heap.size A' n' c' ys) (hR : Roots w) :
    Calls Tryd.prog 4 #[.slice A n c, .slice A' n' c', .int .i64 a] w fun e w' => e = .returned (.bool true) ∧ Below w.heap.size w w' := by
  have hrx := hx.room
  have hry := hy.room
  have hlx := Lib.hid hx.len
  have hly := Lib.hid hy.len
  have HX := Lib.hid hx
  have HY := Lib.hid hy
  have HR := Lib.hid hR
  have hgw := hR.lt
  clear hx hy hR
  obtain ⟨i0, hi, hz0, hz1, hz2⟩ := info_parts info5
  by_cases h300 : n ≤ 300 ∧ n' ≤ 300
  · obtain ⟨h1, h2⟩ := h300
    have t1 : decide ((300 : Int) < n) = false := by simp; omega
    have t2 : decide ((300 : Int) < n') = false := by simp; omega
    obtain ⟨t0, ht1023, ht⟩ := and1023 a
    obtain ⟨t, htq, htl⟩ := mod_idx t0 (n' + 1) (by omega)
    rw [Int.natCast_add, Int.natCast_one] at htq
    go_enter Tryd.func4, Tryd.ntmps4
    go_wp2_with fail
    refine (alive4_any _ HR.out).mono ?_
    rintro e w1 ⟨rfl, hB1⟩
    have hx1 := HX.out.on hB1
    have HB1 := Lib.hid hB1
    clear hB1
    go_wp2_with (first
      | (at_builtin; refine wpList_app _ rfl (.tmp 26) (.tmp 27) 30 rfl w1.heap.size 5 i0 _ 1 Tryd.underlying30 hi hz0 hz1 hz2 rfl _ 0 _ rfl (own_new _ (Nat.le_refl _) rfl (by omega)) _ A n c _ rfl (RdB.lit hx1 _) (bv_one _) (by omega) (by omega) (by simp) ?_; intro A4 c4 w4 hown4 hg4 hat4
         have hbw4 := below_lit (Below.refl _ _) hg4
         have hy4 := (HY.out.on HB1.out).on hbw4)
      | (at_builtin; refine wpList_app _ rfl (.tmp 29) (.tmp 30) 30 rfl w4.heap.size 5 i0 _ 1 Tryd.underlying30 hi hz0 hz1 hz2 rfl _ 0 _ rfl (own_new _ (Nat.le_refl _) rfl (by omega)) _ A' n' c' _ rfl (RdB.lit hy4 _) (bv_one _) (by omega) (by omega) (by simp) ?_; intro A5 c5 w5 hown5 hg5 hat5)
      | fail)
    simp only [Nat.zero_add, List.nil_append] at hown4 hown5
    have hbw5 : Below w4.heap.size w4 w5 := below_lit (Below.refl _ _) hg5
    have hB4 : Below w.heap.size w w4 := below_seq HB1.out hbw4
    have hB5 : Below w.heap.size w w5 := below_seq hB4 hbw5
    have hk5 : RdB w5 w5.heap.size A4 n c4 xs := RdB.on (Rd.of_own hown4) hbw5
    have hc5 : RdB w5 w5.heap.size A5 n' c5 ys := Rd.of_own hown5
    have HK5 := Lib.hid hk5
    have HC5 := Lib.hid hc5
    have HB5 := Lib.hid hB5
    clear hown4 hown5 hg4 hg5 hat4 hat5 hbw4 hbw5 hB4 hB5 hk5 hc5 hx1 hy4 HB1
    have hj1 : joinL [⟨A', n', c', ys⟩] = ys := by simp [joinL]
    refine (sum_any A n c xs _ 1 1 [⟨A', n', c', ys⟩] _ ((HX.out.on HB5.out).lit _) (by omega) (rd_cells (n := 1) w5 rfl rfl rfl (by omega)) ?h1 ((HR.out.on HB5.out).lit _) (by rw [hj1, hly.out]; omega)).mono ?_
    case h1 =>
      intro r hr
      simp only [List.mem_cons, List.not_mem_nil, or_false] at hr
      subst hr
      exact (HY.out.on HB5.out).lit _
    rintro e w6 ⟨A6, c6, rfl, hn6⟩
    rw [hj1] at hn6
    obtain ⟨D, hD⟩ : ∃ D, D = macS xs ys := ⟨_, rfl⟩
    rw [← hD] at hn6
    have hb56 := below_seq (below_of_new w5 _) hn6.bl
    have hB6 := below_seq HB5.out hb56
    have hd6 := hn6.rd
    obtain ⟨A2, hA2⟩ : ∃ q, q = if c' = t then A' else A'.map (·.add t) := ⟨_, rfl⟩
    have und : Tryd.prog.underlying 30 = some (.slice (Tryd.prog.elem 30)) := und22
    have hcut := fun w => run_cut (t := 30) und el22 A' n' c' t (by omega) (by omega) w
    have hfro := fun w => run_front (t := 30) und el22 A' n' c' t (by omega) w
    rw [← hA2] at hcut
    have hf6 : ∀ w', RdB w' w'.heap.size A' n' c' ys → RdB w' w'.heap.size A' t c' (ys.take t) := fun w' h => by
      have := Rd.front (k := t) h (by omega)
      rw [← List.map_take] at this
      exact this
    have hr6 : ∀ w', RdB w' w'.heap.size A' n' c' ys → RdB w' w'.heap.size A2 (n' - t) (c' - t) (ys.drop t) := fun w' h => by
      have := Rd.cut (k := t) h (by omega)
      rw [← hA2, ← List.map_drop] at this
      exact this
    have HX6 := Lib.hid (fun w' (h : Below w6.heap.size w6 w') => (HX.out.on hB6).on h)
    have HY6 := Lib.hid (fun w' (h : Below w6.heap.size w6 w') => (HY.out.on hB6).on h)
    have HRR := Lib.hid (fun w' (h : Below w6.heap.size w6 w') => HR.out.on (below_seq hB6 h))
    have HK6 := Lib.hid (fun w' (h : Below w6.heap.size w6 w') => (HK5.out.on hb56).on h)
    have HC6 := Lib.hid (fun w' (h : Below w6.heap.size w6 w') => (HC5.out.on hb56).on h)
    have HD6 := Lib.hid (fun w' (h : Below w6.heap.size w6 w') => RdB.on hd6 h)
    have HROW := Lib.hid (fun w' (h : Below w6.heap.size w6 w') => show ∀ r ∈ ([⟨A', t, c', ys.take t⟩, ⟨none, 0, 0, []⟩, ⟨A2, n' - t, c' - t, ys.drop t⟩] : List Row), RdB w' w'.heap.size r.A r.n r.c r.bs from fun r hr => by
      simp only [List.mem_cons, List.not_mem_nil, or_false] at hr
      rcases hr with rfl | rfl | rfl
      · exact hf6 _ (HY6.out w' h)
      · exact Rd.nil _ _
      · exact hr6 _ (HY6.out w' h))
    have hj3 : joinL ([⟨A', t, c', ys.take t⟩, ⟨none, 0, 0, []⟩, ⟨A2, n' - t, c' - t, ys.drop t⟩] : List Row) = ys := by simp [joinL]
    have HJ := Lib.hid (show joinL ([⟨A', t, c', ys.take t⟩, ⟨none, 0, 0, []⟩, ⟨A2, n' - t, c' - t, ys.drop t⟩] : List Row) = ys ∧ 64 + (joinL ([⟨A', t, c', ys.take t⟩, ⟨none, 0, 0, []⟩, ⟨A2, n' - t, c' - t, ys.drop t⟩] : List Row)).length ≤ 576460752303423488 from ⟨hj3, by rw [hj3, hly.out]; omega⟩)
    have HD := Lib.hid hD
    have HBF := Lib.hid hB6
    have hbd := below_drew w6
    have p0 : True := trivial
    have p1 : True := trivial
    have p2 : True := trivial
    have p3 : True := trivial
    clear hn6 hb56 hB6 hd6 hA2 und hf6 hr6 hj1 hj3 hD HX HY HK5 HC5 HB5
    go_wp2_with fail
    go_region_law ((first
      | (clear p0; go_simp; go_at_call 15; refine (sum_any A n c xs _ 3 3 [⟨A', t, c', ys.take t⟩, ⟨none, 0, 0, []⟩, ⟨A2, n' - t, c' - t, ys.drop t⟩] _ (HX6.out _ (by first | assumption | exact below_alloc (by assumption) _ | exact below_alloc (below_alloc (by assumption) _) _)) (by omega) (rd_row (heap_alloc_new _ _) rfl (by omega)) (HROW.out _ (by first | assumption | exact below_alloc (by assumption) _ | exact below_alloc (below_alloc (by assumption) _) _)) (HRR.out _ (by first | assumption | exact below_alloc (by assumption) _ | exact below_alloc (below_alloc (by assumption) _) _)) HJ.out.2).mono ?_; rintro e w7 ⟨A7, c7, rfl, hn7⟩; rw [HJ.out.1, ← HD.out] at hn7; have hbb := below_seq (show Below w6.heap.size w6 _ from (by first | assumption | exact below_alloc (by assumption) _ | exact below_alloc (below_alloc (by assumption) _) _)) hn7.bl; have hd7 := hn7.rd; clear hn7)
      | (clear p1; go_simp; go_at_call 12; refine (rsame_new _ _ _ _ _ _ D D _ (HD6.out _ hbb) hd7).mono ?_; rintro e w8 ⟨rfl, hsb8⟩; rw [show decide (D = D) = true from by simp]; have hbb8 := below_seq hbb hsb8)
      | (clear p2; go_simp; go_at_call 12; refine (rsame_new _ _ _ _ _ _ xs xs _ (HK6.out _ hbb8) (HX6.out _ hbb8)).mono ?_; rintro e w9 ⟨rfl, hsb9⟩; rw [show decide (xs = xs) = true from by simp]; have hbb9 := below_seq hbb8 hsb9)
      | (clear p3; go_simp; go_at_call 12; refine (rsame_new _ _ _ _ _ _ ys ys _ (HC6.out _ hbb9) (HY6.out _ hbb9)).mono ?_; rintro e w10 ⟨rfl, hsb10⟩; rw [show decide (ys = ys) = true from by simp]; have hbb10 := below_seq hbb9 hsb10)))
    all_goals
      have hbN := below_seq HBF.out hbb10
      clear HX6 HY6 HRR HK6 HC6 HD6 HROW HJ HD hd7 hbb hbb8 hbb9 hbb10 hsb8 hsb9 hsb10 hbd
      go_wp2
      go_ret
      exact ⟨rfl, hbN⟩
  · by_cases h1 : n ≤ 300
    · have t1 : decide ((300 : Int) < n) = false := by simp; omega
      have t2 : decide ((300 : Int) < n') = true := by simp; omega
      go_enter Tryd.func4, Tryd.ntmps4
      go_wp2_with fail
      refine (alive4_any _ HR.out).mono ?_
      rintro e w1 ⟨rfl, hB1⟩
      go_wp2
      go_ret
      exact ⟨rfl, hB1⟩
    · have t1 : decide ((300 : Int) < n) = true := by simp; omega
      go_enter Tryd.func4, Tryd.ntmps4
      go_wp2_with fail
      refine (alive4_any _ HR.out).mono ?_
      rintro e w1 ⟨rfl, hB1⟩
      go_wp2
      go_ret
      exact ⟨rfl, hB1⟩
end Go.Proofs.YtchkjhgbbmablabDoor.Mparts
