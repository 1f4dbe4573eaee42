/-
  THE CONTRACTS of the document's at and times, of layer 3.
-/
import Derived.Test.YtgebdkbbdabomaaDoorShrp
import Derived.Test.YtgebdkbbdabomaaDoorChecked
import Derived.Test.YtgebdkbbdabomaaDoorCuts
import Derived.Deep.RegionHeld3
import Derived.StillTailTactics
import Derived.Deep.DeepCutAuto
namespace Go.Proofs.YtgebdkbbdabomaaDoor.Sha
open Go.RowKit
open Go.Proofs.YtgebdkbbdabomaaDoor.Kit
set_option linter.unusedVariables false

theorem u64_nm {x z : Nat} (h : z = m64 x) : IntKind.u64.wrap (x : Int) = (z : Int) := by
  rw [h, m64]; show (x : Int) % 18446744073709551616 = _; omega
theorem u64_mul {x y z : Nat} (h : z = m64 (x * y)) : IntKind.u64.wrap ((x : Int) * (y : Int)) = (z : Int) := by
  rw [← Int.natCast_mul]; exact u64_nm h
theorem u64_add {x y z : Nat} (h : z = m64 (x + y)) : IntKind.u64.wrap ((x : Int) + (y : Int)) = (z : Int) := by
  rw [← Int.natCast_add]; exact u64_nm h
theorem uv_at {L : List Nat} {p : Nat} (h : p < L.length) : (L.map uv)[p]? = some (uv (at0 L p)) := by
  rw [List.getElem?_map, List.getElem?_eq_getElem h, at0, List.getD_eq_getElem?_getD, List.getElem?_eq_getElem h]; rfl
theorem uv_one (L : List Nat) : ∀ u ∈ L.map uv, u.oneCell' = true := by
  intro u hu
  obtain ⟨b, _, rfl⟩ := List.mem_map.1 hu
  rfl
theorem below_own {w wr w' : World} {o : Obj} {base k c : Nat} {A : Option Addr} {e : TypeId} {xs : List Value} (hb : Below w.heap.size w wr) (ho : wr.ownsRow base e 1 (.slice A k c) k xs) (hB : w.heap.size ≤ base) (hg : (wr.alloc o).grownBy w' (Value.slice A k c).ownBlock) : Below w.heap.size w w' :=
  (below_alloc hb o).grown hg (by have := hb.size; simp; omega) (fun j hj => by have := (ho.lt j hj).1; omega)
theorem below_drew' {B : Nat} {w w' : World} (h : Below B w w') : Below B w w'.drew := h.trans (below_of_drew ⟨1, rfl⟩ _)
theorem info64 : (Tryd.prog.info? 43).map (fun i => (i.zero, i.size, i.bytes)) = some (some (.int .u64 0), 1, 8) := by kernel_rfl

set_option maxRecDepth 100000 in
theorem at_any3 (A : Option Addr) (n c : Nat) (L : List Nat) (k : Nat) (w : World) (h : Rd w w.heap.size A n c (L.map uv)) (hk : k ≤ 1000) :
    Calls Tryd.prog 68 #[.slice A n c, .int .i64 (k : Int)] w fun e w' => e = .returned (.int .u64 ((at0 L k : Nat) : Int)) ∧ w = w' := by
  have hl : L.length = n := by have := h.len; simpa using this
  have hr := h.room
  by_cases hlt : k < n
  · obtain ⟨b, o, rfl, hb, hc⟩ := h.2.2.2 (by omega)
    have hcell := hc k _ (uv_at (by omega))
    obtain ⟨x, hx⟩ : ∃ x, x = at0 L k := ⟨_, rfl⟩
    rw [← hx] at hcell ⊢
    unfold uv at hcell
    have t1 : decide ((k : Int) < (n : Int)) = true := by rw [decide_eq_true_iff]; omega
    clear h hc hx hl
    go_enter Tryd.func68, Tryd.ntmps68
    go_wp2_with fail
    go_ret
    exact ⟨rfl, by first | rfl | trivial⟩
  · have e0 : at0 L k = 0 := by rw [at0, List.getD_eq_getElem?_getD, List.getElem?_eq_none (by omega)]; rfl
    have t1 : decide ((k : Int) < (n : Int)) = false := by rw [decide_eq_false_iff_not]; omega
    rw [e0]
    clear h hl
    go_enter Tryd.func68, Tryd.ntmps68
    go_wp2_with fail
    go_ret
    exact ⟨rfl, by first | rfl | trivial⟩

set_option maxRecDepth 100000 in
set_option maxHeartbeats 2000000 in
theorem times_own (A A' : Option Addr) (n c n' c' : Nat) (X Y : List Nat) (w : World) (hx : Rd w w.heap.size A n c (X.map uv)) (hy : Rd w w.heap.size A' n' c' (Y.map uv)) (hn : 1 ≤ n) (hn2 : n ≤ 100) (hn' : 1 ≤ n') (hn3 : n' ≤ 100) :
    Calls Tryd.prog 67 #[.slice A n c, .slice A' n' c'] w fun e w' => ∃ A2 c2, e = .returned (.slice A2 (n + n') c2) ∧ w'.ownsRow w.heap.size 43 1 (.slice A2 (n + n') c2) (n + n') ((timesS X Y).map uv) ∧ Below w.heap.size w w' := by
  obtain ⟨i0, hi, hz0, hz1, hz2⟩ := info_parts info64
  have hlx : X.length = n := by have := hx.len; simpa using this
  have hly : Y.length = n' := by have := hy.len; simpa using this
  have hrx := hx.room
  have hry := hy.room
  obtain ⟨bx, ox, rfl, hbx, hcx⟩ := hx.2.2.2 (by omega)
  obtain ⟨by_, oy, rfl, hby, hcy⟩ := hy.2.2.2 (by omega)
  obtain ⟨N, hN⟩ : ∃ N, N = n + n' := ⟨_, rfl⟩
  rw [← hN]
  have HCX := Lib.hid (show ∀ W, Below w.heap.size w W → ∀ j, j < n → W.cell? ⟨bx, ox + j, none⟩ = some (.int .u64 ((at0 X j : Nat) : Int)) from fun W h j hj => (h.cell (p := ⟨bx, ox + j, none⟩) hbx).trans (hcx j _ (uv_at (by omega))))
  have HCY := Lib.hid (show ∀ W, Below w.heap.size w W → ∀ j, j < n' → W.cell? ⟨by_, oy + j, none⟩ = some (.int .u64 ((at0 Y j : Nat) : Int)) from fun W h j hj => (h.cell (p := ⟨by_, oy + j, none⟩) hby).trans (hcy j _ (uv_at (by omega))))
  have HT := Lib.hid (show timesS X Y = carr (convI X Y n) (N - 1) from by rw [timesS, hlx, hly, hN])
  have HLX := Lib.hid (And.intro hlx hly)
  have HN := Lib.hid hN
  have hNb : N ≤ 200 := by omega
  have hNc : 2 ≤ N := by omega
  clear hN
  clear hx hy hcx hcy hlx hly
  go_enter Tryd.func67, Tryd.ntmps67
  go_wp2_with fail
  go_loopw [5, 6] (fun s i wr => ∃ (k : Nat) (A : Option Addr) (c : Nat), k ≤ N ∧ i = .int .i64 (k : Int) ∧ s = .slice A k c ∧ wr.ownsRow w.heap.size 43 1 (.slice A k c) k ((List.replicate k 0).map uv) ∧ Below w.heap.size w wr) (fun _ i _ => N - (intOf i).toNat)
  case atStart => exact ⟨0, _, _, by omega, rfl, rfl, own_new w (Nat.le_refl _) rfl (by omega), below_of_new w _⟩
  case round =>
    obtain ⟨k, A, c, hk, rfl, rfl, hown, hbw⟩ := hrel
    by_cases hlt : k < N
    · have t1 : decide ((k : Int) < (n : Int) + (n' : Int)) = true := by rw [decide_eq_true_iff]; have := HN.out; omega
      have hrow : (List.replicate k 0).map uv ++ [uv 0] = (List.replicate (k + 1) 0).map uv := by rw [List.replicate_succ', List.map_append]; rfl
      have HROW := Lib.hid hrow
      have HOWN := Lib.hid hown
      have HBW := Lib.hid hbw
      clear hrow hown hbw
      go_wp2_with (at_builtin; refine wpList_app _ rfl (.tmp 20) (.tmp 21) 61 rfl w.heap.size 43 i0 _ 8 Tryd.underlying61 hi hz0 hz1 hz2 rfl _ k _ rfl (HOWN.out.alloc _) _ (some ⟨wr.heap.size, 0, none⟩) 1 1 [uv 0] rfl (rd_cells wr rfl rfl rfl (by omega)) (uv_one [0]) (by omega) (by omega) (by have := HBW.out.size; simp; omega) ?_; intro A2 c2 w3 hown3 hg3 hat3)
      have hown3' := hown3
      rw [HROW.out] at hown3'
      have hb3 := below_own HBW.out HOWN.out (Nat.le_refl _) hg3
      clear hown3 hg3 hat3
      go_wp2_with fail
      exact ⟨⟨k + 1, A2, c2, by omega, by go_num, rfl, hown3', hb3⟩, by simp [intOf]; omega⟩
    · obtain rfl : k = N := by omega
      have t1 : decide ((k : Int) < (n : Int) + (n' : Int)) = false := by rw [decide_eq_false_iff_not]; have := HN.out; omega
      obtain ⟨g, rfl⟩ : ∃ g, A = some ⟨g, 0, none⟩ := by
        rcases own_cases hown with ⟨_, _, h⟩ | h
        · omega
        · exact h
      have hrow : List.replicate k 0 = convI X Y 0 := by rw [convI, HLX.out.1, HLX.out.2, HN.out]
      rw [hrow] at hown
      have HOWN := Lib.hid hown
      have HBW := Lib.hid hbw
      clear hown hbw hrow
      go_wp2_with fail
      go_loopw [7, 8] (fun i _ wx => ∃ i' : Nat, i' ≤ n ∧ i = .int .i64 (i' : Int) ∧ wx.ownsRow w.heap.size 43 1 (.slice (some ⟨g, 0, none⟩) k c) k ((convI X Y i').map uv) ∧ Below w.heap.size w wx) (fun i _ _ => n - (intOf i).toNat)
      case atStart => exact ⟨0, by omega, rfl, HOWN.out, HBW.out⟩
      case round =>
        clear HOWN HBW
        obtain ⟨i, hi', rfl, hown, hbw⟩ := hrel
        by_cases hlti : i < n
        · have t2 : decide ((i : Int) < (n : Int)) = true := by rw [decide_eq_true_iff]; omega
          have HOWN := Lib.hid hown
          have HBW := Lib.hid hbw
          clear hown hbw
          go_wp2_with fail
          go_loopw [8] (fun j wx => ∃ j' : Nat, j' ≤ n' ∧ j = .int .i64 (j' : Int) ∧ wx.ownsRow w.heap.size 43 1 (.slice (some ⟨g, 0, none⟩) k c) k ((convJ X Y i (convI X Y i) j').map uv) ∧ Below w.heap.size w wx) (fun j _ => n' - (intOf j).toNat)
          case atStart => exact ⟨0, by omega, rfl, by rw [convJ]; exact HOWN.out, HBW.out⟩
          case round =>
            clear HOWN HBW
            obtain ⟨j, hj, rfl, hown, hbw⟩ := hrel
            by_cases hltj : j < n'
            · have t3 : decide ((j : Int) < (n' : Int)) = true := by rw [decide_eq_true_iff]; omega
              obtain ⟨L, hL⟩ : ∃ L, L = convJ X Y i (convI X Y i) j := ⟨_, rfl⟩
              have hLl : L.length = k := by rw [hL, convJ_len, convI_len, HLX.out.1, HLX.out.2, HN.out]
              obtain ⟨p, hp⟩ : ∃ p, p = i + j := ⟨_, rfl⟩
              obtain ⟨x, hx⟩ : ∃ x, x = at0 X i := ⟨_, rfl⟩
              obtain ⟨y, hy⟩ : ∃ y, y = at0 Y j := ⟨_, rfl⟩
              obtain ⟨a, ha⟩ : ∃ a, a = at0 L p := ⟨_, rfl⟩
              obtain ⟨z, hz⟩ : ∃ z, z = m64 (x * y) := ⟨_, rfl⟩
              obtain ⟨v, hv⟩ : ∃ v, v = m64 (a + z) := ⟨_, rfl⟩
              have e1 : IntKind.i64.wrap ((i : Int) + (j : Int)) = (p : Int) := by rw [IntKind.wrap_i64]; omega
              have e2 := u64_mul hz
              have e3 := u64_add hv
              have l1 : (p : Int) < (k : Int) := by have := HN.out; omega
              have l2 : (i : Int) < (n : Int) := by omega
              have l3 : (j : Int) < (n' : Int) := by omega
              rw [← hL] at hown
              have c1 := (own_cells hown).1 p _ (uv_at (by have := HN.out; omega))
              rw [← ha] at c1
              unfold uv at c1
              have c2 := HCX.out wr hbw i hlti
              rw [← hx] at c2
              have c3 := HCY.out wr hbw j hltj
              rw [← hy] at c3
              have f1 := hown.frozenAt p
              have hst := (hown.stored p (uv v)).1
              have hse : (L.map uv).set p (uv v) = (convJ X Y i (convI X Y i) (j + 1)).map uv := by
                rw [convJ, ← hL, ← hp, ← hx, ← hy, ← hz, ← ha, ← hv, List.map_set]
              rw [hse] at hst
              have hbs : Below w.heap.size w (wr.setCell ⟨g, p, none⟩ (uv v)) := hbw.setCell (hown.lt g rfl).1 _
              unfold uv at hst hbs
              have HST := Lib.hid hst
              have HBS := Lib.hid hbs
              clear hL hLl hp hx hy ha hz hv hst hse hbs hown hbw
              go_wp2_with fail
              refine wp_region_still_tail 21 (by kernel_rfl) (by kernel_rfl) ?_
              simp only [List.take_succ_cons, List.take_zero, List.drop_succ_cons, List.drop_zero]
              repeat still_step
              refine wpStill_nil ?_
              go_wp2_with fail
              exact ⟨⟨j + 1, by omega, by go_num, HST.out, below_drew' HBS.out⟩, by simp [intOf]; omega⟩
            · obtain rfl : j = n' := by omega
              have hcv : convJ X Y i (convI X Y i) j = convI X Y (i + 1) := by rw [convI, HLX.out.2]
              rw [hcv] at hown
              have t3 : decide ((j : Int) < (j : Int)) = false := by simp
              have HOWN := Lib.hid hown
              have HBW := Lib.hid hbw
              clear hown hbw hcv
              go_wp2_with fail
              exact ⟨⟨i + 1, by omega, by go_num, HOWN.out, HBW.out⟩, by simp [intOf]; omega⟩
        · obtain rfl : i = n := by omega
          have t2 : decide ((i : Int) < (i : Int)) = false := by simp
          obtain ⟨C, hC⟩ : ∃ C, C = convI X Y i := ⟨_, rfl⟩
          have hCl : C.length = k := by rw [hC, convI_len, HLX.out.1, HLX.out.2, HN.out]
          rw [← hC] at hown
          have HC := Lib.hid (And.intro hC hCl)
          have HOWN := Lib.hid hown
          have HBW := Lib.hid hbw
          clear hown hbw hC hCl
          go_wp2_with fail
          go_loopw [9] (fun q wx => ∃ q' : Nat, q' + 1 ≤ k ∧ q = .int .i64 (q' : Int) ∧ wx.ownsRow w.heap.size 43 1 (.slice (some ⟨g, 0, none⟩) k c) k ((carr C q').map uv) ∧ Below w.heap.size w wx) (fun q _ => k - (intOf q).toNat)
          case atStart => exact ⟨0, by omega, rfl, by rw [carr]; exact HOWN.out, HBW.out⟩
          case round =>
            clear HOWN HBW
            obtain ⟨q, hq, rfl, hown, hbw⟩ := hrel
            by_cases hltq : q + 1 < k
            · have t4 : decide ((q : Int) + 1 < (k : Int)) = true := by rw [decide_eq_true_iff]; omega
              obtain ⟨L, hL⟩ : ∃ L, L = carr C q := ⟨_, rfl⟩
              have hLl : L.length = k := by rw [hL, carr_len, HC.out.2]
              obtain ⟨p, hp⟩ : ∃ p, p = q + 1 := ⟨_, rfl⟩
              obtain ⟨x, hx⟩ : ∃ x, x = at0 L q := ⟨_, rfl⟩
              obtain ⟨a, ha⟩ : ∃ a, a = at0 L p := ⟨_, rfl⟩
              obtain ⟨z, hz⟩ : ∃ z, z = x / 262144 := ⟨_, rfl⟩
              obtain ⟨v, hv⟩ : ∃ v, v = m64 (a + z) := ⟨_, rfl⟩
              have e1 : IntKind.i64.wrap ((q : Int) + 1) = (p : Int) := by rw [IntKind.wrap_i64]; omega
              have e2 : (x : Int) / 262144 = (z : Int) := by rw [hz]; omega
              have e2' : (x : Int).tdiv 262144 = (z : Int) := by rw [hz, Int.tdiv_eq_ediv_of_nonneg (by omega)]; omega
              have e3 : IntKind.u64.wrap ((a : Int) + IntKind.u64.wrap (z : Int)) = (v : Int) := by rw [hv, m64]; show ((a : Int) + (z : Int) % 18446744073709551616) % 18446744073709551616 = _; omega
              have l1 : (p : Int) < (k : Int) := by omega
              have l2 : (q : Int) < (k : Int) := by omega
              rw [← hL] at hown
              have c1 := (own_cells hown).1 p _ (uv_at (by omega))
              rw [← ha] at c1
              have c2 := (own_cells hown).1 q _ (uv_at (by omega))
              rw [← hx] at c2
              unfold uv at c1 c2
              have f1 := hown.frozenAt p
              have hst := (hown.stored p (uv v)).1
              have hse : (L.map uv).set p (uv v) = (stepA L q).map uv := by
                rw [stepA, ← hp, ← hx, ← ha, ← hz, ← hv, List.map_set]
              rw [hse] at hst
              have hbs : Below w.heap.size w (wr.setCell ⟨g, p, none⟩ (uv v)) := hbw.setCell (hown.lt g rfl).1 _
              obtain ⟨W1, hW1⟩ : ∃ W, W = (wr.setCell ⟨g, p, none⟩ (uv v)).drew := ⟨_, rfl⟩
              have hst1 : W1.ownsRow w.heap.size 43 1 (.slice (some ⟨g, 0, none⟩) k c) k ((stepA L q).map uv) := by rw [hW1]; exact hst
              have hbs1 : Below w.heap.size w W1 := by rw [hW1]; exact below_drew' hbs
              unfold uv at hW1
              obtain ⟨M, hM⟩ : ∃ M, M = stepA L q := ⟨_, rfl⟩
              have hMl : M.length = k := by rw [hM, stepA, List.length_set, hLl]
              have hnx : carr C (q + 1) = stepB M q := by rw [carr, ← hL, ← hM]
              rw [← hM] at hst1
              have HNX := Lib.hid (And.intro hnx hMl)
              have HST := Lib.hid hst1
              have HBS := Lib.hid hbs1
              have HW1 := Lib.hid hW1
              have HP := Lib.hid hp
              clear hL hLl hp hx ha hz hv hst hse hbs hown hbw hW1 hst1 hbs1 hM hMl hnx
              go_wp2_with fail
              refine wp_region_still_tail 15 (by kernel_rfl) (by kernel_rfl) ?_
              simp only [List.take_succ_cons, List.take_zero, List.drop_succ_cons, List.drop_zero]
              repeat still_step
              refine wpStill_nil ?_
              go_upto_region 17 with fail
              change Code.wp _ _ _ _ (wr.setCell ⟨g, p, none⟩ (.int .u64 (v : Int))).drew
              rw [← HW1.out]
              clear c1 c2 f1 e1 e2 e2' e3
              obtain ⟨y, hy⟩ : ∃ y, y = at0 M q := ⟨_, rfl⟩
              obtain ⟨u, hu⟩ : ∃ u, u = y % 262144 := ⟨_, rfl⟩
              have e4 : (y : Int).tmod 262144 = (u : Int) := by rw [hu, Int.tmod_eq_emod_of_nonneg (by omega)]; omega
              have c2 := (own_cells HST.out).1 q _ (uv_at (by rw [HNX.out.2]; omega))
              rw [← hy] at c2
              unfold uv at c2
              have f1 := HST.out.frozenAt q
              have hst := (HST.out.stored q (uv u)).1
              have hse : (M.map uv).set q (uv u) = (carr C (q + 1)).map uv := by rw [HNX.out.1, stepB, ← hy, ← hu, List.map_set]
              rw [hse] at hst
              have hbs : Below w.heap.size w (W1.setCell ⟨g, q, none⟩ (uv u)) := HBS.out.setCell (HST.out.lt g rfl).1 _
              unfold uv at hst hbs
              have HST2 := Lib.hid hst
              have HBS2 := Lib.hid hbs
              clear hy hu hst hse hbs
              go_wp2_with fail
              exact ⟨⟨q + 1, by omega, by go_num, HST2.out, HBS2.out⟩, by simp [intOf]; omega⟩
            · obtain rfl : k = q + 1 := by omega
              have t4 : decide ((q : Int) + 1 < ((q + 1 : Nat) : Int)) = false := by rw [decide_eq_false_iff_not]; omega
              have hres : carr C q = timesS X Y := by rw [HT.out, HC.out.1]; rfl
              rw [hres] at hown
              have HOWN := Lib.hid hown
              have HBW := Lib.hid hbw
              clear hown hbw hres
              go_wp2_with fail
              go_ret
              exact ⟨_, _, rfl, HOWN.out, HBW.out⟩
end Go.Proofs.YtgebdkbbdabomaaDoor.Sha

/-
  THE CONTRACTS of the document's above and cube, of layer 3.
-/
namespace Go.Proofs.YtgebdkbbdabomaaDoor.Sha
open Go.RowKit
open Go.Proofs.YtgebdkbbdabomaaDoor.Kit
set_option linter.unusedVariables false

theorem m64_lt (x : Nat) : m64 x < 18446744073709551616 := Nat.mod_lt _ (by omega)
theorem aboveK_succ (P Q : List Nat) (k : Nat) : aboveK P Q (k + 1) = if at0 P k = at0 Q k then aboveK P Q k else decide (at0 Q k < at0 P k) := rfl
theorem u64_keep {z : Nat} (h : z < 18446744073709551616) : IntKind.u64.wrap (z : Int) = (z : Int) := by
  show (z : Int) % 18446744073709551616 = _; omega

set_option maxRecDepth 100000 in
set_option maxHeartbeats 1000000 in
theorem above_any (y n : Nat) (w : World) (hy : y < 18446744073709551616) (hn : n < 18446744073709551616) :
    Calls Tryd.prog 53 #[.int .u64 (y : Int), .int .u64 (n : Int)] w fun e w' => e = .returned (.bool (aboveS y n)) ∧ Below w.heap.size w w' := by
  obtain ⟨a, ha⟩ : ∃ a, a = y % 262144 := ⟨_, rfl⟩
  obtain ⟨b, hb⟩ : ∃ b, b = y / 262144 := ⟨_, rfl⟩
  obtain ⟨m, hm⟩ : ∃ m, m = m64 (n * 64) := ⟨_, rfl⟩
  obtain ⟨p, hp⟩ : ∃ p, p = m % 262144 := ⟨_, rfl⟩
  obtain ⟨q, hq⟩ : ∃ q, q = m / 262144 := ⟨_, rfl⟩
  have hml := m64_lt (n * 64)
  rw [← hm] at hml
  have e1 : (y : Int).tmod 262144 = (a : Int) := by rw [ha, Int.tmod_eq_emod_of_nonneg (by omega)]; omega
  have e2 : (y : Int) / 262144 = (b : Int) := by rw [hb]; omega
  have e3 : IntKind.u64.wrap (b : Int) = (b : Int) := u64_keep (by omega)
  have e4 : IntKind.u64.wrap ((n : Int) * 64) = (m : Int) := u64_mul (y := 64) hm
  have e5 : (m : Int).tmod 262144 = (p : Int) := by rw [hp, Int.tmod_eq_emod_of_nonneg (by omega)]; omega
  have e6 : (m : Int) / 262144 = (q : Int) := by rw [hq]; omega
  have e7 : IntKind.u64.wrap (q : Int) = (q : Int) := u64_keep (by omega)
  have hres : aboveS y n = aboveK (timesS (timesS [a, b] [a, b]) [a, b]) [0, 0, 0, 0, 0, p, q] 9 := by
    unfold aboveS
    rw [limbL, wantL, ← ha, ← hb, ← hm, ← hp, ← hq]
  have HRES := Lib.hid hres
  clear ha hb hm hp hq hml hres
  go_enter Tryd.func53, Tryd.ntmps53
  go_wp2_with fail
  have hlim : Rd (w.alloc (.cells #[.int .u64 (a : Int), .int .u64 (b : Int)] 43)) (w.alloc (.cells #[.int .u64 (a : Int), .int .u64 (b : Int)] 43)).heap.size (some ⟨w.heap.size, 0, none⟩) 2 2 ([a, b].map uv) := rd_cells w rfl rfl rfl (by omega)
  have HLIM := Lib.hid hlim
  refine (times_own _ _ 2 2 2 2 [a, b] [a, b] _ hlim hlim (by omega) (by omega) (by omega) (by omega)).mono ?_
  rintro e w1 ⟨A1, c1, rfl, ho1, hb1⟩
  have HO1 := Lib.hid ho1
  have HB1 := Lib.hid hb1
  clear hlim ho1 hb1
  go_wp2_with fail
  refine (times_own _ _ 4 c1 2 2 _ [a, b] _ (Rd.of_own HO1.out) ((HLIM.out.below HB1.out).more HB1.out.size) (by omega) (by omega) (by omega) (by omega)).mono ?_
  rintro e w2 ⟨A2, c2, rfl, ho2, hb2⟩
  obtain ⟨P, hP⟩ : ∃ P, P = timesS (timesS [a, b] [a, b]) [a, b] := ⟨_, rfl⟩
  have hres := HRES.out
  rw [← hP] at ho2 hres
  have HP := Lib.hid (Rd.of_own ho2)
  have HR2 := Lib.hid hres
  have HB2 := Lib.hid (below_seq (below_of_new w _) (below_seq HB1.out hb2))
  clear ho2 hb2 hP hres HRES HO1 HB1 HLIM
  go_wp2_with fail
  obtain ⟨Q, hQ⟩ : ∃ Q, Q = [0, 0, 0, 0, 0, p, q] := ⟨_, rfl⟩
  obtain ⟨W3, hW3⟩ : ∃ W, W = w2.alloc (.cells #[.int .u64 0, .int .u64 0, .int .u64 0, .int .u64 0, .int .u64 0, .int .u64 (p : Int), .int .u64 (q : Int)] 43) := ⟨_, rfl⟩
  have hq3 : Rd W3 W3.heap.size (some ⟨w2.heap.size, 0, none⟩) 7 7 (Q.map uv) := by rw [hW3, hQ]; exact rd_cells w2 rfl rfl rfl (by omega)
  have hp3 : Rd W3 W3.heap.size A2 6 c2 (P.map uv) := by rw [hW3]; exact (HP.out.below (below_of_new w2 _)).more (below_of_new w2 _).size
  have hb3 : Below w.heap.size w W3 := by rw [hW3]; exact below_alloc HB2.out _
  have hres := HR2.out
  rw [← hQ] at hres
  rw [← hW3]
  have HQ3 := Lib.hid hq3
  have HP3 := Lib.hid hp3
  have HB3 := Lib.hid hb3
  have HR3 := Lib.hid hres
  clear hQ hW3 hq3 hp3 hb3 hres HP HR2 HB2
  go_loopw [9, 10, 11] (fun i _ _ wr => ∃ k : Nat, k ≤ 9 ∧ i = .int .i64 ((k : Int) - 1) ∧ aboveS y n = aboveK P Q k ∧ W3 = wr) (fun i _ _ _ => (intOf i + 1).toNat)
  case atStart => exact ⟨9, by omega, congrArg (Value.int .i64) (show (8 : Int) = ((9 : Nat) : Int) - 1 by decide), HR3.out, by first | rfl | trivial⟩
  case round =>
    obtain ⟨k, hk, rfl, hrs, rfl⟩ := hrel
    cases k with
    | zero =>
      have hrs' : aboveS y n = false := hrs
      rw [show ((0 : Nat) : Int) - 1 = -1 from by decide]
      have HRS := Lib.hid hrs'
      clear hrs hrs' HR3
      go_wp2_with fail
      go_ret
      exact ⟨by rw [HRS.out]; rfl, HB3.out⟩
    | succ k =>
      rw [show ((k + 1 : Nat) : Int) - 1 = (k : Int) from by omega]
      rw [aboveK_succ] at hrs
      have ca := at_any3 A2 6 c2 P k W3 HP3.out (by omega)
      have cb := at_any3 (some ⟨w2.heap.size, 0, none⟩) 7 7 Q k W3 HQ3.out (by omega)
      obtain ⟨x, hx⟩ : ∃ x, x = at0 P k := ⟨_, rfl⟩
      obtain ⟨z, hz⟩ : ∃ z, z = at0 Q k := ⟨_, rfl⟩
      rw [← hx] at ca hrs
      rw [← hz] at cb hrs
      have CA := Lib.hid ca
      have CB := Lib.hid cb
      clear ca cb hx hz HR3
      by_cases hxz : x = z
      · subst hxz
        rw [if_pos rfl] at hrs
        have HRS := Lib.hid hrs
        clear hrs
        go_wp2_with fail
        refine CA.out.mono ?_
        rintro e w' ⟨rfl, rfl⟩
        go_wp2_with fail
        refine CB.out.mono ?_
        rintro e w' ⟨rfl, rfl⟩
        go_wp2_with fail
        exact ⟨⟨k, by omega, by go_num, HRS.out, by first | rfl | trivial⟩, by simp [intOf] <;> omega⟩
      · rw [if_neg hxz] at hrs
        have HRS := Lib.hid hrs
        have t1 : ((x : Int) == (z : Int)) = false := by rw [beq_eq_false_iff_ne]; omega
        have t2 : decide ((z : Int) < (x : Int)) = decide (z < x) := by
          by_cases h : z < x
          · rw [decide_eq_true h, decide_eq_true (by omega)]
          · rw [decide_eq_false h, decide_eq_false (by omega)]
        clear hrs
        go_wp2_with fail
        refine CA.out.mono ?_
        rintro e w' ⟨rfl, rfl⟩
        go_wp2_with fail
        refine CB.out.mono ?_
        rintro e w' ⟨rfl, rfl⟩
        go_wp2_with fail
        go_ret
        exact ⟨by rw [HRS.out]; rfl, HB3.out⟩

def cubeY (n j : Nat) : Nat := m64 (cubeS n j + 2 ^ (35 - j))
theorem cubeS_succ (n j : Nat) : cubeS n (j + 1) = if aboveS (cubeY n j) n then cubeS n j else cubeY n j := by rw [cubeS, cubeY]
theorem cubeS_lt (n : Nat) : ∀ j, cubeS n j < 18446744073709551616 := by
  intro j
  induction j with
  | zero => rw [cubeS]; omega
  | succ j ih =>
    rw [cubeS_succ]
    split
    · exact ih
    · exact m64_lt _

set_option maxRecDepth 100000 in
set_option maxHeartbeats 1000000 in
theorem cube_any (n : Nat) (w : World) (hn : n < 18446744073709551616) :
    Calls Tryd.prog 37 #[.int .u64 (n : Int)] w fun e w' => e = .returned (.int .u32 ((cubeS n 36 % 4294967296 : Nat) : Int)) ∧ Below w.heap.size w w' := by
  go_enter Tryd.func37, Tryd.ntmps37
  go_wp2_with fail
  go_loopw [3, 4, 5] (fun x i _ wr => ∃ k : Nat, k ≤ 36 ∧ i = .int .i64 ((k : Int) - 1) ∧ x = .int .u64 ((cubeS n (36 - k) : Nat) : Int) ∧ Below w.heap.size w wr) (fun _ i _ _ => (intOf i + 1).toNat)
  case atStart => exact ⟨36, by omega, congrArg (Value.int .i64) (show (35 : Int) = ((36 : Nat) : Int) - 1 by decide), by rw [Nat.sub_self, cubeS]; rfl, Below.refl _ _⟩
  case round =>
    obtain ⟨k, hk, rfl, rfl, hbw⟩ := hrel
    cases k with
    | zero =>
      rw [show ((0 : Nat) : Int) - 1 = -1 from by decide, Nat.sub_zero]
      have hl := cubeS_lt n 36
      obtain ⟨x, hx⟩ : ∃ x, x = cubeS n 36 := ⟨_, rfl⟩
      obtain ⟨r, hr⟩ : ∃ r, r = x % 4294967296 := ⟨_, rfl⟩
      rw [← hx] at hl ⊢
      have e1 : (x : Int).tmod 4294967296 = (r : Int) := by rw [hr, Int.tmod_eq_emod_of_nonneg (by omega)]; omega
      have hr32 : r < 4294967296 := by omega
      have e2 : IntKind.u32.wrap (r : Int) = (r : Int) := by rw [IntKind.wrap_u32']; omega
      have HBW := Lib.hid hbw
      have HX := Lib.hid hx
      have HR := Lib.hid hr
      clear hx hr hl hbw
      go_wp2_with fail
      go_ret
      exact ⟨by rw [← HX.out, ← HR.out]; rfl, HBW.out⟩
    | succ k =>
      rw [show ((k + 1 : Nat) : Int) - 1 = (k : Int) from by omega]
      obtain ⟨j, hj⟩ : ∃ j, j = 36 - (k + 1) := ⟨_, rfl⟩
      have hy := m64_lt (cubeS n j + 2 ^ (35 - j))
      have hnx := cubeS_succ n j
      obtain ⟨x, hx⟩ : ∃ x, x = cubeS n j := ⟨_, rfl⟩
      obtain ⟨s, hs⟩ : ∃ s, s = 2 ^ k := ⟨_, rfl⟩
      obtain ⟨y, hy2⟩ : ∃ y, y = m64 (x + s) := ⟨_, rfl⟩
      have hyd : cubeY n j = y := by rw [cubeY, hy2, ← hx, hs, show 35 - j = k from by omega]
      rw [← hj, ← hx]
      rw [hyd, ← hx] at hnx
      have hyl : y < 18446744073709551616 := by rw [hy2]; exact m64_lt _
      have e1 : IntKind.u64.wrap ((x : Int) + (s : Int)) = (y : Int) := u64_add hy2
      have e2 : IntKind.u64.wrap (2 ^ k) = (s : Int) := by
        have hs2 : s < 18446744073709551616 := by
          rw [hs]
          have : 2 ^ k ≤ 2 ^ 35 := Nat.pow_le_pow_right (by omega) (by omega)
          omega
        have e : ((2 : Int) ^ k) = (s : Int) := by rw [hs]; norm_cast
        rw [e]; exact u64_keep hs2
      have hjk : j + 1 = 36 - k := by omega
      rw [hjk] at hnx
      have HAB := Lib.hid (above_any y n wr hyl hn)
      have HNX := Lib.hid hnx
      have HBW := Lib.hid hbw
      clear hj hx hs hy hy2 hyd hnx hjk hbw
      obtain ⟨B, hB⟩ : ∃ B, B = aboveS y n := ⟨_, rfl⟩
      have hab := HAB.out
      have hnx := HNX.out
      rw [← hB] at hab hnx
      have HAB2 := Lib.hid hab
      have HNX2 := Lib.hid hnx
      clear hab hnx hB HAB HNX
      cases B
      · go_wp2_with fail
        refine HAB2.out.mono ?_
        rintro e w1 ⟨rfl, hb1⟩
        have hb2 := below_seq HBW.out hb1
        go_wp2_with fail
        exact ⟨⟨k, by omega, by go_num, by rw [HNX2.out]; rfl, hb2⟩, by simp [intOf] <;> omega⟩
      · go_wp2_with fail
        refine HAB2.out.mono ?_
        rintro e w1 ⟨rfl, hb1⟩
        have hb2 := below_seq HBW.out hb1
        go_wp2_with fail
        exact ⟨⟨k, by omega, by go_num, by rw [HNX2.out]; rfl, hb2⟩, by simp [intOf] <;> omega⟩
end Go.Proofs.YtgebdkbbdabomaaDoor.Sha

/-
  THE CONTRACTS of the document's primes and Turn, of layer 3.
-/
namespace Go.Proofs.YtgebdkbbdabomaaDoor.Sha
open Go.RowKit
open Go.Proofs.YtgebdkbbdabomaaDoor.Kit
set_option linter.unusedVariables false

theorem at0_get {L : List Nat} {k : Nat} (h : k < L.length) : L[k] = at0 L k := by rw [at0, List.getD_eq_getElem?_getD, List.getElem?_eq_getElem h]; rfl
theorem at0_mem {L : List Nat} {k : Nat} (h : k < L.length) : at0 L k ∈ L := by rw [← at0_get h]; exact List.getElem_mem _
theorem take_all {L : List Nat} {k : Nat} (p : Nat) (h : k < L.length) : ((L.take (k + 1)).all fun q => p % q != 0) = ((L.take k).all (fun q => p % q != 0) && (p % at0 L k != 0)) := by
  rw [List.take_add_one, List.getElem?_eq_getElem h, at0_get h, List.all_append]
  simp
def passes (p : Nat) (L : List Nat) (k : Nat) : Bool := (L.take k).all fun q => p % q != 0
theorem passes_zero (p : Nat) (L : List Nat) : passes p L 0 = true := rfl
theorem passes_next (p : Nat) {L : List Nat} {k : Nat} (h : k < L.length) : passes p L (k + 1) = (passes p L k && (p % at0 L k != 0)) := take_all p h
theorem passes_all (p : Nat) (L : List Nat) : passes p L L.length = noneS L p := by rw [passes, List.take_length]; rfl

set_option maxRecDepth 100000 in
set_option maxHeartbeats 2000000 in
theorem primes_own (w : World) : Calls Tryd.prog 36 #[.int .i64 64] w fun e w' => ∃ A c, e = .returned (.slice A 64 c) ∧ w'.ownsRow w.heap.size 43 1 (.slice A 64 c) 64 (primes64.map uv) ∧ Below w.heap.size w w' := by
  obtain ⟨i0, hi, hz0, hz1, hz2⟩ := info_parts info64
  have hlen : (primesS 310).length = 64 := by rw [primes_all]; rfl
  go_enter Tryd.func36, Tryd.ntmps36
  go_wp2_with fail
  go_loopw [3, 4, 5, 6] (fun s i _ _ wr => ∃ (m : Nat) (A : Option Addr) (l c : Nat), m ≤ 310 ∧ l = (primesS m).length ∧ i = .int .u64 ((m : Int) + 2) ∧ s = .slice A l c ∧ wr.ownsRow w.heap.size 43 1 (.slice A l c) l ((primesS m).map uv) ∧ Below w.heap.size w wr) (fun _ i _ _ _ => (312 - intOf i).toNat)
  case atStart => exact ⟨0, _, 0, _, by omega, by rw [primesS]; rfl, rfl, rfl, by rw [primesS]; exact own_new w (Nat.le_refl _) rfl (by omega), below_of_new w _⟩
  case round =>
    obtain ⟨m, A, l, c, hm, hl, rfl, rfl, hown, hbw⟩ := hrel
    by_cases hlt : l < 64
    · have hm2 : m < 310 := by
        rcases Nat.lt_or_ge m 310 with h | h
        · exact h
        · obtain rfl : m = 310 := by omega
          rw [hlen] at hl; omega
      have t1 : decide ((l : Int) < 64) = true := by rw [decide_eq_true_iff]; omega
      obtain ⟨L, hL⟩ : ∃ L, L = primesS m := ⟨_, rfl⟩
      obtain ⟨p, hp⟩ : ∃ p, p = 2 + m := ⟨_, rfl⟩
      have htwo : ∀ k, k < l → 2 ≤ at0 L k ∧ at0 L k < 512 := fun k hk => by
        have := primes_two m (at0 L k) (by rw [hL]; exact at0_mem (by omega))
        omega
      have hnx : primesS (m + 1) = if noneS L p then L ++ [p] else L := by rw [primesS, ← hL, ← hp]
      rw [show (m : Int) + 2 = (p : Int) from by omega]
      rw [← hL] at hl hown
      have hp312 : p < 312 := by omega
      have HL := Lib.hid hl
      have HNX := Lib.hid hnx
      have HTW := Lib.hid htwo
      have HP := Lib.hid hp
      have HOWN := Lib.hid hown
      have HBW := Lib.hid hbw
      clear hL hl hp hnx htwo hown hbw hlen
      go_wp2_with fail
      go_loopw [5, 6] (fun f i wx => ∃ k : Nat, k ≤ l ∧ i = .int .i64 (k : Int) ∧ f = .bool (passes p L k) ∧ wr = wx) (fun _ i _ => l - (intOf i).toNat)
      case atStart => exact ⟨0, by omega, rfl, by rw [passes_zero], by first | rfl | trivial⟩
      case round =>
        obtain ⟨k, hk, rfl, rfl, rfl⟩ := hrel
        by_cases hltk : k < l
        · have t2 : decide ((k : Int) < (l : Int)) = true := by rw [decide_eq_true_iff]; omega
          have hq := HTW.out k hltk
          have hps := passes_next p (L := L) (k := k) (by rw [← HL.out]; exact hltk)
          have hcell := (Rd.of_own HOWN.out).2.2.2 (by omega)
          obtain ⟨b, o, rfl, hb, hc⟩ := hcell
          have hcell := hc k _ (uv_at (by rw [← HL.out]; exact hltk))
          obtain ⟨q, hq2⟩ : ∃ q, q = at0 L k := ⟨_, rfl⟩
          obtain ⟨r, hr⟩ : ∃ r, r = p % q := ⟨_, rfl⟩
          rw [← hq2] at hq hps hcell
          rw [← hr] at hps
          have hqa := hq.1
          have hqb := hq.2
          have hq0 : ((q : Int) == 0) = false := by rw [beq_eq_false_iff_ne]; omega
          have e1 : (p : Int).tmod (q : Int) = (r : Int) := by rw [hr, Int.tmod_eq_emod_of_nonneg (by omega)]; norm_cast
          have hrb : r < 512 := by have := Nat.mod_lt p (show 0 < q by omega); omega
          unfold uv at hcell
          obtain ⟨B, hB⟩ : ∃ B, B = passes p L k := ⟨_, rfl⟩
          rw [← hB] at hps ⊢
          have HPS := Lib.hid hps
          clear hq hps hc hq2 hr hB
          by_cases h0 : r = 0
          · have t3 : ((r : Int) == 0) = true := by rw [h0]; rfl
            go_wp2_with fail
            exact ⟨⟨k + 1, by omega, by go_num, by rw [HPS.out, h0]; simp, by first | rfl | trivial⟩, by simp [intOf] <;> omega⟩
          · have t3 : ((r : Int) == 0) = false := by rw [beq_eq_false_iff_ne]; omega
            have hne : (r != 0) = true := by simp [h0]
            go_wp2_with fail
            exact ⟨⟨k + 1, by omega, by go_num, by rw [HPS.out, hne, Bool.and_true], by first | rfl | trivial⟩, by simp [intOf] <;> omega⟩
        · obtain rfl : k = l := by omega
          have t2 : decide ((k : Int) < (k : Int)) = false := by simp
          have hps : passes p L k = noneS L p := by rw [HL.out, passes_all]
          have hnx := HNX.out
          rw [← hps] at hnx
          obtain ⟨B, hB⟩ : ∃ B, B = passes p L k := ⟨_, rfl⟩
          rw [← hB] at hnx ⊢
          clear hps hB
          cases B
          · have HNX2 := Lib.hid (show primesS (m + 1) = L from hnx)
            clear hnx
            go_wp2_with fail
            exact ⟨⟨m + 1, A, k, c, by omega, by rw [HNX2.out]; exact HL.out, by have := HP.out; go_num, rfl, by rw [HNX2.out]; exact HOWN.out, HBW.out⟩, by have := HP.out; simp [intOf] <;> omega⟩
          · have HNX2 := Lib.hid (show primesS (m + 1) = L ++ [p] from hnx)
            clear hnx
            go_wp2_with (at_builtin; refine wpList_app _ rfl (.tmp 28) (.tmp 30) 61 rfl w.heap.size 43 i0 _ 8 Tryd.underlying61 hi hz0 hz1 hz2 rfl _ k _ rfl (HOWN.out.alloc _) _ (some ⟨wr.heap.size, 0, none⟩) 1 1 [uv p] rfl (rd_cells wr rfl rfl rfl (by omega)) (uv_one [p]) (by omega) (by omega) (by have := HBW.out.size; simp; omega) ?_; intro A2 c2 w3 hown3 hg3 hat3)
            have hrow : L.map uv ++ [uv p] = (primesS (m + 1)).map uv := by rw [HNX2.out, List.map_append]; rfl
            have hown3' := hown3
            rw [hrow] at hown3'
            have hb3 := below_own HBW.out HOWN.out (Nat.le_refl _) hg3
            clear hown3 hg3 hat3 hrow
            go_wp2_with fail
            exact ⟨⟨m + 1, A2, k + 1, c2, by omega, by rw [HNX2.out, List.length_append, ← HL.out]; rfl, by have := HP.out; go_num, rfl, hown3', hb3⟩, by have := HP.out; simp [intOf] <;> omega⟩
    · have hm3 : m = 310 := by
        rcases Nat.lt_or_ge m 310 with h | h
        · have := primes_bound (show m ≤ 309 by omega); omega
        · omega
      subst hm3
      rw [hlen] at hl
      subst hl
      rw [primes_all] at hown
      have HOWN := Lib.hid hown
      have HBW := Lib.hid hbw
      clear hown hbw hlen
      go_wp2_with fail
      go_ret
      exact ⟨_, _, rfl, HOWN.out, HBW.out⟩

set_option maxRecDepth 100000 in
theorem turn_any (x n : UInt32) (k : Nat) (hk : n.toNat = k) (h0 : 0 < k) (h32 : k < 32) (w : World) :
    Calls Tryd.prog 61 #[.int .u32 (wi x), .int .u64 (k : Int)] w fun e w' => e = .returned (.int .u32 (wi (rotr x n))) ∧ w = w' := by
  obtain ⟨m, hm⟩ : ∃ m, m = 32 - k := ⟨_, rfl⟩
  have hsub : ((32 : UInt32) - n).toNat = m := by
    rw [UInt32.toNat_sub_of_le _ _ (by rw [UInt32.le_iff_toNat_le, hk]; show k ≤ 32; omega), hk, hm]; rfl
  obtain ⟨a, ha⟩ : ∃ a, a = x >>> n := ⟨_, rfl⟩
  obtain ⟨b, hb⟩ : ∃ b, b = x <<< (32 - n) := ⟨_, rfl⟩
  obtain ⟨r, hr⟩ : ∃ r, r = a ||| b := ⟨_, rfl⟩
  have e1 : wi x / 2 ^ k = wi a := by rw [ha]; exact w_shr x n (2 ^ k) (by omega) (by rw [hk])
  have e2 : (32 : Int) - (k : Int) = (m : Int) := by omega
  have e3 : IntKind.u32.wrap (wi x * 2 ^ m) = wi b := by rw [hb, IntKind.wrap_u32']; exact w_shl x (32 - n) (2 ^ m) (by omega) (by rw [hsub])
  have e4 : bits .or .u32 (wi a) (wi b) = wi r := by rw [hr]; exact w_or a b
  have hres : rotr x n = r := by rw [rotr, hr, ha, hb]
  have hm32 : m < 32 := by omega
  rw [hres]
  obtain ⟨X, hX⟩ : ∃ X, X = wi x := ⟨_, rfl⟩
  rw [← hX] at e1 e3 ⊢
  clear hm hsub ha hb hr hres hk hX
  go_enter Tryd.func61, Tryd.ntmps61
  go_wp2_with fail
  go_ret
  exact ⟨rfl, by first | rfl | trivial⟩
end Go.Proofs.YtgebdkbbdabomaaDoor.Sha

/-
  APPEND onto an own row leaves the old row's cells, whether there was room or not. Any program. And a call of the document's Turn, by a constant.
-/
namespace Go.Proofs.YtgebdkbbdabomaaDoor.Sha
open Go.RowKit
open Go.Proofs.YtgebdkbbdabomaaDoor.Kit
set_option linter.unusedVariables false

section
variable {P : Program} {w : World}
/-- what an append leaves in the old row: its cells, in either way -/
theorem run_app_keep (base : Nat) (t ty e : TypeId) (i : TypeInfo) (z : Value) (bytes : Nat) (ht : P.underlying t = some (.slice e)) (hi : P.info? e = some i) (hz : i.zero = some z)
    (hsize : i.size = 1) (hby : i.bytes = bytes) (hzs : z.cells.size = 1)
    (g cap n : Nat) (xs : List Value) (hown : w.ownsRow base e 1 (.slice (some ⟨g, 0, none⟩) n cap) n xs)
    (B : Nat) (A : Option Addr) (m c : Nat) (news : List Value) (hr : Rd w B A m c news) (h1 : ∀ u ∈ news, u.oneCell' = true) (hm : 0 < m)
    (h63 : n + m ≤ 140737488355328) (hbytes : (n + m) * bytes ≤ 140737488355328) (hbase : base ≤ w.heap.size) :
    ∃ v' w', (Builtin.append_ #[t, t] ty #[.slice (some ⟨g, 0, none⟩) n cap, .slice A m c]).run P w = .ok v' w' ∧ w'.ownsRow base e 1 v' (n + m) (xs ++ news) ∧ w.grownBy w' (some g) ∧
      ∀ j u, xs[j]? = some u → w'.cell? ⟨g, j, none⟩ = some u := by
  obtain ⟨v', w', hrun, hown', hg, hat⟩ := run_app (P := P) w base t ty e i z bytes ht hi hz hsize hby hzs _ n xs hown B A m c news hr h1 h63 hbytes hbase
  refine ⟨v', w', hrun, hown', hg, fun j u hu => ?_⟩
  have hlen : xs.length = n := by have := hown.1; simpa using this
  have hj : j < xs.length := (List.getElem?_eq_some_iff.1 hu).1
  have hu' : (xs ++ news)[j]? = some u := by rw [List.getElem?_append_left hj]; exact hu
  have hcell := (own_cells hown).1 j u hu
  obtain ⟨b, o, rfl, hbB, hnc⟩ := hr.2.2.2 hm
  have hnews : ∀ j u, news[j]? = some u → w.cell? ((⟨b, o, none⟩ : Addr).add j) = some u := fun j u h => by rw [add_off]; exact hnc j u h
  have hnl : news.length = m * i.size := by rw [hr.1, hsize]; omega
  by_cases hroom : n + m ≤ cap
  · rcases hat with h | h
    · have := hown'.cells (g := g) h j u hu'
      rw [add_off, Nat.zero_add] at this
      exact this
    · exfalso
      rcases hown.2 with ⟨h0, _⟩ | ⟨g', cap', cur, h0, hbg, hgg, hnc', hcm, hcs, htake⟩
      · cases h0
      · injection h0 with h0 _ h0c
        injection h0 with h0
        injection h0 with h0
        subst h0 h0c
        have hr2 := run_append_room (P := P) w t ty e i ht hi g n cap cur hgg ⟨b, o, none⟩ m c news hnl hnews h1 hroom (by rw [hnl, hsize]; omega)
        rw [hrun] at hr2
        injection hr2 with hv _
        rw [hv] at h
        simp only [Value.ownBlock, Option.some.injEq] at h
        have := (hown.lt g rfl).2
        omega
  · have hr2 := run_append_grow (P := P) w t ty e i z ht hi hz ⟨g, 0, none⟩ n cap xs (by rw [hlen, hsize]; omega) (fun j u h => by rw [add_off, Nat.zero_add]; exact (own_cells hown).1 j u h) ⟨b, o, none⟩ m c news hnl hnews (by omega) (by omega) (growslice_fits (by omega) (by rw [hby]; exact hbytes))
    rw [hrun] at hr2
    injection hr2 with _ hw
    rw [hw]
    exact (World.cell?_alloc_lt w.drew _ ⟨g, j, none⟩ (World.block_lt_of_cell? w _ hcell)).trans hcell
theorem wp_app_keep {o : Oper} {a : Act} {K : Act → World → Prop} {Q : Exit → Act → World → Prop} (s x : Operand) (t : TypeId)
    (ho : o.op = .call { callee := .builtin .append, args := #[s, x], argTypes := #[t, t] })
    (base : Nat) (e : TypeId) (i : TypeInfo) (z : Value) (bytes : Nat) (ht : P.underlying t = some (.slice e)) (hi : P.info? e = some i) (hz : i.zero = some z)
    (hsize : i.size = 1) (hby : i.bytes = bytes) (hzs : z.cells.size = 1)
    (g cap n : Nat) (xs : List Value) (hs : a.eval s = .slice (some ⟨g, 0, none⟩) n cap) (hown : w.ownsRow base e 1 (.slice (some ⟨g, 0, none⟩) n cap) n xs)
    (B : Nat) (A : Option Addr) (m c : Nat) (news : List Value) (hx : a.eval x = .slice A m c) (hr : Rd w B A m c news) (h1 : ∀ u ∈ news, u.oneCell' = true) (hm : 0 < m)
    (h63 : n + m ≤ 140737488355328) (hbytes : (n + m) * bytes ≤ 140737488355328) (hbase : base ≤ w.heap.size)
    (h : ∀ v' w', w'.ownsRow base e 1 v' (n + m) (xs ++ news) → w.grownBy w' (some g) → (∀ j u, xs[j]? = some u → w'.cell? ⟨g, j, none⟩ = some u) → K (a.put o.dst v') w') : o.wp P a w K Q := by
  obtain ⟨v', w', hrun, h2, h3, h4⟩ := run_app_keep (P := P) (w := w) base t o.type e i z bytes ht hi hz hsize hby hzs g cap n xs hown B A m c news hr h1 hm h63 hbytes hbase
  unfold Oper.wp execOp
  simp only [ho, resolve, invoke, builtin, Sem.run_bind, Sem.run_pure, Result.andThen_ok, List.map_toArray, List.map_cons, List.map_nil, hs, hx, hrun]
  exact h v' w' h2 h3 h4
end
theorem turn_lit (x n : UInt32) (k : Nat) (c : Int) (hc : c = (k : Int)) (hk : n.toNat = k) (h0 : 0 < k) (h32 : k < 32) (w : World) :
    Calls Tryd.prog 61 #[.int .u32 (wi x), .int .u64 c] w fun e w' => e = .returned (.int .u32 (wi (rotr x n))) ∧ w = w' := by
  rw [hc]; exact turn_any x n k hk h0 h32 w
end Go.Proofs.YtgebdkbbdabomaaDoor.Sha
