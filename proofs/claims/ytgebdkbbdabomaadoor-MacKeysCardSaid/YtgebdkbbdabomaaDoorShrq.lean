/-
  THE CONTRACTS of the document's at and times, of layer 3.
-/
import Derived.Test.YtgebdkbbdabomaaDoorShrp
import Derived.Test.YtgebdkbbdabomaaDoorChecked
import Derived.Test.YtgebdkbbdabomaaDoorCuts
import Derived.Deep.RegionHeld3
import Derived.StillTailTactics
import Derived.Deep.DeepCutAuto
namespace Go.Proofs.YtgebdkbbdabomaaDoor.Sha
open Go.RowKit
open Go.Proofs.YtgebdkbbdabomaaDoor.Kit
set_option linter.unusedVariables false

theorem u64_nm {x z : Nat} (h : z = m64 x) : IntKind.u64.wrap (x : Int) = (z : Int) := by
  rw [h, m64]; show (x : Int) % 18446744073709551616 = _; omega
theorem u64_mul {x y z : Nat} (h : z = m64 (x * y)) : IntKind.u64.wrap ((x : Int) * (y : Int)) = (z : Int) := by
  rw [← Int.natCast_mul]; exact u64_nm h
theorem u64_add {x y z : Nat} (h : z = m64 (x + y)) : IntKind.u64.wrap ((x : Int) + (y : Int)) = (z : Int) := by
  rw [← Int.natCast_add]; exact u64_nm h
theorem uv_at {L : List Nat} {p : Nat} (h : p < L.length) : (L.map uv)[p]? = some (uv (at0 L p)) := by
  rw [List.getElem?_map, List.getElem?_eq_getElem h, at0, List.getD_eq_getElem?_getD, List.getElem?_eq_getElem h]; rfl
theorem uv_one (L : List Nat) : ∀ u ∈ L.map uv, u.oneCell' = true := by
  intro u hu
  obtain ⟨b, _, rfl⟩ := List.mem_map.1 hu
  rfl
theorem below_own {w wr w' : World} {o : Obj} {base k c : Nat} {A : Option Addr} {e : TypeId} {xs : List Value} (hb : Below w.heap.size w wr) (ho : wr.ownsRow base e 1 (.slice A k c) k xs) (hB : w.heap.size ≤ base) (hg : (wr.alloc o).grownBy w' (Value.slice A k c).ownBlock) : Below w.heap.size w w' :=
  (below_alloc hb o).grown hg (by have := hb.size; simp; omega) (fun j hj => by have := (ho.lt j hj).1; omega)
theorem below_drew' {B : Nat} {w w' : World} (h : Below B w w') : Below B w w'.drew := h.trans (below_of_drew ⟨1, rfl⟩ _)
theorem info64 : (Tryd.prog.info? 43).map (fun i => (i.zero, i.size, i.bytes)) = some (some (.int .u64 0), 1, 8) := by kernel_rfl

set_option maxRecDepth 100000 in
theorem at_any3 (A : Option Addr) (n c : Nat) (L : List Nat) (k : Nat) (w : World) (h : Rd w w.heap.size A n c (L.map uv)) (hk : k ≤ 1000) :
    Calls Tryd.prog 68 #[.slice A n c, .int .i64 (k : Int)] w fun e w' => e = .returned (.int .u64 ((at0 L k : Nat) : Int)) ∧ w = w' := by
  have hl : L.length = n := by have := h.len; simpa using this
  have hr := h.room
  by_cases hlt : k < n
  · obtain ⟨b, o, rfl, hb, hc⟩ := h.2.2.2 (by omega)
    have hcell := hc k _ (uv_at (by omega))
    obtain ⟨x, hx⟩ : ∃ x, x = at0 L k := ⟨_, rfl⟩
    rw [← hx] at hcell ⊢
    unfold uv at hcell
    have t1 : decide ((k : Int) < (n : Int)) = true := by rw [decide_eq_true_iff]; omega
    clear h hc hx hl
    go_enter Tryd.func68, Tryd.ntmps68
    go_wp2_with fail
    go_ret
    exact ⟨rfl, by first | rfl | trivial⟩
  · have e0 : at0 L k = 0 := by rw [at0, List.getD_eq_getElem?_getD, List.getElem?_eq_none (by omega)]; rfl
    have t1 : decide ((k : Int) < (n : Int)) = false := by rw [decide_eq_false_iff_not]; omega
    rw [e0]
    clear h hl
    go_enter Tryd.func68, Tryd.ntmps68
    go_wp2_with fail
    go_ret
    exact ⟨rfl, by first | rfl | trivial⟩

set_option maxRecDepth 100000 in
set_option maxHeartbeats 2000000 in
theorem times_own (A A' : Option Addr) (n c n' c' : Nat) (X Y : List Nat) (w : World) (hx : Rd w w.heap.size A n c (X.map uv)) (hy : Rd w w.heap.size A' n' c' (Y.map uv)) (hn : 1 ≤ n) (hn2 : n ≤ 100) (hn' : 1 ≤ n') (hn3 : n' ≤ 100) :
    Calls Tryd.prog 67 #[.slice A n c, .slice A' n' c'] w fun e w' => ∃ A2 c2, e = .returned (.slice A2 (n + n') c2) ∧ w'.ownsRow w.heap.size 43 1 (.slice A2 (n + n') c2) (n + n') ((timesS X Y).map uv) ∧ Below w.heap.size w w' := by
  obtain ⟨i0, hi, hz0, hz1, hz2⟩ := info_parts info64
  have hlx : X.length = n := by have := hx.len; simpa using this
  have hly : Y.length = n' := by have := hy.len; simpa using this
  have hrx := hx.room
  have hry := hy.room
  obtain ⟨bx, ox, rfl, hbx, hcx⟩ := hx.2.2.2 (by omega)
  obtain ⟨by_, oy, rfl, hby, hcy⟩ := hy.2.2.2 (by omega)
  obtain ⟨N, hN⟩ : ∃ N, N = n + n' := ⟨_, rfl⟩
  rw [← hN]
  have HCX := Lib.hid (show ∀ W, Below w.heap.size w W → ∀ j, j < n → W.cell? ⟨bx, ox + j, none⟩ = some (.int .u64 ((at0 X j : Nat) : Int)) from fun W h j hj => (h.cell (p := ⟨bx, ox + j, none⟩) hbx).trans (hcx j _ (uv_at (by omega))))
  have HCY := Lib.hid (show ∀ W, Below w.heap.size w W → ∀ j, j < n' → W.cell? ⟨by_, oy + j, none⟩ = some (.int .u64 ((at0 Y j : Nat) : Int)) from fun W h j hj => (h.cell (p := ⟨by_, oy + j, none⟩) hby).trans (hcy j _ (uv_at (by omega))))
  have HT := Lib.hid (show timesS X Y = carr (convI X Y n) (N - 1) from by rw [timesS, hlx, hly, hN])
  have HLX := Lib.hid (And.intro hlx hly)
  have HN := Lib.hid hN
  have hNb : N ≤ 200 := by omega
  have hNc : 2 ≤ N := by omega
  clear hN
  clear hx hy hcx hcy hlx hly
  go_enter Tryd.func67, Tryd.ntmps67
  go_wp2_with fail
  go_loopw [5, 6] (fun s i wr => ∃ (k : Nat) (A : Option Addr) (c : Nat), k ≤ N ∧ i = .int .i64 (k : Int) ∧ s = .slice A k c ∧ wr.ownsRow w.heap.size 43 1 (.slice A k c) k ((List.replicate k 0).map uv) ∧ Below w.heap.size w wr) (fun _ i _ => N - (intOf i).toNat)
  case atStart => exact ⟨0, _, _, by omega, rfl, rfl, own_new w (Nat.le_refl _) rfl (by omega), below_of_new w _⟩
  case round =>
    obtain ⟨k, A, c, hk, rfl, rfl, hown, hbw⟩ := hrel
    by_cases hlt : k < N
    · have t1 : decide ((k : Int) < (n : Int) + (n' : Int)) = true := by rw [decide_eq_true_iff]; have := HN.out; omega
      have hrow : (List.replicate k 0).map uv ++ [uv 0] = (List.replicate (k + 1) 0).map uv := by rw [List.replicate_succ', List.map_append]; rfl
      have HROW := Lib.hid hrow
      have HOWN := Lib.hid hown
      have HBW := Lib.hid hbw
      clear hrow hown hbw
      go_wp2_with (at_builtin; refine wpList_app _ rfl (.tmp 20) (.tmp 21) 61 rfl w.heap.size 43 i0 _ 8 Tryd.underlying61 hi hz0 hz1 hz2 rfl _ k _ rfl (HOWN.out.alloc _) _ (some ⟨wr.heap.size, 0, none⟩) 1 1 [uv 0] rfl (rd_cells wr rfl rfl rfl (by omega)) (uv_one [0]) (by omega) (by omega) (by have := HBW.out.size; simp; omega) ?_; intro A2 c2 w3 hown3 hg3 hat3)
      have hown3' := hown3
      rw [HROW.out] at hown3'
      have hb3 := below_own HBW.out HOWN.out (Nat.le_refl _) hg3
      clear hown3 hg3 hat3
      go_wp2_with fail
      exact ⟨⟨k + 1, A2, c2, by omega, by go_num, rfl, hown3', hb3⟩, by simp [intOf]; omega⟩
    · obtain rfl : k = N := by omega
      have t1 : decide ((k : Int) < (n : Int) + (n' : Int)) = false := by rw [decide_eq_false_iff_not]; have := HN.out; omega
      obtain ⟨g, rfl⟩ : ∃ g, A = some ⟨g, 0, none⟩ := by
        rcases own_cases hown with ⟨_, _, h⟩ | h
        · omega
        · exact h
      have hrow : List.replicate k 0 = convI X Y 0 := by rw [convI, HLX.out.1, HLX.out.2, HN.out]
      rw [hrow] at hown
      have HOWN := Lib.hid hown
      have HBW := Lib.hid hbw
      clear hown hbw hrow
      go_wp2_with fail
      go_loopw [7, 8] (fun i _ wx => ∃ i' : Nat, i' ≤ n ∧ i = .int .i64 (i' : Int) ∧ wx.ownsRow w.heap.size 43 1 (.slice (some ⟨g, 0, none⟩) k c) k ((convI X Y i').map uv) ∧ Below w.heap.size w wx) (fun i _ _ => n - (intOf i).toNat)
      case atStart => exact ⟨0, by omega, rfl, HOWN.out, HBW.out⟩
      case round =>
        clear HOWN HBW
        obtain ⟨i, hi', rfl, hown, hbw⟩ := hrel
        by_cases hlti : i < n
        · have t2 : decide ((i : Int) < (n : Int)) = true := by rw [decide_eq_true_iff]; omega
          have HOWN := Lib.hid hown
          have HBW := Lib.hid hbw
          clear hown hbw
          go_wp2_with fail
          go_loopw [8] (fun j wx => ∃ j' : Nat, j' ≤ n' ∧ j = .int .i64 (j' : Int) ∧ wx.ownsRow w.heap.size 43 1 (.slice (some ⟨g, 0, none⟩) k c) k ((convJ X Y i (convI X Y i) j').map uv) ∧ Below w.heap.size w wx) (fun j _ => n' - (intOf j).toNat)
          case atStart => exact ⟨0, by omega, rfl, by rw [convJ]; exact HOWN.out, HBW.out⟩
          case round =>
            clear HOWN HBW
            obtain ⟨j, hj, rfl, hown, hbw⟩ := hrel
            by_cases hltj : j < n'
            · have t3 : decide ((j : Int) < (n' : Int)) = true := by rw [decide_eq_true_iff]; omega
              obtain ⟨L, hL⟩ : ∃ L, L = convJ X Y i (convI X Y i) j := ⟨_, rfl⟩
              have hLl : L.length = k := by rw [hL, convJ_len, convI_len, HLX.out.1, HLX.out.2, HN.out]
              obtain ⟨p, hp⟩ : ∃ p, p = i + j := ⟨_, rfl⟩
              obtain ⟨x, hx⟩ : ∃ x, x = at0 X i := ⟨_, rfl⟩
              obtain ⟨y, hy⟩ : ∃ y, y = at0 Y j := ⟨_, rfl⟩
              obtain ⟨a, ha⟩ : ∃ a, a = at0 L p := ⟨_, rfl⟩
              obtain ⟨z, hz⟩ : ∃ z, z = m64 (x * y) := ⟨_, rfl⟩
              obtain ⟨v, hv⟩ : ∃ v, v = m64 (a + z) := ⟨_, rfl⟩
              have e1 : IntKind.i64.wrap ((i : Int) + (j : Int)) = (p : Int) := by rw [IntKind.wrap_i64]; omega
              have e2 := u64_mul hz
              have e3 := u64_add hv
              have l1 : (p : Int) < (k : Int) := by have := HN.out; omega
              have l2 : (i : Int) < (n : Int) := by omega
              have l3 : (j : Int) < (n' : Int) := by omega
              rw [← hL] at hown
              have c1 := (own_cells hown).1 p _ (uv_at (by have := HN.out; omega))
              rw [← ha] at c1
              unfold uv at c1
              have c2 := HCX.out wr hbw i hlti
              rw [← hx] at c2
              have c3 := HCY.out wr hbw j hltj
              rw [← hy] at c3
              have f1 := hown.frozenAt p
              have hst := (hown.stored p (uv v)).1
              have hse : (L.map uv).set p (uv v) = (convJ X Y i (convI X Y i) (j + 1)).map uv := by
                rw [convJ, ← hL, ← hp, ← hx, ← hy, ← hz, ← ha, ← hv, List.map_set]
              rw [hse] at hst
              have hbs : Below w.heap.size w (wr.setCell ⟨g, p, none⟩ (uv v)) := hbw.setCell (hown.lt g rfl).1 _
              unfold uv at hst hbs
              have HST := Lib.hid hst
              have HBS := Lib.hid hbs
              clear hL hLl hp hx hy ha hz hv hst hse hbs hown hbw
              go_wp2_with fail
              refine wp_region_still_tail 21 (by kernel_rfl) (by kernel_rfl) ?_
              simp only [List.take_succ_cons, List.take_zero, List.drop_succ_cons, List.drop_zero]
              repeat still_step
              refine wpStill_nil ?_
              go_wp2_with fail
              exact ⟨⟨j + 1, by omega, by go_num, HST.out, below_drew' HBS.out⟩, by simp [intOf]; omega⟩
            · obtain rfl : j = n' := by omega
              have hcv : convJ X Y i (convI X Y i) j = convI X Y (i + 1) := by rw [convI, HLX.out.2]
              rw [hcv] at hown
              have t3 : decide ((j : Int) < (j : Int)) = false := by simp
              have HOWN := Lib.hid hown
              have HBW := Lib.hid hbw
              clear hown hbw hcv
              go_wp2_with fail
              exact ⟨⟨i + 1, by omega, by go_num, HOWN.out, HBW.out⟩, by simp [intOf]; omega⟩
        · obtain rfl : i = n := by omega
          have t2 : decide ((i : Int) < (i : Int)) = false := by simp
          obtain ⟨C, hC⟩ : ∃ C, C = convI X Y i := ⟨_, rfl⟩
          have hCl : C.length = k := by rw [hC, convI_len, HLX.out.1, HLX.out.2, HN.out]
          rw [← hC] at hown
          have HC := Lib.hid (And.intro hC hCl)
          have HOWN := Lib.hid hown
          have HBW := Lib.hid hbw
          clear hown hbw hC hCl
          go_wp2_with fail
          go_loopw [9] (fun q wx => ∃ q' : Nat, q' + 1 ≤ k ∧ q = .int .i64 (q' : Int) ∧ wx.ownsRow w.heap.size 43 1 (.slice (some ⟨g, 0, none⟩) k c) k ((carr C q').map uv) ∧ Below w.heap.size w wx) (fun q _ => k - (intOf q).toNat)
          case atStart => exact ⟨0, by omega, rfl, by rw [carr]; exact HOWN.out, HBW.out⟩
          case round =>
            clear HOWN HBW
            obtain ⟨q, hq, rfl, hown, hbw⟩ := hrel
            by_cases hltq : q + 1 < k
            · have t4 : decide ((q : Int) + 1 < (k : Int)) = true := by rw [decide_eq_true_iff]; omega
              obtain ⟨L, hL⟩ : ∃ L, L = carr C q := ⟨_, rfl⟩
              have hLl : L.length = k := by rw [hL, carr_len, HC.out.2]
              obtain ⟨p, hp⟩ : ∃ p, p = q + 1 := ⟨_, rfl⟩
              obtain ⟨x, hx⟩ : ∃ x, x = at0 L q := ⟨_, rfl⟩
              obtain ⟨a, ha⟩ : ∃ a, a = at0 L p := ⟨_, rfl⟩
              obtain ⟨z, hz⟩ : ∃ z, z = x / 262144 := ⟨_, rfl⟩
              obtain ⟨v, hv⟩ : ∃ v, v = m64 (a + z) := ⟨_, rfl⟩
              have e1 : IntKind.i64.wrap ((q : Int) + 1) = (p : Int) := by rw [IntKind.wrap_i64]; omega
              have e2 : (x : Int) / 262144 = (z : Int) := by rw [hz]; omega
              have e2' : (x : Int).tdiv 262144 = (z : Int) := by rw [hz, Int.tdiv_eq_ediv_of_nonneg (by omega)]; omega
              have e3 : IntKind.u64.wrap ((a : Int) + IntKind.u64.wrap (z : Int)) = (v : Int) := by rw [hv, m64]; show ((a : Int) + (z : Int) % 18446744073709551616) % 18446744073709551616 = _; omega
              have l1 : (p : Int) < (k : Int) := by omega
              have l2 : (q : Int) < (k : Int) := by omega
              rw [← hL] at hown
              have c1 := (own_cells hown).1 p _ (uv_at (by omega))
              rw [← ha] at c1
              have c2 := (own_cells hown).1 q _ (uv_at (by omega))
              rw [← hx] at c2
              unfold uv at c1 c2
              have f1 := hown.frozenAt p
              have hst := (hown.stored p (uv v)).1
              have hse : (L.map uv).set p (uv v) = (stepA L q).map uv := by
                rw [stepA, ← hp, ← hx, ← ha, ← hz, ← hv, List.map_set]
              rw [hse] at hst
              have hbs : Below w.heap.size w (wr.setCell ⟨g, p, none⟩ (uv v)) := hbw.setCell (hown.lt g rfl).1 _
              obtain ⟨W1, hW1⟩ : ∃ W, W = (wr.setCell ⟨g, p, none⟩ (uv v)).drew := ⟨_, rfl⟩
              have hst1 : W1.ownsRow w.heap.size 43 1 (.slice (some ⟨g, 0, none⟩) k c) k ((stepA L q).map uv) := by rw [hW1]; exact hst
              have hbs1 : Below w.heap.size w W1 := by rw [hW1]; exact below_drew' hbs
              unfold uv at hW1
              obtain ⟨M, hM⟩ : ∃ M, M = stepA L q := ⟨_, rfl⟩
              have hMl : M.length = k := by rw [hM, stepA, List.length_set, hLl]
              have hnx : carr C (q + 1) = stepB M q := by rw [carr, ← hL, ← hM]
              rw [← hM] at hst1
              have HNX := Lib.hid (And.intro hnx hMl)
              have HST := Lib.hid hst1
              have HBS := Lib.hid hbs1
              have HW1 := Lib.hid hW1
              have HP := Lib.hid hp
              clear hL hLl hp hx ha hz hv hst hse hbs hown hbw hW1 hst1 hbs1 hM hMl hnx
              go_wp2_with fail
              refine wp_region_still_tail 15 (by kernel_rfl) (by kernel_rfl) ?_
              simp only [List.take_succ_cons, List.take_zero, List.drop_succ_cons, List.drop_zero]
              repeat still_step
              refine wpStill_nil ?_
              go_upto_region 17 with fail
              change Code.wp _ _ _ _ (wr.setCell ⟨g, p, none⟩ (.int .u64 (v : Int))).drew
              rw [← HW1.out]
              clear c1 c2 f1 e1 e2 e2' e3
              obtain ⟨y, hy⟩ : ∃ y, y = at0 M q := ⟨_, rfl⟩
              obtain ⟨u, hu⟩ : ∃ u, u = y % 262144 := ⟨_, rfl⟩
              have e4 : (y : Int).tmod 262144 = (u : Int) := by rw [hu, Int.tmod_eq_emod_of_nonneg (by omega)]; omega
              have c2 := (own_cells HST.out).1 q _ (uv_at (by rw [HNX.out.2]; omega))
              rw [← hy] at c2
              unfold uv at c2
              have f1 := HST.out.frozenAt q
              have hst := (HST.out.stored q (uv u)).1
              have hse : (M.map uv).set q (uv u) = (carr C (q + 1)).map uv := by rw [HNX.out.1, stepB, ← hy, ← hu, List.map_set]
              rw [hse] at hst
              have hbs : Below w.heap.size w (W1.setCell ⟨g, q, none⟩ (uv u)) := HBS.out.setCell (HST.out.lt g rfl).1 _
              unfold uv at hst hbs
              have HST2 := Lib.hid hst
              have HBS2 := Lib.hid hbs
              clear hy hu hst hse hbs
              go_wp2_with fail
              exact ⟨⟨q + 1, by omega, by go_num, HST2.out, HBS2.out⟩, by simp [intOf]; omega⟩
            · obtain rfl : k = q + 1 := by omega
              have t4 : decide ((q : Int) + 1 < ((q + 1 : Nat) : Int)) = false := by rw [decide_eq_false_iff_not]; omega
              have hres : carr C q = timesS X Y := by rw [HT.out, HC.out.1]; rfl
              rw [hres] at hown
              have HOWN := Lib.hid hown
              have HBW := Lib.hid hbw
              clear hown hbw hres
              go_wp2_with fail
              go_ret
              exact ⟨_, _, rfl, HOWN.out, HBW.out⟩
end Go.Proofs.YtgebdkbbdabomaaDoor.Sha
