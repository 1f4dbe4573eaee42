/-
  cache: slices.DeleteFunc.
-/
import Derived.Test.YtpdbdlaoeidflaaCho
import Derived.Laws.Slices
import Derived.Laws.IdiomCopy
namespace Go.Proofs.Ytpdbdlaoeidflaa.Ch
open Go.RowKit
open Go.Proofs.Ytpdbdlaoeidflaa.Kit
set_option linter.unusedVariables false

theorem cellsI_set (x : It) : ∀ (l : List It) (i : Nat), (((cellsI l).set (i * 3) (.string x.cl)).set (i * 3 + 1) (.int .i64 x.tm)).set (i * 3 + 2) (.int .i64 x.sq) = cellsI (l.set i x)
  | [], i => by simp [cellsI]
  | y :: r, 0 => rfl
  | y :: r, i + 1 => by
    have h := cellsI_set x r i
    rw [show cellsI (y :: r) = .string y.cl :: .int .i64 y.tm :: .int .i64 y.sq :: cellsI r from rfl, show (i + 1) * 3 = i * 3 + 1 + 1 + 1 from by omega, show i * 3 + 1 + 1 + 1 + 1 = (i * 3 + 1) + 1 + 1 + 1 from rfl, show i * 3 + 1 + 1 + 1 + 2 = (i * 3 + 2) + 1 + 1 + 1 from rfl]
    simp only [List.set_cons_succ]
    rw [h]
    rfl
theorem own_setIt {w : World} {base n cap g : Nat} {e : TypeId} {l : List It} (h : w.ownsRow base e 3 (.slice (some ⟨g, 0, none⟩) n cap) n (cellsI l)) (i : Nat) (x : It) :
    (((w.setCell ⟨g, i * 3, none⟩ (.string x.cl)).setCell ⟨g, i * 3 + 1, none⟩ (.int .i64 x.tm)).setCell ⟨g, i * 3 + 2, none⟩ (.int .i64 x.sq)).ownsRow base e 3 (.slice (some ⟨g, 0, none⟩) n cap) n (cellsI (l.set i x)) ∧
    w.grownBy (((w.setCell ⟨g, i * 3, none⟩ (.string x.cl)).setCell ⟨g, i * 3 + 1, none⟩ (.int .i64 x.tm)).setCell ⟨g, i * 3 + 2, none⟩ (.int .i64 x.sq)) (some g) := by
  have h1 := h.stored (i * 3) (.string x.cl)
  have h2 := h1.1.stored (i * 3 + 1) (.int .i64 x.tm)
  have h3 := h2.1.stored (i * 3 + 2) (.int .i64 x.sq)
  rw [cellsI_set] at h3
  exact ⟨h3.1, grown_trans (grown_trans h1.2 h2.2) h3.2⟩
theorem own_past {base n cap g size : Nat} {e : TypeId} {xs : List Value} (vs : List Value) : ∀ (w : World) (o : Nat), xs.length ≤ o → w.ownsRow base e size (.slice (some ⟨g, 0, none⟩) n cap) n xs →
    (w.setCells g o vs).ownsRow base e size (.slice (some ⟨g, 0, none⟩) n cap) n xs ∧ w.grownBy (w.setCells g o vs) (some g) := by
  induction vs with
  | nil => intro w o _ h; exact ⟨h, World.grownBy.refl _ _⟩
  | cons v r ih =>
    intro w o ho h
    have h1 := h.stored o v
    rw [List.set_eq_of_length_le ho] at h1
    have h2 := ih _ (o + 1) (by omega) h1.1
    exact ⟨h2.1, grown_trans h1.2 h2.2⟩
theorem own_front {w : World} {base n k cap g size : Nat} {e : TypeId} {xs : List Value} (h : w.ownsRow base e size (.slice (some ⟨g, 0, none⟩) n cap) n xs) (hk : k ≤ n) :
    w.ownsRow base e size (.slice (some ⟨g, 0, none⟩) k cap) k (xs.take (k * size)) := by
  have hl := h.1
  have hm : k * size ≤ n * size := Nat.mul_le_mul_right _ hk
  refine ⟨by rw [List.length_take]; omega, ?_⟩
  rcases h.2 with ⟨h', _⟩ | ⟨g', cap', cur, h', hb, hg, hnc, hcm, hcs, htake⟩
  · simp at h'
  · simp only [Value.slice.injEq, Option.some.injEq, Addr.mk.injEq, and_true, true_and] at h'
    obtain ⟨rfl, rfl⟩ := h'
    refine .inr ⟨g, cap, cur, rfl, hb, hg, by omega, hcm, hcs, ?_⟩
    rw [← htake, List.take_take, Nat.min_eq_left hm]
theorem cellsI_take : ∀ (l : List It) (k : Nat), (cellsI l).take (k * 3) = cellsI (l.take k)
  | [], k => by simp [cellsI]
  | y :: r, 0 => by simp [cellsI]
  | y :: r, k + 1 => by
    have h := cellsI_take r k
    rw [show cellsI (y :: r) = .string y.cl :: .int .i64 y.tm :: .int .i64 y.sq :: cellsI r from rfl, show (k + 1) * 3 = k * 3 + 1 + 1 + 1 from by omega]
    simp only [List.take_succ_cons]
    rw [h]
    rfl
theorem cells_there {w : World} {base n cap g : Nat} {e : TypeId} {l : List It} (h : w.ownsRow base e 3 (.slice (some ⟨g, 0, none⟩) n cap) n (cellsI l)) {j : Nat} (hj : j < n * 3) : (w.cell? ⟨g, j, none⟩).isSome = true := by
  rw [h.cellAt j hj, List.getElem?_eq_getElem (by rw [h.1]; exact hj)]
  rfl
theorem zero_it (w : World) : (zeroValue 43).run Try.prog w = .ok (.agg #[.string ⟨#[]⟩, .int .i64 0, .int .i64 0]) w := by kernel_rfl
theorem run_clearI (w : World) (ty : TypeId) (b o n c : Nat) (hn : 0 < n) (hc : ∀ j, j < n * 3 → (w.cell? ⟨b, o + j, none⟩).isSome = true) (hf : ∀ j, w.frozen? ⟨b, o + j, none⟩ = false) :
    ∃ vs, (Builtin.clear_ #[39] ty #[.slice (some ⟨b, o, none⟩) n c]).run Try.prog w = .ok (.tuple #[]) (w.setCells b o vs) := by
  have hz : ∀ u ∈ (Builtin.zeroCells #[.string ⟨#[]⟩, .int .i64 0, .int .i64 0] n).toList, u.oneCell' = true := by
    intro u hu
    simp only [Builtin.zeroCells, Array.toList_map, List.mem_map] at hu
    obtain ⟨i, _, rfl⟩ := hu
    have h3 : i % 3 < 3 := Nat.mod_lt _ (by omega)
    show (#[Value.string ⟨#[]⟩, .int .i64 0, .int .i64 0][i % 3]!).oneCell' = true
    obtain h | h | h : i % 3 = 0 ∨ i % 3 = 1 ∨ i % 3 = 2 := by omega
    all_goals rw [h]; rfl
  have hlen : (Builtin.zeroCells #[Value.string ⟨#[]⟩, .int .i64 0, .int .i64 0] n).toList.length = n * 3 := by simp [Builtin.zeroCells]
  have hst := run_storeCells_cells (P := Try.prog) b o _ 0 w (by rw [hlen]; simpa using hc) (by rw [hlen]; intro j _; simpa using hf j) hz
  simp only [Nat.add_zero] at hst
  obtain ⟨m, rfl⟩ : ∃ m, n = m + 1 := ⟨n - 1, by omega⟩
  have hst' : (storeCells ⟨b, o, none⟩ (Builtin.zeroCells (Value.agg #[Value.string ⟨#[]⟩, .int .i64 0, .int .i64 0]).cells (m + 1)).toList).run Try.prog w = .ok () (w.setCells b o (Builtin.zeroCells #[Value.string ⟨#[]⟩, .int .i64 0, .int .i64 0] (m + 1)).toList) := hst
  refine ⟨(Builtin.zeroCells #[Value.string ⟨#[]⟩, .int .i64 0, .int .i64 0] (m + 1)).toList, ?_⟩
  simp only [Builtin.clear_, Sem.run_bind, run_underlying Try.underlying39, Result.andThen_ok, zero_it]
  simp [hst']
theorem keep_none {now : Int} {l : List It} (h : ∀ (j : Nat) (y : It), l[j]? = some y → old now y = false) : keepS now l = l := by
  refine List.filter_eq_self.2 fun y hy => ?_
  obtain ⟨j, hj, rfl⟩ := List.getElem_of_mem hy
  rw [h j _ (List.getElem?_eq_getElem hj)]
  rfl
theorem keep_take {now : Int} {l : List It} {k : Nat} (hk : k ≤ l.length) (h : ∀ (j : Nat) (y : It), j < k → l[j]? = some y → old now y = false) : keepS now (l.take k) = l.take k := by
  refine keep_none fun j y hj => ?_
  have hjk := (List.getElem?_eq_some_iff.1 hj).1
  rw [List.length_take] at hjk
  rw [List.getElem?_take_of_lt (by omega)] at hj
  exact h j y (by omega) hj
theorem keep_next {now : Int} {l : List It} {j : Nat} {y : It} (h : l[j]? = some y) : keepS now (l.take (j + 1)) = keepS now (l.take j) ++ if old now y = true then [] else [y] := by
  obtain ⟨hj, rfl⟩ := List.getElem?_eq_some_iff.1 h
  rw [List.take_succ_eq_append_getElem hj, keepS, keepS, List.filter_append]
  congr 1
  rcases ho : old now l[j] with _ | _ <;> simp [ho]
theorem set_next {zs : List It} {i : Nat} {y : It} (hi : i < zs.length) : (zs.set i y).take (i + 1) = zs.take i ++ [y] := by
  rw [List.take_succ_eq_append_getElem (by rw [List.length_set]; exact hi), List.take_set_of_le (Nat.le_refl _), List.getElem_set_self]
theorem set_drop {zs : List It} {i j : Nat} {y : It} (h : i < j) : (zs.set i y).drop j = zs.drop j := List.drop_set_of_lt h
theorem own_onN {w w' : World} {base n s : Nat} {v : Value} {e : TypeId} {xs : List Value} (h : w.ownsRow base e s v n xs) (hb : Below w.heap.size w w') : w'.ownsRow base e s v n xs :=
  h.kept (row := none) ⟨hb.os, hb.tape, hb.output, hb.size, fun k hk _ => hb.block k hk⟩ (by rcases hv : v.ownBlock with _ | g <;> simp)
theorem el3 : ∀ w, (sizeOf (Try.prog.elem 39)).run Try.prog w = .ok 3 w := fun w => by kernel_rfl
theorem undI : Try.prog.underlying 39 = some (.slice (Try.prog.elem 39)) := by kernel_rfl
theorem cut_lo (g n c k : Nat) (hk : k < n) (hnc : n ≤ c) (w : World) : (Instr.slice 39 (.slice (some ⟨g, 0, none⟩) n c) (some (.int .i64 (k : Int))) none none).run Try.prog w = .ok (.slice (some ⟨g, k * 3, none⟩) (n - k) (c - k)) w := by
  rw [run_slice_l w 39 _ n c undI .i64 (k : Int) (by omega) (by omega), el3]
  simp [sliced, add_off, show ¬ c = k from by omega]
theorem cut_hi (g n c k : Nat) (hk : k ≤ n) (hnc : n ≤ c) (w : World) : (Instr.slice 39 (.slice (some ⟨g, 0, none⟩) n c) none (some (.int .i64 (k : Int))) none).run Try.prog w = .ok (.slice (some ⟨g, 0, none⟩) k c) w := by
  rw [run_slice_h w 39 _ n c undI .i64 (k : Int) (by omega) (by omega), el3]
  simp [sliced, Addr.add]
set_option maxRecDepth 100000 in
set_option maxHeartbeats 2000000 in
theorem del_any {w : World} {base p : Nat} {A : Option Addr} {n c : Nat} {l : List It} {now : Int} (h : w.ownsRow base 43 3 (.slice A n c) n (cellsI l)) (hc6 : n ≤ 1000000) (hp : w.cell? ⟨p, 0, none⟩ = some (.int .i64 now)) (hpn : (Value.slice A n c).ownBlock ≠ some p) (h1 : 0 ≤ now ∧ now ≤ 1099511627776) (h2 : okT l) :
    Calls Try.prog 15 #[.slice A n c, .func (Fn.func 16) #[] #[.pointer (some ⟨p, 0, none⟩)]] w fun e w' => e = .returned (.slice A (keepS now l).length c) ∧
      w'.ownsRow base 43 3 (.slice A (keepS now l).length c) (keepS now l).length (cellsI (keepS now l)) ∧ w.grownBy w' (Value.slice A n c).ownBlock := by
  have hr := RdI.of_own h hc6
  have hln := hr.1
  have hnc := hr.2.1
  have hc9 := hr.2.2.1
  have hi := idxf_any hr hp h1 h2
  have hlp := block_lt_of_cell hp
  have HOWN := Lib.hid h
  have HP := Lib.hid hp
  have HO := Lib.hid h2
  have HPN := Lib.hid hpn
  obtain ⟨K, hK⟩ : ∃ z, z = keepS now l := ⟨_, rfl⟩
  rw [← hK]
  have HK := Lib.hid hK
  have HLN := Lib.hid hln
  clear h hp h2 hpn hr hK hln
  go_enter Try.func15, Try.ntmps15
  go_wp2_with fail
  refine hi.mono ?_
  rintro e w1 ⟨hb1, hcase⟩
  have HOWN1 := Lib.hid (own_onN HOWN.out hb1)
  have HP1 := Lib.hid ((hb1.cell (p := ⟨p, 0, none⟩) hlp).trans HP.out)
  have HB1 := Lib.hid hb1
  have hsz1 := hb1.size
  clear hb1
  rcases hcase with ⟨k, y0, hk, hy0, hold, hno, rfl⟩ | ⟨hno, rfl⟩
  · have hkne : ((k : Int) == -1) = false := beq_eq_false_iff_ne.2 (by omega)
    obtain ⟨g, rfl⟩ : ∃ g, A = some ⟨g, 0, none⟩ := by
      rcases HOWN.out.2 with ⟨h1, h2⟩ | ⟨g, cap, cur, hv, _⟩
      · omega
      · cases hv; exact ⟨g, rfl⟩
    have HY0 := Lib.hid hy0
    have HOLD := Lib.hid hold
    have HNO := Lib.hid hno
    have HNE := Lib.hid (show g ≠ p from fun e => HPN.out (by rw [e]; rfl))
    clear hy0 hold hno
    go_wp2_with fail
    go_loopw [5, 6, 7] (fun vi vj _ wr => ∃ (i j : Nat) (zs : List It), vi = .int .i64 i ∧ vj = .int .i64 j ∧ i < j ∧ j ≤ n ∧ zs.length = n ∧ zs.take i = keepS now (l.take j) ∧ zs.drop j = l.drop j ∧
      wr.ownsRow base 43 3 (.slice (some ⟨g, 0, none⟩) n c) n (cellsI zs) ∧ w.grownBy wr (some g)) (fun _ vj _ _ => n - (intOf vj).toNat)
    case atStart =>
      refine ⟨k, k + 1, l, rfl, by go_num, by omega, by omega, HLN.out, ?_, rfl, HOWN1.out, ⟨HB1.out.os, HB1.out.tape, HB1.out.output, HB1.out.size, fun b hb _ => HB1.out.block b hb⟩⟩
      rw [keep_next HY0.out, HOLD.out, if_pos rfl, List.append_nil, keep_take (by rw [HLN.out]; omega) HNO.out]
    case round =>
      obtain ⟨i, j, zs, rfl, rfl, hij, hjn, hzl, hzt, hzd, hown, hgr⟩ := hrel
      have HG := Lib.hid hgr
      have HW := Lib.hid hown
      have HZT := Lib.hid hzt
      have HZD := Lib.hid hzd
      have HZL := Lib.hid hzl
      clear hgr hown hzt hzd hzl
      by_cases hlt : j < n
      · obtain ⟨b, y, hbe, hb, hly, c0, c1, c2⟩ := (RdI.of_own HW.out hc6).get j hlt
        obtain rfl : g = b := by cases hbe; rfl
        have hlj : l[j]? = some y := by
          have e := congrArg (fun z => z[0]?) HZD.out
          simp only [List.getElem?_drop, Nat.add_zero] at e
          rw [← e]; exact hly
        have hbA : Below wr.heap.size wr (wr.alloc (.cells y.arr 43)) := below_of_new _ _
        have hA := heap_alloc_new wr (.cells y.arr 43)
        have hpr : wr.cell? ⟨p, 0, none⟩ = some (.int .i64 now) := HG.out.cell HP.out (fun e => HNE.out (Option.some.inj e).symm)
        have hlr := block_lt_of_cell hpr
        have hcl := clos_any y ((hbA.cell (p := ⟨p, 0, none⟩) hlr).trans hpr) h1 (HO.out y (List.mem_of_getElem? hlj))
        simp only [It.arr] at hcl
        have HA := Lib.hid hA
        have HBA := Lib.hid hbA
        have HLJ := Lib.hid hlj
        have HLY := Lib.hid hly
        clear hA hbA hpr hlr hlj hly
        rcases hq : old now y with _ | _
        · rw [hq] at hcl
          have HQ := Lib.hid hq
          clear hq
          go_wp2_with fail
          refine hcl.mono ?_
          rintro e w2 ⟨rfl, hb2⟩
          have hbw2 := below_seq HBA.out hb2
          have hg2 := (hb2.block wr.heap.size (by simp)).trans HA.out
          have e0 : w2.cell? ⟨wr.heap.size, 0, none⟩ = some (.string y.cl) := by rw [cell_of_row _ _ _ _ _ _ hg2]; rfl
          have e1 : w2.cell? ⟨wr.heap.size, 1, none⟩ = some (.int .i64 y.tm) := by rw [cell_of_row _ _ _ _ _ _ hg2]; rfl
          have e2 : w2.cell? ⟨wr.heap.size, 2, none⟩ = some (.int .i64 y.sq) := by rw [cell_of_row _ _ _ _ _ _ hg2]; rfl
          have HW2 := Lib.hid (own_onN HW.out hbw2)
          obtain ⟨b, z, hbe, hb, hlz, d0, d1, d2⟩ := (RdI.of_own HW2.out hc6).get i (by omega)
          obtain rfl : g = b := by cases hbe; rfl
          have f0 := HW2.out.frozenAt (i * 3)
          have f1 := HW2.out.frozenAt (i * 3 + 1)
          have f2 := HW2.out.frozenAt (i * 3 + 2)
          have HS := Lib.hid (own_setIt HW2.out i y)
          have HG2 := Lib.hid (show w.grownBy w2 (some g) from grown_trans HG.out ⟨hbw2.os, hbw2.tape, hbw2.output, hbw2.size, fun b hb _ => hbw2.block b hb⟩)
          clear hb2 hbw2 hg2 hlz hb hbe
          go_wp2
          go_roundw
          case rel =>
            refine ⟨i + 1, j + 1, zs.set i y, by go_num, by go_num, by omega, by omega, by rw [List.length_set]; exact HZL.out, ?_, ?_, HS.out.1, grown_trans HG2.out HS.out.2⟩
            · rw [set_next (by rw [HZL.out]; omega), HZT.out, keep_next HLJ.out, HQ.out, if_neg (by simp)]
            · rw [set_drop (by omega), ← List.drop_drop, ← List.drop_drop, HZD.out]
          case measure => simp [intOf]; omega
        · rw [hq] at hcl
          have HQ := Lib.hid hq
          clear hq
          go_wp2_with fail
          refine hcl.mono ?_
          rintro e w2 ⟨rfl, hb2⟩
          have hbw2 := below_seq HBA.out hb2
          have HW2 := Lib.hid (own_onN HW.out hbw2)
          have HG2 := Lib.hid (show w.grownBy w2 (some g) from grown_trans HG.out ⟨hbw2.os, hbw2.tape, hbw2.output, hbw2.size, fun b hb _ => hbw2.block b hb⟩)
          clear hb2 hbw2
          go_wp2
          go_roundw
          case rel =>
            refine ⟨i, j + 1, zs, rfl, by go_num, by omega, by omega, HZL.out, ?_, ?_, HW2.out, HG2.out⟩
            · rw [keep_next HLJ.out, HQ.out, if_pos rfl, List.append_nil]; exact HZT.out
            · rw [← List.drop_drop, ← List.drop_drop, HZD.out]
          case measure => simp [intOf]; omega
      · obtain rfl : j = n := by omega
        have hi3 : i < j := hij
        have hz := HW.out
        obtain ⟨vs, hvs⟩ : ∃ vs, ∀ ty, (Builtin.clear_ #[39] ty #[.slice (some ⟨g, i * 3, none⟩) (j - i) (c - i)]).run Try.prog wr = .ok (.tuple #[]) (wr.setCells g (i * 3) vs) := by
          obtain ⟨vs, h⟩ := run_clearI wr 0 g (i * 3) (j - i) (c - i) (by omega) (fun q hq => cells_there HW.out (by omega)) (fun q => HW.out.frozenAt _)
          exact ⟨vs, fun ty => by rw [← h]; rfl⟩
        have hc1 := cut_lo g j c i hij hnc
        have hc2 := cut_hi g j c i (by omega) hnc
        have hfr := own_front HW.out (k := i) (by omega)
        rw [cellsI_take, HZT.out, ← HLN.out, List.take_length, ← HK.out] at hfr
        have hil : i = K.length := by
          have e := congrArg List.length HZT.out
          rw [List.length_take, HZL.out, ← HLN.out, List.take_length, ← HK.out] at e
          rw [HLN.out] at e
          omega
        have hpa := own_past vs wr (i * 3) (by rw [cellsI_len, ← hil]; exact Nat.le_refl _) hfr
        have HPA := Lib.hid hpa
        have HIL := Lib.hid hil
        clear hz hfr hpa hil
        go_wp2_with fail
        go_ret
        exact ⟨by first | rfl | exact congrArg _ (slice_eq rfl HIL.out rfl) | (rw [← HIL.out]; rfl), by rw [← HIL.out]; exact HPA.out.1, grown_trans HG.out HPA.out.2⟩
  · have hkk : K = l := by rw [HK.out, keep_none hno]
    have HKK := Lib.hid hkk
    clear hkk hno
    go_wp2
    go_ret
    have hkl : K.length = n := by rw [HKK.out]; exact HLN.out
    exact ⟨by rw [hkl]; rfl, by rw [hkl, HKK.out]; exact HOWN1.out, ⟨HB1.out.os, HB1.out.tape, HB1.out.output, HB1.out.size, fun b hb _ => HB1.out.block b hb⟩⟩
end Go.Proofs.Ytpdbdlaoeidflaa.Ch
