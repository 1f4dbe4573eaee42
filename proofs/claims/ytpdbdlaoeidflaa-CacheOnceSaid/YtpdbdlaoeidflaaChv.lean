/-
  cache: the document's Show.
-/
import Derived.Test.YtpdbdlaoeidflaaCht
import Derived.Deep.AppendLies
import Derived.BigQuiet
namespace Go.Proofs.Ytpdbdlaoeidflaa.Ch
open Go.RowKit
open Go.Proofs.Ytpdbdlaoeidflaa.Kit
set_option linter.unusedVariables false

theorem eqSh (x y : It) (w : World) : (binOp .eql 32 (.agg x.arr) (.agg y.arr)).run Try.prog w = .ok (.bool (It.eq x y)) w := by
  have u3 := Try.underlying2
  have a3 := Try.isAgg2
  have z3 := Try.sizeOf2
  have u9 := Try.underlying9
  have a9 := Try.isAgg9
  have z9 := Try.sizeOf9
  have hS : Try.prog.underlying 32 = some (.struct (Try.prog.fieldsOf 32)) := by kernel_rfl
  have hp : Try.prog.stoodInHeld 32 = false := by kernel_rfl
  simp only [It.arr]
  rw [run_eql_struct, show (10000 : Nat) = 9999 + 1 from rfl, run_equalIn_agg w 9999 32 _ _ hS hp]
  simp only [Program.fieldsOf, Try.underlying32]
  go_simp
  simp only [It.eq]
  by_cases h1 : x.cl.toList = y.cl.toList <;> by_cases h2 : x.tm = y.tm <;> by_cases h3 : x.sq = y.sq <;> simp [h1, h2, h3]
theorem guardSh : GuardAt Try.prog 32 (fun x : It => .agg x.arr) := GuardAt.agg _ (by kernel_rfl)
theorem infoS : (Try.prog.info? 32).map (fun i => (i.zero, i.size, i.bytes)) = some (some (.agg #[.string ⟨#[]⟩, .int .i64 0, .int .i64 0]), 3, 32) := by kernel_rfl
theorem show_far {M : Nat} {l : List It} {now : Int} {x : It} (h : nearS now x.tm = false) : showS M l now x = (l, 11) := by rw [showS, if_neg (by rw [h]; simp)]
theorem show_again {M : Nat} {l : List It} {now : Int} {x : It} (h : nearS now x.tm = true) (h2 : l.any (fun y => It.eq x y) = true) : showS M l now x = (l, 14) := by rw [showS, if_pos h, if_pos h2]
theorem show_full {M : Nat} {l : List It} {now : Int} {x : It} (h : nearS now x.tm = true) (h2 : l.any (fun y => It.eq x y) = false) (h3 : M ≤ (keepS now l).length) : showS M l now x = (keepS now l, 8) := by rw [showS, if_pos h, if_neg (by rw [h2]; simp), if_pos h3]
theorem show_in {M : Nat} {l : List It} {now : Int} {x : It} (h : nearS now x.tm = true) (h2 : l.any (fun y => It.eq x y) = false) (h3 : ¬ M ≤ (keepS now l).length) : showS M l now x = (keepS now l ++ [x], 0) := by rw [showS, if_pos h, if_neg (by rw [h2]; simp), if_neg h3]
theorem own_out {w : World} {base n c : Nat} {A : Option Addr} {e : TypeId} {l : List It} (h : w.ownsRow base e 3 (.slice A n c) n (cellsI l)) : ∀ g, ob A = some g → base ≤ g ∧ g < w.heap.size := fun g hg => h.lt g (by rw [ob_slice]; exact hg)

set_option maxRecDepth 100000 in
set_option maxHeartbeats 4000000 in
theorem refshow_any {w : World} {A : Option Addr} {n c : Nat} {l : List It} (h : RdI w A n c l) (hn64 : n ≤ 64) (ht : okT l) (m now : Int) (x : It) :
    Calls Try.prog 8 #[.slice A n c, .int .i64 m, .int .i64 now, .agg #[.string x.cl, .int .i64 x.tm, .int .i64 x.sq]] w fun e w' => ∃ A' n' c', e = .returned (.tuple #[.slice A' n' c', .int .i64 (showS (most m) l now x).2]) ∧
      RdI w' A' n' c' (showS (most m) l now x).1 ∧ (∀ g, ob A' = some g → ob A = some g ∨ (w.heap.size ≤ g ∧ g < w'.heap.size)) ∧ Below w.heap.size w w' := by
  obtain ⟨R, hR⟩ : ∃ R, R = showS (most m) l now x := ⟨_, rfl⟩
  rw [← hR]
  have hnr := refnear_any now x.tm (w.alloc (.cells #[.string x.cl, .int .i64 x.tm, .int .i64 x.sq] 32))
  have hb1 := below_of_new w (.cells #[.string x.cl, .int .i64 x.tm, .int .i64 x.sq] 32)
  have hg1 := heap_alloc_new w (.cells #[.string x.cl, .int .i64 x.tm, .int .i64 x.sq] 32)
  have e1 : (w.alloc (.cells #[.string x.cl, .int .i64 x.tm, .int .i64 x.sq] 32)).cell? ⟨w.heap.size, 1, none⟩ = some (.int .i64 x.tm) := by rw [cell_of_row _ _ _ _ _ _ hg1]; rfl
  obtain ⟨i0, hi, hz0, hz1, hz2⟩ := info_parts infoS
  obtain ⟨W1, hW1⟩ : ∃ W, W = w.alloc (.cells #[.string x.cl, .int .i64 x.tm, .int .i64 x.sq] 32) := ⟨_, rfl⟩
  rw [← hW1] at hnr hb1 hg1 e1
  have hs1 : W1.heap.size = w.heap.size + 1 := by rw [hW1]; simp
  have HW1 := Lib.hid hW1
  have HR := Lib.hid hR
  have HB1 := Lib.hid hb1
  have HG1 := Lib.hid hg1
  have HT := Lib.hid ht
  have hln := h.1
  have hnc := h.2.1
  have hc9 := h.2.2.1
  have HH := Lib.hid h
  clear hW1 hR hb1 hg1 ht h
  rcases hn : nearS now x.tm with _ | _
  · rw [hn] at hnr
    have HRR := Lib.hid (HR.out.trans (show_far hn))
    clear hn
    go_enter Try.func8, Try.ntmps8
    go_wp2_with fail
    rw [← HW1.out]
    go_wp2_with fail
    refine hnr.mono ?_
    rintro e w1 ⟨rfl, rfl⟩
    go_wp2
    go_ret2
    rw [HRR.out]
    exact ⟨A, n, c, rfl, HH.out.on HB1.out, fun g hg => .inl hg, HB1.out⟩
  · rw [hn] at hnr
    have hn2 := nearS_iff.1 hn
    have HN := Lib.hid hn
    clear hn
    go_enter Try.func8, Try.ntmps8
    go_wp2_with fail
    rw [← HW1.out]
    go_wp2_with fail
    refine hnr.mono ?_
    rintro e w1 ⟨rfl, rfl⟩
    go_wp2_with fail
    obtain ⟨W2, hW2⟩ : ∃ W, W = W1.alloc (.cells #[] 32) := ⟨_, rfl⟩
    have hb2 : Below w.heap.size w W2 := by rw [hW2]; exact below_alloc HB1.out _
    have hg2 : W2.heap[w.heap.size]? = some (.cells x.arr 32 (0, 0)) := by rw [hW2, heap_alloc_old _ _ (by omega)]; exact HG1.out
    have hown2 : W2.ownsRow (w.heap.size + 1) 32 3 (.slice (some ⟨w.heap.size + 1, 0, none⟩) 0 0) 0 [] := by
      rw [hW2, ← hs1]
      exact World.ownsRow_made W1 #[] 0 (Nat.le_refl _) (Nat.zero_le _) rfl
    rw [← hW2]
    have HB2 := Lib.hid hb2
    have HG2 := Lib.hid hg2
    have HOWN2 := Lib.hid hown2
    clear hW2 hb2 hg2 hown2 e1
    go_loopw [10, 11] (fun v i wr => ∃ (k q c1 : Nat) (A1 : Option Addr), k ≤ n ∧ i = .int .i64 k ∧ q = (keepS now (l.take k)).length ∧ v = .slice A1 q c1 ∧ wr.ownsRow (w.heap.size + 1) 32 3 (.slice A1 q c1) q (cellsI (keepS now (l.take k))) ∧ Below w.heap.size w wr ∧
      wr.heap[w.heap.size]? = some (.cells x.arr 32 (0, 0)) ∧ ∀ (j : Nat) (y : It), j < k → l[j]? = some y → It.eq x y = false) (fun _ i _ => n - (intOf i).toNat)
    case atStart => exact ⟨0, 0, 0, some ⟨w.heap.size + 1, 0, none⟩, by omega, rfl, rfl, rfl, HOWN2.out, HB2.out, HG2.out, fun j y h => absurd h (by omega)⟩
    case round =>
      obtain ⟨k, q, c1, A1, hk, rfl, hq, rfl, hown, hbw, hgx, hno⟩ := hrel
      have HQ := Lib.hid hq
      have HOWN := Lib.hid hown
      have HBW := Lib.hid hbw
      have HGX := Lib.hid hgx
      have HNO := Lib.hid hno
      have hql : q ≤ 64 := by
        rw [hq]
        have := keep_len now (l.take k)
        rw [List.length_take] at this
        omega
      clear hq hown hbw hgx hno
      by_cases hlt : k < n
      · obtain ⟨b, y, rfl, hb, hly, c0, c1', c2⟩ := (HH.out.on HBW.out).get k hlt
        have e0 : wr.cell? ⟨w.heap.size, 0, none⟩ = some (.string x.cl) := by rw [cell_of_row _ _ _ _ _ _ HGX.out]; rfl
        have e1 : wr.cell? ⟨w.heap.size, 1, none⟩ = some (.int .i64 x.tm) := by rw [cell_of_row _ _ _ _ _ _ HGX.out]; rfl
        have e2 : wr.cell? ⟨w.heap.size, 2, none⟩ = some (.int .i64 x.sq) := by rw [cell_of_row _ _ _ _ _ _ HGX.out]; rfl
        have heq := fun w => eqSh y x w
        have hgd := fun op a b w => guardSh op a b y x w
        simp only [It.arr] at heq hgd
        have hty := HT.out y (List.mem_of_getElem? hly)
        have hwr := old_wrap hn2.1 hty
        have HLY := Lib.hid hly
        have HBB := Lib.hid hb
        clear hb hly
        rcases hq : It.eq x y with _ | _
        · rw [It.eq_comm, hq] at heq
          have HEQ := Lib.hid hq
          clear hq
          rcases ho : old now y with _ | _
          · have hd : now - y.tm ≤ 30 := by
              have := of_decide_eq_false ho
              omega
            have hkn : keepS now (l.take (k + 1)) = keepS now (l.take k) ++ [y] := by rw [keep_next HLY.out, ho, if_neg (by simp)]
            have HKN := Lib.hid hkn
            clear ho hkn
            have HGL := Lib.hid (show w.heap.size < wr.heap.size from (Array.getElem?_eq_some_iff.1 HGX.out).1)
            go_wp2_with fail
            go_quiet (fail)
            have HNB := Lib.hid (heap_alloc_new (wr.drewN nq) (.cells #[.string y.cl, .int .i64 y.tm, .int .i64 y.sq] 32))
            have HOW3 := Lib.hid (World.ownsRow.alloc (w := wr.drewN nq) HOWN.out (.cells #[.string y.cl, .int .i64 y.tm, .int .i64 y.sq] 32))
            go_wp2_with (at_builtin; go_loud (refine wpList_append_lies _ rfl (.tmp 40) (.tmp 45) 26 rfl (w.heap.size + 1) 32 i0 _ 3 32 Try.underlying26 hi hz0 hz1 hz2 rfl (by omega) (.slice A1 q c1) q _ (by rfl) HOW3.out ⟨wr.heap.size, 0, none⟩ 1 1 y.cells (by rfl) rfl (World.news_of_block HNB.out) y.one (by omega) (by unfold maxLen; omega) (by omega) (by have := HBW.out.size; have := HGL.out; simp; omega) (wr.heap.size + 1) (by simp) ?_); intro gg cap w5 hown5 hgrow hat hlt5)
            have hbw5 : Below w.heap.size w w5 := ((below_dn HBW.out nq).alloc HBW.out.size _).grown hgrow (by simp; have := HBW.out.size; omega) (fun g hg => by have := (HOW3.out.lt g hg).1; omega)
            have hgx5 : w5.heap[w.heap.size]? = some (.cells x.arr 32 (0, 0)) := (hgrow.block _ (by simp; have := HGL.out; omega) (fun e => by have := (HOW3.out.lt _ e.symm).1; omega)).trans ((heap_alloc_old _ _ (by have := HGL.out; simpa using this)).trans HGX.out)
            have HO5 := Lib.hid hown5
            have HB5 := Lib.hid hbw5
            have HG5 := Lib.hid hgx5
            clear hown5 hbw5 hgx5 hgrow hat hlt5
            go_roundw
            case rel =>
              refine ⟨k + 1, q + 1, cap, some ⟨gg, 0, none⟩, by omega, by go_num, by rw [HKN.out, List.length_append, ← HQ.out]; rfl, rfl, by rw [HKN.out, cellsI_app]; simpa [cellsI] using HO5.out, HB5.out, HG5.out, fun j z hj hz => ?_⟩
              rcases (by omega : j < k ∨ j = k) with h | rfl
              · exact HNO.out j z h hz
              · obtain rfl : y = z := Option.some.inj (HLY.out.symm.trans hz)
                exact HEQ.out
            case measure => simp [intOf]; omega
          · have hd : ¬ now - y.tm ≤ 30 := by
              have := of_decide_eq_true ho
              omega
            have hkn : keepS now (l.take (k + 1)) = keepS now (l.take k) := by rw [keep_next HLY.out, ho, if_pos rfl, List.append_nil]
            have HKN := Lib.hid hkn
            clear ho hkn
            go_wp2_with fail
            go_quiet (fail)
            go_wp2
            go_roundw
            case rel =>
              refine ⟨k + 1, q, c1, A1, by omega, by go_num, by rw [HKN.out]; exact HQ.out, rfl, by rw [HKN.out]; exact HOWN.out, below_dn HBW.out _, HGX.out, fun j z hj hz => ?_⟩
              rcases (by omega : j < k ∨ j = k) with h | rfl
              · exact HNO.out j z h hz
              · obtain rfl : y = z := Option.some.inj (HLY.out.symm.trans hz)
                exact HEQ.out
            case measure => simp [intOf]; omega
        · rw [It.eq_comm, hq] at heq
          have HRR := Lib.hid (HR.out.trans (show_again HN.out (any_at (p := fun y => It.eq x y) HLY.out hq)))
          clear hq
          go_wp2_with fail
          go_quiet (fail)
          go_wp2
          go_ret2
          rw [HRR.out]
          have hbf := below_dn HBW.out nq
          exact ⟨_, n, c, rfl, HH.out.on hbf, fun g hg => .inl hg, hbf⟩
      · obtain rfl : k = n := by omega
        have htk : l.take k = l := List.take_of_length_le (by omega)
        have hany : l.any (fun y => It.eq x y) = false := any_upto (p := fun y => It.eq x y) (fun j y hj => HNO.out j y (by have := (List.getElem?_eq_some_iff.1 hj).1; omega) hj)
        have hown := HOWN.out
        have hq := HQ.out
        rw [htk] at hown hq
        have hmm : (most m : Int) = max 1 (min m 64) := by unfold most; omega
        have hmo := most_bd m
        by_cases hM : most m ≤ q
        · have hd : max 1 (min m 64) ≤ (q : Int) := by omega
          have HRR := Lib.hid (HR.out.trans (show_full HN.out hany (by rw [← hq]; exact hM)))
          have HO := Lib.hid hown
          have HQQ := Lib.hid hq
          clear hown hq hany htk hmm hmo hM
          go_wp2
          go_ret2
          rw [HRR.out]
          exact ⟨A1, q, c1, rfl, RdI.of_own HO.out (by omega), fun g hg => .inr (by have := own_out HO.out g hg; omega), HBW.out⟩
        · have hd : ¬ max 1 (min m 64) ≤ (q : Int) := by omega
          have HRR := Lib.hid (HR.out.trans (show_in HN.out hany (by rw [← hq]; exact hM)))
          have e0 : wr.cell? ⟨w.heap.size, 0, none⟩ = some (.string x.cl) := by rw [cell_of_row _ _ _ _ _ _ HGX.out]; rfl
          have e1 : wr.cell? ⟨w.heap.size, 1, none⟩ = some (.int .i64 x.tm) := by rw [cell_of_row _ _ _ _ _ _ HGX.out]; rfl
          have e2 : wr.cell? ⟨w.heap.size, 2, none⟩ = some (.int .i64 x.sq) := by rw [cell_of_row _ _ _ _ _ _ HGX.out]; rfl
          have HO := Lib.hid hown
          have HQQ := Lib.hid hq
          have HGL := Lib.hid (show w.heap.size < wr.heap.size from (Array.getElem?_eq_some_iff.1 HGX.out).1)
          clear hown hq hany htk hmm hmo hM
          have HNB := Lib.hid (heap_alloc_new (wr) (.cells #[.string x.cl, .int .i64 x.tm, .int .i64 x.sq] 32))
          have HOW3 := Lib.hid (World.ownsRow.alloc (w := wr) HO.out (.cells #[.string x.cl, .int .i64 x.tm, .int .i64 x.sq] 32))
          go_wp2_with (at_builtin; go_loud (refine wpList_append_lies _ rfl (.tmp 54) (.tmp 56) 26 rfl (w.heap.size + 1) 32 i0 _ 3 32 Try.underlying26 hi hz0 hz1 hz2 rfl (by omega) (.slice A1 q c1) q _ (by rfl) HOW3.out ⟨wr.heap.size, 0, none⟩ 1 1 x.cells (by rfl) rfl (World.news_of_block HNB.out) x.one (by omega) (by unfold maxLen; omega) (by omega) (by have := HBW.out.size; have := HGL.out; simp; omega) (wr.heap.size + 1) (by simp) ?_); intro gg cap w5 hown5 hgrow hat hlt5)
          have hbw5 : Below w.heap.size w w5 := (HBW.out.alloc HBW.out.size _).grown hgrow (by simp; have := HBW.out.size; omega) (fun g hg => by have := (HOW3.out.lt g hg).1; omega)
          have HO5 := Lib.hid (show w5.ownsRow (w.heap.size + 1) 32 3 (.slice (some ⟨gg, 0, none⟩) (q + 1) cap) (q + 1) (cellsI (keepS now l ++ [x])) from by rw [cellsI_app]; simpa [cellsI] using hown5)
          have HB5 := Lib.hid hbw5
          clear hown5 hbw5 hgrow hat hlt5
          go_ret2
          rw [HRR.out]
          exact ⟨_, q + 1, cap, rfl, RdI.of_own HO5.out (by omega), fun g hg => .inr (by have := own_out HO5.out g hg; omega), HB5.out⟩
end Go.Proofs.Ytpdbdlaoeidflaa.Ch
