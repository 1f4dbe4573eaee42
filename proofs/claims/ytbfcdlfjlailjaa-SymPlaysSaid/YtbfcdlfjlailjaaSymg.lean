/-
  sym's Open, where there is a box.
-/
import Derived.Test.YtbfcdlfjlailjaaSyms
import Derived.Deep.MidRow
import Derived.Stop.BytesEq
namespace Go.Proofs.Ytbfcdlfjlailjaa.Sym
open Go.RowKit
open Go.Proofs.Ytbfcdlfjlailjaa.Kit
open Go.Proofs.Ytbfcdlfjlailjaa.Oct
set_option linter.unusedVariables false

theorem wpList_load_mid_g {P : Program} {ops : Array Oper} {rest : List Oper} {op : Oper} {a : Act} {w : World} {Q : Exit → Act → World → Prop} (hgd : Region.wanted op (yielded ops a.tmps) = true) (ty : TypeId) (x : Operand) (ho : op.op = .load ty x)
    (b o : Nat) (hx : a.eval x = .pointer (some ⟨b, o, none⟩)) (cs : List Value) (d : TypeDesc) (hc : w.rangeAt b o cs)
    (hu : P.underlying ty = some d) (hd : d.isRow = true) (hi : (P.info? ty).map (·.size) = some cs.length)
    (ca : Array Value) (hca : ca = cs.toArray) (h : wpList P ops Q rest (a.put op.dst (.agg ca)) w) : wpList P ops Q (op :: rest) a w :=
  wpList_step fun _ hK => by
    rw [if_pos hgd]
    rw [hca] at h
    exact wp_load_mid ty x ho b o hx cs d hc hu hd hi (hK _ _ h)
theorem eq_keyY (xs ys : List UInt8) (hx : xs.length = 16) (hy : ys.length = 16) (w : World) : (Op.equalIn 10000 36 (.agg (xs.map bv).toArray) (.agg (ys.map bv).toArray)).run Try.prog w = .ok (xs == ys) w :=
  run_equalIn_bytes w 9998 36 5 16 Try.underlying36 Try.underlying5 (fun w => by kernel_rfl) xs ys hx hy
theorem range_heap {w : World} {g : Nat} {t : TypeId} {cs : Array Value} {fr : Nat × Nat} (h : w.heap[g]? = some (.cells cs t fr)) (l r : List Value) (hl : cs.toList = l ++ r) : w.rangeAt g 0 l := fun j v hj => by
  rw [Nat.zero_add, cell_of_row w g j _ _ fr h, ← Array.getElem?_toList, hl, List.getElem?_append_left (List.getElem?_eq_some_iff.1 hj).1]
  exact hj
theorem info16K : (Try.prog.info? 36).map (·.size) = some 16 := by kernel_rfl

set_option maxRecDepth 100000 in
set_option maxHeartbeats 4000000 in
theorem open_box {tb : Nat} {L : Lay} {O S : Nat → Prop} {T : Tab} {w : World} {A : Option Addr} {n c : Nat} {b k : List UInt8} {u : Int} {s : Sl} (hbx : boxS T b = some s) (hsk : s.key.length = 16) (hk : k.length = 16) (h : TabAt w tb L O S T) (hrd : RdB w w.heap.size A n c b) :
    Calls Try.prog 17 #[.pointer (some ⟨tb, 0, none⟩), .agg (kv k), .int .i64 u, .slice A n c] w fun e w' =>
      ((s.key = k ∧ s.us = u) ∧ ∃ A' c', e = .returned (.tuple #[.slice A' s.body.length c', .bool true]) ∧ w'.ownsRow w.heap.size 5 1 (.slice A' s.body.length c') s.body.length (s.body.map bv) ∧ Below w.heap.size w w') ∨
      (¬ (s.key = k ∧ s.us = u) ∧ e = .returned (.tuple #[.slice none 0 0, .bool false]) ∧ Below w.heap.size w w') := by
  obtain ⟨KL, hKL⟩ : ∃ q, q = k.map bv := ⟨_, rfl⟩
  obtain ⟨SL, hSL⟩ : ∃ q, q = s.key.map bv := ⟨_, rfl⟩
  have hKn : KL.length = 16 := by rw [hKL, List.length_map, hk]
  have hSn : SL.length = 16 := by rw [hSL, List.length_map, hsk]
  have hIK : (Try.prog.info? 36).map (·.size) = some KL.length := by rw [hKn]; exact info16K
  have hIS : (Try.prog.info? 36).map (·.size) = some SL.length := by rw [hSn]; exact info16K
  have heq : ∀ w, (Op.equalIn 10000 36 (.agg SL.toArray) (.agg KL.toArray)).run Try.prog w = .ok (s.key == k) w := fun w => by rw [hSL, hKL]; exact eq_keyY _ _ hsk hk w
  obtain ⟨ZV, hZ⟩ : ∃ q : Array Value, q = #[.int .u8 0, .int .u8 0, .int .u8 0, .int .u8 0, .int .u8 0, .int .u8 0, .int .u8 0, .int .u8 0, .int .u8 0, .int .u8 0, .int .u8 0, .int .u8 0, .int .u8 0, .int .u8 0, .int .u8 0, .int .u8 0, .int .i64 0, .slice none 0 0] := ⟨_, rfl⟩
  have hz : ∀ w, (zeroValue 41).run Try.prog w = .ok (.agg ZV) w := fun w => by rw [hZ]; kernel_rfl
  have hzl : ZV.size = 18 := by rw [hZ]; rfl
  clear hZ
  obtain ⟨W1, hW1⟩ : ∃ q, q = w.alloc (.cells KL.toArray 36) := ⟨_, rfl⟩
  have hb1 : Below w.heap.size w W1 := by rw [hW1]; exact below_of_new w _
  have hg1 : W1.heap[w.heap.size]? = some (.cells KL.toArray 36 (0, 0)) := by rw [hW1]; exact heap_alloc_new w _
  have hz1 : W1.heap.size = w.heap.size + 1 := by rw [hW1]; simp
  have HBX := Lib.hid (box_yes hbx (h.below hb1) (hrd.on hb1))
  obtain ⟨m, hm⟩ : ∃ m, m = s.body.length := ⟨_, rfl⟩
  rw [← hSL, ← hm] at HBX
  rw [← hm]
  obtain ⟨us, hus⟩ : ∃ q, q = s.us := ⟨_, rfl⟩
  rw [← hus] at HBX ⊢
  have HB1 := Lib.hid hb1
  rw [show kv k = KL.toArray from by rw [hKL]; rfl]
  obtain ⟨SA, hSA⟩ : ∃ q, q = SL.toArray := ⟨_, rfl⟩
  obtain ⟨KA, hKA⟩ : ∃ q, q = KL.toArray := ⟨_, rfl⟩
  rw [← hSA, ← hKA] at heq
  have HE := Lib.hid heq
  have HSO := Lib.hid (show ∀ v ∈ SL, v.oneCell' = true from fun v hv => bv_one _ v (by rw [hSL] at hv; exact hv))
  have HSA := Lib.hid hSA
  have HKA := Lib.hid hKA
  rw [← hKA]
  rw [← hKA] at hW1 hg1
  have HG1 := Lib.hid hg1
  clear hSL hKL heq hb1 hg1 h hrd hbx hm hus hSA hKA
  cases hq : s.key == k
  · have he : ∀ w, (Op.equalIn 10000 36 (.agg SA) (.agg KA)).run Try.prog w = .ok false w := fun w => by rw [HE.out, hq]
    have hne : ¬ (s.key = k ∧ us = u) := fun e => by rw [e.1] at hq; simp at hq
    have HNE := Lib.hid hne
    clear hne hq
    go_enter Try.func17, Try.ntmps17
    go_wp2_with fail
    rw [← hW1]
    clear hW1
    refine HBX.out.mono ?_
    rintro e w2 ⟨A', c', rfl, ho2, hb2⟩
    obtain ⟨SV, hSV⟩ : ∃ q, q = (SL ++ ([.int .i64 us, .slice A' m c'] : List Value)).toArray := ⟨_, rfl⟩
    have hSz : SV.size = 18 := by rw [hSV]; simp [hSn]
    have hS1 : SV.all (·.oneCell') = true := by
      rw [hSV]
      refine Array.all_eq_true_iff_forall_mem.2 fun v hv => ?_
      rcases (by simpa using hv : v ∈ SL ∨ v = Value.int .i64 us ∨ v = Value.slice A' m c') with hv | rfl | rfl
      · exact HSO.out v hv
      · rfl
      · rfl
    have hIV : (Try.prog.info? 41).map (·.size) = some SV.size := by rw [hSz]; exact infoSl'
    have hZV : ZV.size = SV.size := by rw [hSz]; exact hzl
    rw [← hSV]
    have HSV := Lib.hid hSV
    have HO2 := Lib.hid ho2
    have HB2 := Lib.hid (below_seq HB1.out hb2)
    have hg2 := (hb2.block w.heap.size (by omega)).trans HG1.out
    have hs2 := hb2.size
    obtain ⟨W3, hW3⟩ : ∃ q, q = (w2.alloc (.cells ZV 41)).setRow w2.heap.size SV := ⟨_, rfl⟩
    have hg3 : W3.heap[w2.heap.size]? = some (.cells SV 41 (0, 0)) := by rw [hW3]; exact setRow_heap _ w2.heap.size _ SV _ _ (heap_alloc_new w2 _)
    have hb3 : Below w2.heap.size w2 W3 := by rw [hW3]; exact below_setRow (below_of_new w2 _) (Nat.le_refl _) _
    have hgk : W3.heap[w.heap.size]? = some (.cells KA 36 (0, 0)) := (hb3.block w.heap.size (by omega)).trans hg2
    have hr1 : W3.rangeAt w2.heap.size 0 SL := range_heap hg3 SL _ (by rw [HSV.out])
    have hr2 : W3.rangeAt w.heap.size 0 KL := range_heap hgk KL [] (by rw [HKA.out]; simp)
    have hc16 : W3.cell? ⟨w2.heap.size, 16, none⟩ = some (.int .i64 us) := by
      rw [cell_of_row W3 w2.heap.size 16 _ _ (0, 0) hg3, HSV.out, ← Array.getElem?_toList, List.getElem?_append_right (by omega), hSn]; rfl
    have hc17 : W3.cell? ⟨w2.heap.size, 17, none⟩ = some (.slice A' m c') := by
      rw [cell_of_row W3 w2.heap.size 17 _ _ (0, 0) hg3, HSV.out, ← Array.getElem?_toList, List.getElem?_append_right (by omega), hSn]; rfl
    have HB3 := Lib.hid (below_seq HB2.out hb3)
    have HO3 := Lib.hid (own_on HO2.out hb3)
    clear hg2 hg3 hb3 hgk hSV ho2 hb2
    have HGN := Lib.hid (heap_alloc_new w2 (.cells ZV 41))
    go_wp2_with (refine wpList_store_row (o := ⟨none, _, _, _, _, _⟩) rfl 41 (.tmp 10) (.tmp 16) rfl w2.heap.size SV rfl rfl 41 _ HGN.out hIV hZV hS1 ?_; apply Hid.out)
    refine Lib.hid ?_
    rw [← hW3]
    clear hW3 HGN hIV hZV hS1
    go_wp2_with (first
      | (refine wpList_load_mid_g (op := ⟨some 22, _, _, _, _, _⟩) (by rfl) _ (.tmp 21) rfl w2.heap.size 0 rfl SL _ hr1 Try.underlying36 rfl hIS SA HSA.out ?_)
      | (refine wpList_load_mid_g (op := ⟨some 23, _, _, _, _, _⟩) (by rfl) _ (.tmp 5) rfl w.heap.size 0 rfl KL _ hr2 Try.underlying36 rfl hIK KA HKA.out ?_)
      | fail)
    go_ret2
    exact .inr ⟨HNE.out, rfl, HB3.out⟩
  · have he : ∀ w, (Op.equalIn 10000 36 (.agg SA) (.agg KA)).run Try.prog w = .ok true w := fun w => by rw [HE.out, hq]
    have hke : s.key = k := by simpa using hq
    have HKE := Lib.hid hke
    clear hke hq
    by_cases hu : us = u
    · have q1 : (us != u) = false := by rw [hu]; simp
      have HU := Lib.hid hu
      clear hu
      go_enter Try.func17, Try.ntmps17
      go_wp2_with fail
      rw [← hW1]
      clear hW1
      refine HBX.out.mono ?_
      rintro e w2 ⟨A', c', rfl, ho2, hb2⟩
      obtain ⟨SV, hSV⟩ : ∃ q, q = (SL ++ ([.int .i64 us, .slice A' m c'] : List Value)).toArray := ⟨_, rfl⟩
      have hSz : SV.size = 18 := by rw [hSV]; simp [hSn]
      have hS1 : SV.all (·.oneCell') = true := by
        rw [hSV]
        refine Array.all_eq_true_iff_forall_mem.2 fun v hv => ?_
        rcases (by simpa using hv : v ∈ SL ∨ v = Value.int .i64 us ∨ v = Value.slice A' m c') with hv | rfl | rfl
        · exact HSO.out v hv
        · rfl
        · rfl
      have hIV : (Try.prog.info? 41).map (·.size) = some SV.size := by rw [hSz]; exact infoSl'
      have hZV : ZV.size = SV.size := by rw [hSz]; exact hzl
      rw [← hSV]
      have HSV := Lib.hid hSV
      have HO2 := Lib.hid ho2
      have HB2 := Lib.hid (below_seq HB1.out hb2)
      have hg2 := (hb2.block w.heap.size (by omega)).trans HG1.out
      have hs2 := hb2.size
      obtain ⟨W3, hW3⟩ : ∃ q, q = (w2.alloc (.cells ZV 41)).setRow w2.heap.size SV := ⟨_, rfl⟩
      have hg3 : W3.heap[w2.heap.size]? = some (.cells SV 41 (0, 0)) := by rw [hW3]; exact setRow_heap _ w2.heap.size _ SV _ _ (heap_alloc_new w2 _)
      have hb3 : Below w2.heap.size w2 W3 := by rw [hW3]; exact below_setRow (below_of_new w2 _) (Nat.le_refl _) _
      have hgk : W3.heap[w.heap.size]? = some (.cells KA 36 (0, 0)) := (hb3.block w.heap.size (by omega)).trans hg2
      have hr1 : W3.rangeAt w2.heap.size 0 SL := range_heap hg3 SL _ (by rw [HSV.out])
      have hr2 : W3.rangeAt w.heap.size 0 KL := range_heap hgk KL [] (by rw [HKA.out]; simp)
      have hc16 : W3.cell? ⟨w2.heap.size, 16, none⟩ = some (.int .i64 us) := by
        rw [cell_of_row W3 w2.heap.size 16 _ _ (0, 0) hg3, HSV.out, ← Array.getElem?_toList, List.getElem?_append_right (by omega), hSn]; rfl
      have hc17 : W3.cell? ⟨w2.heap.size, 17, none⟩ = some (.slice A' m c') := by
        rw [cell_of_row W3 w2.heap.size 17 _ _ (0, 0) hg3, HSV.out, ← Array.getElem?_toList, List.getElem?_append_right (by omega), hSn]; rfl
      have HB3 := Lib.hid (below_seq HB2.out hb3)
      have HO3 := Lib.hid (own_on HO2.out hb3)
      clear hg2 hg3 hb3 hgk hSV ho2 hb2
      have HGN := Lib.hid (heap_alloc_new w2 (.cells ZV 41))
      go_wp2_with (refine wpList_store_row (o := ⟨none, _, _, _, _, _⟩) rfl 41 (.tmp 10) (.tmp 16) rfl w2.heap.size SV rfl rfl 41 _ HGN.out hIV hZV hS1 ?_; apply Hid.out)
      refine Lib.hid ?_
      rw [← hW3]
      clear hW3 HGN hIV hZV hS1
      go_wp2_with (first
        | (refine wpList_load_mid_g (op := ⟨some 22, _, _, _, _, _⟩) (by rfl) _ (.tmp 21) rfl w2.heap.size 0 rfl SL _ hr1 Try.underlying36 rfl hIS SA HSA.out ?_)
        | (refine wpList_load_mid_g (op := ⟨some 23, _, _, _, _, _⟩) (by rfl) _ (.tmp 5) rfl w.heap.size 0 rfl KL _ hr2 Try.underlying36 rfl hIK KA HKA.out ?_)
        | fail)
      go_ret2
      exact .inl ⟨⟨HKE.out, HU.out⟩, A', c', rfl, World.ownsRow.mono HO3.out (by rw [hz1]; omega), HB3.out⟩
    · have q1 : (us != u) = true := by simpa using hu
      have HU := Lib.hid hu
      clear hu
      go_enter Try.func17, Try.ntmps17
      go_wp2_with fail
      rw [← hW1]
      clear hW1
      refine HBX.out.mono ?_
      rintro e w2 ⟨A', c', rfl, ho2, hb2⟩
      obtain ⟨SV, hSV⟩ : ∃ q, q = (SL ++ ([.int .i64 us, .slice A' m c'] : List Value)).toArray := ⟨_, rfl⟩
      have hSz : SV.size = 18 := by rw [hSV]; simp [hSn]
      have hS1 : SV.all (·.oneCell') = true := by
        rw [hSV]
        refine Array.all_eq_true_iff_forall_mem.2 fun v hv => ?_
        rcases (by simpa using hv : v ∈ SL ∨ v = Value.int .i64 us ∨ v = Value.slice A' m c') with hv | rfl | rfl
        · exact HSO.out v hv
        · rfl
        · rfl
      have hIV : (Try.prog.info? 41).map (·.size) = some SV.size := by rw [hSz]; exact infoSl'
      have hZV : ZV.size = SV.size := by rw [hSz]; exact hzl
      rw [← hSV]
      have HSV := Lib.hid hSV
      have HO2 := Lib.hid ho2
      have HB2 := Lib.hid (below_seq HB1.out hb2)
      have hg2 := (hb2.block w.heap.size (by omega)).trans HG1.out
      have hs2 := hb2.size
      obtain ⟨W3, hW3⟩ : ∃ q, q = (w2.alloc (.cells ZV 41)).setRow w2.heap.size SV := ⟨_, rfl⟩
      have hg3 : W3.heap[w2.heap.size]? = some (.cells SV 41 (0, 0)) := by rw [hW3]; exact setRow_heap _ w2.heap.size _ SV _ _ (heap_alloc_new w2 _)
      have hb3 : Below w2.heap.size w2 W3 := by rw [hW3]; exact below_setRow (below_of_new w2 _) (Nat.le_refl _) _
      have hgk : W3.heap[w.heap.size]? = some (.cells KA 36 (0, 0)) := (hb3.block w.heap.size (by omega)).trans hg2
      have hr1 : W3.rangeAt w2.heap.size 0 SL := range_heap hg3 SL _ (by rw [HSV.out])
      have hr2 : W3.rangeAt w.heap.size 0 KL := range_heap hgk KL [] (by rw [HKA.out]; simp)
      have hc16 : W3.cell? ⟨w2.heap.size, 16, none⟩ = some (.int .i64 us) := by
        rw [cell_of_row W3 w2.heap.size 16 _ _ (0, 0) hg3, HSV.out, ← Array.getElem?_toList, List.getElem?_append_right (by omega), hSn]; rfl
      have hc17 : W3.cell? ⟨w2.heap.size, 17, none⟩ = some (.slice A' m c') := by
        rw [cell_of_row W3 w2.heap.size 17 _ _ (0, 0) hg3, HSV.out, ← Array.getElem?_toList, List.getElem?_append_right (by omega), hSn]; rfl
      have HB3 := Lib.hid (below_seq HB2.out hb3)
      have HO3 := Lib.hid (own_on HO2.out hb3)
      clear hg2 hg3 hb3 hgk hSV ho2 hb2
      have HGN := Lib.hid (heap_alloc_new w2 (.cells ZV 41))
      go_wp2_with (refine wpList_store_row (o := ⟨none, _, _, _, _, _⟩) rfl 41 (.tmp 10) (.tmp 16) rfl w2.heap.size SV rfl rfl 41 _ HGN.out hIV hZV hS1 ?_; apply Hid.out)
      refine Lib.hid ?_
      rw [← hW3]
      clear hW3 HGN hIV hZV hS1
      go_wp2_with (first
        | (refine wpList_load_mid_g (op := ⟨some 22, _, _, _, _, _⟩) (by rfl) _ (.tmp 21) rfl w2.heap.size 0 rfl SL _ hr1 Try.underlying36 rfl hIS SA HSA.out ?_)
        | (refine wpList_load_mid_g (op := ⟨some 23, _, _, _, _, _⟩) (by rfl) _ (.tmp 5) rfl w.heap.size 0 rfl KL _ hr2 Try.underlying36 rfl hIK KA HKA.out ?_)
        | fail)
      go_ret2
      exact .inr ⟨fun e => HU.out e.2, rfl, HB3.out⟩
end Go.Proofs.Ytbfcdlfjlailjaa.Sym
