/-
  sym's Box.
-/
import Derived.Test.YtbfcdlfjlailjaaSymq
namespace Go.Proofs.Ytbfcdlfjlailjaa.Sym
open Go.RowKit
open Go.Proofs.Ytbfcdlfjlailjaa.Kit
open Go.Proofs.Ytbfcdlfjlailjaa.Oct
set_option linter.unusedVariables false

theorem infoSl' : (Try.prog.info? 41).map (·.size) = some 18 := by kernel_rfl
/-- where the i-th box lies -/
theorem TabAt.box_at {w : World} {tb : Nat} {L : Lay} {O S : Nat → Prop} {T : Tab} (h : TabAt w tb L O S T) {i : Nat} (hi : i < T.bs.length) :
    ∃ g A c, L.A2 = some ⟨g, 0, none⟩ ∧ w.rangeAt g (i * 18) (T.bs[i].key.map bv ++ [.int .i64 T.bs[i].us, .slice A T.bs[i].body.length c]) ∧ RdB w w.heap.size A T.bs[i].body.length c T.bs[i].body := by
  have ho := h.o2
  obtain ⟨g, cap, hv, _, _⟩ := ho.form (by omega)
  rw [Lay.v2] at hv ho
  injection hv with h1 h2 h3
  obtain ⟨A, n, c, hx, hr⟩ := SlRow.at_ T.bs (fun s hs => (h.sok s hs).1) h.r2 i hi
  have hn : T.bs[i].body.length = n := by have := hr.1; rwa [List.length_map] at this
  subst hn
  refine ⟨g, A, c, h1, fun j v hj => ?_, hr.1, hr.2.1, hr.2.2.1, fun hn => ?_⟩
  · rw [← hx] at hj
    have hj2 : j < 18 := by have := (List.getElem?_eq_some_iff.1 hj).1; rw [List.length_take] at this; omega
    rw [h1] at ho
    rw [ho.cellAt (i * 18 + j) (by omega)]
    rw [List.getElem?_take, if_pos hj2, List.getElem?_drop] at hj
    exact hj
  · obtain ⟨b, o, e, hb, hc⟩ := hr.2.2.2 hn
    exact ⟨b, o, e, h.lt b (.inr hb), hc⟩
def boxS (T : Tab) (b : List UInt8) : Option Sl := if mkK b = 98 ∧ 1 ≤ mkN b ∧ mkN b ≤ T.bs.length then T.bs[mkN b - 1]? else none
theorem boxS_no {T : Tab} {b : List UInt8} (h : boxS T b = none) : ¬ (mkK b = 98 ∧ 1 ≤ mkN b ∧ mkN b ≤ T.bs.length) := fun hc => by
  unfold boxS at h
  rw [if_pos hc, List.getElem?_eq_none_iff] at h
  omega
theorem boxS_yes {T : Tab} {b : List UInt8} {s : Sl} (h : boxS T b = some s) : mkK b = 98 ∧ ∃ i, mkN b = i + 1 ∧ ∃ hi : i < T.bs.length, T.bs[i] = s := by
  unfold boxS at h
  split at h
  · rename_i hc
    obtain ⟨hi, he⟩ := List.getElem?_eq_some_iff.1 h
    exact ⟨hc.1, mkN b - 1, by omega, hi, he⟩
  · cases h

set_option maxRecDepth 100000 in
set_option maxHeartbeats 2000000 in
theorem box_no {tb : Nat} {L : Lay} {O S : Nat → Prop} {T : Tab} {w : World} {A : Option Addr} {n c : Nat} {b : List UInt8} (hbx : boxS T b = none) (h : TabAt w tb L O S T) (hrd : RdB w w.heap.size A n c b) :
    Calls Try.prog 18 #[.pointer (some ⟨tb, 0, none⟩), .slice A n c] w fun e w' => e = .returned (.tuple #[.agg #[.int .u8 0, .int .u8 0, .int .u8 0, .int .u8 0, .int .u8 0, .int .u8 0, .int .u8 0, .int .u8 0, .int .u8 0, .int .u8 0, .int .u8 0, .int .u8 0, .int .u8 0, .int .u8 0, .int .u8 0, .int .u8 0, .int .i64 0, .slice none 0 0], .bool false]) ∧ Below w.heap.size w w' := by
  obtain ⟨NV, hNe⟩ : ∃ q : Array Value, q = #[.int .u8 0, .int .u8 0, .int .u8 0, .int .u8 0, .int .u8 0, .int .u8 0, .int .u8 0, .int .u8 0, .int .u8 0, .int .u8 0, .int .u8 0, .int .u8 0, .int .u8 0, .int .u8 0, .int .u8 0, .int .u8 0, .int .i64 0, .slice none 0 0] := ⟨_, rfl⟩
  have hNs : NV.size = 18 := by rw [hNe]; rfl
  have htb : tb < w.heap.size := h.lt tb (.inl h.otb)
  obtain ⟨W2, hW2⟩ : ∃ q, q = w.alloc (.cells NV 41) := ⟨_, rfl⟩
  have hb2 : Below w.heap.size w W2 := by rw [hW2]; exact below_of_new w _
  have hs2 : W2.heap.size = w.heap.size + 1 := by rw [hW2]; simp
  have hgN : W2.heap[w.heap.size]? = some (.cells NV 41 (0, 0)) := by rw [hW2]; exact heap_alloc_new w _
  have HMK := Lib.hid (mark_any A n c W2.heap.size b W2 (hrd.on hb2))
  have h2 := h.below hb2
  have HN1 := Lib.hid (show NV.all (·.oneCell') = true from by rw [hNe]; kernel_rfl)
  have HNI := Lib.hid (show (Try.prog.info? 41).map (·.size) = some NV.size from by rw [hNs]; exact infoSl')
  have HGN := Lib.hid hgN
  have HB2 := Lib.hid hb2
  have HS2 := Lib.hid hs2
  have HNE := Lib.hid hNe
  have HW2 := Lib.hid hW2
  have hc0 : W2.cell? ⟨tb, 1, none⟩ = some (.slice L.A2 T.bs.length L.c2) := (cell_of_row W2 tb 1 _ _ (0, 0) h2.box).trans rfl
  have hln := h.kle.2.1
  have hg := boxS_no hbx
  by_cases g0 : mkK b = 98
  · rw [g0] at HMK
    by_cases g1 : mkN b = 0
    · rw [g1] at HMK
      clear hb2 hgN h2 h hNe hNs hrd hW2 hs2 hg g0 g1 hbx
      go_enter Try.func18, Try.ntmps18
      go_wp2_with fail
      rw [← HNE.out, ← HW2.out]
      refine HMK.out.mono ?_
      rintro e w1 ⟨rfl, rfl⟩
      go_wp2_with (refine wpList_store_row (o := ⟨none, _, _, _, _, _⟩) rfl 41 (.tmp 4) (.tmp 31) rfl w.heap.size NV rfl (congrArg Value.agg HNE.out.symm) 41 _ HGN.out HNI.out rfl HN1.out ?_)
      have hres := setRow_heap _ w.heap.size _ NV _ _ HGN.out
      refine bodyPost_ret (v := .tuple #[.agg NV, .bool false]) (results_row_tmp Try.results18 _ _ w.heap.size 41 NV (0, 0) _ (by rfl) (by rfl) hres Try.underlying41 HNI.out) rfl ?_
      exact ⟨by rw [HNE.out], below_setRow HB2.out (Nat.le_refl _) _⟩
    · have g2 : T.bs.length < mkN b := by
        rcases Nat.lt_or_ge T.bs.length (mkN b) with h1 | h1
        · exact h1
        · exact absurd ⟨g0, by omega, h1⟩ hg
      obtain ⟨m, hm⟩ : ∃ q, q = mkN b := ⟨_, rfl⟩
      obtain ⟨n1, hn⟩ : ∃ q, q = T.bs.length := ⟨_, rfl⟩
      rw [← hm] at HMK g1 g2
      rw [← hn] at g2 hc0 hln
      have p1 : ¬ ((m : Int) < 1) := by omega
      have q1 : decide ((m : Int) < 1) = false := by simp; omega
      have p2 : (n1 : Int) < (m : Int) := by omega
      have q2 : decide ((n1 : Int) < (m : Int)) = true := by simp; omega
      clear hb2 hgN h2 h hNe hNs hrd hW2 hs2 hg g0 hm hn hbx
      go_enter Try.func18, Try.ntmps18
      go_wp2_with fail
      rw [← HNE.out, ← HW2.out]
      refine HMK.out.mono ?_
      rintro e w1 ⟨rfl, rfl⟩
      go_wp2_with (refine wpList_store_row (o := ⟨none, _, _, _, _, _⟩) rfl 41 (.tmp 4) (.tmp 31) rfl w.heap.size NV rfl (congrArg Value.agg HNE.out.symm) 41 _ HGN.out HNI.out rfl HN1.out ?_)
      have hres := setRow_heap _ w.heap.size _ NV _ _ HGN.out
      refine bodyPost_ret (v := .tuple #[.agg NV, .bool false]) (results_row_tmp Try.results18 _ _ w.heap.size 41 NV (0, 0) _ (by rfl) (by rfl) hres Try.underlying41 HNI.out) rfl ?_
      exact ⟨by rw [HNE.out], below_setRow HB2.out (Nat.le_refl _) _⟩
  · have p0 : ((mkK b).toNat : Int) ≠ 98 := u8_ne (c := 98) (by omega) g0
    have q0 : (((mkK b).toNat : Int) != 98) = true := by simpa using p0
    clear hb2 hgN h2 h hNe hNs hrd hW2 hs2 hg g0 hbx
    go_enter Try.func18, Try.ntmps18
    go_wp2_with fail
    rw [← HNE.out, ← HW2.out]
    refine HMK.out.mono ?_
    rintro e w1 ⟨rfl, rfl⟩
    go_wp2_with (refine wpList_store_row (o := ⟨none, _, _, _, _, _⟩) rfl 41 (.tmp 4) (.tmp 31) rfl w.heap.size NV rfl (congrArg Value.agg HNE.out.symm) 41 _ HGN.out HNI.out rfl HN1.out ?_)
    have hres := setRow_heap _ w.heap.size _ NV _ _ HGN.out
    refine bodyPost_ret (v := .tuple #[.agg NV, .bool false]) (results_row_tmp Try.results18 _ _ w.heap.size 41 NV (0, 0) _ (by rfl) (by rfl) hres Try.underlying41 HNI.out) rfl ?_
    exact ⟨by rw [HNE.out], below_setRow HB2.out (Nat.le_refl _) _⟩

set_option maxRecDepth 100000 in
set_option maxHeartbeats 2000000 in
theorem box_yes {tb : Nat} {L : Lay} {O S : Nat → Prop} {T : Tab} {w : World} {A : Option Addr} {n c : Nat} {b : List UInt8} {s : Sl} (hbx : boxS T b = some s) (h : TabAt w tb L O S T) (hrd : RdB w w.heap.size A n c b) :
    Calls Try.prog 18 #[.pointer (some ⟨tb, 0, none⟩), .slice A n c] w fun e w' => ∃ A' c', e = .returned (.tuple #[.agg (s.key.map bv ++ ([.int .i64 s.us, .slice A' s.body.length c'] : List Value)).toArray, .bool true]) ∧ w'.ownsRow w.heap.size 5 1 (.slice A' s.body.length c') s.body.length (s.body.map bv) ∧ Below w.heap.size w w' := by
  obtain ⟨NV, hNe⟩ : ∃ q : Array Value, q = #[.int .u8 0, .int .u8 0, .int .u8 0, .int .u8 0, .int .u8 0, .int .u8 0, .int .u8 0, .int .u8 0, .int .u8 0, .int .u8 0, .int .u8 0, .int .u8 0, .int .u8 0, .int .u8 0, .int .u8 0, .int .u8 0, .int .i64 0, .slice none 0 0] := ⟨_, rfl⟩
  have hNs : NV.size = 18 := by rw [hNe]; rfl
  have htb : tb < w.heap.size := h.lt tb (.inl h.otb)
  obtain ⟨W2, hW2⟩ : ∃ q, q = w.alloc (.cells NV 41) := ⟨_, rfl⟩
  have hb2 : Below w.heap.size w W2 := by rw [hW2]; exact below_of_new w _
  have hs2 : W2.heap.size = w.heap.size + 1 := by rw [hW2]; simp
  have hgN : W2.heap[w.heap.size]? = some (.cells NV 41 (0, 0)) := by rw [hW2]; exact heap_alloc_new w _
  have HMK := Lib.hid (mark_any A n c W2.heap.size b W2 (hrd.on hb2))
  have h2 := h.below hb2
  have HN1 := Lib.hid (show NV.all (·.oneCell') = true from by rw [hNe]; kernel_rfl)
  have HNI := Lib.hid (show (Try.prog.info? 41).map (·.size) = some NV.size from by rw [hNs]; exact infoSl')
  have HGN := Lib.hid hgN
  have HB2 := Lib.hid hb2
  have HS2 := Lib.hid hs2
  have HNE := Lib.hid hNe
  have HW2 := Lib.hid hW2
  have hc0 : W2.cell? ⟨tb, 1, none⟩ = some (.slice L.A2 T.bs.length L.c2) := (cell_of_row W2 tb 1 _ _ (0, 0) h2.box).trans rfl
  have hln := h.kle.2.1
  obtain ⟨g0, i, hi, hil, hs⟩ := boxS_yes hbx
  obtain ⟨g, A3, c3, hA, hrg, hr3⟩ := h2.box_at hil
  rw [hs] at hrg hr3
  have hsk := h.sok s (by rw [← hs]; exact List.getElem_mem hil)
  obtain ⟨KV, hKV⟩ : ∃ q, q = kv s.key := ⟨_, rfl⟩
  have hKs : KV.size = 16 := by rw [hKV, kv_size, hsk.1]
  obtain ⟨a0, a1, a2, a3, a4, a5, a6, a7, a8, a9, a10, a11, a12, a13, a14, a15, rfl⟩ := size16 hKs
  have hkb : s.key.map bv = [a0, a1, a2, a3, a4, a5, a6, a7, a8, a9, a10, a11, a12, a13, a14, a15] := by have := congrArg Array.toList hKV; simpa [kv] using this.symm
  have hk1 : ∀ v ∈ ([a0, a1, a2, a3, a4, a5, a6, a7, a8, a9, a10, a11, a12, a13, a14, a15] : List Value), v.oneCell' = true := by rw [← hkb]; exact fun v hv => bv_one _ v hv
  rw [hkb] at hrg
  obtain ⟨n3, hn3⟩ : ∃ q, q = s.body.length := ⟨_, rfl⟩
  rw [← hn3] at hrg hr3
  have hn3l : n3 ≤ 1000000 := by rw [hn3]; exact hsk.2.2
  have HRG := Lib.hid (show W2.rangeAt g (i * 18) [a0, a1, a2, a3, a4, a5, a6, a7, a8, a9, a10, a11, a12, a13, a14, a15, .int .i64 s.us, .slice A3 n3 c3] from hrg)
  have HA1 := Lib.hid (show ∀ (B : Option Addr) (d : Nat), (#[a0, a1, a2, a3, a4, a5, a6, a7, a8, a9, a10, a11, a12, a13, a14, a15, .int .i64 s.us, .slice B n3 d] : Array Value).all (·.oneCell') = true from fun B d => Array.all_eq_true_iff_forall_mem.2 (by
    intro v hv
    simp only [List.mem_toArray, List.mem_cons, List.not_mem_nil, or_false] at hv
    rcases hv with h0 | h0 | h0 | h0 | h0 | h0 | h0 | h0 | h0 | h0 | h0 | h0 | h0 | h0 | h0 | h0 | rfl | rfl <;> first | rfl | exact hk1 _ (by simp [h0])))
  obtain ⟨W3, hW3⟩ : ∃ q, q = (W2.alloc (.cells #[.int .u8 0, .int .u8 0, .int .u8 0, .int .u8 0, .int .u8 0, .int .u8 0, .int .u8 0, .int .u8 0, .int .u8 0, .int .u8 0, .int .u8 0, .int .u8 0, .int .u8 0, .int .u8 0, .int .u8 0, .int .u8 0, .int .i64 0, .slice none 0 0] 41)).setRow W2.heap.size #[a0, a1, a2, a3, a4, a5, a6, a7, a8, a9, a10, a11, a12, a13, a14, a15, .int .i64 s.us, .slice A3 n3 c3] := ⟨_, rfl⟩
  have hb3 : Below W2.heap.size W2 W3 := by rw [hW3]; exact below_setRow (below_of_new W2 _) (Nat.le_refl _) _
  have hs3 : W3.heap.size = W2.heap.size + 1 := by rw [hW3, setRow_size]; simp
  have hrow3 : W3.heap[W2.heap.size]? = some (.cells #[a0, a1, a2, a3, a4, a5, a6, a7, a8, a9, a10, a11, a12, a13, a14, a15, .int .i64 s.us, .slice A3 n3 c3] 41 (0, 0)) := by rw [hW3]; exact setRow_heap _ _ _ _ _ _ (heap_alloc_new W2 _)
  have hcw : W3.cell? ⟨W2.heap.size, 17, none⟩ = some (.slice A3 n3 c3) := (cell_of_row W3 W2.heap.size 17 _ _ (0, 0) hrow3).trans rfl
  have hcx : ((W2.alloc (.cells #[.int .u8 0, .int .u8 0, .int .u8 0, .int .u8 0, .int .u8 0, .int .u8 0, .int .u8 0, .int .u8 0, .int .u8 0, .int .u8 0, .int .u8 0, .int .u8 0, .int .u8 0, .int .u8 0, .int .u8 0, .int .u8 0, .int .i64 0, .slice none 0 0] 41)).setRow W2.heap.size #[a0, a1, a2, a3, a4, a5, a6, a7, a8, a9, a10, a11, a12, a13, a14, a15, .int .i64 s.us, .slice A3 n3 c3]).cell? ⟨W2.heap.size, 17, none⟩ = some (.slice A3 n3 c3) := by rw [← hW3]; exact hcw
  have hgN3 : W3.heap[w.heap.size]? = some (.cells NV 41 (0, 0)) := (hb3.block _ (by omega)).trans hgN
  have HJ := Lib.hid (join1 A3 n3 c3 s.body W3 (hr3.on hb3) hn3l)
  have HB3 := Lib.hid hb3
  have HS3 := Lib.hid hs3
  have HR3 := Lib.hid hrow3
  have HN3 := Lib.hid hgN3
  have HW3 := Lib.hid hW3
  have HKB := Lib.hid hkb
  have HNN := Lib.hid hn3
  have HSI := Lib.hid (show ∀ (B : Option Addr) (d : Nat), (Try.prog.info? 41).map (·.size) = some (#[a0, a1, a2, a3, a4, a5, a6, a7, a8, a9, a10, a11, a12, a13, a14, a15, .int .i64 s.us, .slice B n3 d] : Array Value).size from fun _ _ => infoSl')
  have HNS := Lib.hid hNs
  rw [hA] at hc0
  rw [g0, hi] at HMK
  obtain ⟨m, hm⟩ : ∃ q, q = T.bs.length := ⟨_, rfl⟩
  rw [← hm] at hc0 hln
  have hil' : i < m := by omega
  have q1 : decide (((i + 1 : Nat) : Int) < 1) = false := by simp; omega
  have q2 : decide ((m : Int) < ((i + 1 : Nat) : Int)) = false := by simp; omega
  clear hb2 hgN h2 h hNe hNs hrd hW2 hs2 hbx hrg hr3 hsk hKV hKs hkb hk1 hn3 hb3 hs3 hrow3 hgN3 hA g0 hm hs
  go_enter Try.func18, Try.ntmps18
  go_wp2_with fail
  rw [← HNE.out, ← HW2.out]
  refine HMK.out.mono ?_
  rintro e w1 ⟨rfl, rfl⟩
  go_wp2_with (first | (refine wpList_load_mid rfl 41 (.tmp 38) rfl g (i * 18) rfl _ _ HRG.out Try.underlying41 rfl infoSl' ?_) | (refine wpList_store_row (o := ⟨none, _, _, _, _, _⟩) rfl 41 (.tmp 9) (.tmp 39) rfl W2.heap.size #[a0, a1, a2, a3, a4, a5, a6, a7, a8, a9, a10, a11, a12, a13, a14, a15, .int .i64 s.us, .slice A3 n3 c3] rfl rfl 41 _ (heap_alloc_new W2 _) infoSl' rfl (HA1.out A3 c3) ?_))
  rw [← hW3, ← HS3.out]
  refine HJ.out.mono ?_
  rintro e w5 ⟨A5, c5, rfl, ho5, hb5⟩
  have r5 : w5.heap[W2.heap.size]? = some (.cells #[a0, a1, a2, a3, a4, a5, a6, a7, a8, a9, a10, a11, a12, a13, a14, a15, .int .i64 s.us, .slice A3 n3 c3] 41 (0, 0)) := (hb5.block _ (by have := HS3.out; omega)).trans HR3.out
  have z5 : w5.heap[w.heap.size]? = some (.cells NV 41 (0, 0)) := (hb5.block _ (by have := HS3.out; have := HS2.out; omega)).trans HN3.out
  have d5 : w5.cell? ⟨W2.heap.size, 17, none⟩ = some (.slice A3 n3 c3) := (cell_of_row w5 W2.heap.size 17 _ _ (0, 0) r5).trans rfl
  have f5 : w5.frozen? ⟨W2.heap.size, 17, none⟩ = false := frozen_of_row w5 W2.heap.size 17 _ _ r5
  have r6 : (w5.setCell ⟨W2.heap.size, 17, none⟩ (.slice A5 n3 c5)).heap[W2.heap.size]? = some (.cells #[a0, a1, a2, a3, a4, a5, a6, a7, a8, a9, a10, a11, a12, a13, a14, a15, .int .i64 s.us, .slice A5 n3 c5] 41 (0, 0)) := heap_setCell_same _ _ _ _ _ _ r5
  have z6 : (w5.setCell ⟨W2.heap.size, 17, none⟩ (.slice A5 n3 c5)).heap[w.heap.size]? = some (.cells NV 41 (0, 0)) := (heap_setCell_other _ _ _ _ (by have := HS2.out; show w.heap.size ≠ W2.heap.size; omega)).trans z5
  have HO5 := Lib.hid ho5
  have HB5 := Lib.hid hb5
  have R6 := Lib.hid r6
  have Z6 := Lib.hid z6
  clear ho5 hb5 r5 z5 r6 z6 hcx hcw hW3
  go_wp2_with (first | (refine wpList_load_row rfl 41 (.tmp 9) rfl W2.heap.size rfl 41 #[a0, a1, a2, a3, a4, a5, a6, a7, a8, a9, a10, a11, a12, a13, a14, a15, .int .i64 s.us, .slice A5 n3 c5] (0, 0) _ R6.out Try.underlying41 rfl (HSI.out A5 c5) ?_) | (refine wpList_store_row (o := ⟨none, _, _, _, _, _⟩) rfl 41 (.tmp 4) (.tmp 45) rfl w.heap.size #[a0, a1, a2, a3, a4, a5, a6, a7, a8, a9, a10, a11, a12, a13, a14, a15, .int .i64 s.us, .slice A5 n3 c5] rfl rfl 41 _ Z6.out (HSI.out A5 c5) HNS.out (HA1.out A5 c5) ?_))
  have hres := setRow_heap _ w.heap.size _ #[a0, a1, a2, a3, a4, a5, a6, a7, a8, a9, a10, a11, a12, a13, a14, a15, .int .i64 s.us, .slice A5 n3 c5] _ _ Z6.out
  refine bodyPost_ret (v := .tuple #[.agg #[a0, a1, a2, a3, a4, a5, a6, a7, a8, a9, a10, a11, a12, a13, a14, a15, .int .i64 s.us, .slice A5 n3 c5], .bool true]) (results_row_tmp Try.results18 _ _ w.heap.size 41 #[a0, a1, a2, a3, a4, a5, a6, a7, a8, a9, a10, a11, a12, a13, a14, a15, .int .i64 s.us, .slice A5 n3 c5] (0, 0) _ (by rfl) (by rfl) hres Try.underlying41 (HSI.out A5 c5)) rfl ?_
  have hz := HS2.out
  have hz3 := HS3.out
  have hnn := HNN.out
  subst hnn
  refine ⟨A5, c5, by rw [HKB.out]; rfl, ?_, ?_⟩
  · refine own_same (World.ownsRow.mono HO5.out (by omega)) rfl rfl rfl (by rw [setRow_size, World.size_setCell]; omega) fun q hq => ?_
    have := (HO5.out.lt q hq).1
    rw [setRow_other _ _ _ _ (by omega), heap_setCell_other _ _ _ _ (by show q ≠ W2.heap.size; omega)]
  · refine below_setRow ⟨?_, ?_, ?_, ?_, fun q hq => ?_⟩ (Nat.le_refl _) _
    · exact HB5.out.os.trans (HB3.out.os.trans HB2.out.os)
    · exact HB5.out.tape.trans (HB3.out.tape.trans HB2.out.tape)
    · exact HB5.out.output.trans (HB3.out.output.trans HB2.out.output)
    · rw [World.size_setCell]; have := HB5.out.size; omega
    · rw [heap_setCell_other _ _ _ _ (by show q ≠ W2.heap.size; omega)]
      exact (below_seq HB2.out (below_seq HB3.out HB5.out)).block q hq
end Go.Proofs.Ytbfcdlfjlailjaa.Sym
