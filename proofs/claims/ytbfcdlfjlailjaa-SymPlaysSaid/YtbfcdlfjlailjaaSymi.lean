/-
  sym's Came.
-/
import Derived.Test.YtbfcdlfjlailjaaSymk
import Derived.Laws.ResultCell
namespace Go.Proofs.Ytbfcdlfjlailjaa.Sym
open Go.RowKit
open Go.Proofs.Ytbfcdlfjlailjaa.Kit
open Go.Proofs.Ytbfcdlfjlailjaa.Oct
set_option linter.unusedVariables false

theorem results_row_tmp {fn : Func} {p u : Tmp} {ty : TypeId} (h : fn.results = #[.cell p ty, .tmp u]) (tmps : Array Value) (w : World) (g : Nat) (t : TypeId) (cs : Array Value) (fr : Nat × Nat) {v : Value} (fs : Array Field)
    (hp : tmps.getD p undef = .pointer (some ⟨g, 0, none⟩)) (hv : tmps.getD u undef = v) (hg : w.heap[g]? = some (.cells cs t fr))
    (hu : Try.prog.underlying ty = some (.struct fs)) (hi : (Try.prog.info? ty).map (·.size) = some cs.size) :
    (results fn tmps).run Try.prog w = .ok (.tuple #[.agg cs, v]) w := by
  rw [results_cell_tmp h, hp, hv]
  simp [asAddr, run_loadVar_row w g t ty cs fr _ hg hu rfl hi, Result.andThen]
theorem cellsF_at : ∀ (l : List Fr), (∀ f ∈ l, f.ok) → ∀ i (hi : i < l.length) j v, l[i].cells[j]? = some v → (cellsF l)[i * 18 + j]? = some v
  | [], _, i, hi, _, _, _ => absurd hi (by simp)
  | f :: r, hok, 0, _, j, v, hv => by
    have hv : f.cells[j]? = some v := hv
    rw [show cellsF (f :: r) = f.cells ++ cellsF r from rfl, Nat.zero_mul, Nat.zero_add, List.getElem?_append_left (List.getElem?_eq_some_iff.1 hv).1]
    exact hv
  | f :: r, hok, i + 1, hi, j, v, hv => by
    have hl := Fr.cells_len (hok f (List.mem_cons_self ..))
    rw [show cellsF (f :: r) = f.cells ++ cellsF r from rfl, List.getElem?_append_right (by omega), hl, show (i + 1) * 18 + j - 18 = i * 18 + j from by omega]
    exact cellsF_at r (fun g hg => hok g (List.mem_cons_of_mem _ hg)) i (by simpa using hi) j v hv
/-- where the i-th key's origin lies -/
theorem TabAt.key_at {w : World} {tb : Nat} {L : Lay} {O S : Nat → Prop} {T : Tab} (h : TabAt w tb L O S T) {i : Nat} (hi : i < T.ks.length) : ∃ g, L.A1 = some ⟨g, 0, none⟩ ∧ w.rangeAt g (i * 18) (T.ks[i].cells) := by
  have ho := h.o1
  obtain ⟨g, cap, hv, _, _⟩ := ho.form (by omega)
  rw [Lay.v1] at hv ho
  injection hv with h1 h2 h3
  refine ⟨g, h1, fun j v hj => ?_⟩
  have hl := Fr.cells_len (h.fok _ (List.getElem_mem hi))
  have hj2 : j < 18 := by have := (List.getElem?_eq_some_iff.1 hj).1; omega
  rw [h1] at ho
  rw [ho.cellAt (i * 18 + j) (by omega)]
  exact cellsF_at _ h.fok i hi j v hj
theorem Fr.one_all (f : Fr) : f.cells.toArray.all (·.oneCell') = true := Array.all_eq_true_iff_forall_mem.2 fun u hu => f.one u (by simpa using hu)
def camS (T : Tab) (k : List UInt8) : Fr × Bool := if mkK k = 107 ∧ 1 ≤ mkN k ∧ mkN k ≤ T.ks.length then (T.ks.getD (mkN k - 1) Fr.none, true) else (Fr.none, false)
theorem u8_ne {x : UInt8} {c : Nat} (hc : c < 256) (h : x ≠ UInt8.ofNat c) : (x.toNat : Int) ≠ (c : Int) := fun e => h (by
  have e2 : x.toNat = c := by exact_mod_cast e
  rw [← e2, UInt8.ofNat_toNat])
theorem zeroFr : Try.prog.info? 51 = Try.prog.info? 51 := rfl

set_option maxRecDepth 100000 in
set_option maxHeartbeats 2000000 in
theorem came_any {tb : Nat} {L : Lay} {O S : Nat → Prop} {T : Tab} {w : World} {k : List UInt8} (h : TabAt w tb L O S T) (hk : k.length = 16) :
    Calls Try.prog 22 #[.pointer (some ⟨tb, 0, none⟩), .agg (kv k)] w fun e w' => e = .returned (.tuple #[.agg (camS T k).1.cells.toArray, .bool (camS T k).2]) ∧ Below w.heap.size w w' := by
  obtain ⟨KV, hKV⟩ : ∃ q, q = kv k := ⟨_, rfl⟩
  have hKs : KV.size = 16 := by rw [hKV, kv_size, hk]
  obtain ⟨NV, hNV⟩ : ∃ q, q = Fr.none.cells.toArray := ⟨_, rfl⟩
  have hNe : NV = #[.int .u8 0, .int .u8 0, .int .u8 0, .int .u8 0, .int .u8 0, .int .u8 0, .int .u8 0, .int .u8 0, .int .u8 0, .int .u8 0, .int .u8 0, .int .u8 0, .int .u8 0, .int .u8 0, .int .u8 0, .int .u8 0, .string ⟨#[]⟩, .bool false] := by rw [hNV, Fr.none_cells]
  have hNs : NV.size = 18 := by rw [hNe]; rfl
  have htb : tb < w.heap.size := h.lt tb (.inl h.otb)
  obtain ⟨W2, hW2⟩ : ∃ q, q = (w.alloc (.cells KV 36)).alloc (.cells NV 51) := ⟨_, rfl⟩
  have hb2 : Below w.heap.size w W2 := by rw [hW2]; exact below_seq (below_of_new w _) (below_of_new _ _)
  have hgK : W2.heap[w.heap.size]? = some (.cells KV 36 (0, 0)) := by rw [hW2, heap_alloc_old _ _ (by simp)]; exact heap_alloc_new w _
  have hgN : W2.heap[w.heap.size + 1]? = some (.cells NV 51 (0, 0)) := by rw [hW2]; exact heap_new' _ _ (by simp)
  have hrd : RdB W2 W2.heap.size (some ⟨w.heap.size, 0, none⟩) 16 16 k := by
    refine ⟨by rw [List.length_map, hk], Nat.le_refl _, by omega, fun _ => ⟨w.heap.size, 0, rfl, (Array.getElem?_eq_some_iff.1 hgK).1, fun j u hu => ?_⟩⟩
    rw [cell_of_row W2 w.heap.size (0 + j) _ _ (0, 0) hgK, Nat.zero_add, hKV]
    simpa [kv] using hu
  have HMK := Lib.hid (mark_any (some ⟨w.heap.size, 0, none⟩) 16 16 W2.heap.size k W2 hrd)
  have h2 := h.below hb2
  have HN1 := Lib.hid (show NV.all (·.oneCell') = true from by rw [hNV]; exact Fr.one_all _)
  have HNI := Lib.hid (show (Try.prog.info? 51).map (·.size) = some NV.size from by rw [hNs]; exact infoFr')
  have HGN := Lib.hid hgN
  have HB2 := Lib.hid hb2
  have HNE := Lib.hid hNe
  have HNV := Lib.hid hNV
  have HW2 := Lib.hid hW2
  have hc0 : W2.cell? ⟨tb, 0, none⟩ = some (.slice L.A1 T.ks.length L.c1) := (cell_of_row W2 tb 0 _ _ (0, 0) h2.box).trans rfl
  have hln := h.kle.1
  rw [← hKV]
  by_cases hg : mkK k = 107 ∧ 1 ≤ mkN k ∧ mkN k ≤ T.ks.length
  · obtain ⟨g0, g1, g2⟩ := hg
    obtain ⟨i, hi⟩ : ∃ i, mkN k = i + 1 := ⟨mkN k - 1, by omega⟩
    have hil : i < T.ks.length := by omega
    obtain ⟨FL, hFL⟩ : ∃ q, q = T.ks[i].cells := ⟨_, rfl⟩
    have hs : camS T k = (T.ks[i], true) := by
      unfold camS
      rw [if_pos ⟨g0, g1, g2⟩, hi, Nat.add_sub_cancel, List.getD_eq_getElem?_getD, List.getElem?_eq_getElem hil]
      rfl
    rw [hs]
    obtain ⟨g, hA, hrg⟩ := h2.key_at hil
    rw [hA] at hc0
    rw [← hFL] at hrg
    have hFs : FL.length = 18 := by rw [hFL]; exact Fr.cells_len (h.fok _ (List.getElem_mem hil))
    have HFI := Lib.hid (show (Try.prog.info? 51).map (·.size) = some FL.length from by rw [hFs]; exact infoFr')
    have HF1 := Lib.hid (show FL.toArray.all (·.oneCell') = true from by rw [hFL]; exact Fr.one_all _)
    have HFZ := Lib.hid (show NV.size = FL.toArray.size from by rw [hNs]; simpa using hFs.symm)
    have HFA := Lib.hid (show (Try.prog.info? 51).map (·.size) = some FL.toArray.size from by simpa using HFI.out)
    have HRG := Lib.hid hrg
    have HFL := Lib.hid hFL
    rw [g0, hi] at HMK
    obtain ⟨n, hn⟩ : ∃ q, q = T.ks.length := ⟨_, rfl⟩
    rw [← hn] at hc0 hln hil g2
    clear hb2 hgN h2 h hNe hNV hNs hgK hrd hKV hKs hW2 hFs hFL hrg hs hA g0 g1 hn
    have q1 : decide (((i + 1 : Nat) : Int) < 1) = false := by simp; omega
    have q2 : decide ((n : Int) < ((i + 1 : Nat) : Int)) = false := by simp; omega
    go_enter Try.func22, Try.ntmps22
    go_wp2_with fail
    rw [← HNE.out, ← HW2.out]
    refine HMK.out.mono ?_
    rintro e w1 ⟨rfl, rfl⟩
    go_wp2_with (first | (refine wpList_load_mid rfl 51 (.tmp 37) rfl g (i * 18) rfl FL _ HRG.out Try.underlying51 rfl HFI.out ?_) | (refine wpList_store_row (o := ⟨none, _, _, _, _, _⟩) rfl 51 (.tmp 4) (.tmp 38) rfl (w.heap.size + 1) FL.toArray rfl rfl 51 _ HGN.out HFA.out HFZ.out HF1.out ?_))
    have hres := setRow_heap _ (w.heap.size + 1) _ FL.toArray _ _ HGN.out
    refine bodyPost_ret (v := .tuple #[.agg FL.toArray, .bool true]) (results_row_tmp Try.results22 _ _ (w.heap.size + 1) 51 FL.toArray (0, 0) _ (by rfl) (by rfl) hres Try.underlying51 HFA.out) rfl ?_
    exact ⟨by rw [HFL.out], below_setRow HB2.out (by omega) _⟩
  · have hs : camS T k = (Fr.none, false) := by unfold camS; rw [if_neg hg]
    rw [hs]
    by_cases g0 : mkK k = 107
    · rw [g0] at HMK
      by_cases g1 : mkN k = 0
      · rw [g1] at HMK
        clear hb2 hgN h2 h hNe hNV hNs hgK hrd hKV hKs hW2 hs hg g0 g1
        go_enter Try.func22, Try.ntmps22
        go_wp2_with fail
        rw [← HNE.out, ← HW2.out]
        refine HMK.out.mono ?_
        rintro e w1 ⟨rfl, rfl⟩
        go_wp2_with (refine wpList_store_row (o := ⟨none, _, _, _, _, _⟩) rfl 51 (.tmp 4) (.tmp 30) rfl (w.heap.size + 1) NV rfl (congrArg Value.agg HNE.out.symm) 51 _ HGN.out HNI.out rfl HN1.out ?_)
        have hres := setRow_heap _ (w.heap.size + 1) _ NV _ _ HGN.out
        refine bodyPost_ret (v := .tuple #[.agg NV, .bool false]) (results_row_tmp Try.results22 _ _ (w.heap.size + 1) 51 NV (0, 0) _ (by rfl) (by rfl) hres Try.underlying51 HNI.out) rfl ?_
        exact ⟨by rw [HNV.out], below_setRow HB2.out (by omega) _⟩
      · have g2 : T.ks.length < mkN k := by
          rcases Nat.lt_or_ge T.ks.length (mkN k) with h1 | h1
          · exact h1
          · exact absurd ⟨g0, by omega, h1⟩ hg
        obtain ⟨m, hm⟩ : ∃ q, q = mkN k := ⟨_, rfl⟩
        obtain ⟨n, hn⟩ : ∃ q, q = T.ks.length := ⟨_, rfl⟩
        rw [← hm] at HMK g1 g2
        rw [← hn] at g2 hc0 hln
        have p1 : ¬ ((m : Int) < 1) := by omega
        have q1 : decide ((m : Int) < 1) = false := by simp; omega
        have p2 : (n : Int) < (m : Int) := by omega
        have q2 : decide ((n : Int) < (m : Int)) = true := by simp; omega
        clear hb2 hgN h2 h hNe hNV hNs hgK hrd hKV hKs hW2 hs hg g0 hm hn
        go_enter Try.func22, Try.ntmps22
        go_wp2_with fail
        rw [← HNE.out, ← HW2.out]
        refine HMK.out.mono ?_
        rintro e w1 ⟨rfl, rfl⟩
        go_wp2_with (refine wpList_store_row (o := ⟨none, _, _, _, _, _⟩) rfl 51 (.tmp 4) (.tmp 30) rfl (w.heap.size + 1) NV rfl (congrArg Value.agg HNE.out.symm) 51 _ HGN.out HNI.out rfl HN1.out ?_)
        have hres := setRow_heap _ (w.heap.size + 1) _ NV _ _ HGN.out
        refine bodyPost_ret (v := .tuple #[.agg NV, .bool false]) (results_row_tmp Try.results22 _ _ (w.heap.size + 1) 51 NV (0, 0) _ (by rfl) (by rfl) hres Try.underlying51 HNI.out) rfl ?_
        exact ⟨by rw [HNV.out], below_setRow HB2.out (by omega) _⟩
    · have p0 : ((mkK k).toNat : Int) ≠ 107 := u8_ne (c := 107) (by omega) g0
      have q0 : (((mkK k).toNat : Int) != 107) = true := by simpa using p0
      clear hb2 hgN h2 h hNe hNV hNs hgK hrd hKV hKs hW2 hs hg g0
      go_enter Try.func22, Try.ntmps22
      go_wp2_with fail
      rw [← HNE.out, ← HW2.out]
      refine HMK.out.mono ?_
      rintro e w1 ⟨rfl, rfl⟩
      go_wp2_with (refine wpList_store_row (o := ⟨none, _, _, _, _, _⟩) rfl 51 (.tmp 4) (.tmp 30) rfl (w.heap.size + 1) NV rfl (congrArg Value.agg HNE.out.symm) 51 _ HGN.out HNI.out rfl HN1.out ?_)
      have hres := setRow_heap _ (w.heap.size + 1) _ NV _ _ HGN.out
      refine bodyPost_ret (v := .tuple #[.agg NV, .bool false]) (results_row_tmp Try.results22 _ _ (w.heap.size + 1) 51 NV (0, 0) _ (by rfl) (by rfl) hres Try.underlying51 HNI.out) rfl ?_
      exact ⟨by rw [HNV.out], below_setRow HB2.out (by omega) _⟩
end Go.Proofs.Ytbfcdlfjlailjaa.Sym
