/-
  sym's once.
-/
import Derived.Test.YtbfcdlfjlailjaaSymx
namespace Go.Proofs.Ytbfcdlfjlailjaa.Sym
open Go.RowKit
open Go.Proofs.Ytbfcdlfjlailjaa.Kit
open Go.Proofs.Ytbfcdlfjlailjaa.Oct
set_option linter.unusedVariables false

set_option maxRecDepth 100000 in
set_option maxHeartbeats 4000000 in
theorem once_yes (tb : Nat) (L : Lay) (O S : Nat → Prop) (T : Tab) (o : Og) (w : World) (h : TabAt w tb L O S T) (ho : o.ok) (hlen : T.ks.length < 100000) {k : Nat} (hk : T.fd o = some k) :
    Calls Try.prog 42 #[.pointer (some ⟨tb, 0, none⟩), o.val] w fun e w' => e = .returned (.agg (kv (mk 107 (onceT T o).1))) ∧ Went w w' tb O S (onceT T o).2 := by
  obtain ⟨ZA, hZA⟩ : ∃ q : Array Value, q = #[.int .u8 0, .int .u8 0, .int .u8 0, .int .u8 0, .int .u8 0, .int .u8 0, .int .u8 0, .int .u8 0, .int .u8 0, .int .u8 0, .int .u8 0, .int .u8 0, .int .u8 0, .int .u8 0, .int .u8 0, .int .u8 0] := ⟨_, rfl⟩
  obtain ⟨OV, hOV⟩ : ∃ q : Array Value, q = o.cells.toArray := ⟨_, rfl⟩
  obtain ⟨LV, hLV⟩ : ∃ q, q = lookV T.fd o := ⟨_, rfl⟩
  have hOs : OV.size = 20 := by rw [hOV]; simpa using Og.cells_len ho
  have hLs : LV.size = 16 := by rw [hLV, lookV_size]
  obtain ⟨W0, hW0⟩ : ∃ W, W = (w.alloc (.cells OV 93)).alloc (.cells ZA 36) := ⟨_, rfl⟩
  have hb0 : Below w.heap.size w W0 := by rw [hW0]; exact below_alloc (below_of_new w _) _
  have hs0 : W0.heap.size = w.heap.size + 2 := by rw [hW0]; simp
  have hgO : W0.heap[w.heap.size]? = some (.cells OV 93 (0, 0)) := by rw [hW0, heap_alloc_old _ _ (by simp)]; exact heap_alloc_new w _
  have hgZ : W0.heap[w.heap.size + 1]? = some (.cells ZA 36 (0, 0)) := by rw [hW0]; exact heap_new' _ _ (by simp)
  have htb : tb < w.heap.size := h.lt tb (.inl h.otb)
  have hmb0 : L.mb < w.heap.size := h.map.lt
  have hbox := (hb0.block tb htb).trans h.box
  obtain ⟨v1, hv1⟩ : ∃ v, v = L.v1 T := ⟨_, rfl⟩
  obtain ⟨v2, hv2⟩ : ∃ v, v = L.v2 T := ⟨_, rfl⟩
  obtain ⟨v3, hv3⟩ : ∃ v, v = L.v3 T := ⟨_, rfl⟩
  obtain ⟨mb, hmb⟩ : ∃ v, v = L.mb := ⟨_, rfl⟩
  rw [← hv1, ← hv2, ← hv3, ← hmb] at hbox
  rw [← hmb] at hmb0
  have hmW := hb0.block mb hmb0
  have HLK := Lib.hid (show ∀ (W : World), W.heap[mb]? = w.heap[mb]? → ∀ (a : Act) (x y : Operand) (op : Oper), op.op = .lookup 84 x y true → a.eval x = .map (some mb) → a.eval y = .agg OV →
      (execOp a.eval op).run Try.prog W = .ok (.value (.tuple #[.agg LV, .bool true])) W from fun W hq a x y op h1 h2 h3 => by
    have := run_lookup (h.map.kept (w' := W) (by rw [← hmb]; exact hq)) ho h1 (by rw [h2, hmb]) (by rw [h3, hOV]; rfl)
    rw [← hLV, hk] at this
    exact this)
  have HOI := Lib.hid (show (Try.prog.info? 93).map (·.size) = some OV.size from by rw [hOs]; exact infoOg)
  have HZL := Lib.hid (show ZA.size = LV.size from by rw [hZA, hLs]; rfl)
  have HLI := Lib.hid (show (Try.prog.info? 36).map (·.size) = some LV.size from by rw [hLs]; exact infoK)
  have HL1 := Lib.hid (show LV.all (·.oneCell') = true from by rw [hLV]; exact lookV_one _ _)
  have HH := Lib.hid h
  have HOK := Lib.hid ho
  have HW0 := Lib.hid hW0
  have HB0 := Lib.hid hb0
  have HS0 := Lib.hid hs0
  have HGZ := Lib.hid hgZ
  have HGO := Lib.hid hgO
  have HOV := Lib.hid hOV
  have HLV := Lib.hid hLV
  have HZA := Lib.hid hZA
  have HBOX := Lib.hid hbox
  have HTB := Lib.hid htb
  have HMB := Lib.hid hmb
  have HMW := Lib.hid hmW
  have HMLT := Lib.hid hmb0
  have HLZ := Lib.hid (show ZA.size = LV.size from by rw [hZA, hLs]; rfl)
  have HK := Lib.hid hk
  clear hk
  rw [show o.val = .agg OV from by rw [hOV]; rfl]
  clear hOs hLs hW0 hb0 hs0 hgO hgZ h ho hbox hv1 hv2 hv3 hmb hmb0 hmW hOV hLV hZA htb
  go_enter Try.func42, Try.ntmps42
  go_wp2_with fail
  rw [← HZA.out, ← HW0.out]
  refine wp_region_held_drew (S := fun w' => w'.heap[tb]? = some (.cells #[v1, v2, v3, .map (some mb)] 87 (0, 0)) ∧ w'.heap[w.heap.size]? = some (.cells OV 93 (0, 0)) ∧ w'.heap[mb]? = w.heap[mb]?) (by kernel_rfl) ⟨HBOX.out, HGO.out, HMW.out⟩ (fun hHeld => ?_)
  refine wpAnyH_take (i := 0) (v := .pointer (some ⟨tb, 0, none⟩)) rfl (by kernel_rfl) (by kernel_rfl) (by kernel_rfl) (fun _ _ _ h => h) (Or.inl ⟨by rfl, fun wq hSw => by go_simp⟩) (by assumption) ?_
  go_simp
  refine wpAnyH_take (i := 1) (v := .pointer (some ⟨tb, 0, none⟩)) rfl (by kernel_rfl) (by kernel_rfl) (by kernel_rfl) (fun _ _ _ h => h) (Or.inl ⟨by rfl, fun wq hSw => by go_simp⟩) (by assumption) ?_
  go_simp
  refine wpAnyH_take (i := 2) (v := .pointer (some ⟨tb, 3, none⟩)) rfl (by kernel_rfl) (by kernel_rfl) (by kernel_rfl) (fun _ _ _ h => h) (Or.inl ⟨by rfl, fun wq hSw => by go_simp⟩) (by assumption) ?_
  go_simp
  refine wpAnyH_take (i := 3) (v := .map (some mb)) rfl (by kernel_rfl) (by kernel_rfl) (by kernel_rfl) (fun _ _ _ h => h) (Or.inl ⟨by rfl, fun wq hSw => by (have hq := cell_of_row wq tb 3 _ _ (0, 0) hSw.1; simp only [List.getElem?_toArray, List.getElem?_cons_zero, List.getElem?_cons_succ] at hq; go_simp)⟩) (by assumption) ?_
  go_simp
  refine wpAnyH_take (i := 4) (v := .agg OV) rfl (by kernel_rfl) (by kernel_rfl) (by kernel_rfl) (fun _ _ _ h => h) (Or.inl ⟨by rfl, fun wq hSw => by (exact run_load_row hSw.2.1 Try.underlying93 HOI.out rfl rfl)⟩) (by assumption) ?_
  go_simp
  refine wpAnyH_take (i := 5) (v := .tuple #[.agg LV, .bool true]) rfl (by kernel_rfl) (by kernel_rfl) (by kernel_rfl) (fun _ _ _ h => h) (Or.inl ⟨by rfl, fun wq hSw => by (exact HLK.out wq hSw.2.2 _ _ _ _ rfl rfl rfl)⟩) (by assumption) ?_
  go_simp
  refine wpAnyH_take (i := 6) (v := .tuple #[.agg LV, .bool true]) rfl (by kernel_rfl) (by kernel_rfl) (by kernel_rfl) (fun _ _ _ h => h) (Or.inl ⟨by rfl, fun wq hSw => by go_simp⟩) (by assumption) ?_
  go_simp
  refine wpAnyH_take (i := 7) (v := .agg LV) rfl (by kernel_rfl) (by kernel_rfl) (by kernel_rfl) (fun _ _ _ h => h) (Or.inl ⟨by rfl, fun wq hSw => by go_simp⟩) (by assumption) ?_
  go_simp
  refine wpAnyH_take (i := 8) (v := .bool true) rfl (by kernel_rfl) (by kernel_rfl) (by kernel_rfl) (fun _ _ _ h => h) (Or.inl ⟨by rfl, fun wq hSw => by go_simp⟩) (by assumption) ?_
  go_simp
  refine wpAnyH_ready (rs := [9]) (by kernel_rfl) (by simp) ?_
  refine AllReadyH.cons rfl (fun K hK => ?_) AllReadyH.nil
  go_simp
  rw [← HZA.out]
  refine hK.out _ _ ⟨((heap_alloc_old _ _ (by have := HTB.out; have := HMLT.out; rw [HS0.out]; omega)).trans HBOX.out), ((heap_alloc_old _ _ (by have := HTB.out; have := HMLT.out; rw [HS0.out]; omega)).trans HGO.out), ((heap_alloc_old _ _ (by have := HTB.out; have := HMLT.out; rw [HS0.out]; omega)).trans HMW.out)⟩ (fun hHeld2 => ?_)
  clear hK K
  refine wpAnyH_ready (rs := [10]) (by kernel_rfl) (by simp) ?_
  refine AllReadyH.cons rfl (fun K hK => ?_) AllReadyH.nil
  rw [if_pos (by rfl)]
  refine wp_store_row 36 (.tmp 5) (.tmp 14) rfl W0.heap.size LV rfl rfl 36 ZA (heap_alloc_new W0 _) HLI.out HZL.out HL1.out ?_
  try go_simp
  refine hK.out _ _ ⟨((setRow_other _ _ _ _ (by have := HTB.out; have := HMLT.out; rw [HS0.out]; omega)).trans ((heap_alloc_old _ _ (by have := HTB.out; have := HMLT.out; rw [HS0.out]; omega)).trans HBOX.out)), ((setRow_other _ _ _ _ (by have := HTB.out; have := HMLT.out; rw [HS0.out]; omega)).trans ((heap_alloc_old _ _ (by have := HTB.out; have := HMLT.out; rw [HS0.out]; omega)).trans HGO.out)), ((setRow_other _ _ _ _ (by have := HTB.out; have := HMLT.out; rw [HS0.out]; omega)).trans ((heap_alloc_old _ _ (by have := HTB.out; have := HMLT.out; rw [HS0.out]; omega)).trans HMW.out))⟩ (fun hHeld3 => ?_)
  clear hK K
  refine wpAnyH_take (i := 11) (v := .bool true) rfl (by kernel_rfl) (by kernel_rfl) (by kernel_rfl) (fun _ _ _ h => h) (Or.inl ⟨by rfl, fun wq hSw => by go_simp⟩) (by assumption) ?_
  go_simp
  refine wpAnyH_done (by kernel_rfl) ?_ _
  have hl2 : ((W0.alloc (.cells ZA 36)).drew.setRow W0.heap.size LV).heap[W0.heap.size]? = some (.cells LV 36 (0, 0)) := setRow_heap _ _ _ _ _ _ (heap_alloc_new W0 _)
  have hz2 : ((W0.alloc (.cells ZA 36)).drew.setRow W0.heap.size LV).heap[w.heap.size + 1]? = some (.cells ZA 36 (0, 0)) := ((setRow_other _ _ _ _ (by have := HTB.out; have := HMLT.out; rw [HS0.out]; omega)).trans ((heap_alloc_old _ _ (by have := HTB.out; have := HMLT.out; rw [HS0.out]; omega)).trans HGZ.out))
  have hb2 : Below w.heap.size w ((W0.alloc (.cells ZA 36)).drew.setRow W0.heap.size LV) := below_setRow (below_seq HB0.out (below_seq (below_of_new W0 _) (below_of_drew ⟨1, rfl⟩ _))) HB0.out.size _
  obtain ⟨W2, hW2⟩ : ∃ q, q = (W0.alloc (.cells ZA 36)).drew.setRow W0.heap.size LV := ⟨_, rfl⟩
  rw [← hW2] at hl2 hz2 hb2 ⊢
  have HL2 := Lib.hid hl2
  have HZ2 := Lib.hid hz2
  have HB2 := Lib.hid hb2
  clear hl2 hz2 hb2 hW2 hHeld hHeld2 hHeld3
  go_wp2_with (first | (refine wpList_load_row rfl 36 (.tmp 5) rfl W0.heap.size rfl 36 LV (0, 0) _ HL2.out Try.underlying36 rfl HLI.out ?_) | (refine wpList_store_row (o := ⟨none, _, _, _, _, _⟩) rfl 36 (.tmp 4) (.tmp 28) rfl (w.heap.size + 1) LV rfl rfl 36 _ HZ2.out HLI.out HLZ.out HL1.out ?_))
  have hres := setRow_heap _ (w.heap.size + 1) _ LV _ _ HZ2.out
  refine bodyPost_ret (v := .agg LV) (results_cell_row Try.results42 _ _ (w.heap.size + 1) 36 LV (0, 0) _ (by rfl) hres Try.underlying36 rfl HLI.out) rfl ?_
  have hk := HK.out
  have hlv := HLV.out
  rw [lookV, hk] at hlv
  rw [onceT, hk]
  exact ⟨by rw [hlv], Went.of_below HH.out (below_setRow HB2.out (by omega) _)⟩
end Go.Proofs.Ytbfcdlfjlailjaa.Sym
