/-
  sym's once.
-/
import Derived.Test.YtbfcdlfjlailjaaSymx
namespace Go.Proofs.Ytbfcdlfjlailjaa.Sym
open Go.RowKit
open Go.Proofs.Ytbfcdlfjlailjaa.Kit
open Go.Proofs.Ytbfcdlfjlailjaa.Oct
set_option linter.unusedVariables false

set_option maxRecDepth 100000 in
set_option maxHeartbeats 4000000 in
theorem once_no (tb : Nat) (L : Lay) (O S : Nat → Prop) (T : Tab) (o : Og) (w : World) (h : TabAt w tb L O S T) (ho : o.ok) (hlen : T.ks.length < 100000) (hk : T.fd o = none) :
    Calls Try.prog 42 #[.pointer (some ⟨tb, 0, none⟩), o.val] w fun e w' => e = .returned (.agg (kv (mk 107 (onceT T o).1))) ∧ Went w w' tb O S (onceT T o).2 := by
  obtain ⟨ZA, hZA⟩ : ∃ q : Array Value, q = #[.int .u8 0, .int .u8 0, .int .u8 0, .int .u8 0, .int .u8 0, .int .u8 0, .int .u8 0, .int .u8 0, .int .u8 0, .int .u8 0, .int .u8 0, .int .u8 0, .int .u8 0, .int .u8 0, .int .u8 0, .int .u8 0] := ⟨_, rfl⟩
  obtain ⟨OV, hOV⟩ : ∃ q : Array Value, q = o.cells.toArray := ⟨_, rfl⟩
  obtain ⟨LV, hLV⟩ : ∃ q, q = lookV T.fd o := ⟨_, rfl⟩
  have hOs : OV.size = 20 := by rw [hOV]; simpa using Og.cells_len ho
  have hLs : LV.size = 16 := by rw [hLV, lookV_size]
  obtain ⟨W0, hW0⟩ : ∃ W, W = (w.alloc (.cells OV 93)).alloc (.cells ZA 36) := ⟨_, rfl⟩
  have hb0 : Below w.heap.size w W0 := by rw [hW0]; exact below_alloc (below_of_new w _) _
  have hs0 : W0.heap.size = w.heap.size + 2 := by rw [hW0]; simp
  have hgO : W0.heap[w.heap.size]? = some (.cells OV 93 (0, 0)) := by rw [hW0, heap_alloc_old _ _ (by simp)]; exact heap_alloc_new w _
  have hgZ : W0.heap[w.heap.size + 1]? = some (.cells ZA 36 (0, 0)) := by rw [hW0]; exact heap_new' _ _ (by simp)
  have htb : tb < w.heap.size := h.lt tb (.inl h.otb)
  have hmb0 : L.mb < w.heap.size := h.map.lt
  have hbox := (hb0.block tb htb).trans h.box
  obtain ⟨v1, hv1⟩ : ∃ v, v = L.v1 T := ⟨_, rfl⟩
  obtain ⟨v2, hv2⟩ : ∃ v, v = L.v2 T := ⟨_, rfl⟩
  obtain ⟨v3, hv3⟩ : ∃ v, v = L.v3 T := ⟨_, rfl⟩
  obtain ⟨mb, hmb⟩ : ∃ v, v = L.mb := ⟨_, rfl⟩
  rw [← hv1, ← hv2, ← hv3, ← hmb] at hbox
  rw [← hmb] at hmb0
  have hmW := hb0.block mb hmb0
  have HLK := Lib.hid (show ∀ (W : World), W.heap[mb]? = w.heap[mb]? → ∀ (a : Act) (x y : Operand) (op : Oper), op.op = .lookup 84 x y true → a.eval x = .map (some mb) → a.eval y = .agg OV →
      (execOp a.eval op).run Try.prog W = .ok (.value (.tuple #[.agg LV, .bool false])) W from fun W hq a x y op h1 h2 h3 => by
    have := run_lookup (h.map.kept (w' := W) (by rw [← hmb]; exact hq)) ho h1 (by rw [h2, hmb]) (by rw [h3, hOV]; rfl)
    rw [← hLV, hk] at this
    exact this)
  have HOI := Lib.hid (show (Try.prog.info? 93).map (·.size) = some OV.size from by rw [hOs]; exact infoOg)
  have HZL := Lib.hid (show ZA.size = LV.size from by rw [hZA, hLs]; rfl)
  have HLI := Lib.hid (show (Try.prog.info? 36).map (·.size) = some LV.size from by rw [hLs]; exact infoK)
  have HL1 := Lib.hid (show LV.all (·.oneCell') = true from by rw [hLV]; exact lookV_one _ _)
  have HH := Lib.hid h
  have HOK := Lib.hid ho
  have HW0 := Lib.hid hW0
  have HB0 := Lib.hid hb0
  have HS0 := Lib.hid hs0
  have HGZ := Lib.hid hgZ
  have HGO := Lib.hid hgO
  have HOV := Lib.hid hOV
  have HLV := Lib.hid hLV
  have HZA := Lib.hid hZA
  have HBOX := Lib.hid hbox
  have HTB := Lib.hid htb
  have HMB := Lib.hid hmb
  have HMW := Lib.hid hmW
  have HMLT := Lib.hid hmb0
  obtain ⟨PV, hPV⟩ : ∃ q, q = kv (mk 107 (T.ks.length + 1)) := ⟨_, rfl⟩
  have hPs : PV.size = 16 := by rw [hPV, kv_size, mk_len]
  have HPI := Lib.hid (show (Try.prog.info? 36).map (·.size) = some PV.size from by rw [hPs]; exact infoK)
  have HP1 := Lib.hid (show PV.all (·.oneCell') = true from by rw [hPV]; exact kv_one _)
  have HPZ := Lib.hid (show LV.size = PV.size from by rw [hLs, hPs])
  have HQZ := Lib.hid (show ZA.size = PV.size from by rw [hZA, hPs]; rfl)
  have HFI := Lib.hid (show (Try.prog.info? 51).map (·.size) = some o.fr.cells.length from by rw [Fr.cells_len ho.1]; exact infoFr')
  have HMD := Lib.hid (show ∀ W, Below w.heap.size w W → Calls Try.prog 41 #[.pointer (some ⟨tb, 0, none⟩), .agg o.fr.cells.toArray] W fun e w' => ∃ L' O', e = .returned (.agg PV) ∧
      TabAt w' tb L' O' S { T with ks := T.ks ++ [o.fr] } ∧ L'.m = L.m ∧ Kept O W w' ∧ ∀ b, O' b → O b ∨ W.heap.size ≤ b from fun W hb => by rw [hPV]; exact made_any tb L O S T o.fr W (h.below hb) ho.1 hlen)
  have HPV := Lib.hid hPV
  have HK := Lib.hid hk
  clear hk hPV hPs
  rw [show o.val = .agg OV from by rw [hOV]; rfl]
  clear hOs hLs hW0 hb0 hs0 hgO hgZ h ho hbox hv1 hv2 hv3 hmb hmb0 hmW hOV hLV hZA htb
  go_enter Try.func42, Try.ntmps42
  go_wp2_with fail
  rw [← HZA.out, ← HW0.out]
  refine wp_region_held_drew (S := fun w' => w'.heap[tb]? = some (.cells #[v1, v2, v3, .map (some mb)] 87 (0, 0)) ∧ w'.heap[w.heap.size]? = some (.cells OV 93 (0, 0)) ∧ w'.heap[mb]? = w.heap[mb]?) (by kernel_rfl) ⟨HBOX.out, HGO.out, HMW.out⟩ (fun hHeld => ?_)
  refine wpAnyH_take (i := 0) (v := .pointer (some ⟨tb, 0, none⟩)) rfl (by kernel_rfl) (by kernel_rfl) (by kernel_rfl) (fun _ _ _ h => h) (Or.inl ⟨by rfl, fun wq hSw => by go_simp⟩) (by assumption) ?_
  go_simp
  refine wpAnyH_take (i := 1) (v := .pointer (some ⟨tb, 0, none⟩)) rfl (by kernel_rfl) (by kernel_rfl) (by kernel_rfl) (fun _ _ _ h => h) (Or.inl ⟨by rfl, fun wq hSw => by go_simp⟩) (by assumption) ?_
  go_simp
  refine wpAnyH_take (i := 2) (v := .pointer (some ⟨tb, 3, none⟩)) rfl (by kernel_rfl) (by kernel_rfl) (by kernel_rfl) (fun _ _ _ h => h) (Or.inl ⟨by rfl, fun wq hSw => by go_simp⟩) (by assumption) ?_
  go_simp
  refine wpAnyH_take (i := 3) (v := .map (some mb)) rfl (by kernel_rfl) (by kernel_rfl) (by kernel_rfl) (fun _ _ _ h => h) (Or.inl ⟨by rfl, fun wq hSw => by (have hq := cell_of_row wq tb 3 _ _ (0, 0) hSw.1; simp only [List.getElem?_toArray, List.getElem?_cons_zero, List.getElem?_cons_succ] at hq; go_simp)⟩) (by assumption) ?_
  go_simp
  refine wpAnyH_take (i := 4) (v := .agg OV) rfl (by kernel_rfl) (by kernel_rfl) (by kernel_rfl) (fun _ _ _ h => h) (Or.inl ⟨by rfl, fun wq hSw => by (exact run_load_row hSw.2.1 Try.underlying93 HOI.out rfl rfl)⟩) (by assumption) ?_
  go_simp
  refine wpAnyH_take (i := 5) (v := .tuple #[.agg LV, .bool false]) rfl (by kernel_rfl) (by kernel_rfl) (by kernel_rfl) (fun _ _ _ h => h) (Or.inl ⟨by rfl, fun wq hSw => by (exact HLK.out wq hSw.2.2 _ _ _ _ rfl rfl rfl)⟩) (by assumption) ?_
  go_simp
  refine wpAnyH_take (i := 6) (v := .tuple #[.agg LV, .bool false]) rfl (by kernel_rfl) (by kernel_rfl) (by kernel_rfl) (fun _ _ _ h => h) (Or.inl ⟨by rfl, fun wq hSw => by go_simp⟩) (by assumption) ?_
  go_simp
  refine wpAnyH_take (i := 7) (v := .agg LV) rfl (by kernel_rfl) (by kernel_rfl) (by kernel_rfl) (fun _ _ _ h => h) (Or.inl ⟨by rfl, fun wq hSw => by go_simp⟩) (by assumption) ?_
  go_simp
  refine wpAnyH_take (i := 8) (v := .bool false) rfl (by kernel_rfl) (by kernel_rfl) (by kernel_rfl) (fun _ _ _ h => h) (Or.inl ⟨by rfl, fun wq hSw => by go_simp⟩) (by assumption) ?_
  go_simp
  refine wpAnyH_ready (rs := [9]) (by kernel_rfl) (by simp) ?_
  refine AllReadyH.cons rfl (fun K hK => ?_) AllReadyH.nil
  go_simp
  rw [← HZA.out]
  refine hK.out _ _ ⟨((heap_alloc_old _ _ (by have := HTB.out; have := HMLT.out; rw [HS0.out]; omega)).trans HBOX.out), ((heap_alloc_old _ _ (by have := HTB.out; have := HMLT.out; rw [HS0.out]; omega)).trans HGO.out), ((heap_alloc_old _ _ (by have := HTB.out; have := HMLT.out; rw [HS0.out]; omega)).trans HMW.out)⟩ (fun hHeld2 => ?_)
  clear hK K
  refine wpAnyH_ready (rs := [10]) (by kernel_rfl) (by simp) ?_
  refine AllReadyH.cons rfl (fun K hK => ?_) AllReadyH.nil
  rw [if_pos (by rfl)]
  refine wp_store_row 36 (.tmp 5) (.tmp 14) rfl W0.heap.size LV rfl rfl 36 ZA (heap_alloc_new W0 _) HLI.out HZL.out HL1.out ?_
  try go_simp
  refine hK.out _ _ ⟨((setRow_other _ _ _ _ (by have := HTB.out; have := HMLT.out; rw [HS0.out]; omega)).trans ((heap_alloc_old _ _ (by have := HTB.out; have := HMLT.out; rw [HS0.out]; omega)).trans HBOX.out)), ((setRow_other _ _ _ _ (by have := HTB.out; have := HMLT.out; rw [HS0.out]; omega)).trans ((heap_alloc_old _ _ (by have := HTB.out; have := HMLT.out; rw [HS0.out]; omega)).trans HGO.out)), ((setRow_other _ _ _ _ (by have := HTB.out; have := HMLT.out; rw [HS0.out]; omega)).trans ((heap_alloc_old _ _ (by have := HTB.out; have := HMLT.out; rw [HS0.out]; omega)).trans HMW.out))⟩ (fun hHeld3 => ?_)
  clear hK K
  refine wpAnyH_take (i := 11) (v := .bool false) rfl (by kernel_rfl) (by kernel_rfl) (by kernel_rfl) (fun _ _ _ h => h) (Or.inl ⟨by rfl, fun wq hSw => by go_simp⟩) (by assumption) ?_
  go_simp
  refine wpAnyH_done (by kernel_rfl) ?_ _
  have hl2 : ((W0.alloc (.cells ZA 36)).drew.setRow W0.heap.size LV).heap[W0.heap.size]? = some (.cells LV 36 (0, 0)) := setRow_heap _ _ _ _ _ _ (heap_alloc_new W0 _)
  have hz2 : ((W0.alloc (.cells ZA 36)).drew.setRow W0.heap.size LV).heap[w.heap.size + 1]? = some (.cells ZA 36 (0, 0)) := ((setRow_other _ _ _ _ (by have := HTB.out; have := HMLT.out; rw [HS0.out]; omega)).trans ((heap_alloc_old _ _ (by have := HTB.out; have := HMLT.out; rw [HS0.out]; omega)).trans HGZ.out))
  have hb2 : Below w.heap.size w ((W0.alloc (.cells ZA 36)).drew.setRow W0.heap.size LV) := below_setRow (below_seq HB0.out (below_seq (below_of_new W0 _) (below_of_drew ⟨1, rfl⟩ _))) HB0.out.size _
  have ho2 : ((W0.alloc (.cells ZA 36)).drew.setRow W0.heap.size LV).heap[w.heap.size]? = some (.cells OV 93 (0, 0)) := ((setRow_other _ _ _ _ (by have := HTB.out; have := HMLT.out; rw [HS0.out]; omega)).trans ((heap_alloc_old _ _ (by have := HTB.out; have := HMLT.out; rw [HS0.out]; omega)).trans HGO.out))
  obtain ⟨W2, hW2⟩ : ∃ q, q = (W0.alloc (.cells ZA 36)).drew.setRow W0.heap.size LV := ⟨_, rfl⟩
  rw [← hW2] at hl2 hz2 hb2 ho2 ⊢
  have HL2 := Lib.hid hl2
  have HZ2 := Lib.hid hz2
  have HB2 := Lib.hid hb2
  have HO2 := Lib.hid ho2
  clear hl2 hz2 hb2 ho2 hW2 hHeld hHeld2 hHeld3
  have HRF := Lib.hid (range_fr HO2.out HOV.out)
  go_wp2_with (refine wpList_load_mid rfl 51 (.tmp 19) rfl w.heap.size 0 rfl o.fr.cells _ HRF.out Try.underlying51 rfl HFI.out ?_)
  refine (HMD.out W2 HB2.out).mono ?_
  rintro e w3 ⟨L', O', rfl, h3, hm3, hk3, ho3⟩
  have hsz := HS0.out
  have hszb := HB0.out.size
  have keep : ∀ g, w.heap.size ≤ g → g < W2.heap.size → w3.heap[g]? = W2.heap[g]? := fun g hg hg2 => hk3.2.2.2.2 g hg2 (fun hO => by have := HH.out.lt _ (.inl hO); omega)
  have q1 := (keep W0.heap.size (by omega) (Array.getElem?_eq_some_iff.1 HL2.out).1).trans HL2.out
  have q2 := (keep (w.heap.size + 1) (by omega) (Array.getElem?_eq_some_iff.1 HZ2.out).1).trans HZ2.out
  have q3 := (keep w.heap.size (by omega) (Array.getElem?_eq_some_iff.1 HO2.out).1).trans HO2.out
  have sz2 : W0.heap.size < W2.heap.size := (Array.getElem?_eq_some_iff.1 HL2.out).1
  have tne : ∀ b, O' b → b ≠ W0.heap.size ∧ b ≠ w.heap.size ∧ b ≠ w.heap.size + 1 := fun b hb => by
    rcases ho3 b hb with h1 | h1
    · have := HH.out.lt _ (.inl h1); omega
    · omega
  obtain ⟨T1, hT1⟩ : ∃ q, q = ({ T with ks := T.ks ++ [o.fr] } : Tab) := ⟨_, rfl⟩
  rw [← hT1] at h3
  have hfd : T1.fd = T.fd := by rw [hT1]
  have hln : T1.ks.length = T.ks.length + 1 := by rw [hT1]; simp
  have H3 := Lib.hid h3
  have HM3 := Lib.hid hm3
  have HK3 := Lib.hid hk3
  have HO3 := Lib.hid ho3
  have HT1 := Lib.hid hT1
  have HFD := Lib.hid hfd
  have HLN := Lib.hid hln
  have HTN := Lib.hid tne
  have Q1 := Lib.hid q1
  have Q2 := Lib.hid q2
  have Q3 := Lib.hid q3
  have HSZ := Lib.hid (And.intro hsz sz2)
  clear h3 hm3 hk3 ho3 hT1 hfd hln tne keep q1 q2 q3 hsz hszb sz2
  go_wp2_with (refine wpList_store_row (o := ⟨none, _, _, _, _, _⟩) rfl 36 (.tmp 5) (.tmp 21) rfl W0.heap.size PV rfl rfl 36 _ Q1.out HPI.out HPZ.out HP1.out ?_)
  have r1 : (w3.setRow W0.heap.size PV).heap[tb]? = some (.cells #[L'.v1 T1, L'.v2 T1, L'.v3 T1, .map (some L'.mb)] 87 (0, 0)) := (setRow_other _ _ _ _ (HTN.out _ H3.out.otb).1).trans H3.out.box
  have r2 : (w3.setRow W0.heap.size PV).heap[w.heap.size]? = some (.cells OV 93 (0, 0)) := (setRow_other _ _ _ _ (by have := HSZ.out.1; omega)).trans Q3.out
  have r3 : (w3.setRow W0.heap.size PV).heap[W0.heap.size]? = some (.cells PV 36 (0, 0)) := setRow_heap _ _ _ _ _ _ Q1.out
  have r4 : (w3.setRow W0.heap.size PV).heap[w.heap.size + 1]? = some (.cells ZA 36 (0, 0)) := (setRow_other _ _ _ _ (by have := HSZ.out.1; omega)).trans Q2.out
  have m4 : MapAt (w3.setRow W0.heap.size PV).drew L'.mb L'.m T.fd := by
    rw [← HFD.out]
    exact H3.out.map.kept (setRow_other _ _ _ _ (HTN.out _ H3.out.omb).1)
  obtain ⟨w5, hrun5, hm5, hg5⟩ := m4.set (by have := H3.out.mle; have := HLN.out; omega) HOK.out (T.ks.length + 1)
  have hnK : numK (T.ks.length + 1) = .agg PV := by rw [HPV.out]; rfl
  have hoV : o.val = .agg OV := by rw [HOV.out]; rfl
  rw [hnK, hoV] at hrun5
  have s1 : w5.heap[tb]? = some (.cells #[L'.v1 T1, L'.v2 T1, L'.v3 T1, .map (some L'.mb)] 87 (0, 0)) := (hg5.block tb (Array.getElem?_eq_some_iff.1 r1).1 (fun e => H3.out.dtm (Option.some.inj e))).trans r1
  have s2 : w5.heap[w.heap.size]? = some (.cells OV 93 (0, 0)) := (hg5.block w.heap.size (Array.getElem?_eq_some_iff.1 r2).1 (fun e => (HTN.out _ H3.out.omb).2.1 (Option.some.inj e).symm)).trans r2
  have s3 : w5.heap[W0.heap.size]? = some (.cells PV 36 (0, 0)) := (hg5.block W0.heap.size (Array.getElem?_eq_some_iff.1 r3).1 (fun e => (HTN.out _ H3.out.omb).1 (Option.some.inj e).symm)).trans r3
  have s4 : w5.heap[w.heap.size + 1]? = some (.cells ZA 36 (0, 0)) := (hg5.block (w.heap.size + 1) (Array.getElem?_eq_some_iff.1 r4).1 (fun e => (HTN.out _ H3.out.omb).2.2 (Option.some.inj e).symm)).trans r4
  obtain ⟨w4, hw4⟩ : ∃ q, q = w3.setRow W0.heap.size PV := ⟨_, rfl⟩
  rw [← hw4] at r1 r2 r3 hrun5 ⊢
  obtain ⟨u1, hu1⟩ : ∃ q, q = L'.v1 T1 := ⟨_, rfl⟩
  obtain ⟨u2, hu2⟩ : ∃ q, q = L'.v2 T1 := ⟨_, rfl⟩
  obtain ⟨u3, hu3⟩ : ∃ q, q = L'.v3 T1 := ⟨_, rfl⟩
  obtain ⟨mc, hmc⟩ : ∃ q, q = L'.mb := ⟨_, rfl⟩
  rw [← hu1, ← hu2, ← hu3, ← hmc] at r1 s1
  rw [← hmc] at hrun5
  have HW4 := Lib.hid hw4
  have HM5 := Lib.hid hm5
  have HG5 := Lib.hid hg5
  have R1 := Lib.hid r1
  have R2 := Lib.hid r2
  have R3 := Lib.hid r3
  have S1 := Lib.hid s1
  have S2 := Lib.hid s2
  have S3 := Lib.hid s3
  have S4 := Lib.hid s4
  have HRUN := Lib.hid hrun5
  have HMC := Lib.hid hmc
  clear hw4 hm5 hg5 r1 r2 r3 r4 s1 s2 s3 s4 hrun5 hmc hu1 hu2 hu3 hnK hoV m4
  refine wp_region_held_drew (S := fun w' => w'.heap[tb]? = some (.cells #[u1, u2, u3, .map (some mc)] 87 (0, 0)) ∧ w'.heap[w.heap.size]? = some (.cells OV 93 (0, 0)) ∧ w'.heap[W0.heap.size]? = some (.cells PV 36 (0, 0))) (by kernel_rfl) ⟨R1.out, R2.out, R3.out⟩ (fun hHeld => ?_)
  refine wpAnyH_take (i := 0) (v := .pointer (some ⟨tb, 0, none⟩)) rfl (by kernel_rfl) (by kernel_rfl) (by kernel_rfl) (fun _ _ _ h => h) (Or.inl ⟨by rfl, fun wq hSw => by go_simp⟩) (by assumption) ?_
  go_simp
  refine wpAnyH_take (i := 1) (v := .pointer (some ⟨tb, 0, none⟩)) rfl (by kernel_rfl) (by kernel_rfl) (by kernel_rfl) (fun _ _ _ h => h) (Or.inl ⟨by rfl, fun wq hSw => by go_simp⟩) (by assumption) ?_
  go_simp
  refine wpAnyH_take (i := 2) (v := .pointer (some ⟨tb, 3, none⟩)) rfl (by kernel_rfl) (by kernel_rfl) (by kernel_rfl) (fun _ _ _ h => h) (Or.inl ⟨by rfl, fun wq hSw => by go_simp⟩) (by assumption) ?_
  go_simp
  refine wpAnyH_take (i := 3) (v := .map (some mc)) rfl (by kernel_rfl) (by kernel_rfl) (by kernel_rfl) (fun _ _ _ h => h) (Or.inl ⟨by rfl, fun wq hSw => by (have hq := cell_of_row wq tb 3 _ _ (0, 0) hSw.1; simp only [List.getElem?_toArray, List.getElem?_cons_zero, List.getElem?_cons_succ] at hq; go_simp)⟩) (by assumption) ?_
  go_simp
  refine wpAnyH_take (i := 4) (v := .agg OV) rfl (by kernel_rfl) (by kernel_rfl) (by kernel_rfl) (fun _ _ _ h => h) (Or.inl ⟨by rfl, fun wq hSw => by (exact run_load_row hSw.2.1 Try.underlying93 HOI.out rfl rfl)⟩) (by assumption) ?_
  go_simp
  refine wpAnyH_take (i := 5) (v := .agg PV) rfl (by kernel_rfl) (by kernel_rfl) (by kernel_rfl) (fun _ _ _ h => h) (Or.inl ⟨by rfl, fun wq hSw => by (exact run_load_arr hSw.2.2 Try.underlying36 HPI.out rfl rfl)⟩) (by assumption) ?_
  go_simp
  refine wpAnyH_ready (rs := [6]) (by kernel_rfl) (by simp) ?_
  refine AllReadyH.cons rfl (fun K hK => ?_) AllReadyH.nil
  rw [if_pos (by rfl)]
  refine wp_mapSet 84 (.tmp 25) (.tmp 26) (.tmp 27) rfl rfl rfl rfl HRUN.out ?_
  try go_simp
  refine hK.out _ _ ⟨S1.out, S2.out, S3.out⟩ (fun hHeld2 => ?_)
  clear hK K
  refine wpAnyH_done (by kernel_rfl) ?_ _
  clear hHeld hHeld2
  go_wp2_with (first | (refine wpList_load_row rfl 36 (.tmp 5) rfl W0.heap.size rfl 36 PV (0, 0) _ S3.out Try.underlying36 rfl HPI.out ?_) | (refine wpList_store_row (o := ⟨none, _, _, _, _, _⟩) rfl 36 (.tmp 4) (.tmp 28) rfl (w.heap.size + 1) PV rfl rfl 36 _ S4.out HPI.out HQZ.out HP1.out ?_))
  have hres := setRow_heap _ (w.heap.size + 1) _ PV _ _ S4.out
  refine bodyPost_ret (v := .agg PV) (results_cell_row Try.results42 _ _ (w.heap.size + 1) 36 PV (0, 0) _ (by rfl) hres Try.underlying36 rfl HPI.out) rfl ?_
  have hk := HK.out
  rw [onceT, hk]
  have hsz := HSZ.out
  have hT := HT1.out
  have key := once_fin (PV := PV) (QV := PV) (g1 := W0.heap.size) (g2 := w.heap.size + 1) HH.out HB2.out (by omega) (by omega) (by omega) (by omega) H3.out HK3.out HO3.out HM5.out HG5.out (by have := HM3.out; have := HH.out.mle; have := HLN.out; omega)
  rw [hT] at key
  exact ⟨by rw [HPV.out], key⟩
end Go.Proofs.Ytbfcdlfjlailjaa.Sym
