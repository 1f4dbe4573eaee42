/-
  sym made: the worlds between, plainly.
-/
import Derived.Test.YtbfcdlfjlailjaaSymtu
namespace Go.Proofs.Ytbfcdlfjlailjaa.Sym
open Go.RowKit
open Go.Proofs.Ytbfcdlfjlailjaa.Kit
open Go.Proofs.Ytbfcdlfjlailjaa.Oct
set_option linter.unusedVariables false

theorem made_fin {w W0 w1 w3 : World} {tb gg cap : Nat} {L : Lay} {O S : Nat → Prop} {T : Tab} {f : Fr} {O1 : Obj} {PV : Array Value} (h : TabAt w tb L O S T) (hf : f.ok) (hlen : T.ks.length < 1000000)
    (hW : Below w.heap.size w W0) (hs : W0.heap.size = w.heap.size + 2)
    (hg : (W0.alloc O1).drew.grownBy w1 (L.v1 T).ownBlock) (hat : (L.v1 T).ownBlock = some gg ∨ gg = w.heap.size + 3) (hlt : gg < w1.heap.size)
    (hown : w1.ownsRow 0 51 18 (.slice (some ⟨gg, 0, none⟩) (T.ks.length + 1) cap) (T.ks.length + 1) (cellsF T.ks ++ f.cells))
    (hb3 : Below (w1.setCell ⟨tb, 0, none⟩ (.slice (some ⟨gg, 0, none⟩) (T.ks.length + 1) cap)).heap.size (w1.setCell ⟨tb, 0, none⟩ (.slice (some ⟨gg, 0, none⟩) (T.ks.length + 1) cap)) w3) :
    TabAt (w3.setRow (w.heap.size + 1) PV) tb { L with A1 := some ⟨gg, 0, none⟩, c1 := cap } (fun b => O b ∨ b = gg) S { T with ks := T.ks ++ [f] } ∧ Kept O w (w3.setRow (w.heap.size + 1) PV) ∧ ∀ b, (O b ∨ b = gg) → O b ∨ w.heap.size ≤ b := by
  have htb : tb < w.heap.size := h.lt tb (.inl h.otb)
  have htn : (L.v1 T).ownBlock ≠ some tb := fun e => (h.d1 _ e).1 rfl
  have s0 : (W0.alloc O1).heap.size = W0.heap.size + 1 := by simp
  have s1 : w.heap.size + 3 ≤ w1.heap.size := by
    have := hg.size
    rw [heap_drew, s0] at this
    omega
  have hb1 : ∀ b, b < w.heap.size → (L.v1 T).ownBlock ≠ some b → w1.heap[b]? = w.heap[b]? := fun b hb hne => by
    rw [hg.block b (by rw [heap_drew, s0]; omega) (fun e => hne e.symm), heap_drew, heap_alloc_old _ _ (by omega), hW.block b hb]
  have hgt : gg ≠ tb := fun e => by
    rcases hat with ha | ha
    · exact htn (by rw [ha, e])
    · omega
  have hb5 : ∀ b, b < w1.heap.size → b ≠ tb → b ≠ w.heap.size + 1 → (w3.setRow (w.heap.size + 1) PV).heap[b]? = w1.heap[b]? := fun b hb h1 h2 => by
    rw [setRow_other _ _ _ _ h2, hb3.block b (by rw [World.size_setCell]; exact hb), heap_setCell_other _ _ _ _ h1]
  have s3 := hb3.size
  rw [World.size_setCell] at s3
  have hgn : gg ≠ w.heap.size + 1 := fun e => by
    rcases hat with ha | ha
    · have := h.lt gg (.inl (h.ov1 gg ha)); omega
    · omega
  have hos : (w3.setRow (w.heap.size + 1) PV).os = w1.os := hb3.os
  have hta : (w3.setRow (w.heap.size + 1) PV).tape = w1.tape := hb3.tape
  have hou : (w3.setRow (w.heap.size + 1) PV).output = w1.output := hb3.output
  have key := h.more1 (w5 := w3.setRow (w.heap.size + 1) PV) (gg := gg) (cap := cap) hf hlen
    (by
      rw [setRow_other _ _ _ _ (by omega), hb3.block tb (by rw [World.size_setCell]; omega)]
      have hq := (hb1 tb htb htn).trans h.box
      exact heap_setCell_same _ _ _ _ _ _ hq)
    (own_same hown hos hta hou (by simp; omega) fun g hg' => by
      obtain rfl : gg = g := by simpa [Value.ownBlock] using hg'
      exact hb5 gg hlt hgt hgn)
    (hat.imp_right fun e => by omega) (by simp; omega)
    ⟨hos.trans (hg.os.trans hW.os), hta.trans (hg.tape.trans hW.tape), hou.trans (hg.output.trans hW.output), by simp; omega⟩
    (fun b hb h1 h2 => by rw [hb5 b (by omega) h1 (by omega), hb1 b hb h2])
  refine ⟨key.1, key.2, fun b hb => ?_⟩
  rcases hb with h1 | h1
  · exact .inl h1
  · rcases hat with ha | ha
    · exact .inl (h1 ▸ h.ov1 gg ha)
    · exact .inr (by omega)
end Go.Proofs.Ytbfcdlfjlailjaa.Sym

/-
  sym's made.
-/
namespace Go.Proofs.Ytbfcdlfjlailjaa.Sym
open Go.RowKit
open Go.Proofs.Ytbfcdlfjlailjaa.Kit
open Go.Proofs.Ytbfcdlfjlailjaa.Oct
set_option linter.unusedVariables false

set_option maxRecDepth 100000 in
set_option maxHeartbeats 4000000 in
theorem made_any (tb : Nat) (L : Lay) (O S : Nat → Prop) (T : Tab) (f : Fr) (w : World) (h : TabAt w tb L O S T) (hf : f.ok) (hlen : T.ks.length < 100000) :
    Calls Try.prog 41 #[.pointer (some ⟨tb, 0, none⟩), .agg f.cells.toArray] w fun e w' => ∃ L' O', e = .returned (.agg (kv (mk 107 (T.ks.length + 1)))) ∧
      TabAt w' tb L' O' S { T with ks := T.ks ++ [f] } ∧ L'.m = L.m ∧ Kept O w w' ∧ ∀ b, O' b → O b ∨ w.heap.size ≤ b := by
  obtain ⟨ZA, hZA⟩ : ∃ q : Array Value, q = #[.int .u8 0, .int .u8 0, .int .u8 0, .int .u8 0, .int .u8 0, .int .u8 0, .int .u8 0, .int .u8 0, .int .u8 0, .int .u8 0, .int .u8 0, .int .u8 0, .int .u8 0, .int .u8 0, .int .u8 0, .int .u8 0] := ⟨_, rfl⟩
  obtain ⟨FV, hFV⟩ : ∃ q : Array Value, q = f.cells.toArray := ⟨_, rfl⟩
  obtain ⟨n, hn⟩ : ∃ q, q = T.ks.length := ⟨_, rfl⟩
  obtain ⟨i0, hi, hz0, hz1, hz2⟩ := info_parts infoFr
  have hFs : FV.size = 18 := by rw [hFV]; simpa using Fr.cells_len hf
  have hFl : FV.toList = f.cells := by rw [hFV]
  obtain ⟨W0, hW0⟩ : ∃ W, W = (w.alloc (.cells FV 51)).alloc (.cells ZA 36) := ⟨_, rfl⟩
  have hb0 : Below w.heap.size w W0 := by rw [hW0]; exact below_alloc (below_of_new w _) _
  have hs0 : W0.heap.size = w.heap.size + 2 := by rw [hW0]; simp
  have hgF : W0.heap[w.heap.size]? = some (.cells FV 51 (0, 0)) := by rw [hW0, heap_alloc_old _ _ (by simp)]; exact heap_alloc_new w _
  have hgZ : W0.heap[w.heap.size + 1]? = some (.cells ZA 36 (0, 0)) := by rw [hW0]; exact heap_new' _ _ (by simp)
  have h0 := h.below hb0
  have htb : tb < w.heap.size := h.lt tb (.inl h.otb)
  have hv1 : L.v1 T = .slice L.A1 n L.c1 := by rw [Lay.v1, hn]
  have hbox := h0.box
  rw [hv1] at hbox
  obtain ⟨v2, hv2⟩ : ∃ v, v = L.v2 T := ⟨_, rfl⟩
  obtain ⟨v3, hv3⟩ : ∃ v, v = L.v3 T := ⟨_, rfl⟩
  obtain ⟨A1, hA1⟩ : ∃ v, v = L.A1 := ⟨_, rfl⟩
  obtain ⟨c1, hc1⟩ : ∃ v, v = L.c1 := ⟨_, rfl⟩
  obtain ⟨mb, hmb⟩ : ∃ v, v = L.mb := ⟨_, rfl⟩
  rw [← hv2, ← hv3, ← hA1, ← hc1, ← hmb] at hbox
  have hown := h0.o1
  rw [hv1, ← hn, ← hA1, ← hc1] at hown
  have hne := fun g hg => (h0.d1 g hg).1
  rw [hv1, ← hA1, ← hc1] at hne
  have hnb : n < 100000 := by omega
  have HFI := Lib.hid (show (Try.prog.info? 51).map (·.size) = some FV.size from by rw [hi, Option.map_some, hz1, hFs])
  have HFILL := Lib.hid (fun z hz => fill_from z hz FV hFs)
  have HF1 := Lib.hid (show ∀ u ∈ FV.toList, u.oneCell' = true from by rw [hFl]; exact f.one)
  have HFS := Lib.hid hFs
  have HFL := Lib.hid hFl
  have HH := Lib.hid h
  have HOK := Lib.hid hf
  have HN := Lib.hid hn
  have HW0 := Lib.hid hW0
  have HB0 := Lib.hid hb0
  have HS0 := Lib.hid hs0
  have HGZ := Lib.hid hgZ
  have HS1 := Lib.hid (show (W0.alloc (.cells FV 51)).heap.size = w.heap.size + 3 from by rw [show (W0.alloc (.cells FV 51)).heap.size = W0.heap.size + 1 from by simp, hs0])
  have HFV := Lib.hid hFV
  have HZA := Lib.hid hZA
  have HBOX := Lib.hid hbox
  have HGF := Lib.hid hgF
  have HOWN := Lib.hid hown
  have HNE := Lib.hid hne
  have hlt0 : ∀ g, (Value.slice A1 n c1).ownBlock = some g → g < w.heap.size := fun g hg => by
    refine h.lt g (.inl (h.ov1 g ?_))
    rw [hv1, ← hA1, ← hc1]; exact hg
  have HNF := Lib.hid (fun g hg => Nat.ne_of_lt (hlt0 g hg))
  have HNG := Lib.hid (fun g hg => (Nat.ne_of_lt (Nat.lt_of_lt_of_le (hlt0 g hg) (Nat.le_succ _)) : g ≠ w.heap.size + 1))
  clear hlt0
  have HV := Lib.hid (show v2 = L.v2 T ∧ v3 = L.v3 T ∧ mb = L.mb ∧ L.v1 T = .slice A1 n c1 from ⟨hv2, hv3, hmb, by rw [hv1, hA1, hc1]⟩)
  have hc0 : W0.cell? ⟨tb, 0, none⟩ = some (.slice A1 n c1) := (cell_of_row W0 tb 0 _ _ (0, 0) hbox).trans rfl
  have hc1' : (W0.alloc (.cells FV 51)).cell? ⟨tb, 0, none⟩ = some (.slice A1 n c1) := ((below_of_new W0 _).cell (by show tb < _; omega)).trans hc0
  have HFIN := Lib.hid (fun (w1 w3 : World) (gg cap : Nat) PV => made_fin (w1 := w1) (w3 := w3) (gg := gg) (cap := cap) (PV := PV) (O1 := .cells FV 51) h hf (by omega) hb0 hs0)
  have HTB := Lib.hid htb
  obtain ⟨PV, hPV⟩ : ∃ q, q = kv (mk 107 (n + 1)) := ⟨_, rfl⟩
  have hPs : PV.size = 16 := by rw [hPV, kv_size, mk_len]
  have HPI := Lib.hid (show (Try.prog.info? 36).map (·.size) = some PV.size from by rw [hPs]; exact infoK)
  have HPA := Lib.hid (show PV.all (·.oneCell') = true from by rw [hPV]; exact kv_one _)
  have HZS := Lib.hid (show ZA.size = PV.size from by rw [hZA, hPs]; rfl)
  have HNT := Lib.hid (show ∀ W : World, Calls Try.prog 23 #[.pointer (some ⟨tb, 0, none⟩), .int .i64 ((n : Int) + 1)] W fun e w' => e = .returned (.agg PV) ∧ Below W.heap.size W w' from fun W => by
    have := nth_any (.pointer (some ⟨tb, 0, none⟩)) (n + 1) W (by omega)
    rw [hPV]
    exact this)
  have HPV := Lib.hid hPV
  clear hPV hPs
  rw [← hFV]
  clear hFs hFl hW0 hb0 hs0 hgF hgZ h0 h hf hbox hv2 hv3 hA1 hc1 hmb hown hne hFV hZA hn hlen hv1
  go_enter Try.func41, Try.ntmps41
  go_wp2_with fail
  rw [← HZA.out, ← HW0.out]
  refine wp_region_held_drew (S := fun w' => w'.heap[w.heap.size]? = some (.cells FV 51 (0, 0))) (by kernel_rfl) HGF.out (fun hHeld => ?_)
  refine wpAnyH_take (i := 0) (v := .pointer (some ⟨tb, 0, none⟩)) rfl (by kernel_rfl) (by kernel_rfl) (by kernel_rfl) (fun _ _ _ h => h) (Or.inl ⟨by rfl, fun wq hSw => by go_simp⟩) (by assumption) ?_
  go_simp
  refine wpAnyH_take (i := 1) (v := .pointer (some ⟨tb, 0, none⟩)) rfl (by kernel_rfl) (by kernel_rfl) (by kernel_rfl) (fun _ _ _ h => h) (Or.inl ⟨by rfl, fun wq hSw => by go_simp⟩) (by assumption) ?_
  go_simp
  refine wpAnyH_take (i := 2) (v := .pointer (some ⟨tb, 0, none⟩)) rfl (by kernel_rfl) (by kernel_rfl) (by kernel_rfl) (fun _ _ _ h => h) (Or.inl ⟨by rfl, fun wq hSw => by go_simp⟩) (by assumption) ?_
  go_simp
  refine wpAnyH_take (i := 3) (v := .pointer (some ⟨tb, 0, none⟩)) rfl (by kernel_rfl) (by kernel_rfl) (by kernel_rfl) (fun _ _ _ h => h) (Or.inl ⟨by rfl, fun wq hSw => by go_simp⟩) (by assumption) ?_
  go_simp
  refine wpAnyH_take (i := 5) (v := .agg FV) rfl (by kernel_rfl) (by kernel_rfl) (by kernel_rfl) (fun _ _ _ h => h) (Or.inl ⟨by rfl, fun wq hSw => by (exact run_load_row hSw Try.underlying51 HFI.out rfl rfl)⟩) (by assumption) ?_
  go_simp
  refine wpAnyH_ready (rs := [4, 6]) (by kernel_rfl) (by simp) ?_
  refine AllReadyH.cons rfl (fun K hK => ?_) (AllReadyH.cons rfl (fun K hK => ?_) AllReadyH.nil)
  · go_simp
    refine hK.out _ _ HGF.out (fun hHeld4 => ?_)
    clear hK K
    refine wpAnyH_ready (rs := [6]) (by kernel_rfl) (by simp) ?_
    refine AllReadyH.cons rfl (fun K hK => ?_) AllReadyH.nil
    rw [if_pos (by rfl)]
    refine wp_buildSlice 85 51 1 #[(0, .tmp 10)] rfl FV i0 _ Try.underlying85 hi hz0 (by rw [hz1]; omega) (by rw [hz1]; omega) ?hf ?_
    · rw [hz1]
      refine Eq.trans (congrArg (Instr.fill _ _) (?e : _ = [(0, Value.agg FV)])) (HFILL.out _ rfl)
      kernel_rfl
    try go_simp
    refine hK.out _ _ ((heap_alloc_old _ _ (by rw [HS0.out]; omega)).trans HGF.out) (fun hHeld5 => ?_)
    clear hK K
    refine wpAnyH_ready (rs := [7]) (by kernel_rfl) (by simp) ?_
    refine AllReadyH.cons rfl (fun K hK => ?_) AllReadyH.nil
    refine step_append_lies _ (by rfl) _ _ _ (by rfl) 0 51 i0 _ 18 40 Try.underlying85 hi hz0 hz1 hz2 rfl (by omega) (.slice A1 n c1) n (cellsF T.ks) (by rfl) (own_onNs HOWN.out (below_seq (below_of_new W0 (.cells FV 51)) (below_of_drew ⟨1, rfl⟩ _))) ⟨W0.heap.size, 0, none⟩ 1 1 FV.toList (by rfl) (by rw [Array.length_toList, HFS.out]) (World.news_of_block (cs := FV) (t := 51) (fr := (0, 0)) (heap_alloc_new W0 _)) HF1.out (by omega) (by unfold maxLen; omega) (by omega) (by simp) (w.heap.size + 3) (by rw [heap_drew, HS1.out]) ?_
    intro gg cap w1 hown1 hgrow1 hat1 hlt1
    have hbx1 : w1.heap[tb]? = some (.cells #[.slice A1 n c1, v2, v3, .map (some mb)] 87 (0, 0)) := (hgrow1.block tb (by rw [heap_drew, HS1.out]; have := HTB.out; omega) (fun e => HNE.out tb e.symm rfl)).trans ((heap_alloc_old _ _ (by have := HTB.out; rw [HS0.out]; omega)).trans HBOX.out)
    have hgf1 : w1.heap[w.heap.size]? = some (.cells FV 51 (0, 0)) := (hgrow1.block w.heap.size (by rw [heap_drew, HS1.out]; omega) (fun e => HNF.out _ e.symm rfl)).trans ((heap_alloc_old _ _ (by rw [HS0.out]; omega)).trans HGF.out)
    have hgz1 : w1.heap[w.heap.size + 1]? = some (.cells ZA 36 (0, 0)) := (hgrow1.block (w.heap.size + 1) (by rw [heap_drew, HS1.out]; omega) (fun e => HNG.out _ e.symm rfl)).trans ((heap_alloc_old _ _ (by rw [HS0.out]; omega)).trans HGZ.out)
    refine hK.out _ _ hgf1 (fun hHeld2 => ?_)
    clear hK K
    refine wpAnyH_take (i := 8) (v := .pointer (some ⟨tb, 0, none⟩)) rfl (by kernel_rfl) (by kernel_rfl) (by kernel_rfl) (fun _ _ _ h => h) (Or.inl ⟨by rfl, fun wq hSw => by go_simp⟩) (by assumption) ?_
    go_simp
    refine wpAnyH_take (i := 9) (v := .pointer (some ⟨tb, 0, none⟩)) rfl (by kernel_rfl) (by kernel_rfl) (by kernel_rfl) (fun _ _ _ h => h) (Or.inl ⟨by rfl, fun wq hSw => by go_simp⟩) (by assumption) ?_
    go_simp
    have hc1 : w1.cell? ⟨tb, 0, none⟩ = some (.slice A1 n c1) := (cell_of_row w1 tb 0 _ _ (0, 0) hbx1).trans rfl
    have hf1 : w1.frozen? ⟨tb, 0, none⟩ = false := frozen_of_row w1 tb 0 _ _ hbx1
    refine wpAnyH_ready (rs := [10]) (by kernel_rfl) (by simp) ?_
    refine AllReadyH.cons rfl (fun K hK => ?_) AllReadyH.nil
    go_simp
    refine hK.out _ _ ((heap_setCell_other _ _ _ _ (by have := HTB.out; show w.heap.size ≠ tb; omega)).trans hgf1) (fun hHeld3 => ?_)
    clear hK K
    refine wpAnyH_done (by kernel_rfl) ?_ _
    have hc2 : (w1.setCell ⟨tb, 0, none⟩ (.slice (some ⟨gg, 0, none⟩) (n + 1) cap)).cell? ⟨tb, 0, none⟩ = some (.slice (some ⟨gg, 0, none⟩) (n + 1) cap) := (cell_of_row _ tb 0 _ _ (0, 0) (heap_setCell_same _ _ _ _ _ _ hbx1)).trans rfl
    have hz2' : (w1.setCell ⟨tb, 0, none⟩ (.slice (some ⟨gg, 0, none⟩) (n + 1) cap)).heap[w.heap.size + 1]? = some (.cells ZA 36 (0, 0)) := (heap_setCell_other _ _ _ _ (by have := HTB.out; show w.heap.size + 1 ≠ tb; omega)).trans hgz1
    have HF3 := Lib.hid (fun w3 PV => HFIN.out w1 w3 gg cap PV)
    obtain ⟨W2, hW2⟩ : ∃ q, q = w1.setCell ⟨tb, 0, none⟩ (.slice (some ⟨gg, 0, none⟩) (n + 1) cap) := ⟨_, rfl⟩
    rw [← hW2] at hc2 hz2' ⊢
    have HW2 := Lib.hid hW2
    have HZ2 := Lib.hid hz2'
    have HOW1 := Lib.hid hown1
    have HGR1 := Lib.hid hgrow1
    have HAT1 := Lib.hid hat1
    have HLT1 := Lib.hid hlt1
    clear hW2 hz2' hown1 hgrow1 hat1 hlt1 hbx1 hgf1 hgz1 hc1 hf1 hHeld hHeld2 hHeld3 hHeld4 hHeld5 hc0 hc1'
    go_wp2_with fail
    refine (HNT.out W2).mono ?_
    rintro e w3 ⟨rfl, hb3⟩
    have hg3 : w3.heap[w.heap.size + 1]? = some (.cells ZA 36 (0, 0)) := (hb3.block _ (Array.getElem?_eq_some_iff.1 HZ2.out).1).trans HZ2.out
    have HG := Lib.hid hg3
    have HB3 := Lib.hid hb3
    clear hg3 hb3 hc2
    go_wp2_with (refine wpList_store_row (o := ⟨none, _, _, _, _, _⟩) rfl 36 (.tmp 4) (.tmp 21) rfl (w.heap.size + 1) PV rfl rfl 36 _ HG.out HPI.out HZS.out HPA.out ?_)
    have hres := setRow_heap _ (w.heap.size + 1) _ PV _ _ HG.out
    refine bodyPost_ret (v := .agg PV) (results_cell_row Try.results41 _ _ (w.heap.size + 1) 36 PV (0, 0) _ (by rfl) hres Try.underlying36 rfl HPI.out) rfl ?_
    have hv' := HV.out.2.2.2
    have hb3 := HB3.out
    rw [HW2.out] at hb3
    have hn' := HN.out
    subst hn'
    have key := HF3.out w3 PV (by rw [hv']; exact HGR1.out) (by rw [hv']; exact HAT1.out) HLT1.out (by rw [← HFL.out]; exact HOW1.out) hb3
    exact ⟨_, _, by rw [HPV.out], key.1, rfl, key.2.1, key.2.2⟩
  · rw [if_pos (by rfl)]
    refine wp_buildSlice 85 51 1 #[(0, .tmp 10)] rfl FV i0 _ Try.underlying85 hi hz0 (by rw [hz1]; omega) (by rw [hz1]; omega) ?hfb ?_
    · rw [hz1]
      refine Eq.trans (congrArg (Instr.fill _ _) (?eb : _ = [(0, Value.agg FV)])) (HFILL.out _ rfl)
      kernel_rfl
    try go_simp
    refine hK.out _ _ ((heap_alloc_old _ _ (by rw [HS0.out]; omega)).trans HGF.out) (fun hHeld4 => ?_)
    clear hK K
    refine wpAnyH_ready (rs := [4]) (by kernel_rfl) (by simp) ?_
    refine AllReadyH.cons rfl (fun K hK => ?_) AllReadyH.nil
    go_simp
    refine hK.out _ _ ((heap_alloc_old _ _ (by rw [HS0.out]; omega)).trans HGF.out) (fun hHeld5 => ?_)
    clear hK K
    refine wpAnyH_ready (rs := [7]) (by kernel_rfl) (by simp) ?_
    refine AllReadyH.cons rfl (fun K hK => ?_) AllReadyH.nil
    refine step_append_lies _ (by rfl) _ _ _ (by rfl) 0 51 i0 _ 18 40 Try.underlying85 hi hz0 hz1 hz2 rfl (by omega) (.slice A1 n c1) n (cellsF T.ks) (by rfl) (own_onNs HOWN.out (below_seq (below_of_new W0 (.cells FV 51)) (below_of_drew ⟨1, rfl⟩ _))) ⟨W0.heap.size, 0, none⟩ 1 1 FV.toList (by rfl) (by rw [Array.length_toList, HFS.out]) (World.news_of_block (cs := FV) (t := 51) (fr := (0, 0)) (heap_alloc_new W0 _)) HF1.out (by omega) (by unfold maxLen; omega) (by omega) (by simp) (w.heap.size + 3) (by rw [heap_drew, HS1.out]) ?_
    intro gg cap w1 hown1 hgrow1 hat1 hlt1
    have hbx1 : w1.heap[tb]? = some (.cells #[.slice A1 n c1, v2, v3, .map (some mb)] 87 (0, 0)) := (hgrow1.block tb (by rw [heap_drew, HS1.out]; have := HTB.out; omega) (fun e => HNE.out tb e.symm rfl)).trans ((heap_alloc_old _ _ (by have := HTB.out; rw [HS0.out]; omega)).trans HBOX.out)
    have hgf1 : w1.heap[w.heap.size]? = some (.cells FV 51 (0, 0)) := (hgrow1.block w.heap.size (by rw [heap_drew, HS1.out]; omega) (fun e => HNF.out _ e.symm rfl)).trans ((heap_alloc_old _ _ (by rw [HS0.out]; omega)).trans HGF.out)
    have hgz1 : w1.heap[w.heap.size + 1]? = some (.cells ZA 36 (0, 0)) := (hgrow1.block (w.heap.size + 1) (by rw [heap_drew, HS1.out]; omega) (fun e => HNG.out _ e.symm rfl)).trans ((heap_alloc_old _ _ (by rw [HS0.out]; omega)).trans HGZ.out)
    refine hK.out _ _ hgf1 (fun hHeld2 => ?_)
    clear hK K
    refine wpAnyH_take (i := 8) (v := .pointer (some ⟨tb, 0, none⟩)) rfl (by kernel_rfl) (by kernel_rfl) (by kernel_rfl) (fun _ _ _ h => h) (Or.inl ⟨by rfl, fun wq hSw => by go_simp⟩) (by assumption) ?_
    go_simp
    refine wpAnyH_take (i := 9) (v := .pointer (some ⟨tb, 0, none⟩)) rfl (by kernel_rfl) (by kernel_rfl) (by kernel_rfl) (fun _ _ _ h => h) (Or.inl ⟨by rfl, fun wq hSw => by go_simp⟩) (by assumption) ?_
    go_simp
    have hc1 : w1.cell? ⟨tb, 0, none⟩ = some (.slice A1 n c1) := (cell_of_row w1 tb 0 _ _ (0, 0) hbx1).trans rfl
    have hf1 : w1.frozen? ⟨tb, 0, none⟩ = false := frozen_of_row w1 tb 0 _ _ hbx1
    refine wpAnyH_ready (rs := [10]) (by kernel_rfl) (by simp) ?_
    refine AllReadyH.cons rfl (fun K hK => ?_) AllReadyH.nil
    go_simp
    refine hK.out _ _ ((heap_setCell_other _ _ _ _ (by have := HTB.out; show w.heap.size ≠ tb; omega)).trans hgf1) (fun hHeld3 => ?_)
    clear hK K
    refine wpAnyH_done (by kernel_rfl) ?_ _
    have hc2 : (w1.setCell ⟨tb, 0, none⟩ (.slice (some ⟨gg, 0, none⟩) (n + 1) cap)).cell? ⟨tb, 0, none⟩ = some (.slice (some ⟨gg, 0, none⟩) (n + 1) cap) := (cell_of_row _ tb 0 _ _ (0, 0) (heap_setCell_same _ _ _ _ _ _ hbx1)).trans rfl
    have hz2' : (w1.setCell ⟨tb, 0, none⟩ (.slice (some ⟨gg, 0, none⟩) (n + 1) cap)).heap[w.heap.size + 1]? = some (.cells ZA 36 (0, 0)) := (heap_setCell_other _ _ _ _ (by have := HTB.out; show w.heap.size + 1 ≠ tb; omega)).trans hgz1
    have HF3 := Lib.hid (fun w3 PV => HFIN.out w1 w3 gg cap PV)
    obtain ⟨W2, hW2⟩ : ∃ q, q = w1.setCell ⟨tb, 0, none⟩ (.slice (some ⟨gg, 0, none⟩) (n + 1) cap) := ⟨_, rfl⟩
    rw [← hW2] at hc2 hz2' ⊢
    have HW2 := Lib.hid hW2
    have HZ2 := Lib.hid hz2'
    have HOW1 := Lib.hid hown1
    have HGR1 := Lib.hid hgrow1
    have HAT1 := Lib.hid hat1
    have HLT1 := Lib.hid hlt1
    clear hW2 hz2' hown1 hgrow1 hat1 hlt1 hbx1 hgf1 hgz1 hc1 hf1 hHeld hHeld2 hHeld3 hHeld4 hHeld5 hc0 hc1'
    go_wp2_with fail
    refine (HNT.out W2).mono ?_
    rintro e w3 ⟨rfl, hb3⟩
    have hg3 : w3.heap[w.heap.size + 1]? = some (.cells ZA 36 (0, 0)) := (hb3.block _ (Array.getElem?_eq_some_iff.1 HZ2.out).1).trans HZ2.out
    have HG := Lib.hid hg3
    have HB3 := Lib.hid hb3
    clear hg3 hb3 hc2
    go_wp2_with (refine wpList_store_row (o := ⟨none, _, _, _, _, _⟩) rfl 36 (.tmp 4) (.tmp 21) rfl (w.heap.size + 1) PV rfl rfl 36 _ HG.out HPI.out HZS.out HPA.out ?_)
    have hres := setRow_heap _ (w.heap.size + 1) _ PV _ _ HG.out
    refine bodyPost_ret (v := .agg PV) (results_cell_row Try.results41 _ _ (w.heap.size + 1) 36 PV (0, 0) _ (by rfl) hres Try.underlying36 rfl HPI.out) rfl ?_
    have hv' := HV.out.2.2.2
    have hb3 := HB3.out
    rw [HW2.out] at hb3
    have hn' := HN.out
    subst hn'
    have key := HF3.out w3 PV (by rw [hv']; exact HGR1.out) (by rw [hv']; exact HAT1.out) HLT1.out (by rw [← HFL.out]; exact HOW1.out) hb3
    exact ⟨_, _, by rw [HPV.out], key.1, rfl, key.2.1, key.2.2⟩
end Go.Proofs.Ytbfcdlfjlailjaa.Sym
