/-
  sym's Digest, where the bytes have no sum yet.
-/
import Derived.Test.YtbfcdlfjlailjaaSydf
namespace Go.Proofs.Ytbfcdlfjlailjaa.Sym
open Go.RowKit
open Go.Proofs.Ytbfcdlfjlailjaa.Kit
open Go.Proofs.Ytbfcdlfjlailjaa.Oct
set_option linter.unusedVariables false

theorem infoBy : (Try.prog.info? 29).map (fun i => (i.zero, i.size, i.bytes)) = some (some (.slice none 0 0), 1, 24) := by kernel_rfl
set_option maxRecDepth 100000 in
set_option maxHeartbeats 4000000 in
theorem digest_no {tb : Nat} {L : Lay} {O S : Nat → Prop} {T : Tab} {w : World} {b : List UInt8} {A : Option Addr} {n c : Nat} (h : TabAt w tb L O S T) (hrd : RdB w w.heap.size A n c b) (hn : n ≤ 1000000) (hlen : T.sm.length < 100000) (hin : ∀ k : Nat, T.sm[k]? ≠ some b) :
    Calls Try.prog 19 #[.pointer (some ⟨tb, 0, none⟩), .slice A n c] w fun e w' => ∃ g, e = .returned (.slice (some ⟨g, 0, none⟩) 16 16) ∧ w'.heap[g]? = some (.cells (kv (mk 100 (T.sm.length + 1))) 36 (0, 0)) ∧ w.heap.size ≤ g ∧
      ∃ L' O' S', TabAt w' tb L' O' S' { T with sm := T.sm ++ [b] } ∧ Kept O w w' ∧ (∀ b, O' b → O b ∨ w.heap.size ≤ b) ∧ (∀ b, S' b → S b ∨ w.heap.size ≤ b) ∧ ∀ b, O' b ∨ S' b → b ≠ g := by
  obtain ⟨PV, hPV⟩ : ∃ q, q = kv (mk 100 (T.sm.length + 1)) := ⟨_, rfl⟩
  have hPs : PV.size = 16 := by rw [hPV, kv_size, mk_len]
  have hbl : b.length = n := hrd.len
  obtain ⟨i0, hi, hz0, hz1, hz2⟩ := info_parts infoBy
  obtain ⟨W0, hW0⟩ : ∃ q, q = w.alloc (.cells #[.slice A n c] 29) := ⟨_, rfl⟩
  have hb0 : Below w.heap.size w W0 := by rw [hW0]; exact below_of_new w _
  have hs0 : W0.heap.size = w.heap.size + 1 := by rw [hW0]; simp
  have hgK : W0.heap[w.heap.size]? = some (.cells #[.slice A n c] 29 (0, 0)) := by rw [hW0]; exact heap_alloc_new w _
  have htb : tb < w.heap.size := h.lt tb (.inl h.otb)
  have h0 := h.below hb0
  have hrd0 : RdB W0 W0.heap.size A n c b := hrd.on hb0
  have hp0 : W0.cell? ⟨w.heap.size, 0, none⟩ = some (.slice A n c) := (cell_of_row W0 w.heap.size 0 _ _ (0, 0) hgK).trans rfl
  have hix := idx_any (w := W0) (p := w.heap.size) (A := L.A3) (c := L.c3) (n := T.sm.length) (l := T.sm) rfl h.kle.2.2 h0.sum_at h0.sum_room hrd0 hp0
  obtain ⟨m, hm⟩ : ∃ q, q = T.sm.length := ⟨_, rfl⟩
  have hbox := h0.box
  have hown := h0.o3
  have hne2 := fun q hq => (h.d3 q hq).1
  have hlt2 := fun q hq => h.lt q (.inl (h.ov3 q hq))
  rw [show L.v3 T = .slice L.A3 m L.c3 from by rw [Lay.v3, hm]] at hbox hown hne2 hlt2
  rw [← hm] at hown hix
  obtain ⟨A2, hA2⟩ : ∃ q, q = L.A3 := ⟨_, rfl⟩
  obtain ⟨c2, hc2⟩ : ∃ q, q = L.c3 := ⟨_, rfl⟩
  obtain ⟨x2, hx2⟩ : ∃ q, q = L.x3 := ⟨_, rfl⟩
  obtain ⟨v1, hv1⟩ : ∃ q, q = L.v1 T := ⟨_, rfl⟩
  obtain ⟨v3, hv3⟩ : ∃ q, q = L.v2 T := ⟨_, rfl⟩
  obtain ⟨mb, hmb⟩ : ∃ q, q = L.mb := ⟨_, rfl⟩
  rw [← hA2, ← hc2] at hbox hown hne2 hlt2 hix
  rw [← hv1, ← hv3, ← hmb] at hbox
  rw [← hx2] at hown
  have HIX := Lib.hid (show Calls Try.prog 44 #[.slice A2 m c2, .func (Fn.func 45) #[] #[.pointer (some ⟨w.heap.size, 0, none⟩)]] W0 fun e w' => e = .returned (.int .i64 (-1)) ∧ W0 = w' from by
    refine hix.mono fun e w' ⟨hw, hc⟩ => ?_
    rcases hc with ⟨k, _, hkb, _, _⟩ | ⟨_, he⟩
    · exact absurd hkb (hin k)
    · exact ⟨he, hw⟩)
  have cA : W0.cell? ⟨tb, 2, none⟩ = some (.slice A2 m c2) := (cell_of_row W0 tb 2 _ _ (0, 0) hbox).trans rfl
  have cR : (w.alloc (.cells #[.slice A n c] 29)).cell? ⟨tb, 2, none⟩ = some (.slice A2 m c2) := by rw [← hW0]; exact cA
  have cB : (W0.alloc (.cells #[.slice A n c] 29)).cell? ⟨tb, 2, none⟩ = some (.slice A2 m c2) := ((below_of_new W0 _).cell (by show tb < _; omega)).trans cA
  have HJ := Lib.hid (show Calls Try.prog 32 #[.slice (some ⟨W0.heap.size, 0, none⟩) 1 1] (W0.alloc (.cells #[.slice A n c] 29)).drew fun e w' => ∃ A' c', e = .returned (.slice A' n c') ∧ w'.ownsRow W0.heap.size 5 1 (.slice A' n c') n (b.map bv) ∧ Below W0.heap.size W0.drew w' from join1 A n c b W0.drew hrd0 hn)
  have HBD := Lib.hid (show Below W0.heap.size W0 W0.drew from below_of_drew ⟨1, rfl⟩ _)
  have HPI := Lib.hid (show (Try.prog.info? 36).map (·.size) = some PV.size from by rw [hPs]; exact info16K)
  have HPA := Lib.hid (show PV.all (·.oneCell') = true from by rw [hPV]; exact kv_one _)
  obtain ⟨ZK, hZK⟩ : ∃ z : Array Value, z = #[.int .u8 0, .int .u8 0, .int .u8 0, .int .u8 0, .int .u8 0, .int .u8 0, .int .u8 0, .int .u8 0, .int .u8 0, .int .u8 0, .int .u8 0, .int .u8 0, .int .u8 0, .int .u8 0, .int .u8 0, .int .u8 0] := ⟨_, rfl⟩
  have hz : ∀ w, (zeroValue 36).run Try.prog w = .ok (.agg ZK) w := fun w => by rw [hZK]; kernel_rfl
  have HPZ := Lib.hid (show ZK.size = PV.size from by rw [hPs, hZK]; rfl)
  have HMK := Lib.hid (show ∀ W : World, Calls Try.prog 43 #[.int .u8 100, .int .i64 ((m : Int) + 1)] W fun e w' => e = .returned (.agg PV) ∧ Below W.heap.size W w' from fun W => by
    have := smark_any 100 (m + 1) W (by omega)
    rw [hPV, ← hm]
    exact this)
  have HFIN := Lib.hid (fun (w3 w5 w8 : World) (gg g cap c' : Nat) (A' : Option Addr) (O1 : Obj) => sum_fin (w3 := w3) (w5 := w5) (w8 := w8) (gg := gg) (g := g) (cap := cap) (n := n) (c' := c') (A' := A') (s := b) (O1 := O1) (e8 := 5) h (by omega) (by omega) hb0 hs0)
  have HV2 := Lib.hid (show L.v3 T = .slice A2 m c2 from by rw [Lay.v3, hm, hA2, hc2])
  have hmn : m < 100000 := by omega
  have HX2 := Lib.hid hx2
  have HM := Lib.hid hm
  have HPV := Lib.hid hPV
  have HW0 := Lib.hid hW0
  have HB0 := Lib.hid hb0
  have HS0 := Lib.hid hs0
  have HGK := Lib.hid hgK
  have HTB := Lib.hid htb
  have HBOX := Lib.hid hbox
  have HOWN := Lib.hid hown
  have HNE := Lib.hid hne2
  have HLT := Lib.hid hlt2
  have HBL := Lib.hid hbl
  have HI := Lib.hid (And.intro hi (And.intro hz0 (And.intro hz1 hz2)))
  clear hPV hPs hbl hb0 hs0 hgK htb h0 hrd0 hp0 hix hbox hown hne2 hlt2 hA2 hc2 hx2 hv1 hv3 hmb hm h hrd hlen hin hZK
  go_enter Try.func19, Try.ntmps19
  go_wp2_with fail
  rw [← hW0]
  clear hW0 cR
  refine HIX.out.mono ?_
  rintro e wx ⟨rfl, rfl⟩
  go_wp2_with fail
  refine wp_region_held_drew (S := fun w' => w'.heap[w.heap.size]? = some (.cells #[.slice A n c] 29 (0, 0))) (by kernel_rfl) HGK.out (fun hHeld => ?_)
  refine wpAnyH_take (i := 0) (v := .pointer (some ⟨tb, 0, none⟩)) rfl (by kernel_rfl) (by kernel_rfl) (by kernel_rfl) (fun _ _ _ h => h) (Or.inl ⟨by rfl, fun wq hSw => by go_simp⟩) (by assumption) ?_
  go_simp
  refine wpAnyH_take (i := 1) (v := .pointer (some ⟨tb, 0, none⟩)) rfl (by kernel_rfl) (by kernel_rfl) (by kernel_rfl) (fun _ _ _ h => h) (Or.inl ⟨by rfl, fun wq hSw => by go_simp⟩) (by assumption) ?_
  go_simp
  refine wpAnyH_take (i := 2) (v := .pointer (some ⟨tb, 0, none⟩)) rfl (by kernel_rfl) (by kernel_rfl) (by kernel_rfl) (fun _ _ _ h => h) (Or.inl ⟨by rfl, fun wq hSw => by go_simp⟩) (by assumption) ?_
  go_simp
  refine wpAnyH_take (i := 3) (v := .pointer (some ⟨tb, 2, none⟩)) rfl (by kernel_rfl) (by kernel_rfl) (by kernel_rfl) (fun _ _ _ h => h) (Or.inl ⟨by rfl, fun wq hSw => by go_simp⟩) (by assumption) ?_
  go_simp
  refine wpAnyH_take (i := 5) (v := .slice A n c) rfl (by kernel_rfl) (by kernel_rfl) (by kernel_rfl) (fun _ _ _ h => h) (Or.inl ⟨by rfl, fun wq hSw => by (have hcc : wq.cell? ⟨w.heap.size, 0, none⟩ = some (.slice A n c) := (cell_of_row wq w.heap.size 0 _ _ (0, 0) hSw).trans rfl; go_simp)⟩) (by assumption) ?_
  go_simp
  refine wpAnyH_ready (rs := [4, 6]) (by kernel_rfl) (by simp) ?_
  refine AllReadyH.cons rfl (fun K hK => ?_) (AllReadyH.cons rfl (fun K hK => ?_) AllReadyH.nil)
  · go_simp
    refine hK.out _ _ (by assumption) (fun hHeld1 => ?_)
    clear hK K
    refine wpAnyH_ready (rs := [6]) (by kernel_rfl) (by simp) ?_
    refine AllReadyH.cons rfl (fun K hK => ?_) AllReadyH.nil
    go_simp
    refine hK.out _ _ ((heap_alloc_old _ _ (by have := HS0.out; omega)).trans HGK.out) (fun hHeld2 => ?_)
    clear hK K
    refine wpAnyH_ready (rs := [7]) (by kernel_rfl) (by simp) ?_
    refine AllReadyH.cons rfl (fun K hK => ?_) AllReadyH.nil
    go_simp
    refine HJ.out.mono ?_
    rintro e w3 ⟨A3, c3, rfl, ho3, hb3⟩
    have hb03 := below_seq HBD.out hb3
    have cC : w3.cell? ⟨tb, 2, none⟩ = some (.slice A2 m c2) := (hb03.cell (by have := HS0.out; have := HTB.out; show tb < _; omega)).trans cA
    have cD : (w3.alloc (.cells #[.slice A3 n c3] 29)).cell? ⟨tb, 2, none⟩ = some (.slice A2 m c2) := ((below_of_new w3 _).cell (by have := hb03.size; have := HS0.out; have := HTB.out; show tb < _; omega)).trans cC
    have hk3 : w3.heap[w.heap.size]? = some (.cells #[.slice A n c] 29 (0, 0)) := (hb03.block _ (by have := HS0.out; omega)).trans HGK.out
    have hx3 : w3.heap[tb]? = some (.cells #[v1, v3, .slice A2 m c2, .map (some mb)] 87 (0, 0)) := (hb03.block _ (by have := HS0.out; have := HTB.out; omega)).trans HBOX.out
    have ho2 := own_onNs HOWN.out hb03
    have HO3 := Lib.hid ho3
    have HB3 := Lib.hid hb03
    have HX3 := Lib.hid hx3
    have HO2 := Lib.hid ho2
    have HK3 := Lib.hid hk3
    clear ho3 hb3 hb03 hx3 ho2
    refine hK.out _ _ hk3 (fun hHeld3 => ?_)
    clear hK K hk3
    refine wpAnyH_ready (rs := [8]) (by kernel_rfl) (by simp) ?_
    refine AllReadyH.cons rfl (fun K hK => ?_) AllReadyH.nil
    go_simp
    refine hK.out _ _ ((heap_alloc_old _ _ (by have := HB3.out.size; have := HS0.out; omega)).trans HK3.out) (fun hHeld4 => ?_)
    clear hK K
    refine wpAnyH_ready (rs := [9]) (by kernel_rfl) (by simp) ?_
    refine AllReadyH.cons rfl (fun K hK => ?_) AllReadyH.nil
    refine step_append_lies _ (by rfl) _ _ _ (by rfl) 0 29 i0 _ 1 24 Try.underlying28 HI.out.1 HI.out.2.1 HI.out.2.2.1 HI.out.2.2.2 rfl (by omega) (.slice A2 m c2) m x2 (by rfl) (own_onNs HO2.out (below_of_new w3 (.cells #[.slice A3 n c3] 29))) ⟨w3.heap.size, 0, none⟩ 1 1 (#[.slice A3 n c3] : Array Value).toList (by rfl) (by rfl) (World.news_of_block (cs := #[.slice A3 n c3]) (t := 29) (fr := (0, 0)) (heap_alloc_new w3 _)) (by intro v hv; simp only [List.mem_cons, List.not_mem_nil, or_false] at hv; subst hv; rfl) (by omega) (by unfold maxLen; omega) (by omega) (by simp) (w3.heap.size + 1) (by simp) ?_
    intro gg cap w5 hown5 hgrow5 hat5 hlt5
    have htl : tb < w3.heap.size := by have := HB3.out.size; have := HS0.out; have := HTB.out; omega
    have hwl : w.heap.size < w3.heap.size := by have := HB3.out.size; have := HS0.out; omega
    have hx5 : w5.heap[tb]? = some (.cells #[v1, v3, .slice A2 m c2, .map (some mb)] 87 (0, 0)) := (hgrow5.block tb (by rw [World.size_alloc]; omega) (fun e => HNE.out tb e.symm rfl)).trans ((heap_alloc_old _ _ htl).trans HX3.out)
    have hk5 : w5.heap[w.heap.size]? = some (.cells #[.slice A n c] 29 (0, 0)) := (hgrow5.block w.heap.size (by rw [World.size_alloc]; omega) (fun e => Nat.lt_irrefl _ (HLT.out _ e.symm))).trans ((heap_alloc_old _ _ hwl).trans HK3.out)
    refine hK.out _ _ hk5 (fun hHeld5 => ?_)
    clear hK K
    refine wpAnyH_take (i := 10) (v := .pointer (some ⟨tb, 0, none⟩)) rfl (by kernel_rfl) (by kernel_rfl) (by kernel_rfl) (fun _ _ _ h => h) (Or.inl ⟨by rfl, fun wq hSw => by go_simp⟩) (by assumption) ?_
    go_simp
    refine wpAnyH_take (i := 11) (v := .pointer (some ⟨tb, 2, none⟩)) rfl (by kernel_rfl) (by kernel_rfl) (by kernel_rfl) (fun _ _ _ h => h) (Or.inl ⟨by rfl, fun wq hSw => by go_simp⟩) (by assumption) ?_
    go_simp
    have c5 : w5.cell? ⟨tb, 2, none⟩ = some (.slice A2 m c2) := (cell_of_row w5 tb 2 _ _ (0, 0) hx5).trans rfl
    have f5 : w5.frozen? ⟨tb, 2, none⟩ = false := frozen_of_row w5 tb 2 _ _ hx5
    refine wpAnyH_ready (rs := [12]) (by kernel_rfl) (by simp) ?_
    refine AllReadyH.cons rfl (fun K hK => ?_) AllReadyH.nil
    go_simp
    refine hK.out _ _ ((heap_setCell_other _ _ _ _ (by have := HTB.out; show w.heap.size ≠ tb; omega)).trans hk5) (fun hHeldz => ?_)
    clear hK K
    refine wpAnyH_done (by kernel_rfl) ?_ _
    obtain ⟨w6, hw6⟩ : ∃ q, q = w5.setCell ⟨tb, 2, none⟩ (.slice (some ⟨gg, 0, none⟩) (m + 1) cap) := ⟨_, rfl⟩
    rw [← hw6]
    have HW6 := Lib.hid hw6
    have HO5 := Lib.hid hown5
    have HG5 := Lib.hid hgrow5
    have HA5 := Lib.hid hat5
    have HL5 := Lib.hid hlt5
    clear hw6 hown5 hgrow5 hat5 hlt5 hx5 hk5 c5 f5 htl hwl cA cB cC cD
    go_wp2_with fail
    refine (HMK.out w6).mono ?_
    rintro e w7 ⟨rfl, hb7⟩
    have HB7 := Lib.hid hb7
    clear hb7
    go_wp2_with (refine wpList_store_row (o := ⟨none, _, _, _, _, _⟩) rfl 36 (.tmp 6) (.tmp 34) rfl w7.heap.size PV rfl rfl 36 _ (heap_alloc_new w7 _) HPI.out HPZ.out HPA.out ?_)
    go_ret
    have h8 := below_setRow (below_seq HB7.out (below_of_new w7 (.cells ZK 36))) HB7.out.size PV
    have s7 := HB7.out.size
    rw [HW6.out] at h8 s7
    rw [World.size_setCell] at s7
    have hm := HM.out
    subst hm
    have s8 := h8.size
    rw [World.size_setCell] at s8
    have sz : w.heap.size ≤ w7.heap.size := by have := HB0.out.size; have := HB3.out.size; have := HG5.out.size; rw [World.size_alloc] at this; omega
    have key := HFIN.out w3 w5 _ gg w7.heap.size cap c3 A3 _ HB3.out HBL.out.symm HO3.out (by rw [HV2.out]; exact HG5.out) (by rw [HV2.out]; exact HA5.out) HL5.out (by rw [← HX2.out]; exact HO5.out) h8 s7 (by rw [setRow_size, World.size_alloc]; omega)
    exact ⟨w7.heap.size, rfl, by rw [← HPV.out]; exact setRow_heap _ _ _ _ _ _ (heap_alloc_new w7 _), sz, key⟩
  · go_simp
    refine hK.out _ _ ((heap_alloc_old _ _ (by have := HS0.out; omega)).trans HGK.out) (fun hHeld6 => ?_)
    clear hK K
    refine wpAnyH_ready (rs := [4, 7]) (by kernel_rfl) (by simp) ?_
    refine AllReadyH.cons rfl (fun K hK => ?_) (AllReadyH.cons rfl (fun K hK => ?_) AllReadyH.nil)
    · go_simp
      refine hK.out _ _ (by assumption) (fun hHeld7 => ?_)
      clear hK K
      refine wpAnyH_ready (rs := [7]) (by kernel_rfl) (by simp) ?_
      refine AllReadyH.cons rfl (fun K hK => ?_) AllReadyH.nil
      go_simp
      refine HJ.out.mono ?_
      rintro e w3 ⟨A3, c3, rfl, ho3, hb3⟩
      have hb03 := below_seq HBD.out hb3
      have cC : w3.cell? ⟨tb, 2, none⟩ = some (.slice A2 m c2) := (hb03.cell (by have := HS0.out; have := HTB.out; show tb < _; omega)).trans cA
      have cD : (w3.alloc (.cells #[.slice A3 n c3] 29)).cell? ⟨tb, 2, none⟩ = some (.slice A2 m c2) := ((below_of_new w3 _).cell (by have := hb03.size; have := HS0.out; have := HTB.out; show tb < _; omega)).trans cC
      have hk3 : w3.heap[w.heap.size]? = some (.cells #[.slice A n c] 29 (0, 0)) := (hb03.block _ (by have := HS0.out; omega)).trans HGK.out
      have hx3 : w3.heap[tb]? = some (.cells #[v1, v3, .slice A2 m c2, .map (some mb)] 87 (0, 0)) := (hb03.block _ (by have := HS0.out; have := HTB.out; omega)).trans HBOX.out
      have ho2 := own_onNs HOWN.out hb03
      have HO3 := Lib.hid ho3
      have HB3 := Lib.hid hb03
      have HX3 := Lib.hid hx3
      have HO2 := Lib.hid ho2
      have HK3 := Lib.hid hk3
      clear ho3 hb3 hb03 hx3 ho2
      refine hK.out _ _ hk3 (fun hHeld8 => ?_)
      clear hK K hk3
      refine wpAnyH_ready (rs := [8]) (by kernel_rfl) (by simp) ?_
      refine AllReadyH.cons rfl (fun K hK => ?_) AllReadyH.nil
      go_simp
      refine hK.out _ _ ((heap_alloc_old _ _ (by have := HB3.out.size; have := HS0.out; omega)).trans HK3.out) (fun hHeld9 => ?_)
      clear hK K
      refine wpAnyH_ready (rs := [9]) (by kernel_rfl) (by simp) ?_
      refine AllReadyH.cons rfl (fun K hK => ?_) AllReadyH.nil
      refine step_append_lies _ (by rfl) _ _ _ (by rfl) 0 29 i0 _ 1 24 Try.underlying28 HI.out.1 HI.out.2.1 HI.out.2.2.1 HI.out.2.2.2 rfl (by omega) (.slice A2 m c2) m x2 (by rfl) (own_onNs HO2.out (below_of_new w3 (.cells #[.slice A3 n c3] 29))) ⟨w3.heap.size, 0, none⟩ 1 1 (#[.slice A3 n c3] : Array Value).toList (by rfl) (by rfl) (World.news_of_block (cs := #[.slice A3 n c3]) (t := 29) (fr := (0, 0)) (heap_alloc_new w3 _)) (by intro v hv; simp only [List.mem_cons, List.not_mem_nil, or_false] at hv; subst hv; rfl) (by omega) (by unfold maxLen; omega) (by omega) (by simp) (w3.heap.size + 1) (by simp) ?_
      intro gg cap w5 hown5 hgrow5 hat5 hlt5
      have htl : tb < w3.heap.size := by have := HB3.out.size; have := HS0.out; have := HTB.out; omega
      have hwl : w.heap.size < w3.heap.size := by have := HB3.out.size; have := HS0.out; omega
      have hx5 : w5.heap[tb]? = some (.cells #[v1, v3, .slice A2 m c2, .map (some mb)] 87 (0, 0)) := (hgrow5.block tb (by rw [World.size_alloc]; omega) (fun e => HNE.out tb e.symm rfl)).trans ((heap_alloc_old _ _ htl).trans HX3.out)
      have hk5 : w5.heap[w.heap.size]? = some (.cells #[.slice A n c] 29 (0, 0)) := (hgrow5.block w.heap.size (by rw [World.size_alloc]; omega) (fun e => Nat.lt_irrefl _ (HLT.out _ e.symm))).trans ((heap_alloc_old _ _ hwl).trans HK3.out)
      refine hK.out _ _ hk5 (fun hHeld10 => ?_)
      clear hK K
      refine wpAnyH_take (i := 10) (v := .pointer (some ⟨tb, 0, none⟩)) rfl (by kernel_rfl) (by kernel_rfl) (by kernel_rfl) (fun _ _ _ h => h) (Or.inl ⟨by rfl, fun wq hSw => by go_simp⟩) (by assumption) ?_
      go_simp
      refine wpAnyH_take (i := 11) (v := .pointer (some ⟨tb, 2, none⟩)) rfl (by kernel_rfl) (by kernel_rfl) (by kernel_rfl) (fun _ _ _ h => h) (Or.inl ⟨by rfl, fun wq hSw => by go_simp⟩) (by assumption) ?_
      go_simp
      have c5 : w5.cell? ⟨tb, 2, none⟩ = some (.slice A2 m c2) := (cell_of_row w5 tb 2 _ _ (0, 0) hx5).trans rfl
      have f5 : w5.frozen? ⟨tb, 2, none⟩ = false := frozen_of_row w5 tb 2 _ _ hx5
      refine wpAnyH_ready (rs := [12]) (by kernel_rfl) (by simp) ?_
      refine AllReadyH.cons rfl (fun K hK => ?_) AllReadyH.nil
      go_simp
      refine hK.out _ _ ((heap_setCell_other _ _ _ _ (by have := HTB.out; show w.heap.size ≠ tb; omega)).trans hk5) (fun hHeldz => ?_)
      clear hK K
      refine wpAnyH_done (by kernel_rfl) ?_ _
      obtain ⟨w6, hw6⟩ : ∃ q, q = w5.setCell ⟨tb, 2, none⟩ (.slice (some ⟨gg, 0, none⟩) (m + 1) cap) := ⟨_, rfl⟩
      rw [← hw6]
      have HW6 := Lib.hid hw6
      have HO5 := Lib.hid hown5
      have HG5 := Lib.hid hgrow5
      have HA5 := Lib.hid hat5
      have HL5 := Lib.hid hlt5
      clear hw6 hown5 hgrow5 hat5 hlt5 hx5 hk5 c5 f5 htl hwl cA cB cC cD
      go_wp2_with fail
      refine (HMK.out w6).mono ?_
      rintro e w7 ⟨rfl, hb7⟩
      have HB7 := Lib.hid hb7
      clear hb7
      go_wp2_with (refine wpList_store_row (o := ⟨none, _, _, _, _, _⟩) rfl 36 (.tmp 6) (.tmp 34) rfl w7.heap.size PV rfl rfl 36 _ (heap_alloc_new w7 _) HPI.out HPZ.out HPA.out ?_)
      go_ret
      have h8 := below_setRow (below_seq HB7.out (below_of_new w7 (.cells ZK 36))) HB7.out.size PV
      have s7 := HB7.out.size
      rw [HW6.out] at h8 s7
      rw [World.size_setCell] at s7
      have hm := HM.out
      subst hm
      have s8 := h8.size
      rw [World.size_setCell] at s8
      have sz : w.heap.size ≤ w7.heap.size := by have := HB0.out.size; have := HB3.out.size; have := HG5.out.size; rw [World.size_alloc] at this; omega
      have key := HFIN.out w3 w5 _ gg w7.heap.size cap c3 A3 _ HB3.out HBL.out.symm HO3.out (by rw [HV2.out]; exact HG5.out) (by rw [HV2.out]; exact HA5.out) HL5.out (by rw [← HX2.out]; exact HO5.out) h8 s7 (by rw [setRow_size, World.size_alloc]; omega)
      exact ⟨w7.heap.size, rfl, by rw [← HPV.out]; exact setRow_heap _ _ _ _ _ _ (heap_alloc_new w7 _), sz, key⟩
    · go_simp
      refine HJ.out.mono ?_
      rintro e w3 ⟨A3, c3, rfl, ho3, hb3⟩
      have hb03 := below_seq HBD.out hb3
      have cC : w3.cell? ⟨tb, 2, none⟩ = some (.slice A2 m c2) := (hb03.cell (by have := HS0.out; have := HTB.out; show tb < _; omega)).trans cA
      have cD : (w3.alloc (.cells #[.slice A3 n c3] 29)).cell? ⟨tb, 2, none⟩ = some (.slice A2 m c2) := ((below_of_new w3 _).cell (by have := hb03.size; have := HS0.out; have := HTB.out; show tb < _; omega)).trans cC
      have hk3 : w3.heap[w.heap.size]? = some (.cells #[.slice A n c] 29 (0, 0)) := (hb03.block _ (by have := HS0.out; omega)).trans HGK.out
      have hx3 : w3.heap[tb]? = some (.cells #[v1, v3, .slice A2 m c2, .map (some mb)] 87 (0, 0)) := (hb03.block _ (by have := HS0.out; have := HTB.out; omega)).trans HBOX.out
      have ho2 := own_onNs HOWN.out hb03
      have HO3 := Lib.hid ho3
      have HB3 := Lib.hid hb03
      have HX3 := Lib.hid hx3
      have HO2 := Lib.hid ho2
      have HK3 := Lib.hid hk3
      clear ho3 hb3 hb03 hx3 ho2
      refine hK.out _ _ hk3 (fun hHeld11 => ?_)
      clear hK K hk3
      refine wpAnyH_ready (rs := [4, 8]) (by kernel_rfl) (by simp) ?_
      refine AllReadyH.cons rfl (fun K hK => ?_) (AllReadyH.cons rfl (fun K hK => ?_) AllReadyH.nil)
      · go_simp
        refine hK.out _ _ (by assumption) (fun hHeld12 => ?_)
        clear hK K
        refine wpAnyH_ready (rs := [8]) (by kernel_rfl) (by simp) ?_
        refine AllReadyH.cons rfl (fun K hK => ?_) AllReadyH.nil
        go_simp
        refine hK.out _ _ ((heap_alloc_old _ _ (by have := HB3.out.size; have := HS0.out; omega)).trans HK3.out) (fun hHeld13 => ?_)
        clear hK K
        refine wpAnyH_ready (rs := [9]) (by kernel_rfl) (by simp) ?_
        refine AllReadyH.cons rfl (fun K hK => ?_) AllReadyH.nil
        refine step_append_lies _ (by rfl) _ _ _ (by rfl) 0 29 i0 _ 1 24 Try.underlying28 HI.out.1 HI.out.2.1 HI.out.2.2.1 HI.out.2.2.2 rfl (by omega) (.slice A2 m c2) m x2 (by rfl) (own_onNs HO2.out (below_of_new w3 (.cells #[.slice A3 n c3] 29))) ⟨w3.heap.size, 0, none⟩ 1 1 (#[.slice A3 n c3] : Array Value).toList (by rfl) (by rfl) (World.news_of_block (cs := #[.slice A3 n c3]) (t := 29) (fr := (0, 0)) (heap_alloc_new w3 _)) (by intro v hv; simp only [List.mem_cons, List.not_mem_nil, or_false] at hv; subst hv; rfl) (by omega) (by unfold maxLen; omega) (by omega) (by simp) (w3.heap.size + 1) (by simp) ?_
        intro gg cap w5 hown5 hgrow5 hat5 hlt5
        have htl : tb < w3.heap.size := by have := HB3.out.size; have := HS0.out; have := HTB.out; omega
        have hwl : w.heap.size < w3.heap.size := by have := HB3.out.size; have := HS0.out; omega
        have hx5 : w5.heap[tb]? = some (.cells #[v1, v3, .slice A2 m c2, .map (some mb)] 87 (0, 0)) := (hgrow5.block tb (by rw [World.size_alloc]; omega) (fun e => HNE.out tb e.symm rfl)).trans ((heap_alloc_old _ _ htl).trans HX3.out)
        have hk5 : w5.heap[w.heap.size]? = some (.cells #[.slice A n c] 29 (0, 0)) := (hgrow5.block w.heap.size (by rw [World.size_alloc]; omega) (fun e => Nat.lt_irrefl _ (HLT.out _ e.symm))).trans ((heap_alloc_old _ _ hwl).trans HK3.out)
        refine hK.out _ _ hk5 (fun hHeld14 => ?_)
        clear hK K
        refine wpAnyH_take (i := 10) (v := .pointer (some ⟨tb, 0, none⟩)) rfl (by kernel_rfl) (by kernel_rfl) (by kernel_rfl) (fun _ _ _ h => h) (Or.inl ⟨by rfl, fun wq hSw => by go_simp⟩) (by assumption) ?_
        go_simp
        refine wpAnyH_take (i := 11) (v := .pointer (some ⟨tb, 2, none⟩)) rfl (by kernel_rfl) (by kernel_rfl) (by kernel_rfl) (fun _ _ _ h => h) (Or.inl ⟨by rfl, fun wq hSw => by go_simp⟩) (by assumption) ?_
        go_simp
        have c5 : w5.cell? ⟨tb, 2, none⟩ = some (.slice A2 m c2) := (cell_of_row w5 tb 2 _ _ (0, 0) hx5).trans rfl
        have f5 : w5.frozen? ⟨tb, 2, none⟩ = false := frozen_of_row w5 tb 2 _ _ hx5
        refine wpAnyH_ready (rs := [12]) (by kernel_rfl) (by simp) ?_
        refine AllReadyH.cons rfl (fun K hK => ?_) AllReadyH.nil
        go_simp
        refine hK.out _ _ ((heap_setCell_other _ _ _ _ (by have := HTB.out; show w.heap.size ≠ tb; omega)).trans hk5) (fun hHeldz => ?_)
        clear hK K
        refine wpAnyH_done (by kernel_rfl) ?_ _
        obtain ⟨w6, hw6⟩ : ∃ q, q = w5.setCell ⟨tb, 2, none⟩ (.slice (some ⟨gg, 0, none⟩) (m + 1) cap) := ⟨_, rfl⟩
        rw [← hw6]
        have HW6 := Lib.hid hw6
        have HO5 := Lib.hid hown5
        have HG5 := Lib.hid hgrow5
        have HA5 := Lib.hid hat5
        have HL5 := Lib.hid hlt5
        clear hw6 hown5 hgrow5 hat5 hlt5 hx5 hk5 c5 f5 htl hwl cA cB cC cD
        go_wp2_with fail
        refine (HMK.out w6).mono ?_
        rintro e w7 ⟨rfl, hb7⟩
        have HB7 := Lib.hid hb7
        clear hb7
        go_wp2_with (refine wpList_store_row (o := ⟨none, _, _, _, _, _⟩) rfl 36 (.tmp 6) (.tmp 34) rfl w7.heap.size PV rfl rfl 36 _ (heap_alloc_new w7 _) HPI.out HPZ.out HPA.out ?_)
        go_ret
        have h8 := below_setRow (below_seq HB7.out (below_of_new w7 (.cells ZK 36))) HB7.out.size PV
        have s7 := HB7.out.size
        rw [HW6.out] at h8 s7
        rw [World.size_setCell] at s7
        have hm := HM.out
        subst hm
        have s8 := h8.size
        rw [World.size_setCell] at s8
        have sz : w.heap.size ≤ w7.heap.size := by have := HB0.out.size; have := HB3.out.size; have := HG5.out.size; rw [World.size_alloc] at this; omega
        have key := HFIN.out w3 w5 _ gg w7.heap.size cap c3 A3 _ HB3.out HBL.out.symm HO3.out (by rw [HV2.out]; exact HG5.out) (by rw [HV2.out]; exact HA5.out) HL5.out (by rw [← HX2.out]; exact HO5.out) h8 s7 (by rw [setRow_size, World.size_alloc]; omega)
        exact ⟨w7.heap.size, rfl, by rw [← HPV.out]; exact setRow_heap _ _ _ _ _ _ (heap_alloc_new w7 _), sz, key⟩
      · go_simp
        refine hK.out _ _ ((heap_alloc_old _ _ (by have := HB3.out.size; have := HS0.out; omega)).trans HK3.out) (fun hHeld15 => ?_)
        clear hK K
        refine wpAnyH_ready (rs := [4]) (by kernel_rfl) (by simp) ?_
        refine AllReadyH.cons rfl (fun K hK => ?_) AllReadyH.nil
        go_simp
        refine hK.out _ _ (by assumption) (fun hHeld16 => ?_)
        clear hK K
        refine wpAnyH_ready (rs := [9]) (by kernel_rfl) (by simp) ?_
        refine AllReadyH.cons rfl (fun K hK => ?_) AllReadyH.nil
        refine step_append_lies _ (by rfl) _ _ _ (by rfl) 0 29 i0 _ 1 24 Try.underlying28 HI.out.1 HI.out.2.1 HI.out.2.2.1 HI.out.2.2.2 rfl (by omega) (.slice A2 m c2) m x2 (by rfl) (own_onNs HO2.out (below_of_new w3 (.cells #[.slice A3 n c3] 29))) ⟨w3.heap.size, 0, none⟩ 1 1 (#[.slice A3 n c3] : Array Value).toList (by rfl) (by rfl) (World.news_of_block (cs := #[.slice A3 n c3]) (t := 29) (fr := (0, 0)) (heap_alloc_new w3 _)) (by intro v hv; simp only [List.mem_cons, List.not_mem_nil, or_false] at hv; subst hv; rfl) (by omega) (by unfold maxLen; omega) (by omega) (by simp) (w3.heap.size + 1) (by simp) ?_
        intro gg cap w5 hown5 hgrow5 hat5 hlt5
        have htl : tb < w3.heap.size := by have := HB3.out.size; have := HS0.out; have := HTB.out; omega
        have hwl : w.heap.size < w3.heap.size := by have := HB3.out.size; have := HS0.out; omega
        have hx5 : w5.heap[tb]? = some (.cells #[v1, v3, .slice A2 m c2, .map (some mb)] 87 (0, 0)) := (hgrow5.block tb (by rw [World.size_alloc]; omega) (fun e => HNE.out tb e.symm rfl)).trans ((heap_alloc_old _ _ htl).trans HX3.out)
        have hk5 : w5.heap[w.heap.size]? = some (.cells #[.slice A n c] 29 (0, 0)) := (hgrow5.block w.heap.size (by rw [World.size_alloc]; omega) (fun e => Nat.lt_irrefl _ (HLT.out _ e.symm))).trans ((heap_alloc_old _ _ hwl).trans HK3.out)
        refine hK.out _ _ hk5 (fun hHeld17 => ?_)
        clear hK K
        refine wpAnyH_take (i := 10) (v := .pointer (some ⟨tb, 0, none⟩)) rfl (by kernel_rfl) (by kernel_rfl) (by kernel_rfl) (fun _ _ _ h => h) (Or.inl ⟨by rfl, fun wq hSw => by go_simp⟩) (by assumption) ?_
        go_simp
        refine wpAnyH_take (i := 11) (v := .pointer (some ⟨tb, 2, none⟩)) rfl (by kernel_rfl) (by kernel_rfl) (by kernel_rfl) (fun _ _ _ h => h) (Or.inl ⟨by rfl, fun wq hSw => by go_simp⟩) (by assumption) ?_
        go_simp
        have c5 : w5.cell? ⟨tb, 2, none⟩ = some (.slice A2 m c2) := (cell_of_row w5 tb 2 _ _ (0, 0) hx5).trans rfl
        have f5 : w5.frozen? ⟨tb, 2, none⟩ = false := frozen_of_row w5 tb 2 _ _ hx5
        refine wpAnyH_ready (rs := [12]) (by kernel_rfl) (by simp) ?_
        refine AllReadyH.cons rfl (fun K hK => ?_) AllReadyH.nil
        go_simp
        refine hK.out _ _ ((heap_setCell_other _ _ _ _ (by have := HTB.out; show w.heap.size ≠ tb; omega)).trans hk5) (fun hHeldz => ?_)
        clear hK K
        refine wpAnyH_done (by kernel_rfl) ?_ _
        obtain ⟨w6, hw6⟩ : ∃ q, q = w5.setCell ⟨tb, 2, none⟩ (.slice (some ⟨gg, 0, none⟩) (m + 1) cap) := ⟨_, rfl⟩
        rw [← hw6]
        have HW6 := Lib.hid hw6
        have HO5 := Lib.hid hown5
        have HG5 := Lib.hid hgrow5
        have HA5 := Lib.hid hat5
        have HL5 := Lib.hid hlt5
        clear hw6 hown5 hgrow5 hat5 hlt5 hx5 hk5 c5 f5 htl hwl cA cB cC cD
        go_wp2_with fail
        refine (HMK.out w6).mono ?_
        rintro e w7 ⟨rfl, hb7⟩
        have HB7 := Lib.hid hb7
        clear hb7
        go_wp2_with (refine wpList_store_row (o := ⟨none, _, _, _, _, _⟩) rfl 36 (.tmp 6) (.tmp 34) rfl w7.heap.size PV rfl rfl 36 _ (heap_alloc_new w7 _) HPI.out HPZ.out HPA.out ?_)
        go_ret
        have h8 := below_setRow (below_seq HB7.out (below_of_new w7 (.cells ZK 36))) HB7.out.size PV
        have s7 := HB7.out.size
        rw [HW6.out] at h8 s7
        rw [World.size_setCell] at s7
        have hm := HM.out
        subst hm
        have s8 := h8.size
        rw [World.size_setCell] at s8
        have sz : w.heap.size ≤ w7.heap.size := by have := HB0.out.size; have := HB3.out.size; have := HG5.out.size; rw [World.size_alloc] at this; omega
        have key := HFIN.out w3 w5 _ gg w7.heap.size cap c3 A3 _ HB3.out HBL.out.symm HO3.out (by rw [HV2.out]; exact HG5.out) (by rw [HV2.out]; exact HA5.out) HL5.out (by rw [← HX2.out]; exact HO5.out) h8 s7 (by rw [setRow_size, World.size_alloc]; omega)
        exact ⟨w7.heap.size, rfl, by rw [← HPV.out]; exact setRow_heap _ _ _ _ _ _ (heap_alloc_new w7 _), sz, key⟩
end Go.Proofs.Ytbfcdlfjlailjaa.Sym
