/-
  base: Add.
-/
import Derived.Test.YtlngbpipmaaedaaBay
import Derived.Great.BuildSlice
namespace Go.Proofs.Ytlngbpipmaaedaa.Ba
open Go.RowKit
open Go.Proofs.Ytlngbpipmaaedaa.Kit
set_option linter.unusedVariables false

/-- all behind somebody, and the error's number -/
def addU (L : List Us) (u : Us) : List Us × Int :=
  if Nam.rightS u.nm = false then (L, 6) else if u.lives = false then (L, 7) else if ¬ findU L u.nm < 0 then (L, 10) else if 32 ≤ L.length then (L, 8) else (L ++ [u], 0)
theorem infoUz : (Try.prog.info? 30).map (fun i => (i.zero, i.size, i.bytes)) = some (some (.agg ZU), 20, 56) := by kernel_rfl
theorem size20 {KV : Array Value} (h : KV.size = 20) : ∃ a0 a1 a2 a3 a4 a5 a6 a7 a8 a9 a10 a11 a12 a13 a14 a15 a16 a17 a18 a19, KV = #[a0, a1, a2, a3, a4, a5, a6, a7, a8, a9, a10, a11, a12, a13, a14, a15, a16, a17, a18, a19] := by
  obtain ⟨l⟩ := KV
  match l, h with
  | [a0, a1, a2, a3, a4, a5, a6, a7, a8, a9, a10, a11, a12, a13, a14, a15, a16, a17, a18, a19], _ => exact ⟨a0, a1, a2, a3, a4, a5, a6, a7, a8, a9, a10, a11, a12, a13, a14, a15, a16, a17, a18, a19, rfl⟩
theorem fill_u (KV : Array Value) (h : KV.size = 20) (m : Nat) (hm : m = 20) :
    Instr.fill (fun i => some (i * m, m)) ((Array.range (1 * m)).map ((Value.agg ZU).cells[· % (Value.agg ZU).cells.size]!)) [(0, .agg KV)] = some KV := by
  subst hm
  obtain ⟨a0, a1, a2, a3, a4, a5, a6, a7, a8, a9, a10, a11, a12, a13, a14, a15, a16, a17, a18, a19, rfl⟩ := size20 h
  kernel_rfl
theorem run_load_u {w : World} {g : Nat} {t ty : TypeId} {cs : Array Value} {fr : Nat × Nat} {fs : Array Field} {a : Act} {x : Operand} {o : Oper} (hg : w.heap[g]? = some (.cells cs t fr))
    (hu : Try.prog.underlying ty = some (.struct fs)) (hi : (Try.prog.info? ty).map (·.size) = some cs.size) (ho : o.op = .load ty x) (hx : a.eval x = .pointer (some ⟨g, 0, none⟩)) :
    (execOp a.eval o).run Try.prog w = .ok (.value (.agg cs)) w := by
  unfold execOp
  simp only [ho, hx, Instr.loadAt, Instr.sureAddr, Sem.run_bind, Sem.run_pure, Result.andThen_ok, run_loadVar_row w g t ty cs fr _ hg hu rfl hi]

set_option maxRecDepth 100000 in
set_option maxHeartbeats 4000000 in
theorem add_any {w0 w : World} {bb : Nat} {L : List Us} {R : Nat → Prop} (h : Bs w0 w bb L R) (hz : L.length ≤ 1000000) {u : Us} (hu : u.key.length = 16) (hs : u.nm.size ≤ 1000000000) :
    Calls Try.prog 10 #[.pointer (some ⟨bb, 0, none⟩), .agg u.arr] w fun e w' => e = .returned (.int .i64 (addU L u).2) ∧ Bs w0 w' bb (addU L u).1 R ∧ Rws R w w' := by
  obtain ⟨W1, hW1⟩ : ∃ q, q = w.alloc (.cells u.arr 30) := ⟨_, rfl⟩
  have hb1 : Below w.heap.size w W1 := by rw [hW1]; exact below_of_new _ _
  have hr1 : W1.heap[w.heap.size]? = some (.cells u.arr 30 (0, 0)) := by rw [hW1]; exact heap_alloc_new _ _
  obtain ⟨UV, hUV⟩ : ∃ z, z = u.arr := ⟨_, rfl⟩
  have hU20 : UV.size = 20 := by rw [hUV]; exact Us.size hu
  have HONE := Lib.hid (show ∀ v ∈ UV.toList, v.oneCell' = true from by rw [hUV]; intro v hv; exact Us.one u v (by simpa [Us.arr] using hv))
  have HCL := Lib.hid (show UV.toList = u.cells from by rw [hUV]; simp [Us.arr])
  obtain ⟨q0, r1, r2, r3, r4⟩ := us_row hr1 hu
  clear r1 r2 r3 r4
  have hlv := fun W => lives_any (w := W) hu
  have hnm := fun W => Nam.right_any u.nm hs W
  have hpl : ∀ W, Below w.heap.size w W → Calls Try.prog 25 #[.pointer (some ⟨bb, 0, none⟩), .string u.nm] W fun e w' => e = .returned (.int .i64 (findU L u.nm)) ∧ Below W.heap.size W w' := fun W hW => by
    obtain ⟨A, c, h1, h2, h3⟩ := h
    exact place_any (h1.below hW) hz u.nm
  obtain ⟨V, hV⟩ : ∃ z, z = findU L u.nm := ⟨_, rfl⟩
  rw [← hUV] at hW1 hr1 hlv ⊢
  simp only [← hV] at hpl
  have hdef : addU L u = if Nam.rightS u.nm = false then (L, 6) else if u.lives = false then (L, 7) else if ¬ V < 0 then (L, 10) else if 32 ≤ L.length then (L, 8) else (L ++ [u], 0) := by rw [hV]; rfl
  obtain ⟨G, hG⟩ : ∃ z, z = addU L u := ⟨_, rfl⟩
  rw [← hG] at hdef ⊢
  have HDEF := Lib.hid hdef
  have HI := Lib.hid (show (Try.prog.info? 30).map (·.size) = some UV.size from by rw [hU20]; exact infoU)
  have HW1 := Lib.hid hW1.symm
  have HB1 := Lib.hid hb1
  have HR1 := Lib.hid hr1
  have HPL := Lib.hid hpl
  have HLV := Lib.hid hlv
  have HNM := Lib.hid hnm
  have HH := Lib.hid h
  have HUV := Lib.hid hUV
  have H20 := Lib.hid hU20
  have HU16 := Lib.hid hu
  clear hW1 hb1 hr1 hpl hlv hnm h hUV hV hG hdef hs
  rcases hr : Nam.rightS u.nm with _ | _
  · have hq := HDEF.out
    rw [if_pos hr] at hq
    subst hq
    have h1 := HNM.out W1
    rw [hr] at h1
    go_enter Try.func10, Try.ntmps10
    go_wp2_with (rw [HW1.out])
    refine h1.mono ?_
    rintro e w2 ⟨rfl, hb2⟩
    go_wp2
    go_ret
    exact ⟨rfl, HH.out.below (below_seq HB1.out hb2)⟩
  have h1 := HNM.out W1
  rw [hr] at h1
  have LDS := Lib.hid (show ∀ W2, Below W1.heap.size W1 W2 → W2.heap[w.heap.size]? = some (.cells UV 30 (0, 0)) from fun W2 hb => (hb.block _ (Array.getElem?_eq_some_iff.1 HR1.out).1).trans HR1.out)
  rcases hl : u.lives with _ | _
  · have hq := HDEF.out
    rw [if_neg (by rw [hr]; decide), if_pos hl] at hq
    subst hq
    have h2 := HLV.out
    rw [hl] at h2
    have H2 := Lib.hid h2
    clear h2
    go_enter Try.func10, Try.ntmps10
    go_wp2_with (rw [HW1.out])
    refine h1.mono ?_
    rintro e w2 ⟨rfl, hb2⟩
    have HR2 := Lib.hid (LDS.out w2 hb2)
    go_wp2_with (refine wpList_load_row (o := ⟨some 11, _, _, _, _, _⟩) rfl 30 (.tmp 3) rfl w.heap.size rfl 30 UV (0, 0) _ HR2.out Try.underlying30 rfl HI.out ?_)
    refine (H2.out w2).mono ?_
    rintro e w3 ⟨rfl, hb3⟩
    go_wp2
    go_ret
    exact ⟨rfl, HH.out.below (below_seq HB1.out (below_seq hb2 hb3))⟩
  have h2 := HLV.out
  rw [hl] at h2
  have H2 := Lib.hid h2
  clear h2
  by_cases hv : V < 0
  rotate_left
  · have hq := HDEF.out
    rw [if_neg (by rw [hr]; decide), if_neg (by rw [hl]; decide), if_pos hv] at hq
    subst hq
    have hd : decide ((0 : Int) ≤ V) = true := decide_eq_true (by omega)
    have hv0 : (0 : Int) ≤ V := by omega
    go_enter Try.func10, Try.ntmps10
    go_wp2_with (rw [HW1.out])
    refine h1.mono ?_
    rintro e w2 ⟨rfl, hb2⟩
    have HR2 := Lib.hid (LDS.out w2 hb2)
    go_wp2_with (refine wpList_load_row (o := ⟨some 11, _, _, _, _, _⟩) rfl 30 (.tmp 3) rfl w.heap.size rfl 30 UV (0, 0) _ HR2.out Try.underlying30 rfl HI.out ?_)
    refine (H2.out w2).mono ?_
    rintro e w3 ⟨rfl, hb3⟩
    have hb13 := below_seq hb2 hb3
    have q3 : w3.cell? ⟨w.heap.size, 0, none⟩ = some (.string u.nm) := (us_row (by rw [← HUV.out]; exact LDS.out w3 hb13) HU16.out).1
    go_wp2_with fail
    refine (HPL.out w3 (below_seq HB1.out hb13)).mono ?_
    rintro e w4 ⟨rfl, hb4⟩
    go_wp2
    go_ret
    exact ⟨rfl, HH.out.below (below_seq HB1.out (below_seq hb13 hb4))⟩
  have hd : decide ((0 : Int) ≤ V) = false := decide_eq_false (by omega)
  have hv0 : ¬ (0 : Int) ≤ V := by omega
  by_cases h32 : 32 ≤ L.length
  · have hq := HDEF.out
    rw [if_neg (by rw [hr]; decide), if_neg (by rw [hl]; decide), if_neg (by omega), if_pos h32] at hq
    subst hq
    have hd2 : decide ((32 : Int) ≤ (L.length : Int)) = true := decide_eq_true (by omega)
    have hd3 : (32 : Int) ≤ (L.length : Int) := by omega
    go_enter Try.func10, Try.ntmps10
    go_wp2_with (rw [HW1.out])
    refine h1.mono ?_
    rintro e w2 ⟨rfl, hb2⟩
    have HR2 := Lib.hid (LDS.out w2 hb2)
    go_wp2_with (refine wpList_load_row (o := ⟨some 11, _, _, _, _, _⟩) rfl 30 (.tmp 3) rfl w.heap.size rfl 30 UV (0, 0) _ HR2.out Try.underlying30 rfl HI.out ?_)
    refine (H2.out w2).mono ?_
    rintro e w3 ⟨rfl, hb3⟩
    have hb13 := below_seq hb2 hb3
    have q3 : w3.cell? ⟨w.heap.size, 0, none⟩ = some (.string u.nm) := (us_row (by rw [← HUV.out]; exact LDS.out w3 hb13) HU16.out).1
    go_wp2_with fail
    refine (HPL.out w3 (below_seq HB1.out hb13)).mono ?_
    rintro e w4 ⟨rfl, hb4⟩
    have hb14 := below_seq HB1.out (below_seq hb13 hb4)
    obtain ⟨A, c, x1, x2, x3⟩ := HH.out
    have c4 : w4.cell? ⟨bb, 0, none⟩ = some (.slice A L.length c) := by rw [cell_of_row _ _ _ _ _ _ (x1.below hb14).row]; rfl
    clear x1 x2 x3
    go_wp2
    go_ret
    exact ⟨rfl, HH.out.below hb14⟩
  · have hq := HDEF.out
    rw [if_neg (by rw [hr]; decide), if_neg (by rw [hl]; decide), if_neg (by omega), if_neg h32] at hq
    subst hq
    have hd2 : decide ((32 : Int) ≤ (L.length : Int)) = false := decide_eq_false (by omega)
    have hd3 : ¬ (32 : Int) ≤ (L.length : Int) := by omega
    go_enter Try.func10, Try.ntmps10
    go_wp2_with (rw [HW1.out])
    refine h1.mono ?_
    rintro e w2 ⟨rfl, hb2⟩
    have HR2 := Lib.hid (LDS.out w2 hb2)
    go_wp2_with (refine wpList_load_row (o := ⟨some 11, _, _, _, _, _⟩) rfl 30 (.tmp 3) rfl w.heap.size rfl 30 UV (0, 0) _ HR2.out Try.underlying30 rfl HI.out ?_)
    refine (H2.out w2).mono ?_
    rintro e w3 ⟨rfl, hb3⟩
    have hb13 := below_seq hb2 hb3
    have q3 : w3.cell? ⟨w.heap.size, 0, none⟩ = some (.string u.nm) := (us_row (by rw [← HUV.out]; exact LDS.out w3 hb13) HU16.out).1
    go_wp2_with fail
    refine (HPL.out w3 (below_seq HB1.out hb13)).mono ?_
    rintro e w4 ⟨rfl, hb4⟩
    have hb14 := below_seq HB1.out (below_seq hb13 hb4)
    have HR4 := Lib.hid (LDS.out w4 (below_seq hb13 hb4))
    obtain ⟨A, c, y1, y2, y3⟩ := HH.out
    obtain ⟨x1, x2, x3⟩ : BsAt w4 bb w0.heap.size A c L ∧ (∀ b, R b → b ≠ bb ∧ ob A ≠ some b ∧ b < w4.heap.size) ∧ Below w0.heap.size w0 w4 := ⟨y1.below hb14, fun b hb => ⟨(y2 b hb).1, (y2 b hb).2.1, Nat.lt_of_lt_of_le (y2 b hb).2.2 hb14.size⟩, below_seq y3 hb14⟩
    have hrw4 := (HH.out.below hb14).2
    have c4 : w4.cell? ⟨bb, 0, none⟩ = some (.slice A L.length c) := by rw [cell_of_row _ _ _ _ _ _ x1.row]; rfl
    have HNEB := Lib.hid (show w.heap.size ≠ bb from fun e => by obtain ⟨_, _, y1, _, _⟩ := HH.out; have := y1.lts.1; omega)
    have HNEU := Lib.hid (show ob A ≠ some w.heap.size from fun e => by have := (y1.lts.2 _ e).2; omega)
    have HX1 := Lib.hid x1
    have HX2 := Lib.hid x2
    have HX3 := Lib.hid x3
    have HRW := Lib.hid hrw4
    obtain ⟨i0, hi, hz0, hz1, hz2⟩ := info_parts infoUz
    clear x1 x2 x3 y1 y2 y3 hrw4 hb2 hb3 hb13 hb14 hb4 q3 HR2
    go_wp2_with fail
    refine wp_region_held_drew (S := fun w' => w'.heap[w.heap.size]? = some (.cells UV 30 (0, 0))) (by kernel_rfl) HR4.out (fun hHeld => ?_)
    obtain ⟨WD, hWD⟩ : ∃ q, q = w4.drew := ⟨_, rfl⟩
    have hBD : Below w4.heap.size w4 WD := by rw [hWD]; exact below_of_drew (w := w4) (w' := w4.drew) ⟨1, rfl⟩ _
    have hD4 : WD.heap = w4.heap := by rw [hWD]; rfl
    rw [← hWD] at hHeld ⊢
    have HXD := Lib.hid (HX1.out.below hBD)
    have HRD := Lib.hid hHeld
    have cD : WD.cell? ⟨bb, 0, none⟩ = some (.slice A L.length c) := by rw [cell_of_row _ _ _ _ _ _ HXD.out.row]; rfl
    have HBD := Lib.hid hBD
    have HD4 := Lib.hid hD4
    have HNW := Lib.hid (show (WD.alloc (.cells UV 30)).heap[WD.heap.size]? = some (.cells UV 30 (0, 0)) from heap_alloc_new _ _)
    have HOW := Lib.hid (show (WD.alloc (.cells UV 30)).ownsRow w0.heap.size 30 20 (.slice A L.length c) L.length (cellsU L) from own_sameB HXD.out.own rfl rfl rfl (by rw [World.size_alloc]; omega) fun g hg => heap_alloc_old _ _ (HXD.out.own.lt g hg).2)
    have HSZ := Lib.hid (show w0.heap.size ≤ (WD.alloc (.cells UV 30)).heap.size from by rw [World.size_alloc]; have := HX3.out.size; have := HBD.out.size; omega)
    have cE : (WD.alloc (.cells UV 30)).cell? ⟨bb, 0, none⟩ = some (.slice A L.length c) := ((below_of_new WD _).cell (by show bb < _; exact HXD.out.lts.1)).trans cD
    clear hWD hBD hD4 c4
    refine wpAnyH_take (i := 0) (v := .pointer (some ⟨bb, 0, none⟩)) rfl (by kernel_rfl) (by kernel_rfl) (by kernel_rfl) (fun _ _ _ h => h) (Or.inl ⟨by rfl, fun wq hSw => by go_simp⟩) (by assumption) ?_
    go_simp
    refine wpAnyH_take (i := 1) (v := .pointer (some ⟨bb, 0, none⟩)) rfl (by kernel_rfl) (by kernel_rfl) (by kernel_rfl) (fun _ _ _ h => h) (Or.inl ⟨by rfl, fun wq hSw => by go_simp⟩) (by assumption) ?_
    go_simp
    refine wpAnyH_take (i := 2) (v := .pointer (some ⟨bb, 0, none⟩)) rfl (by kernel_rfl) (by kernel_rfl) (by kernel_rfl) (fun _ _ _ h => h) (Or.inl ⟨by rfl, fun wq hSw => by go_simp⟩) (by assumption) ?_
    go_simp
    refine wpAnyH_take (i := 3) (v := .pointer (some ⟨bb, 0, none⟩)) rfl (by kernel_rfl) (by kernel_rfl) (by kernel_rfl) (fun _ _ _ h => h) (Or.inl ⟨by rfl, fun wq hSw => by go_simp⟩) (by assumption) ?_
    go_simp
    refine wpAnyH_take (i := 5) (v := .agg UV) rfl (by kernel_rfl) (by kernel_rfl) (by kernel_rfl) (fun _ _ _ h => h) (Or.inl ⟨by rfl, fun wq hSw => by (exact run_load_u hSw Try.underlying30 HI.out rfl rfl)⟩) (by assumption) ?_
    go_simp
    refine wpAnyH_ready (rs := [4, 6]) (by kernel_rfl) (by simp) ?_
    refine AllReadyH.cons rfl (fun K hK => ?_) (AllReadyH.cons rfl (fun K hK => ?_) AllReadyH.nil)
    · go_simp
      refine hK.out _ _ (by assumption) (fun hHeld1 => ?_)
      clear hK K
      refine wpAnyH_ready (rs := [6]) (by kernel_rfl) (by simp) ?_
      refine AllReadyH.cons rfl (fun K hK => ?_) AllReadyH.nil
      rw [if_pos (by rfl)]
      refine wp_buildSlice 62 30 1 #[(0, .tmp 32)] rfl UV i0 _ Try.underlying62 hi hz0 (by rw [hz1]; omega) (by rw [hz1]; omega) ?hf2 ?_
      · rw [hz1]
        refine Eq.trans (congrArg (Instr.fill _ _) (?e2 : _ = [(0, Value.agg UV)])) (fill_u _ H20.out _ rfl)
        kernel_rfl
      try go_simp
      refine hK.out _ _ ((heap_alloc_old _ _ (Array.getElem?_eq_some_iff.1 HRD.out).1).trans HRD.out) (fun hHeld2 => ?_)
      clear hK K
      refine wpAnyH_ready (rs := [7]) (by kernel_rfl) (by simp) ?_
      refine AllReadyH.cons rfl (fun K hK => ?_) AllReadyH.nil
      refine step_append_lies _ (by rfl) _ _ _ (by rfl) w0.heap.size 30 i0 _ 20 56 Try.underlying62 hi hz0 hz1 hz2 rfl (by omega) (.slice A L.length c) L.length (cellsU L) (by rfl) HOW.out ⟨WD.heap.size, 0, none⟩ 1 1 UV.toList (by rfl) (by rw [Array.length_toList, H20.out]) (World.news_of_block HNW.out) HONE.out (by omega) (by unfold maxLen; omega) (by omega) HSZ.out (WD.heap.size + 1) (by simp) ?_
      intro gg cap w5 hown5 hgrow5 hat5 hlt5
      rw [ob_slice] at hgrow5 hat5
      have hk5 : w5.heap[w.heap.size]? = some (.cells UV 30 (0, 0)) := (hgrow5.block w.heap.size (by rw [World.size_alloc]; have := (Array.getElem?_eq_some_iff.1 HRD.out).1; omega) (fun e => HNEU.out e.symm)).trans ((heap_alloc_old _ _ (Array.getElem?_eq_some_iff.1 HRD.out).1).trans HRD.out)
      have hx5 : w5.heap[bb]? = some (.cells #[.slice A L.length c] 65 (0, 0)) := (hgrow5.block bb (by rw [World.size_alloc]; have := HXD.out.lts.1; omega) (fun e => HXD.out.ne e.symm)).trans ((heap_alloc_old _ _ HXD.out.lts.1).trans HXD.out.row)
      refine hK.out _ _ hk5 (fun hHeld3 => ?_)
      clear hK K
      refine wpAnyH_take (i := 8) (v := .pointer (some ⟨bb, 0, none⟩)) rfl (by kernel_rfl) (by kernel_rfl) (by kernel_rfl) (fun _ _ _ h => h) (Or.inl ⟨by rfl, fun wq hSw => by go_simp⟩) (by assumption) ?_
      go_simp
      refine wpAnyH_take (i := 9) (v := .pointer (some ⟨bb, 0, none⟩)) rfl (by kernel_rfl) (by kernel_rfl) (by kernel_rfl) (fun _ _ _ h => h) (Or.inl ⟨by rfl, fun wq hSw => by go_simp⟩) (by assumption) ?_
      go_simp
      have c5 : w5.cell? ⟨bb, 0, none⟩ = some (.slice A L.length c) := (cell_of_row w5 bb 0 _ _ (0, 0) hx5).trans rfl
      have f5 : w5.frozen? ⟨bb, 0, none⟩ = false := frozen_of_row w5 bb 0 _ _ hx5
      refine wpAnyH_ready (rs := [10]) (by kernel_rfl) (by simp) ?_
      refine AllReadyH.cons rfl (fun K hK => ?_) AllReadyH.nil
      go_simp
      refine hK.out _ _ ((heap_setCell_other _ _ _ _ (by show w.heap.size ≠ bb; exact HNEB.out)).trans hk5) (fun hHeldz => ?_)
      clear hK K
      refine wpAnyH_done (by kernel_rfl) ?_ _
      have hfin := Bs.snoc HXD.out (fun b hb => ⟨(HX2.out b hb).1, (HX2.out b hb).2.1, by rw [HD4.out]; exact (HX2.out b hb).2.2⟩) (below_seq HX3.out HBD.out) HU16.out (by rw [← HCL.out]; exact hown5) hgrow5 hat5
      have HF := Lib.hid hfin
      clear hfin hown5 hgrow5 hat5 hlt5 hx5 hk5 c5 f5
      go_wp2
      go_ret
      exact ⟨rfl, HF.out.1, Nat.le_trans HRW.out.1 (Nat.le_trans HBD.out.size HF.out.2.1), fun b hb => (HF.out.2.2 b hb).trans ((by rw [HD4.out] : WD.heap[b]? = w4.heap[b]?).trans (HRW.out.2 b hb))⟩
    · rw [if_pos (by rfl)]
      refine wp_buildSlice 62 30 1 #[(0, .tmp 32)] rfl UV i0 _ Try.underlying62 hi hz0 (by rw [hz1]; omega) (by rw [hz1]; omega) ?hf4 ?_
      · rw [hz1]
        refine Eq.trans (congrArg (Instr.fill _ _) (?e4 : _ = [(0, Value.agg UV)])) (fill_u _ H20.out _ rfl)
        kernel_rfl
      try go_simp
      refine hK.out _ _ ((heap_alloc_old _ _ (Array.getElem?_eq_some_iff.1 HRD.out).1).trans HRD.out) (fun hHeld4 => ?_)
      clear hK K
      refine wpAnyH_ready (rs := [4]) (by kernel_rfl) (by simp) ?_
      refine AllReadyH.cons rfl (fun K hK => ?_) AllReadyH.nil
      go_simp
      refine hK.out _ _ (by assumption) (fun hHeld5 => ?_)
      clear hK K
      refine wpAnyH_ready (rs := [7]) (by kernel_rfl) (by simp) ?_
      refine AllReadyH.cons rfl (fun K hK => ?_) AllReadyH.nil
      refine step_append_lies _ (by rfl) _ _ _ (by rfl) w0.heap.size 30 i0 _ 20 56 Try.underlying62 hi hz0 hz1 hz2 rfl (by omega) (.slice A L.length c) L.length (cellsU L) (by rfl) HOW.out ⟨WD.heap.size, 0, none⟩ 1 1 UV.toList (by rfl) (by rw [Array.length_toList, H20.out]) (World.news_of_block HNW.out) HONE.out (by omega) (by unfold maxLen; omega) (by omega) HSZ.out (WD.heap.size + 1) (by simp) ?_
      intro gg cap w5 hown5 hgrow5 hat5 hlt5
      rw [ob_slice] at hgrow5 hat5
      have hk5 : w5.heap[w.heap.size]? = some (.cells UV 30 (0, 0)) := (hgrow5.block w.heap.size (by rw [World.size_alloc]; have := (Array.getElem?_eq_some_iff.1 HRD.out).1; omega) (fun e => HNEU.out e.symm)).trans ((heap_alloc_old _ _ (Array.getElem?_eq_some_iff.1 HRD.out).1).trans HRD.out)
      have hx5 : w5.heap[bb]? = some (.cells #[.slice A L.length c] 65 (0, 0)) := (hgrow5.block bb (by rw [World.size_alloc]; have := HXD.out.lts.1; omega) (fun e => HXD.out.ne e.symm)).trans ((heap_alloc_old _ _ HXD.out.lts.1).trans HXD.out.row)
      refine hK.out _ _ hk5 (fun hHeld6 => ?_)
      clear hK K
      refine wpAnyH_take (i := 8) (v := .pointer (some ⟨bb, 0, none⟩)) rfl (by kernel_rfl) (by kernel_rfl) (by kernel_rfl) (fun _ _ _ h => h) (Or.inl ⟨by rfl, fun wq hSw => by go_simp⟩) (by assumption) ?_
      go_simp
      refine wpAnyH_take (i := 9) (v := .pointer (some ⟨bb, 0, none⟩)) rfl (by kernel_rfl) (by kernel_rfl) (by kernel_rfl) (fun _ _ _ h => h) (Or.inl ⟨by rfl, fun wq hSw => by go_simp⟩) (by assumption) ?_
      go_simp
      have c5 : w5.cell? ⟨bb, 0, none⟩ = some (.slice A L.length c) := (cell_of_row w5 bb 0 _ _ (0, 0) hx5).trans rfl
      have f5 : w5.frozen? ⟨bb, 0, none⟩ = false := frozen_of_row w5 bb 0 _ _ hx5
      refine wpAnyH_ready (rs := [10]) (by kernel_rfl) (by simp) ?_
      refine AllReadyH.cons rfl (fun K hK => ?_) AllReadyH.nil
      go_simp
      refine hK.out _ _ ((heap_setCell_other _ _ _ _ (by show w.heap.size ≠ bb; exact HNEB.out)).trans hk5) (fun hHeldz => ?_)
      clear hK K
      refine wpAnyH_done (by kernel_rfl) ?_ _
      have hfin := Bs.snoc HXD.out (fun b hb => ⟨(HX2.out b hb).1, (HX2.out b hb).2.1, by rw [HD4.out]; exact (HX2.out b hb).2.2⟩) (below_seq HX3.out HBD.out) HU16.out (by rw [← HCL.out]; exact hown5) hgrow5 hat5
      have HF := Lib.hid hfin
      clear hfin hown5 hgrow5 hat5 hlt5 hx5 hk5 c5 f5
      go_wp2
      go_ret
      exact ⟨rfl, HF.out.1, Nat.le_trans HRW.out.1 (Nat.le_trans HBD.out.size HF.out.2.1), fun b hb => (HF.out.2.2 b hb).trans ((by rw [HD4.out] : WD.heap[b]? = w4.heap[b]?).trans (HRW.out.2 b hb))⟩
end Go.Proofs.Ytlngbpipmaaedaa.Ba
