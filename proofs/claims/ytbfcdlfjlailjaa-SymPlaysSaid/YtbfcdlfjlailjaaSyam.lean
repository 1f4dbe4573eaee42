/-
  The document's example of layer 7.
-/
import Derived.Test.YtbfcdlfjlailjaaSyal
import Derived.Deep.RegionHeldLaw
namespace Go.Proofs.Ytbfcdlfjlailjaa.Sym
open Go.RowKit
open Go.Proofs.Ytbfcdlfjlailjaa.Kit
open Go.Proofs.Ytbfcdlfjlailjaa.Oct
set_option linter.unusedVariables false

theorem row_heap {w : World} {g : Nat} {t : TypeId} {cs : Array Value} {fr : Nat × Nat} {l : List Value} (h : w.heap[g]? = some (.cells cs t fr)) (hl : cs = l.toArray) : w.rangeAt g 0 l := range_heap h l [] (by rw [hl]; simp)

set_option maxRecDepth 100000 in
set_option maxHeartbeats 8000000 in
theorem alive7_any (w : World) : Calls Try.prog 9 #[] w fun e w' => e = .returned (.bool true) ∧ Below w.heap.size w w' := by
  have kc := conv_const
  obtain ⟨ZV, hZ⟩ : ∃ q : Array Value, q = #[.int .u8 0, .int .u8 0, .int .u8 0, .int .u8 0, .int .u8 0, .int .u8 0, .int .u8 0, .int .u8 0, .int .u8 0, .int .u8 0, .int .u8 0, .int .u8 0, .int .u8 0, .int .u8 0, .int .u8 0, .int .u8 0] := ⟨_, rfl⟩
  have hz : ∀ w, (zeroValue 36).run Try.prog w = .ok (.agg ZV) w := fun w => by rw [hZ]; kernel_rfl
  have hzl : ZV.size = 16 := by rw [hZ]; rfl
  obtain ⟨KL, hKL⟩ : ∃ q, q = k1.map bv := ⟨_, rfl⟩
  obtain ⟨KV, hKV⟩ : ∃ q, q = KL.toArray := ⟨_, rfl⟩
  have hkv : kv k1 = KV := by rw [hKV, hKL]; rfl
  have hKn : KL.length = 16 := by rw [hKL, List.length_map, k1_len]
  have hKs : KV.size = 16 := by rw [hKV]; simpa using hKn
  have hI : (Try.prog.info? 36).map (·.size) = some KV.size := by rw [hKs]; exact info16K
  have hiK : (Try.prog.info? 36).map (·.size) = some KL.length := by rw [hKn]; exact info16K
  have hP : KV.all (·.oneCell') = true := by rw [hKV, hKL]; exact all_oneCell_toArray (bv_one _)
  have HKV := Lib.hid hKV
  have HKL := Lib.hid hKL
  have HKK := Lib.hid hkv
  have HI := Lib.hid hI
  have HP := Lib.hid hP
  have HZL := Lib.hid (show ZV.size = KV.size by rw [hzl, hKs])
  clear hZ hKL hKV hkv hKn hKs hI hP hzl
  go_enter Try.func9, Try.ntmps9
  go_wp2_with fail
  refine (new_any w).mono ?_
  rintro e w1 ⟨tb, L, O, S, rfl, ht1, hos1, hb1⟩
  have HT1 := Lib.hid ht1
  have HO1 := Lib.hid hos1
  have HB1 := Lib.hid hb1
  clear ht1 hos1 hb1
  go_wp2_with fail
  have hfr := fresh_any tb L O S Tab.none w1 HT1.out (by decide)
  rw [show kv (mk 107 (Tab.none.ks.length + 1)) = KV from HKK.out] at hfr
  refine hfr.mono ?_
  rintro e w2 ⟨rfl, L2, O2, S2, ht2, hk2, hO2, hS2⟩
  obtain ⟨W3, hW3⟩ : ∃ q, q = (w2.alloc (.cells ZV 36)).setRow w2.heap.size KV := ⟨_, rfl⟩
  have HGN := Lib.hid (heap_alloc_new w2 (.cells ZV 36))
  have hg3 : W3.heap[w2.heap.size]? = some (.cells KV 36 (0, 0)) := by rw [hW3]; exact setRow_heap _ w2.heap.size _ KV _ _ (heap_alloc_new w2 _)
  have hb3 : Below w2.heap.size w2 W3 := by rw [hW3]; exact below_setRow (below_of_new w2 _) (Nat.le_refl _) _
  have hO2w : ∀ b, O2 b → w.heap.size ≤ b := fun b hb => by
    rcases hO2 b hb with h | h
    · exact HO1.out b (.inl h)
    · have := HB1.out.size; omega
  have hA3 : At w W3 w2.heap.size tb KV ⟨[Fr.none], [], [], fun _ => none⟩ := by
    refine ⟨L2, O2, S2, ht2.below hb3, hO2w, fun h => ?_, hg3, ?_⟩
    · have := ht2.lt _ (.inl h); omega
    · have hbw2 : Below w.heap.size w w2 := HB1.out.trans (hk2.below HB1.out.size (fun b hb => HO1.out b (.inl hb)))
      exact below_seq hbw2 hb3
  have HA3 := Lib.hid hA3
  clear hfr ht2 hk2 hO2 hS2 hg3 hb3 hO2w hA3
  go_wp2_with (refine wpList_store_row (o := ⟨none, _, _, _, _, _⟩) rfl 36 (.tmp 2) (.tmp 15) rfl w2.heap.size KV rfl rfl 36 _ HGN.out HI.out HZL.out HP.out ?_; apply Hid.out)
  refine Lib.hid ?_
  rw [← hW3]
  clear hW3 HGN
  go_wp2_with (first
    | (refine wpList_load_row (o := ⟨some 17, _, _, _, _, _⟩) rfl 36 (.tmp 2) rfl w2.heap.size rfl 36 KV (0, 0) _ HA3.out.row Try.underlying36 rfl HI.out ?_)
    | fail)
  obtain ⟨L3, O3, S3, ht3, ho3, hk3, hr3, hw3⟩ := HA3.out
  have hbl : Below W3.heap.size W3 (W3.alloc (.cells #[.int .u8 97, .int .u8 98] 5 (2, 3))) := below_of_new W3 _
  have hse := seal_any (k := k1) (u := 3) (ht3.below hbl) k1_len (by omega) (rd_const W3 (g := W3.heap.size) (n := 2) (e := 5) (arr := #[.int .u8 97, .int .u8 98]) (bs := ab) (fr := (2, 3)) rfl rfl rfl (by omega)) (by omega) (by decide)
  rw [HKK.out] at hse
  refine hse.mono ?_
  rintro e w4 ⟨gb, rfl, hgb, hgb2, L4, O4, S4, ht4, hk4, hO4, hS4, hne4⟩
  have hA4 : At w w4 w2.heap.size tb KV T2 := At.kept ((hbl.block _ (Array.getElem?_eq_some_iff.1 hr3).1).trans hr3) ho3 hk3 (below_seq hw3 hbl) ht4 hk4 hO4
  have hbx : RdB w4 w4.heap.size (some ⟨gb, 0, none⟩) 16 16 (mk 98 1) := rd_block (bs := mk 98 1) hgb (mk_len _ _) (by omega)
  have HA4 := Lib.hid hA4
  have HBX := Lib.hid hbx
  clear hse ht3 ho3 hk3 hr3 hw3 hbl ht4 hk4 hO4 hS4 hne4 hA4 hbx hgb hgb2 HA3 HT1
  go_wp2_with (first
    | (refine wpList_load_row (o := ⟨some 23, _, _, _, _, _⟩) rfl 36 (.tmp 2) rfl w2.heap.size rfl 36 KV (0, 0) _ HA4.out.row Try.underlying36 rfl HI.out ?_)
    | fail)
  obtain ⟨L5, O5, S5, ht5, _, _, _, _⟩ := HA4.out
  have hop := open_box (u := 3) box1 k1_len k1_len ht5 HBX.out
  rw [HKK.out] at hop
  refine hop.mono ?_
  rintro e w5 (⟨_, A5, c5, rfl, ho5, hb5⟩ | ⟨hno, _, _⟩)
  rotate_left
  · exact absurd ⟨rfl, rfl⟩ hno
  have HA5 := Lib.hid (HA4.out.below hb5)
  have HBX5 := Lib.hid (HBX.out.on hb5)
  have HAB5 := Lib.hid (show RdB w5 w5.heap.size A5 2 c5 ab from Rd.of_own ho5)
  clear hop ht5 ho5 hb5 HA4 HBX
  go_wp2_with (first
    | (refine wpList_load_row (o := ⟨some 30, _, _, _, _, _⟩) rfl 36 (.tmp 2) rfl w2.heap.size rfl 36 KV (0, 0) _ HA5.out.row Try.underlying36 rfl HI.out ?_)
    | fail)
  obtain ⟨L6, O6, S6, ht6, _, _, _, _⟩ := HA5.out
  have hop := open_box (u := 4) box1 k1_len k1_len ht6 HBX5.out
  rw [HKK.out] at hop
  refine hop.mono ?_
  rintro e w6 (⟨⟨_, hu⟩, _⟩ | ⟨_, rfl, hb6⟩)
  · exact absurd hu (by decide)
  have HA6 := Lib.hid (HA5.out.below hb6)
  have HBX6 := Lib.hid (HBX5.out.on hb6)
  have HAB6 := Lib.hid (HAB5.out.on hb6)
  clear hop ht6 hb6 HA5 HBX5 HAB5
  go_wp2_with fail
  have hmk := mark_any (some ⟨gb, 0, none⟩) 16 16 _ (mk 98 1) w6 HBX6.out
  rw [mark1.1, mark1.2.1, mark1.2.2] at hmk
  refine hmk.mono ?_
  rintro e w6' ⟨rfl, rfl⟩
  clear hmk
  obtain ⟨X2, hX2⟩ : ∃ q, q = kv (mk 107 2) := ⟨_, rfl⟩
  obtain ⟨X3, hX3⟩ : ∃ q, q = kv (mk 107 3) := ⟨_, rfl⟩
  obtain ⟨X4, hX4⟩ : ∃ q, q = kv (mk 107 4) := ⟨_, rfl⟩
  have HTX := Lib.hid (show ∀ W, At w W w2.heap.size tb KV T2 → Calls Try.prog 14 #[.pointer (some ⟨tb, 0, none⟩), .string ⟨#[112]⟩, .string ⟨#[115]⟩] W fun e w' => e = .returned (.agg X2) ∧ At w w' w2.heap.size tb KV T3 from fun W h => by
    have h1 := h.text (p := ⟨#[112]⟩) (s := ⟨#[115]⟩) (by decide) (by decide) (by decide)
    rw [show onceT T2 ⟨Fr.text, ⟨#[112]⟩, ⟨#[115]⟩⟩ = (2, T3) from t3.1, ← hX2] at h1
    exact h1)
  have HTY := Lib.hid (show ∀ W, At w W w2.heap.size tb KV T3 → Calls Try.prog 14 #[.pointer (some ⟨tb, 0, none⟩), .string ⟨#[112]⟩, .string ⟨#[115]⟩] W fun e w' => e = .returned (.agg X2) ∧ At w w' w2.heap.size tb KV T3 from fun W h => by
    have h1 := h.text (p := ⟨#[112]⟩) (s := ⟨#[115]⟩) (by decide) (by decide) (by rw [t3.2.1]; decide)
    rw [show onceT T3 ⟨Fr.text, ⟨#[112]⟩, ⟨#[115]⟩⟩ = (2, T3) from t3', ← hX2] at h1
    exact h1)
  have HDX := Lib.hid (show ∀ W, At w W w2.heap.size tb KV T3 → Calls Try.prog 13 #[.pointer (some ⟨tb, 0, none⟩), .agg KV, .string ⟨#[120]⟩] W fun e w' => e = .returned (.agg X3) ∧ At w w' w2.heap.size tb KV T4 from fun W h => by
    have h1 := h.derive (lab := ⟨#[120]⟩) k1_len (by decide) (by rw [t3.2.1]; decide)
    rw [show onceT T3 ⟨⟨k1, ⟨#[120]⟩, false⟩, ⟨#[]⟩, ⟨#[]⟩⟩ = (3, T4) from t4.1, HKK.out, ← hX3] at h1
    exact h1)
  have HDY := Lib.hid (show ∀ W, At w W w2.heap.size tb KV T4 → Calls Try.prog 13 #[.pointer (some ⟨tb, 0, none⟩), .agg KV, .string ⟨#[121]⟩] W fun e w' => e = .returned (.agg X4) ∧ At w w' w2.heap.size tb KV T5 from fun W h => by
    have h1 := h.derive (lab := ⟨#[121]⟩) k1_len (by decide) (by rw [t4.2.1]; decide)
    rw [show onceT T4 ⟨⟨k1, ⟨#[121]⟩, false⟩, ⟨#[]⟩, ⟨#[]⟩⟩ = (4, T5) from t5.1, HKK.out, ← hX4] at h1
    exact h1)
  have HNT := Lib.hid (show ∀ W, At w W w2.heap.size tb KV T5 → Calls Try.prog 23 #[.pointer (some ⟨tb, 0, none⟩), .int .i64 1] W fun e w' => e = .returned (.agg KV) ∧ At w w' w2.heap.size tb KV T5 from fun W h => by
    have h1 := nth_any (.pointer (some ⟨tb, 0, none⟩)) 1 W (by decide)
    rw [show kv (mk 107 1) = KV from HKK.out] at h1
    exact h1.mono fun e w' ⟨he, hb⟩ => ⟨he, h.below hb⟩)
  have HBS := Lib.hid (show ∀ W, At w W w2.heap.size tb KV T5 → Calls Try.prog 21 #[.pointer (some ⟨tb, 0, none⟩)] W fun e w' => e = .returned (.int .i64 1) ∧ W = w' from fun W h => by
    have h1 := h.boxes
    rw [t5.2] at h1
    exact h1)
  have e32 : ∀ w, (Op.equalIn 10000 36 (.agg X2) (.agg X2)).run Try.prog w = .ok true w := fun w => by rw [hX2]; exact (eq_keyY _ _ (mk_len _ _) (mk_len _ _) w).trans (by simp)
  have e41 : ∀ w, (Op.equalIn 10000 36 (.agg X3) (.agg X4)).run Try.prog w = .ok false w := fun w => by rw [hX3, hX4]; exact (eq_keyY _ _ (mk_len _ _) (mk_len _ _) w).trans (by rw [show (mk 107 3 == mk 107 4) = false from by decide])
  have e47 : ∀ w, (Op.equalIn 10000 36 (.agg KV) (.agg KV)).run Try.prog w = .ok true w := fun w => by rw [← HKK.out]; exact (eq_keyY _ _ k1_len k1_len w).trans (by simp)
  have kc2 : ∀ (w : World) (C : Array Value) (g n c : Nat), g = w.heap.size → (convert 29 29 (.slice (some ⟨g, 0, none⟩) n c)).run Try.prog (w.alloc (.cells C 5)).drew = .ok (.slice (some ⟨g, 0, none⟩) n c) (w.alloc (.cells C 5 (C.size, C.size + 1))).drew := fun w C g n c h => conv_const w.drew C g n c h
  have hl6 : Below w6.heap.size w6 (w6.alloc (.cells #[.int .u8 97, .int .u8 98] 5 (2, 3))).drew := (below_of_new w6 _).drew
  have HLIT := Lib.hid (show RdB (w6.alloc (.cells #[.int .u8 97, .int .u8 98] 5 (2, 3))).drew (w6.alloc (.cells #[.int .u8 97, .int .u8 98] 5 (2, 3))).drew.heap.size (some ⟨w6.heap.size, 0, none⟩) 2 2 ab from (rd_const w6 (g := w6.heap.size) (n := 2) (arr := #[.int .u8 97, .int .u8 98]) (bs := ab) rfl rfl rfl (by omega)).on (below_of_drew ⟨1, rfl⟩ _))
  have HAR := Lib.hid (show ∀ W, At w W w2.heap.size tb KV T2 → W.rangeAt w2.heap.size 0 KL from fun W h => row_heap h.row HKV.out)
  have HA := Lib.hid (show ∀ W T, At w W w2.heap.size tb KV T → W.rangeAt w2.heap.size 0 KL from fun W T h => row_heap h.row HKV.out)
  have hd6 : Below w6.heap.size w6 w6.drew := below_of_drew ⟨1, rfl⟩ _
  have hiK' := Lib.hid hiK
  clear hX2 hX3 hX4 hiK
  go_wp2_with fail
  refine wp_region_held_drew (S := fun W => W.rangeAt w2.heap.size 0 KL) (by kernel_rfl) (HA.out _ _ (HA6.out.below hd6)) (fun hHeld => ?_)
  refine wpAnyH_take (i := 0) (v := .bool true) rfl (by kernel_rfl) (by kernel_rfl) (by kernel_rfl) (fun _ _ _ h => h) (Or.inl ⟨by rfl, fun w _ => by go_simp⟩) (by assumption) ?_
  go_simp
  refine wpAnyH_take (i := 1) (v := .bool true) rfl (by kernel_rfl) (by kernel_rfl) (by kernel_rfl) (fun _ _ _ h => h) (Or.inl ⟨by rfl, fun w _ => by go_simp⟩) (by assumption) ?_
  go_simp
  refine wpAnyH_take (i := 2) (v := .bool false) rfl (by kernel_rfl) (by kernel_rfl) (by kernel_rfl) (fun _ _ _ h => h) (Or.inl ⟨by rfl, fun w _ => by go_simp⟩) (by assumption) ?_
  go_simp
  refine wpAnyH_take (i := 3) (v := .bool true) rfl (by kernel_rfl) (by kernel_rfl) (by kernel_rfl) (fun _ _ _ h => h) (Or.inl ⟨by rfl, fun w _ => by go_simp⟩) (by assumption) ?_
  go_simp
  refine wpAnyH_take (i := 4) (v := .bool true) rfl (by kernel_rfl) (by kernel_rfl) (by kernel_rfl) (fun _ _ _ h => h) (Or.inl ⟨by rfl, fun w _ => by go_simp⟩) (by assumption) ?_
  go_simp
  refine wpAnyH_take (i := 5) (v := .bool true) rfl (by kernel_rfl) (by kernel_rfl) (by kernel_rfl) (fun _ _ _ h => h) (Or.inl ⟨by rfl, fun w _ => by go_simp⟩) (by assumption) ?_
  go_simp
  refine wpAnyH_take (i := 6) (v := .bool true) rfl (by kernel_rfl) (by kernel_rfl) (by kernel_rfl) (fun _ _ _ h => h) (Or.inl ⟨by rfl, fun w _ => by go_simp⟩) (by assumption) ?_
  go_simp
  refine wpAnyH_take (i := 7) (v := .bool true) rfl (by kernel_rfl) (by kernel_rfl) (by kernel_rfl) (fun _ _ _ h => h) (Or.inl ⟨by rfl, fun w _ => by go_simp⟩) (by assumption) ?_
  go_simp
  refine wpAnyH_take (i := 8) (v := .bool true) rfl (by kernel_rfl) (by kernel_rfl) (by kernel_rfl) (fun _ _ _ h => h) (Or.inl ⟨by rfl, fun w _ => by go_simp⟩) (by assumption) ?_
  go_simp
  refine wpAnyH_take (i := 9) (v := .int .u8 98) rfl (by kernel_rfl) (by kernel_rfl) (by kernel_rfl) (fun _ _ _ h => h) (Or.inl ⟨by rfl, fun w _ => by go_simp⟩) (by assumption) ?_
  go_simp
  refine wpAnyH_take (i := 10) (v := .bool true) rfl (by kernel_rfl) (by kernel_rfl) (by kernel_rfl) (fun _ _ _ h => h) (Or.inl ⟨by rfl, fun w _ => by go_simp⟩) (by assumption) ?_
  go_simp
  refine wpAnyH_take (i := 11) (v := .bool true) rfl (by kernel_rfl) (by kernel_rfl) (by kernel_rfl) (fun _ _ _ h => h) (Or.inl ⟨by rfl, fun w _ => by go_simp⟩) (by assumption) ?_
  go_simp
  refine wpAnyH_take (i := 12) (v := .bool true) rfl (by kernel_rfl) (by kernel_rfl) (by kernel_rfl) (fun _ _ _ h => h) (Or.inl ⟨by rfl, fun w _ => by go_simp⟩) (by assumption) ?_
  go_simp
  refine wpAnyH_take (i := 13) (v := .int .i64 1) rfl (by kernel_rfl) (by kernel_rfl) (by kernel_rfl) (fun _ _ _ h => h) (Or.inl ⟨by rfl, fun w _ => by go_simp⟩) (by assumption) ?_
  go_simp
  refine wpAnyH_take (i := 14) (v := .bool true) rfl (by kernel_rfl) (by kernel_rfl) (by kernel_rfl) (fun _ _ _ h => h) (Or.inl ⟨by rfl, fun w _ => by go_simp⟩) (by assumption) ?_
  go_simp
  refine wpAnyH_take (i := 15) (v := .bool true) rfl (by kernel_rfl) (by kernel_rfl) (by kernel_rfl) (fun _ _ _ h => h) (Or.inl ⟨by rfl, fun w _ => by go_simp⟩) (by assumption) ?_
  go_simp
  refine wpAnyH_take (i := 16) (v := .bool true) rfl (by kernel_rfl) (by kernel_rfl) (by kernel_rfl) (fun _ _ _ h => h) (Or.inl ⟨by rfl, fun w _ => by go_simp⟩) (by assumption) ?_
  go_simp
  refine wpAnyH_take (i := 17) (v := .slice A5 ab.length c5) rfl (by kernel_rfl) (by kernel_rfl) (by kernel_rfl) (fun _ _ _ h => h) (Or.inl ⟨by rfl, fun w _ => by go_simp⟩) (by assumption) ?_
  go_simp
  refine wpAnyH_ready (rs := [18]) (by kernel_rfl) (by simp) ?_
  refine AllReadyH.cons rfl (fun K hK => ?_) AllReadyH.nil
  go_simp
  try go_simp
  refine hK.out _ _ (HA.out _ _ (At.below HA6.out (by first | exact (below_of_new _ _).drew | exact below_of_new _ _))) (fun hHeld => ?_)
  clear hK K
  refine wpAnyH_ready (rs := [19]) (by kernel_rfl) (by simp) ?_
  refine AllReadyH.cons rfl (fun K hK => ?_) AllReadyH.nil
  go_simp
  try go_simp
  refine hK.out _ _ (HA.out _ _ (At.below HA6.out (by first | exact (below_of_new _ _).drew | exact below_of_new _ _))) (fun hHeld => ?_)
  clear hK K
  refine wpAnyH_ready (rs := [20]) (by kernel_rfl) (by simp) ?_
  refine AllReadyH.cons rfl (fun K hK => ?_) AllReadyH.nil
  (go_simp; go_at_call 15; refine (same_newY _ _ _ _ _ _ ab ab _ (HAB6.out.on hl6) HLIT.out).mono ?_; rintro e wa ⟨rfl, hba⟩; rw [show decide (ab = ab) = true from by simp]; have hA1 := HA6.out.below (below_seq hl6 hba); have hbx1 := HBX6.out.on (below_seq hl6 hba))
  try go_simp
  refine hK.out _ _ (HA.out _ _ hA1) (fun hHeld => ?_)
  clear hK K
  refine wpAnyH_take (i := 21) (v := .bool true) rfl (by kernel_rfl) (by kernel_rfl) (by kernel_rfl) (fun _ _ _ h => h) (Or.inl ⟨by rfl, fun w _ => by go_simp⟩) (by assumption) ?_
  go_simp
  refine wpAnyH_take (i := 22) (v := .bool true) rfl (by kernel_rfl) (by kernel_rfl) (by kernel_rfl) (fun _ _ _ h => h) (Or.inl ⟨by rfl, fun w _ => by go_simp⟩) (by assumption) ?_
  go_simp
  refine wpAnyH_take (i := 23) (v := .slice (some ⟨gb, 0, none⟩) 16 16) rfl (by kernel_rfl) (by kernel_rfl) (by kernel_rfl) (fun _ _ _ h => h) (Or.inl ⟨by rfl, fun w _ => by go_simp⟩) (by assumption) ?_
  go_simp
  refine wpAnyH_ready (rs := [24]) (by kernel_rfl) (by simp) ?_
  refine AllReadyH.cons rfl (fun K hK => ?_) AllReadyH.nil
  go_simp
  try go_simp
  refine hK.out _ _ (HA.out _ _ (At.below hA1 (by first | exact below_of_new _ _ | exact (below_of_new _ _).drew))) (fun hHeld => ?_)
  clear hK K
  refine wpAnyH_ready (rs := [25]) (by kernel_rfl) (by simp) ?_
  refine AllReadyH.cons rfl (fun K hK => ?_) AllReadyH.nil
  (go_simp; go_at_call 15; refine (same_newY _ _ _ _ _ _ (mk 98 1) (mk 98 1) _ (hbx1.on (below_of_new wa _)) (rd_const wa (n := 16) (bs := mk 98 1) rfl (by rfl) (mk_len _ _) (by omega))).mono ?_; rintro e wb ⟨rfl, hbb⟩; rw [show decide (mk 98 1 = mk 98 1) = true from by simp]; have hA2 := hA1.below (below_seq (below_of_new wa _) hbb))
  try go_simp
  refine hK.out _ _ (HA.out _ _ hA2) (fun hHeld => ?_)
  clear hK K
  refine wpAnyH_take (i := 26) (v := .bool true) rfl (by kernel_rfl) (by kernel_rfl) (by kernel_rfl) (fun _ _ _ h => h) (Or.inl ⟨by rfl, fun w _ => by go_simp⟩) (by assumption) ?_
  go_simp
  refine wpAnyH_take (i := 27) (v := .bool true) rfl (by kernel_rfl) (by kernel_rfl) (by kernel_rfl) (fun _ _ _ h => h) (Or.inl ⟨by rfl, fun w _ => by go_simp⟩) (by assumption) ?_
  go_simp
  refine wpAnyH_take (i := 28) (v := .pointer (some ⟨tb, 0, none⟩)) rfl (by kernel_rfl) (by kernel_rfl) (by kernel_rfl) (fun _ _ _ h => h) (Or.inl ⟨by rfl, fun w _ => by go_simp⟩) (by assumption) ?_
  go_simp
  refine wpAnyH_take (i := 30) (v := .pointer (some ⟨tb, 0, none⟩)) rfl (by kernel_rfl) (by kernel_rfl) (by kernel_rfl) (fun _ _ _ h => h) (Or.inl ⟨by rfl, fun w _ => by go_simp⟩) (by assumption) ?_
  go_simp
  refine wpAnyH_ready (rs := [29]) (by kernel_rfl) (by simp) ?_
  refine AllReadyH.cons rfl (fun K hK => ?_) AllReadyH.nil
  (go_simp; go_at_call 14; refine (HTX.out _ hA2).mono ?_; rintro e wc ⟨rfl, hA3⟩)
  try go_simp
  refine hK.out _ _ (HA.out _ _ hA3) (fun hHeld => ?_)
  clear hK K
  refine wpAnyH_ready (rs := [31]) (by kernel_rfl) (by simp) ?_
  refine AllReadyH.cons rfl (fun K hK => ?_) AllReadyH.nil
  (go_simp; go_at_call 14; refine (HTY.out _ hA3).mono ?_; rintro e wd ⟨rfl, hA4⟩)
  try go_simp
  refine hK.out _ _ (HA.out _ _ hA4) (fun hHeld => ?_)
  clear hK K
  refine wpAnyH_take (i := 32) (v := .bool true) rfl (by kernel_rfl) (by kernel_rfl) (by kernel_rfl) (fun _ _ _ h => h) (Or.inl ⟨by rfl, fun w _ => by go_simp⟩) (by assumption) ?_
  go_simp
  refine wpAnyH_take (i := 33) (v := .bool true) rfl (by kernel_rfl) (by kernel_rfl) (by kernel_rfl) (fun _ _ _ h => h) (Or.inl ⟨by rfl, fun w _ => by go_simp⟩) (by assumption) ?_
  go_simp
  refine wpAnyH_take (i := 34) (v := .bool true) rfl (by kernel_rfl) (by kernel_rfl) (by kernel_rfl) (fun _ _ _ h => h) (Or.inl ⟨by rfl, fun w _ => by go_simp⟩) (by assumption) ?_
  go_simp
  refine wpAnyH_take (i := 35) (v := .pointer (some ⟨tb, 0, none⟩)) rfl (by kernel_rfl) (by kernel_rfl) (by kernel_rfl) (fun _ _ _ h => h) (Or.inl ⟨by rfl, fun w _ => by go_simp⟩) (by assumption) ?_
  go_simp
  refine wpAnyH_take (i := 36) (v := .agg KV) rfl (by kernel_rfl) (by kernel_rfl) (by kernel_rfl) (fun _ _ _ h => h) (by rw [HKV.out]; exact yieldsIf_load_mid (by rfl) _ (.tmp 2) rfl w2.heap.size 0 rfl KL _ (fun _ h => h) Try.underlying36 rfl hiK'.out) (by assumption) ?_
  go_simp
  refine wpAnyH_take (i := 38) (v := .pointer (some ⟨tb, 0, none⟩)) rfl (by kernel_rfl) (by kernel_rfl) (by kernel_rfl) (fun _ _ _ h => h) (Or.inl ⟨by rfl, fun w _ => by go_simp⟩) (by assumption) ?_
  go_simp
  refine wpAnyH_take (i := 39) (v := .agg KV) rfl (by kernel_rfl) (by kernel_rfl) (by kernel_rfl) (fun _ _ _ h => h) (by rw [HKV.out]; exact yieldsIf_load_mid (by rfl) _ (.tmp 2) rfl w2.heap.size 0 rfl KL _ (fun _ h => h) Try.underlying36 rfl hiK'.out) (by assumption) ?_
  go_simp
  refine wpAnyH_ready (rs := [37]) (by kernel_rfl) (by simp) ?_
  refine AllReadyH.cons rfl (fun K hK => ?_) AllReadyH.nil
  (go_simp; go_at_call 13; refine (HDX.out _ hA4).mono ?_; rintro e we ⟨rfl, hA5⟩)
  try go_simp
  refine hK.out _ _ (HA.out _ _ hA5) (fun hHeld => ?_)
  clear hK K
  refine wpAnyH_ready (rs := [40]) (by kernel_rfl) (by simp) ?_
  refine AllReadyH.cons rfl (fun K hK => ?_) AllReadyH.nil
  (go_simp; go_at_call 13; refine (HDY.out _ hA5).mono ?_; rintro e wf ⟨rfl, hA6⟩)
  try go_simp
  refine hK.out _ _ (HA.out _ _ hA6) (fun hHeld => ?_)
  clear hK K
  refine wpAnyH_take (i := 41) (v := .bool true) rfl (by kernel_rfl) (by kernel_rfl) (by kernel_rfl) (fun _ _ _ h => h) (Or.inl ⟨by rfl, fun w _ => by go_simp⟩) (by assumption) ?_
  go_simp
  refine wpAnyH_take (i := 42) (v := .bool true) rfl (by kernel_rfl) (by kernel_rfl) (by kernel_rfl) (fun _ _ _ h => h) (Or.inl ⟨by rfl, fun w _ => by go_simp⟩) (by assumption) ?_
  go_simp
  refine wpAnyH_take (i := 43) (v := .bool true) rfl (by kernel_rfl) (by kernel_rfl) (by kernel_rfl) (fun _ _ _ h => h) (Or.inl ⟨by rfl, fun w _ => by go_simp⟩) (by assumption) ?_
  go_simp
  refine wpAnyH_take (i := 44) (v := .pointer (some ⟨tb, 0, none⟩)) rfl (by kernel_rfl) (by kernel_rfl) (by kernel_rfl) (fun _ _ _ h => h) (Or.inl ⟨by rfl, fun w _ => by go_simp⟩) (by assumption) ?_
  go_simp
  refine wpAnyH_take (i := 46) (v := .agg KV) rfl (by kernel_rfl) (by kernel_rfl) (by kernel_rfl) (fun _ _ _ h => h) (by rw [HKV.out]; exact yieldsIf_load_mid (by rfl) _ (.tmp 2) rfl w2.heap.size 0 rfl KL _ (fun _ h => h) Try.underlying36 rfl hiK'.out) (by assumption) ?_
  go_simp
  refine wpAnyH_ready (rs := [45]) (by kernel_rfl) (by simp) ?_
  refine AllReadyH.cons rfl (fun K hK => ?_) AllReadyH.nil
  (go_simp; go_at_call 23; refine (HNT.out _ hA6).mono ?_; rintro e wg ⟨rfl, hA7⟩)
  try go_simp
  refine hK.out _ _ (HA.out _ _ hA7) (fun hHeld => ?_)
  clear hK K
  refine wpAnyH_take (i := 47) (v := .bool true) rfl (by kernel_rfl) (by kernel_rfl) (by kernel_rfl) (fun _ _ _ h => h) (Or.inl ⟨by rfl, fun w _ => by go_simp⟩) (by assumption) ?_
  go_simp
  refine wpAnyH_take (i := 48) (v := .bool true) rfl (by kernel_rfl) (by kernel_rfl) (by kernel_rfl) (fun _ _ _ h => h) (Or.inl ⟨by rfl, fun w _ => by go_simp⟩) (by assumption) ?_
  go_simp
  refine wpAnyH_take (i := 49) (v := .bool true) rfl (by kernel_rfl) (by kernel_rfl) (by kernel_rfl) (fun _ _ _ h => h) (Or.inl ⟨by rfl, fun w _ => by go_simp⟩) (by assumption) ?_
  go_simp
  refine wpAnyH_take (i := 50) (v := .pointer (some ⟨tb, 0, none⟩)) rfl (by kernel_rfl) (by kernel_rfl) (by kernel_rfl) (fun _ _ _ h => h) (Or.inl ⟨by rfl, fun w _ => by go_simp⟩) (by assumption) ?_
  go_simp
  refine wpAnyH_ready (rs := [51]) (by kernel_rfl) (by simp) ?_
  refine AllReadyH.cons rfl (fun K hK => ?_) AllReadyH.nil
  (go_simp; go_at_call 21; refine (HBS.out _ hA7).mono ?_; rintro e wh ⟨rfl, rfl⟩)
  try go_simp
  refine hK.out _ _ (HA.out _ _ hA7) (fun hHeld => ?_)
  clear hK K
  refine wpAnyH_take (i := 52) (v := .bool true) rfl (by kernel_rfl) (by kernel_rfl) (by kernel_rfl) (fun _ _ _ h => h) (Or.inl ⟨by rfl, fun w _ => by go_simp⟩) (by assumption) ?_
  go_simp
  refine wpAnyH_take (i := 53) (v := .bool true) rfl (by kernel_rfl) (by kernel_rfl) (by kernel_rfl) (fun _ _ _ h => h) (Or.inl ⟨by rfl, fun w _ => by go_simp⟩) (by assumption) ?_
  go_simp
  refine wpAnyH_take (i := 54) (v := .bool true) rfl (by kernel_rfl) (by kernel_rfl) (by kernel_rfl) (fun _ _ _ h => h) (Or.inl ⟨by rfl, fun w _ => by go_simp⟩) (by assumption) ?_
  go_simp
  refine wpAnyH_done (by kernel_rfl) ?_ _
  have HBE := Lib.hid hA7.bel
  go_wp2
  go_ret
  exact ⟨rfl, HBE.out⟩
end Go.Proofs.Ytbfcdlfjlailjaa.Sym
