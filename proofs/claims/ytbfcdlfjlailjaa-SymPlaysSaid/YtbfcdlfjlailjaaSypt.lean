/-
  SymPlays: a round: a box.
-/
import Derived.Test.YtbfcdlfjlailjaaSypqu
namespace Go.Proofs.Ytbfcdlfjlailjaa.Sym
open Go.RowKit
open Go.Proofs.Ytbfcdlfjlailjaa.Kit
open Go.Proofs.Ytbfcdlfjlailjaa.Oct
set_option linter.unusedVariables false

set_option maxRecDepth 1000000 in
set_option maxHeartbeats 8000000 in
theorem plays_k3 {w0 w wr : World} {A : Option Addr} {n c tb k : Nat} {x37 x39 x40 x41 : Value} {u : Nat → Value} {T : Tab} {R S : Nat → Prop} {J4 J5 J6 : Option Addr} {c4 c5 c6 : Nat} {K : List Fm} {B : List Sl} {M : List (List UInt8)} {x5 x6 : List Value} {st : List Ps}
    (hx : RdPs w A n c st) (hb0 : Below w.heap.size w w0) (hk : k < n) (hn60 : n ≤ 60) (hM : Mem w0 wr tb T R S J4 J5 J6 c4 c5 c6 K B M x5 x6) (hP : Pl k K B M T)
    {b o : Nat} {s : Ps} (hA : A = some ⟨b, o, none⟩) (hsb : -9223372036854775808 ≤ s.b ∧ s.b ≤ 9223372036854775807) (hbody : ∀ W, Below w.heap.size w W → RdB W W.heap.size s.A s.n s.c s.body)
    (p0 : wr.cell? ⟨b, o + k * 5, none⟩ = some (.int .i64 s.kind)) (p1 : wr.cell? ⟨b, o + k * 5 + 1, none⟩ = some (.int .i64 s.a)) (p2 : wr.cell? ⟨b, o + k * 5 + 2, none⟩ = some (.int .i64 s.b)) (p3 : wr.cell? ⟨b, o + k * 5 + 3, none⟩ = some (.string s.text)) (p4 : wr.cell? ⟨b, o + k * 5 + 4, none⟩ = some (.slice s.A s.n s.c))
    (hl : s.text.size ≤ 40 ∧ s.n ≤ 40) (hkd : Hid (s.kind = 3)) {Q : Exit → Act → World → Prop} (hend : ∀ a' w', PI w0 A n c tb x37 x39 x40 x41 a' w' ∧ mu n a' w' < n - k → Q .normal a' w') (hpan : ∀ c a a' w, Q (.panic c) a w → Q (.panic c) a' w) :
    Code.wp Try.prog playsBody Q ⟨FR A n c tb x37 x39 x40 x41 u (.slice J4 K.length c4) (.slice J5 B.length c5) (.slice J6 M.length c6) k, []⟩ wr := by
  subst hA
  obtain ⟨n4, hn4⟩ : ∃ q, q = K.length := ⟨_, rfl⟩
  obtain ⟨n5, hn5⟩ : ∃ q, q = B.length := ⟨_, rfl⟩
  obtain ⟨n6, hn6⟩ : ∃ q, q = M.length := ⟨_, rfl⟩
  rw [← hn4, ← hn5, ← hn6]
  have hlt : (k : Int) < (n : Int) := by omega
  have HM := Lib.hid hM
  have HP := Lib.hid hP
  have HX := Lib.hid hx
  have HB0 := Lib.hid hb0
  have HBODY := Lib.hid hbody
  have HEND := Lib.hid hend
  have HPAN := Lib.hid hpan
  have HN4 := Lib.hid hn4
  have HN5 := Lib.hid hn5
  have HN6 := Lib.hid hn6
  have h4k : n4 ≤ k := by rw [hn4]; exact hP.kl
  have h5k : n5 ≤ k := by rw [hn5]; exact hP.bl
  have h6k : n6 ≤ k := by rw [hn6]; exact hP.ml
  clear hM hP hx hb0 hbody hend hpan hn4 hn5 hn6
  simp only [FR]
  conv => arg 2; whnf
  have t1 : decide ((40 : Int) < (s.text.size : Int)) = false := decide_eq_false (by omega)
  have t2 : decide ((40 : Int) < (s.n : Int)) = false := decide_eq_false (by omega)
  obtain ⟨ta, hta31, hta⟩ := and31 s.a
  obtain ⟨ZV, hZ⟩ : ∃ q : Array Value, q = #[.int .u8 0, .int .u8 0, .int .u8 0, .int .u8 0, .int .u8 0, .int .u8 0, .int .u8 0, .int .u8 0, .int .u8 0, .int .u8 0, .int .u8 0, .int .u8 0, .int .u8 0, .int .u8 0, .int .u8 0, .int .u8 0] := ⟨_, rfl⟩
  have hz : ∀ w, (zeroValue 32).run Try.prog w = .ok (.agg ZV) w := fun w => by rw [hZ]; kernel_rfl
  have hzl : ZV.size = 16 := by rw [hZ]; rfl
  obtain ⟨KV, hKV⟩ : ∃ z, z = kv (mk 107 ta) := ⟨_, rfl⟩
  have hKs : KV.size = 16 := by rw [hKV, kv_size, mk_len]
  have HIK := Lib.hid (show (Try.prog.info? 32).map (·.size) = some KV.size from by rw [hKs]; kernel_rfl)
  have HPK := Lib.hid (show KV.all (·.oneCell') = true from by rw [hKV]; exact all_oneCell_toArray (bv_one _))
  have HZK := Lib.hid (show ZV.size = KV.size by rw [hzl, hKs])
  have HMK := Lib.hid (show ∀ W, Calls Try.prog 11 #[.int .u8 107, .int .i64 (ta : Int)] W fun e w' => e = .returned (.agg KV) ∧ Below W.heap.size W w' from fun W => by rw [hKV]; exact lmark_any 107 ta W (by omega))
  have HKV := Lib.hid hKV
  have HZV := Lib.hid hZ
  clear hKV hKs hZ
  obtain ⟨W1, hW1⟩ : ∃ q, q = wr.alloc (.cells s.arr 31) := ⟨_, rfl⟩
  have hb1 : Below wr.heap.size wr W1 := by rw [hW1]; exact below_of_new _ _
  have hg1 : W1.heap[wr.heap.size]? = some (.cells s.arr 31 (0, 0)) := by rw [hW1]; exact heap_alloc_new _ _
  have HW1 := Lib.hid (show wr.alloc (.cells #[.int .i64 s.kind, .int .i64 s.a, .int .i64 s.b, .string s.text, .slice s.A s.n s.c] 31) = W1 from hW1.symm)
  have HB1 := Lib.hid hb1
  have HG1 := Lib.hid hg1
  clear hW1 hb1 hg1
  have b0 : (s.kind == 0) = false := by rw [hkd.out]; rfl
  have b1 : (s.kind == 1) = false := by rw [hkd.out]; rfl
  have b2 : (s.kind == 2) = false := by rw [hkd.out]; rfl
  have b3 : (s.kind == 3) = true := by rw [hkd.out]; rfl
  clear hkd
  have q3 : W1.cell? ⟨wr.heap.size, 3, none⟩ = some (.string s.text) := by rw [cell_of_row _ _ _ _ _ _ HG1.out]; rfl
  have q4 : W1.cell? ⟨wr.heap.size, 4, none⟩ = some (.slice s.A s.n s.c) := by rw [cell_of_row _ _ _ _ _ _ HG1.out]; rfl
  have q1 : W1.cell? ⟨wr.heap.size, 1, none⟩ = some (.int .i64 s.a) := by rw [cell_of_row _ _ _ _ _ _ HG1.out]; rfl
  go_wp2_with (rw [HW1.out])
  refine (HMK.out _).mono ?_
  rintro e w2 ⟨rfl, hb2⟩
  obtain ⟨W3, hW3⟩ : ∃ q, q = w2.alloc (.cells KV 32) := ⟨_, rfl⟩
  have hb3 : Below wr.heap.size wr W3 := by rw [hW3]; exact below_alloc (below_seq HB1.out hb2) _
  have hlt1 : wr.heap.size < W1.heap.size := (Array.getElem?_eq_some_iff.1 HG1.out).1
  have hg2 := (hb2.block wr.heap.size hlt1).trans HG1.out
  have hg3 : W3.heap[wr.heap.size]? = some (.cells s.arr 31 (0, 0)) := by rw [hW3, heap_alloc_old _ _ (Array.getElem?_eq_some_iff.1 hg2).1]; exact hg2
  have hk3 : W3.heap[w2.heap.size]? = some (.cells KV 32 (0, 0)) := by rw [hW3]; exact heap_alloc_new _ _
  have hlt2 : wr.heap.size < w2.heap.size := (Array.getElem?_eq_some_iff.1 hg2).1
  have hM3 := HM.out.below hb3
  have HB3 := Lib.hid hb3
  have HG3 := Lib.hid hg3
  have HK3 := Lib.hid hk3
  have HM3 := Lib.hid hM3
  have HGN := Lib.hid (show ∀ z, (w2.alloc (.cells z 32)).heap[w2.heap.size]? = some (.cells z 32 (0, 0)) from fun z => heap_alloc_new w2 _)
  have q0 : W3.cell? ⟨wr.heap.size, 0, none⟩ = some (.int .i64 s.kind) := by rw [cell_of_row _ _ _ _ _ _ hg3]; rfl
  have HW3 := Lib.hid (show w2.alloc (.cells KV 32) = W3 from hW3.symm)
  clear hb2 hb3 hg2 hg3 hk3 hM3 q1 q3 q4 hW3
  go_wp2_with (refine wpList_store_row (o := ⟨none, _, _, _, _, _⟩) rfl 32 (.tmp 9) (.tmp 61) rfl w2.heap.size KV rfl rfl 32 _ (HGN.out _) HIK.out HZK.out HPK.out ?_; rw [World.setRow_alloc_new, HW3.out]; apply Hid.out)
  clear hz
  refine Lib.hid ?_
  obtain ⟨sb, hsb⟩ : ∃ q, q = wr.heap.size := ⟨_, rfl⟩
  obtain ⟨kb, hkb⟩ : ∃ q, q = w2.heap.size := ⟨_, rfl⟩
  have hM3r := HM.out.rooms (w' := W3) HB3.out (fun b => b = wr.heap.size ∨ b = w2.heap.size) (fun b e => by
    rcases e with rfl | rfl
    · exact ⟨Nat.le_refl _, (Array.getElem?_eq_some_iff.1 HG3.out).1⟩
    · exact ⟨Nat.le_of_lt hlt2, (Array.getElem?_eq_some_iff.1 HK3.out).1⟩)
  have hne1 := HM.out.ne (g := wr.heap.size) (Nat.le_refl _)
  have hne2 := HM.out.ne (g := w2.heap.size) (Nat.le_of_lt hlt2)
  have hG3s := HG3.out
  have hK3s := HK3.out
  clear hlt1 hlt2
  rw [← hsb] at hM3r hG3s q0 hne1 ⊢
  rw [← hkb] at hM3r hK3s hne2 ⊢
  have HM3R := Lib.hid hM3r
  have HG3S := Lib.hid hG3s
  have HK3S := Lib.hid hK3s
  have HNE1 := Lib.hid hne1
  have HNE2 := Lib.hid hne2
  have hzK : ∀ w, (zeroValue 32).run Try.prog w = .ok (.agg ZV) w := fun w => by rw [HZV.out]; kernel_rfl
  clear hM3r hG3s hK3s hne1 hne2 hsb hkb
  have hwf := HM3R.out.te.bel
  have hrb := HBODY.out _ (below_seq HB0.out hwf)
  have HRB := Lib.hid hrb
  obtain ⟨i0, hi, hz0, hz1, hz2⟩ := info_parts info8
  obtain ⟨i1, gi, gz0, gz1, gz2⟩ := info_parts infoSl
  have hnc : s.n ≤ 40 := hl.2
  clear hwf hrb
  go_wp2_with fail
  refine wp_region_held_drew (S := fun w' => w'.heap[kb]? = some (.cells KV 32 (0, 0)) ∧ w'.heap[sb]? = some (.cells s.arr 31 (0, 0))) (by kernel_rfl) ⟨HK3S.out, HG3S.out⟩ (fun hHeld => ?_)
  obtain ⟨WD, hWD⟩ : ∃ q, q = W3.drew := ⟨_, rfl⟩
  have hHD : WD.heap = W3.heap := by rw [hWD]; rfl
  have hBD : Below W3.heap.size W3 WD := by rw [hWD]; exact below_of_drew (w := W3) (w' := W3.drew) ⟨1, rfl⟩ _
  rw [← hWD] at hHeld ⊢
  have HMD := Lib.hid (HM3R.out.below hBD)
  have HRD := Lib.hid (HRB.out.on hBD)
  have HKD := Lib.hid hHeld.1
  have HGD := Lib.hid hHeld.2
  clear hWD hBD hHD
  refine wpAnyH_take (i := 0) (v := .slice J5 n5 c5) rfl (by kernel_rfl) (by kernel_rfl) (by kernel_rfl) (fun c a w h => HPAN.out c _ _ w h) (Or.inl ⟨by rfl, fun wq hSw => by go_simp⟩) (by assumption) ?_
  go_simp
  refine wpAnyH_take (i := 1) (v := .agg KV) rfl (by kernel_rfl) (by kernel_rfl) (by kernel_rfl) (fun c a w h => HPAN.out c _ _ w h) (Or.inl ⟨by rfl, fun wq hSw => by exact run_load_arr hSw.1 Try.underlying32 HIK.out rfl rfl⟩) (by assumption) ?_
  go_simp
  refine wpAnyH_take (i := 2) (v := .pointer (some ⟨sb, 2, none⟩)) rfl (by kernel_rfl) (by kernel_rfl) (by kernel_rfl) (fun c a w h => HPAN.out c _ _ w h) (Or.inl ⟨by rfl, fun wq hSw => by go_simp⟩) (by assumption) ?_
  go_simp
  refine wpAnyH_take (i := 3) (v := .int .i64 s.b) rfl (by kernel_rfl) (by kernel_rfl) (by kernel_rfl) (fun c a w h => HPAN.out c _ _ w h) (Or.inl ⟨by rfl, fun wq hSw => by (have qq : wq.cell? ⟨sb, 2, none⟩ = some (.int .i64 s.b) := (by rw [cell_of_row _ _ _ _ _ _ hSw.2]; rfl)); go_simp⟩) (by assumption) ?_
  go_simp
  refine wpAnyH_take (i := 5) (v := .pointer (some ⟨sb, 4, none⟩)) rfl (by kernel_rfl) (by kernel_rfl) (by kernel_rfl) (fun c a w h => HPAN.out c _ _ w h) (Or.inl ⟨by rfl, fun wq hSw => by go_simp⟩) (by assumption) ?_
  go_simp
  refine wpAnyH_take (i := 6) (v := .slice s.A s.n s.c) rfl (by kernel_rfl) (by kernel_rfl) (by kernel_rfl) (fun c a w h => HPAN.out c _ _ w h) (Or.inl ⟨by rfl, fun wq hSw => by (have qq : wq.cell? ⟨sb, 4, none⟩ = some (.slice s.A s.n s.c) := (by rw [cell_of_row _ _ _ _ _ _ hSw.2]; rfl)); go_simp⟩) (by assumption) ?_
  go_simp
  refine wpAnyH_ready (rs := [4]) (by kernel_rfl) (by simp) ?_
  refine AllReadyH.cons rfl (fun K' hK => ?_) AllReadyH.nil
  go_simp
  refine hK.out _ _ ⟨(heap_alloc_old _ _ (Array.getElem?_eq_some_iff.1 HKD.out).1).trans HKD.out, (heap_alloc_old _ _ (Array.getElem?_eq_some_iff.1 HGD.out).1).trans HGD.out⟩ (fun hHeld1 => ?_)
  clear hK K'
  refine wpAnyH_ready (rs := [7]) (by kernel_rfl) (by simp) ?_
  refine AllReadyH.cons rfl (fun K' hK => ?_) AllReadyH.nil
  rw [if_pos (by rfl)]
  refine wp_app _ (.tmp 136) (.tmp 138) 29 rfl WD.heap.size 5 i0 _ 1 Try.underlying29 hi hz0 hz1 hz2 rfl _ 0 _ rfl (own_new WD (Nat.le_refl _) rfl (by omega)) _ s.A s.n s.c _ rfl (RdB.lit HRD.out _) (bv_one _) (by omega) (by omega) (by simp) ?_
  intro v' w6 hown6 hg6 hat6
  obtain ⟨A2, c2, rfl⟩ := own_form hown6
  simp only [Nat.zero_add, List.nil_append] at hown6 ⊢
  have hb6 := below_lit (Below.refl _ _) hg6
  have hk6 := (hb6.block _ (Array.getElem?_eq_some_iff.1 HKD.out).1).trans HKD.out
  have hg6' := (hb6.block _ (Array.getElem?_eq_some_iff.1 HGD.out).1).trans HGD.out
  have HB6 := Lib.hid hb6
  have HO6 := Lib.hid hown6
  have HK6 := Lib.hid hk6
  have HG6 := Lib.hid hg6'
  refine hK.out _ _ ⟨hk6, hg6'⟩ (fun hHeld2 => ?_)
  clear hK K' hown6 hg6 hat6 hb6 hk6 hg6'
  obtain ⟨SV, hSV⟩ : ∃ q, q = slA (mk 107 ta) s.b A2 s.n c2 := ⟨_, rfl⟩
  have hSs : SV.size = 18 := by rw [hSV]; exact slA_size (mk_len _ _) _ _ _ _
  have HSV := Lib.hid hSV
  have HS18 := Lib.hid hSs
  clear hSV hSs
  refine wpAnyH_take (i := 8) (v := .agg SV) rfl (by kernel_rfl) (by kernel_rfl) (by kernel_rfl) (fun c a w h => HPAN.out c _ _ w h) (Or.inl ⟨by rfl, fun wq hSw => by (rw [HSV.out]; exact run_sl (mk_len _ _) rfl (by rw [← HKV.out]; rfl) rfl rfl)⟩) (by assumption) ?_
  go_simp
  refine wpAnyH_ready (rs := [9]) (by kernel_rfl) (by simp) ?_
  refine AllReadyH.cons rfl (fun K' hK => ?_) AllReadyH.nil
  rw [if_pos (by rfl)]
  refine wp_buildSlice 27 41 1 #[(0, .tmp 140)] rfl SV i1 _ Try.underlying27 gi gz0 (by rw [gz1]; omega) (by rw [gz1]; omega) ?hf9 ?_
  · rw [gz1]
    refine Eq.trans (congrArg (Instr.fill _ _) (show _ = [(0, Value.agg SV)] by kernel_rfl)) (fill_seal _ rfl _ HS18.out)
  try go_simp
  refine hK.out _ _ ⟨(heap_alloc_old _ _ (Array.getElem?_eq_some_iff.1 HK6.out).1).trans HK6.out, (heap_alloc_old _ _ (Array.getElem?_eq_some_iff.1 HG6.out).1).trans HG6.out⟩ (fun hHeld3 => ?_)
  clear hK K'
  have hB67 := below_seq HB6.out (below_of_new w6 (.cells SV 41))
  have HO7 := Lib.hid (show (w6.alloc (.cells SV 41)).ownsRow w0.heap.size 41 18 (.slice J5 n5 c5) n5 x5 from by have hq := (HMD.out.below hB67).o5; rw [← HN5.out] at hq; exact hq)
  have HS7 := Lib.hid (show w0.heap.size ≤ (w6.alloc (.cells SV 41)).heap.size from (HMD.out.below hB67).te.bel.size)
  have HSO := Lib.hid (show ∀ v ∈ SV.toList, v.oneCell' = true from by rw [HSV.out]; exact slA_one _ _ _ _ _)
  have HSL := Lib.hid (show SV.toList.length = 1 * 18 from by rw [Array.length_toList, HS18.out])
  clear hB67
  refine wpAnyH_ready (rs := [10]) (by kernel_rfl) (by simp) ?_
  refine AllReadyH.cons rfl (fun K' hK => ?_) AllReadyH.nil
  refine step_append_lies _ (by rfl) _ _ _ (by rfl) w0.heap.size 41 i1 _ 18 48 Try.underlying27 gi gz0 gz1 gz2 rfl (by omega) (.slice J5 n5 c5) n5 x5 (by rfl) HO7.out ⟨w6.heap.size, 0, none⟩ 1 1 SV.toList (by rfl) HSL.out (World.news_of_block (cs := SV) (t := 41) (fr := (0, 0)) (heap_alloc_new w6 _)) HSO.out (by omega) (by unfold maxLen; omega) (by omega) HS7.out (w6.heap.size + 1) (by simp) ?_
  intro gg cap w8 hown8 hgrow8 hat8 hlt8
  rw [ob_slice] at hgrow8 hat8
  have hM8 := HMD.out.box_copy (x := ⟨mk 107 ta, s.b, s.body⟩) HB6.out HO6.out (by rw [← HN5.out]; rw [HSV.out] at hown8; exact hown8) hgrow8 (hat8.imp_right fun e => by omega)
  have hk8 : w8.heap[kb]? = some (.cells KV 32 (0, 0)) := (hgrow8.block kb (by rw [World.size_alloc]; have := (Array.getElem?_eq_some_iff.1 HK6.out).1; omega) (fun e => HNE2.out.2.1 e.symm)).trans ((heap_alloc_old w6 _ (Array.getElem?_eq_some_iff.1 HK6.out).1).trans HK6.out)
  have hg8 : w8.heap[sb]? = some (.cells s.arr 31 (0, 0)) := (hgrow8.block sb (by rw [World.size_alloc]; have := (Array.getElem?_eq_some_iff.1 HG6.out).1; omega) (fun e => HNE1.out.2.1 e.symm)).trans ((heap_alloc_old w6 _ (Array.getElem?_eq_some_iff.1 HG6.out).1).trans HG6.out)
  refine hK.out _ _ ⟨hk8, hg8⟩ (fun hHeld4 => ?_)
  have HM8 := Lib.hid hM8
  have HK8 := Lib.hid hk8
  have HG8 := Lib.hid hg8
  clear hK K' hown8 hgrow8 hat8 hlt8 hM8 hk8 hg8
  obtain ⟨m5, hm5⟩ : ∃ q, q = n5 + 1 := ⟨_, rfl⟩
  rw [← hm5]
  have HL5 := Lib.hid (show m5 = (B ++ [(⟨mk 107 ta, s.b, s.body⟩ : Sl)]).length by rw [hm5, HN5.out]; simp)
  have HM5 := Lib.hid hm5
  have hm60 : m5 ≤ 61 := by omega
  clear hm5
  refine wpAnyH_take (i := 11) (v := .slice (some ⟨gg, 0, none⟩) m5 cap) rfl (by kernel_rfl) (by kernel_rfl) (by kernel_rfl) (fun c a w h => HPAN.out c _ _ w h) (Or.inl ⟨by rfl, fun wq hSw => by go_simp⟩) (by assumption) ?_
  go_simp
  refine wpAnyH_done (by kernel_rfl) ?_ _
  clear hHeld hHeld1 hHeld2 hHeld3 hHeld4 HO7 HS7 HSO HSL HO6 HB6 HMD HRD HKD HGD HK6 HG6
  obtain ⟨DV, hDV⟩ : ∃ z, z = kv (mk 98 m5) := ⟨_, rfl⟩
  have hDs : DV.size = 16 := by rw [hDV, kv_size, mk_len]
  have HID := Lib.hid (show (Try.prog.info? 32).map (·.size) = some DV.size from by rw [hDs]; kernel_rfl)
  have HPD := Lib.hid (show DV.all (·.oneCell') = true from by rw [hDV]; exact all_oneCell_toArray (bv_one _))
  have HZD := Lib.hid (show ZV.size = DV.size by rw [hzl, hDs])
  have HMKD := Lib.hid (show ∀ W, Calls Try.prog 11 #[.int .u8 98, .int .i64 (m5 : Int)] W fun e w' => e = .returned (.agg DV) ∧ Below W.heap.size W w' from fun W => by rw [hDV]; exact lmark_any 98 m5 W (by omega))
  have HDV := Lib.hid hDV
  clear hDs hDV
  go_wp2_with fail
  refine (HMKD.out _).mono ?_
  rintro e w9 ⟨rfl, hb9⟩
  obtain ⟨W6, hW6⟩ : ∃ q, q = w9.alloc (.cells DV 32) := ⟨_, rfl⟩
  have hb6 : Below w8.heap.size w8 W6 := by rw [hW6]; exact below_alloc hb9 _
  have hD6 : W6.heap[w9.heap.size]? = some (.cells DV 32 (0, 0)) := by rw [hW6]; exact heap_alloc_new _ _
  have hM6 := HM8.out.room hb6 (g := w9.heap.size) hb9.size (Array.getElem?_eq_some_iff.1 hD6).1
  have HK6 := Lib.hid ((hb6.block kb (Array.getElem?_eq_some_iff.1 HK8.out).1).trans HK8.out)
  have HG6 := Lib.hid ((hb6.block sb (Array.getElem?_eq_some_iff.1 HG8.out).1).trans HG8.out)
  have HM6 := Lib.hid hM6
  have HD6 := Lib.hid hD6
  have HGN6 := Lib.hid (show ∀ z, (w9.alloc (.cells z 32)).heap[w9.heap.size]? = some (.cells z 32 (0, 0)) from fun z => heap_alloc_new w9 _)
  have HW6 := Lib.hid (show w9.alloc (.cells DV 32) = W6 from hW6.symm)
  clear hW6 hb6 hD6 hM6 hb9 HM8 HK8 HG8
  go_wp2_with (refine wpList_store_row (o := ⟨none, _, _, _, _, _⟩) rfl 32 (.tmp 15) (.tmp 145) rfl w9.heap.size DV rfl rfl 32 _ (HGN6.out _) HID.out HZD.out HPD.out ?_; rw [World.setRow_alloc_new, HW6.out]; apply Hid.out)
  refine Lib.hid ?_
  obtain ⟨db, hdb⟩ : ∃ q, q = w9.heap.size := ⟨_, rfl⟩
  have hD6 := HD6.out
  have hM6 := HM6.out
  rw [← hdb] at hD6 hM6 ⊢
  have HD6S := Lib.hid hD6
  have HM6S := Lib.hid hM6
  clear hdb hD6 hM6 HD6 HM6 HGN6 HW6
  go_wp2_with fail
  refine wp_region_held_drew (S := fun w' => w'.heap[db]? = some (.cells DV 32 (0, 0)) ∧ w'.heap[kb]? = some (.cells KV 32 (0, 0)) ∧ w'.heap[sb]? = some (.cells s.arr 31 (0, 0))) (by kernel_rfl) ⟨HD6S.out, HK6.out, HG6.out⟩ (fun hHeld => ?_)
  obtain ⟨WE, hWE⟩ : ∃ q, q = W6.drew := ⟨_, rfl⟩
  have hBE : Below W6.heap.size W6 WE := by rw [hWE]; exact below_of_drew (w := W6) (w' := W6.drew) ⟨1, rfl⟩ _
  rw [← hWE] at hHeld ⊢
  have HME := Lib.hid (HM6S.out.below hBE)
  have HDE := Lib.hid hHeld.1
  have HKE := Lib.hid hHeld.2.1
  have HGE := Lib.hid hHeld.2.2
  clear hWE hBE
  refine wpAnyH_take (i := 0) (v := .pointer (some ⟨tb, 0, none⟩)) rfl (by kernel_rfl) (by kernel_rfl) (by kernel_rfl) (fun c a w h => HPAN.out c _ _ w h) (Or.inl ⟨by rfl, fun wq hSw => by go_simp⟩) (by assumption) ?_
  go_simp
  refine wpAnyH_take (i := 1) (v := .agg KV) rfl (by kernel_rfl) (by kernel_rfl) (by kernel_rfl) (fun c a w h => HPAN.out c _ _ w h) (Or.inl ⟨by rfl, fun wq hSw => by exact run_load_arr hSw.2.1 Try.underlying32 HIK.out rfl rfl⟩) (by assumption) ?_
  go_simp
  refine wpAnyH_take (i := 2) (v := .pointer (some ⟨sb, 2, none⟩)) rfl (by kernel_rfl) (by kernel_rfl) (by kernel_rfl) (fun c a w h => HPAN.out c _ _ w h) (Or.inl ⟨by rfl, fun wq hSw => by go_simp⟩) (by assumption) ?_
  go_simp
  refine wpAnyH_take (i := 3) (v := .int .i64 s.b) rfl (by kernel_rfl) (by kernel_rfl) (by kernel_rfl) (fun c a w h => HPAN.out c _ _ w h) (Or.inl ⟨by rfl, fun wq hSw => by (have qq : wq.cell? ⟨sb, 2, none⟩ = some (.int .i64 s.b) := (by rw [cell_of_row _ _ _ _ _ _ hSw.2.2]; rfl)); go_simp⟩) (by assumption) ?_
  go_simp
  refine wpAnyH_take (i := 4) (v := .pointer (some ⟨sb, 4, none⟩)) rfl (by kernel_rfl) (by kernel_rfl) (by kernel_rfl) (fun c a w h => HPAN.out c _ _ w h) (Or.inl ⟨by rfl, fun wq hSw => by go_simp⟩) (by assumption) ?_
  go_simp
  refine wpAnyH_take (i := 5) (v := .slice s.A s.n s.c) rfl (by kernel_rfl) (by kernel_rfl) (by kernel_rfl) (fun c a w h => HPAN.out c _ _ w h) (Or.inl ⟨by rfl, fun wq hSw => by (have qq : wq.cell? ⟨sb, 4, none⟩ = some (.slice s.A s.n s.c) := (by rw [cell_of_row _ _ _ _ _ _ hSw.2.2]; rfl)); go_simp⟩) (by assumption) ?_
  go_simp
  refine wpAnyH_take (i := 7) (v := .slice (some ⟨db, 0, none⟩) 16 16) rfl (by kernel_rfl) (by kernel_rfl) (by kernel_rfl) (fun c a w h => HPAN.out c _ _ w h) (Or.inl ⟨by rfl, fun wq hSw => by go_simp⟩) (by assumption) ?_
  go_simp
  obtain ⟨T9, hT9⟩ : ∃ q : Tab, q = { T with bs := T.bs ++ [(⟨mk 107 ta, s.b, s.body⟩ : Sl)] } := ⟨_, rfl⟩
  have HP9 := Lib.hid (show Pl (k + 1) K (B ++ [(⟨mk 107 ta, s.b, s.body⟩ : Sl)]) M T9 from by rw [hT9]; exact HP.out.box _)
  have hsl := HME.out.te.seal_ (k := mk 107 ta) (body := s.body) (u := s.b) (mk_len _ _) hsb (HBODY.out _ (below_seq HB0.out HME.out.te.bel)) (by omega) (by rw [HP.out.bs, ← HN5.out]; omega)
  rw [← hT9, HP.out.bs, ← HN5.out, ← HM5.out, ← HKV.out] at hsl
  clear hT9
  refine wpAnyH_ready (rs := [6]) (by kernel_rfl) (by simp) ?_
  refine AllReadyH.cons rfl (fun K' hK => ?_) AllReadyH.nil
  go_simp
  go_at_call 16
  refine hsl.mono ?_
  rintro e wa ⟨g, rfl, hga, hgs, htea, hrwa⟩
  have hMa := HME.out.turn (htea.weak fun b h => .inl h) hrwa
  have hDa := (hrwa.2 db (.inr rfl)).trans HDE.out
  have hKa := (hrwa.2 kb (.inl <| .inl <| .inl <| .inr (.inr rfl))).trans HKE.out
  have hGa := (hrwa.2 sb (.inl <| .inl <| .inl <| .inr (.inl rfl))).trans HGE.out
  have hsm := rsame_new _ _ _ _ _ _ (mk 98 m5) (mk 98 m5) _ (rd_block (bs := mk 98 m5) hga (mk_len _ _) (by omega)) (rd_block (bs := mk 98 m5) (show wa.heap[db]? = some (.cells (kv (mk 98 m5)) 32 (0, 0)) from by rw [← HDV.out]; exact hDa) (mk_len _ _) (by omega))
  try go_simp
  refine hK.out _ _ ⟨hDa, hKa, hGa⟩ (fun hHeld2 => ?_)
  clear hK K' hsl
  refine wpAnyH_ready (rs := [8]) (by kernel_rfl) (by simp) ?_
  refine AllReadyH.cons rfl (fun K' hK => ?_) AllReadyH.nil
  go_simp
  go_at_call 15
  refine hsm.mono ?_
  rintro e wz ⟨rfl, hbz⟩
  rw [show decide (mk 98 m5 = mk 98 m5) = true from by simp]
  have HM9 := Lib.hid (hMa.below hbz)
  have hDz := (hbz.block _ (Array.getElem?_eq_some_iff.1 hDa).1).trans hDa
  have hKz := (hbz.block _ (Array.getElem?_eq_some_iff.1 hKa).1).trans hKa
  have hGz := (hbz.block _ (Array.getElem?_eq_some_iff.1 hGa).1).trans hGa
  try go_simp
  refine hK.out _ _ ⟨hDz, hKz, hGz⟩ (fun hHeld3 => ?_)
  clear hK K' hsm
  refine wpAnyH_take (i := 9) (v := .bool false) rfl (by kernel_rfl) (by kernel_rfl) (by kernel_rfl) (fun c a w h => HPAN.out c _ _ w h) (Or.inl ⟨by rfl, fun wq hSw => by go_simp⟩) (by assumption) ?_
  go_simp
  refine wpAnyH_done (by kernel_rfl) ?_ _
  clear hDz hKz hGz hbz hHeld hHeld2 hHeld3 hDa hKa hGa hMa htea hrwa hga hgs
  have hkeys : Calls Try.prog 20 #[.pointer (some ⟨tb, 0, none⟩)] _ _ := HM9.out.te.keys
  rw [HP9.out.rel.klen, ← HN4.out] at hkeys
  have hboxes : Calls Try.prog 21 #[.pointer (some ⟨tb, 0, none⟩)] _ _ := HM9.out.te.boxes
  rw [HP9.out.bs, ← HL5.out] at hboxes
  go_wp2_with fail
  refine hkeys.mono ?_
  rintro e w8 ⟨rfl, rfl⟩
  clear hkeys
  go_wp2_with fail
  refine hboxes.mono ?_
  rintro e w8 ⟨rfl, rfl⟩
  clear hboxes
  go_wp2_with fail
  have e4 := HN4.out
  have e6 := HN6.out
  subst e4 e6
  refine HEND.out _ _ ⟨PI.mk (k := k + 1) (by omega) HM9.out HP9.out (by rw [← HL5.out]; rfl), ?_⟩
  simp only [mu]
  show n - (intOf (.int .i64 ((k : Int) + 1))).toNat < n - k
  simp [intOf]; omega
end Go.Proofs.Ytbfcdlfjlailjaa.Sym
