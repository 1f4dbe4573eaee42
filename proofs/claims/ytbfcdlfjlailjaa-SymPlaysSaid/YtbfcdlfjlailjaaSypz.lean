/-
  SymPlays: a round: a box is opened (c1).
-/
import Derived.Test.YtbfcdlfjlailjaaSypqu
namespace Go.Proofs.Ytbfcdlfjlailjaa.Sym
open Go.RowKit
open Go.Proofs.Ytbfcdlfjlailjaa.Kit
open Go.Proofs.Ytbfcdlfjlailjaa.Oct
set_option linter.unusedVariables false

set_option maxRecDepth 1000000 in
set_option maxHeartbeats 8000000 in
theorem plays_k4_c1 {w0 w wr : World} {A : Option Addr} {n c tb k : Nat} {x37 x39 x40 x41 : Value} {u : Nat → Value} {T : Tab} {R S : Nat → Prop} {J4 J5 J6 : Option Addr} {c4 c5 c6 : Nat} {K : List Fm} {B : List Sl} {M : List (List UInt8)} {x5 x6 : List Value} {st : List Ps}
    (hx : RdPs w A n c st) (hb0 : Below w.heap.size w w0) (hk : k < n) (hn60 : n ≤ 60) (hM : Mem w0 wr tb T R S J4 J5 J6 c4 c5 c6 K B M x5 x6) (hP : Pl k K B M T)
    {b o : Nat} {s : Ps} (hA : A = some ⟨b, o, none⟩) (hsb : -9223372036854775808 ≤ s.b ∧ s.b ≤ 9223372036854775807) (hbody : ∀ W, Below w.heap.size w W → RdB W W.heap.size s.A s.n s.c s.body)
    (p0 : wr.cell? ⟨b, o + k * 5, none⟩ = some (.int .i64 s.kind)) (p1 : wr.cell? ⟨b, o + k * 5 + 1, none⟩ = some (.int .i64 s.a)) (p2 : wr.cell? ⟨b, o + k * 5 + 2, none⟩ = some (.int .i64 s.b)) (p3 : wr.cell? ⟨b, o + k * 5 + 3, none⟩ = some (.string s.text)) (p4 : wr.cell? ⟨b, o + k * 5 + 4, none⟩ = some (.slice s.A s.n s.c))
    {q : Nat} {j : Nat} {x : Sl} (hl : s.text.size ≤ 40 ∧ s.n ≤ 40) (hkd : Hid (s.kind = 4)) (hq31 : q ≤ 31) (hqb : bits .and .i64 s.b 31 = (q : Int)) (hqj : q = j + 1) (hj : B[j]? = some x) (hne : x.key ≠ mk 107 (and31v s.a)) {Q : Exit → Act → World → Prop} (hend : ∀ a' w', PI w0 A n c tb x37 x39 x40 x41 a' w' ∧ mu n a' w' < n - k → Q .normal a' w') (hpan : ∀ c a a' w, Q (.panic c) a w → Q (.panic c) a' w) :
    Code.wp Try.prog playsBody Q ⟨FR A n c tb x37 x39 x40 x41 u (.slice J4 K.length c4) (.slice J5 B.length c5) (.slice J6 M.length c6) k, []⟩ wr := by
  subst hA
  obtain ⟨n4, hn4⟩ : ∃ q, q = K.length := ⟨_, rfl⟩
  obtain ⟨n5, hn5⟩ : ∃ q, q = B.length := ⟨_, rfl⟩
  obtain ⟨n6, hn6⟩ : ∃ q, q = M.length := ⟨_, rfl⟩
  rw [← hn4, ← hn5, ← hn6]
  have hlt : (k : Int) < (n : Int) := by omega
  have HM := Lib.hid hM
  have HP := Lib.hid hP
  have HX := Lib.hid hx
  have HB0 := Lib.hid hb0
  have HBODY := Lib.hid hbody
  have HEND := Lib.hid hend
  have HPAN := Lib.hid hpan
  have HN4 := Lib.hid hn4
  have HN5 := Lib.hid hn5
  have HN6 := Lib.hid hn6
  have h4k : n4 ≤ k := by rw [hn4]; exact hP.kl
  have h5k : n5 ≤ k := by rw [hn5]; exact hP.bl
  have h6k : n6 ≤ k := by rw [hn6]; exact hP.ml
  clear hM hP hx hb0 hbody hend hpan hn4 hn5 hn6
  simp only [FR]
  conv => arg 2; whnf
  have t1 : decide ((40 : Int) < (s.text.size : Int)) = false := decide_eq_false (by omega)
  have t2 : decide ((40 : Int) < (s.n : Int)) = false := decide_eq_false (by omega)
  obtain ⟨ta, hta31, hta, htv⟩ := and31w s.a
  obtain ⟨ZV, hZ⟩ : ∃ q : Array Value, q = #[.int .u8 0, .int .u8 0, .int .u8 0, .int .u8 0, .int .u8 0, .int .u8 0, .int .u8 0, .int .u8 0, .int .u8 0, .int .u8 0, .int .u8 0, .int .u8 0, .int .u8 0, .int .u8 0, .int .u8 0, .int .u8 0] := ⟨_, rfl⟩
  have hz : ∀ w, (zeroValue 32).run Try.prog w = .ok (.agg ZV) w := fun w => by rw [hZ]; kernel_rfl
  have hzl : ZV.size = 16 := by rw [hZ]; rfl
  obtain ⟨KV, hKV⟩ : ∃ z, z = kv (mk 107 ta) := ⟨_, rfl⟩
  have hKs : KV.size = 16 := by rw [hKV, kv_size, mk_len]
  have HIK := Lib.hid (show (Try.prog.info? 32).map (·.size) = some KV.size from by rw [hKs]; kernel_rfl)
  have HPK := Lib.hid (show KV.all (·.oneCell') = true from by rw [hKV]; exact all_oneCell_toArray (bv_one _))
  have HZK := Lib.hid (show ZV.size = KV.size by rw [hzl, hKs])
  have HMK := Lib.hid (show ∀ W, Calls Try.prog 11 #[.int .u8 107, .int .i64 (ta : Int)] W fun e w' => e = .returned (.agg KV) ∧ Below W.heap.size W w' from fun W => by rw [hKV]; exact lmark_any 107 ta W (by omega))
  have HKV := Lib.hid hKV
  have HZV := Lib.hid hZ
  clear hKV hKs hZ
  obtain ⟨W1, hW1⟩ : ∃ q, q = wr.alloc (.cells s.arr 31) := ⟨_, rfl⟩
  have hb1 : Below wr.heap.size wr W1 := by rw [hW1]; exact below_of_new _ _
  have hg1 : W1.heap[wr.heap.size]? = some (.cells s.arr 31 (0, 0)) := by rw [hW1]; exact heap_alloc_new _ _
  have HW1 := Lib.hid (show wr.alloc (.cells #[.int .i64 s.kind, .int .i64 s.a, .int .i64 s.b, .string s.text, .slice s.A s.n s.c] 31) = W1 from hW1.symm)
  have HB1 := Lib.hid hb1
  have HG1 := Lib.hid hg1
  clear hW1 hb1 hg1
  have b0 : (s.kind == 0) = false := by rw [hkd.out]; rfl
  have b1 : (s.kind == 1) = false := by rw [hkd.out]; rfl
  have b2 : (s.kind == 2) = false := by rw [hkd.out]; rfl
  have b3 : (s.kind == 3) = false := by rw [hkd.out]; rfl
  have b4 : (s.kind == 4) = true := by rw [hkd.out]; rfl
  clear hkd
  have q3 : W1.cell? ⟨wr.heap.size, 3, none⟩ = some (.string s.text) := by rw [cell_of_row _ _ _ _ _ _ HG1.out]; rfl
  have q4 : W1.cell? ⟨wr.heap.size, 4, none⟩ = some (.slice s.A s.n s.c) := by rw [cell_of_row _ _ _ _ _ _ HG1.out]; rfl
  have q1 : W1.cell? ⟨wr.heap.size, 1, none⟩ = some (.int .i64 s.a) := by rw [cell_of_row _ _ _ _ _ _ HG1.out]; rfl
  go_wp2_with (rw [HW1.out])
  refine (HMK.out _).mono ?_
  rintro e w2 ⟨rfl, hb2⟩
  obtain ⟨W3, hW3⟩ : ∃ q, q = w2.alloc (.cells KV 32) := ⟨_, rfl⟩
  have hb3 : Below wr.heap.size wr W3 := by rw [hW3]; exact below_alloc (below_seq HB1.out hb2) _
  have hlt1 : wr.heap.size < W1.heap.size := (Array.getElem?_eq_some_iff.1 HG1.out).1
  have hg2 := (hb2.block wr.heap.size hlt1).trans HG1.out
  have hg3 : W3.heap[wr.heap.size]? = some (.cells s.arr 31 (0, 0)) := by rw [hW3, heap_alloc_old _ _ (Array.getElem?_eq_some_iff.1 hg2).1]; exact hg2
  have hk3 : W3.heap[w2.heap.size]? = some (.cells KV 32 (0, 0)) := by rw [hW3]; exact heap_alloc_new _ _
  have hlt2 : wr.heap.size < w2.heap.size := (Array.getElem?_eq_some_iff.1 hg2).1
  have hM3 := HM.out.below hb3
  have HB3 := Lib.hid hb3
  have HG3 := Lib.hid hg3
  have HK3 := Lib.hid hk3
  have HM3 := Lib.hid hM3
  have HGN := Lib.hid (show ∀ z, (w2.alloc (.cells z 32)).heap[w2.heap.size]? = some (.cells z 32 (0, 0)) from fun z => heap_alloc_new w2 _)
  have q0 : W3.cell? ⟨wr.heap.size, 0, none⟩ = some (.int .i64 s.kind) := by rw [cell_of_row _ _ _ _ _ _ hg3]; rfl
  have HW3 := Lib.hid (show w2.alloc (.cells KV 32) = W3 from hW3.symm)
  clear hb2 hb3 hg2 hg3 hk3 hM3 q1 q3 q4 hW3
  go_wp2_with (refine wpList_store_row (o := ⟨none, _, _, _, _, _⟩) rfl 32 (.tmp 9) (.tmp 61) rfl w2.heap.size KV rfl rfl 32 _ (HGN.out _) HIK.out HZK.out HPK.out ?_; rw [World.setRow_alloc_new, HW3.out]; apply Hid.out)
  clear hz
  refine Lib.hid ?_
  have hjl : j < n5 := by rw [HN5.out]; exact (List.getElem?_eq_some_iff.1 hj).1
  have d1 : decide ((1 : Int) ≤ (q : Int)) = true := decide_eq_true (by omega)
  have d2 : decide ((q : Int) ≤ (n5 : Int)) = true := decide_eq_true (by omega)
  have hsub : (q : Int) - 1 = (j : Int) := by omega
  have hbx : boxS T (mk 98 q) = some x := by rw [hqj]; exact boxS_some (by omega) (by rw [HP.out.bs]; exact hj)
  have HBQ := Lib.hid hbx
  clear hbx
  have hkk : x.key ≠ mk 107 ta := by rw [htv.out]; exact hne
  have HKE := Lib.hid hkk
  clear hkk hne
  have HJ := Lib.hid hj
  have HQJ := Lib.hid hqj
  clear hj
  clear htv
  have hq5n : q ≤ n5 := by omega
  have hq1n : 1 ≤ q := by omega
  have hwj : IntKind.i64.wrap (j : Int) = (j : Int) := by rw [IntKind.wrap_i64]; omega
  clear hqj
  obtain ⟨sb, hsb⟩ : ∃ q, q = wr.heap.size := ⟨_, rfl⟩
  obtain ⟨kb, hkb⟩ : ∃ q, q = w2.heap.size := ⟨_, rfl⟩
  have hM3r := HM.out.rooms (w' := W3) HB3.out (fun b => b = wr.heap.size ∨ b = w2.heap.size) (fun b e => by
    rcases e with rfl | rfl
    · exact ⟨Nat.le_refl _, (Array.getElem?_eq_some_iff.1 HG3.out).1⟩
    · exact ⟨Nat.le_of_lt hlt2, (Array.getElem?_eq_some_iff.1 HK3.out).1⟩)
  have hne1 := HM.out.ne (g := wr.heap.size) (Nat.le_refl _)
  have hne2 := HM.out.ne (g := w2.heap.size) (Nat.le_of_lt hlt2)
  have hG3s := HG3.out
  have hK3s := HK3.out
  clear hlt1 hlt2
  rw [← hsb] at hM3r hG3s q0 hne1 ⊢
  rw [← hkb] at hM3r hK3s hne2 ⊢
  have HM3R := Lib.hid hM3r
  have HG3S := Lib.hid hG3s
  have HK3S := Lib.hid hK3s
  have HNE1 := Lib.hid hne1
  have HNE2 := Lib.hid hne2
  have hzK : ∀ w, (zeroValue 32).run Try.prog w = .ok (.agg ZV) w := fun w => by rw [HZV.out]; kernel_rfl
  clear hM3r hG3s hK3s hne1 hne2 hsb hkb
  obtain ⟨hxk, gb, A', c', hJ5, hgb, hrx, hrb⟩ := HM3R.out.box_at HP.out.bs HJ.out
  subst hJ5
  have HXK := Lib.hid hxk
  have HX3 := Lib.hid (show ∀ W, Below W3.heap.size W3 W → (W.rangeAt gb (j * 18) (x.key.map bv) ∧ W.cell? ⟨gb, j * 18 + 16, none⟩ = some (.int .i64 x.us) ∧ W.cell? ⟨gb, j * 18 + 17, none⟩ = some (.slice A' x.body.length c')) ∧ RdB W W.heap.size A' x.body.length c' x.body from fun W h => ⟨range_sl hxk (range_on hrx hgb h), hrb.on h⟩)
  obtain ⟨XK, hXK⟩ : ∃ z, z = kv x.key := ⟨_, rfl⟩
  have e00 : ∀ w, (Op.equalIn 10000 36 (.agg XK) (.agg XK)).run Try.prog w = .ok true w := fun w => by rw [hXK]; exact eq_one _ hxk w
  have e01 : ∀ w, (Op.equalIn 10000 36 (.agg XK) (.agg KV)).run Try.prog w = .ok false w := fun w => by rw [hXK, HKV.out]; exact (eq_keyY _ _ hxk (mk_len _ _) w).trans (by rw [show (x.key == mk 107 ta) = false from by simpa using HKE.out])
  have d4 : (x.us != x.us) = false := by simp
  have HXKV := Lib.hid hXK
  clear hXK hxk hgb hrx hrb
  obtain ⟨DV, hDV⟩ : ∃ z, z = kv (mk 98 q) := ⟨_, rfl⟩
  have hDs : DV.size = 16 := by rw [hDV, kv_size, mk_len]
  have HID := Lib.hid (show (Try.prog.info? 32).map (·.size) = some DV.size from by rw [hDs]; kernel_rfl)
  have HPD := Lib.hid (show DV.all (·.oneCell') = true from by rw [hDV]; exact all_oneCell_toArray (bv_one _))
  have HZD := Lib.hid (show ZV.size = DV.size by rw [hzl, hDs])
  have HMKD := Lib.hid (show ∀ W, Calls Try.prog 11 #[.int .u8 98, .int .i64 (q : Int)] W fun e w' => e = .returned (.agg DV) ∧ Below W.heap.size W w' from fun W => by rw [hDV]; exact lmark_any 98 q W (by omega))
  have HDV := Lib.hid hDV
  have q2 : W3.cell? ⟨sb, 2, none⟩ = some (.int .i64 s.b) := by rw [cell_of_row _ _ _ _ _ _ HG3S.out]; rfl
  clear hDs hDV
  go_wp2_with fail
  refine (HMKD.out _).mono ?_
  rintro e w5 ⟨rfl, hb5⟩
  obtain ⟨W6, hW6⟩ : ∃ q, q = w5.alloc (.cells DV 32) := ⟨_, rfl⟩
  have hb6 : Below W3.heap.size W3 W6 := by rw [hW6]; exact below_alloc hb5 _
  have hD6 : W6.heap[w5.heap.size]? = some (.cells DV 32 (0, 0)) := by rw [hW6]; exact heap_alloc_new _ _
  have HB6 := Lib.hid hb6
  have HD6 := Lib.hid hD6
  have HGN6 := Lib.hid (show ∀ z, (w5.alloc (.cells z 32)).heap[w5.heap.size]? = some (.cells z 32 (0, 0)) from fun z => heap_alloc_new w5 _)
  have HW6 := Lib.hid (show w5.alloc (.cells DV 32) = W6 from hW6.symm)
  clear hW6 hb6 hD6 hb5 q2
  go_wp2_with (refine wpList_store_row (o := ⟨none, _, _, _, _, _⟩) rfl 32 (.tmp 16) (.tmp 161) rfl w5.heap.size DV rfl rfl 32 _ (HGN6.out _) HID.out HZD.out HPD.out ?_; rw [World.setRow_alloc_new, HW6.out]; apply Hid.out)
  refine Lib.hid ?_
  obtain ⟨db, hdb⟩ : ∃ q, q = w5.heap.size := ⟨_, rfl⟩
  have hD6 := HD6.out
  rw [← hdb] at hD6 ⊢
  have HD6S := Lib.hid hD6
  have HF := Lib.hid (show ∀ W, Below W6.heap.size W6 W → W.heap[db]? = some (.cells DV 32 (0, 0)) ∧ W.heap[kb]? = some (.cells KV 32 (0, 0)) ∧ W.heap[sb]? = some (.cells s.arr 31 (0, 0)) from fun W h => ⟨(h.block _ (Array.getElem?_eq_some_iff.1 HD6S.out).1).trans HD6S.out, ((below_seq HB6.out h).block _ (Array.getElem?_eq_some_iff.1 HK3S.out).1).trans HK3S.out, ((below_seq HB6.out h).block _ (Array.getElem?_eq_some_iff.1 HG3S.out).1).trans HG3S.out⟩)
  have HDB := Lib.hid (show ∀ W, Below W6.heap.size W6 W → RdB W W.heap.size (some ⟨db, 0, none⟩) 16 16 (mk 98 q) from fun W h => rd_block (bs := mk 98 q) (show W.heap[db]? = some (.cells (kv (mk 98 q)) 32 (0, 0)) from by rw [← HDV.out]; exact (HF.out W h).1) (mk_len _ _) (by omega))
  have HTE := Lib.hid (show ∀ W, Below W6.heap.size W6 W → Mem w0 W tb T (fun b => R b ∨ (b = sb ∨ b = kb)) S J4 (some ⟨gb, 0, none⟩) J6 c4 c5 c6 K B M x5 x6 from fun W h => HM3R.out.below (below_seq HB6.out h))
  have HX := Lib.hid (show ∀ W, Below W6.heap.size W6 W → (W.rangeAt gb (j * 18) (x.key.map bv) ∧ W.cell? ⟨gb, j * 18 + 16, none⟩ = some (.int .i64 x.us) ∧ W.cell? ⟨gb, j * 18 + 17, none⟩ = some (.slice A' x.body.length c')) ∧ RdB W W.heap.size A' x.body.length c' x.body from fun W h => HX3.out W (below_seq HB6.out h))
  have hd6 : Below W6.heap.size W6 W6.drew := below_of_drew (w := W6) (w' := W6.drew) ⟨1, rfl⟩ _
  clear hdb hD6 HD6 HGN6 HW6
  go_wp2_with fail
  refine wp_region_held_drew (S := fun w' => Below W6.heap.size W6 w') (by kernel_rfl) hd6 (fun hHeld => ?_)
  refine wpAnyH_take (i := 0) (v := .pointer (some ⟨tb, 0, none⟩)) rfl (by kernel_rfl) (by kernel_rfl) (by kernel_rfl) (fun c a w h => HPAN.out c _ _ w h) (Or.inl ⟨by rfl, fun wq hSw => by go_simp⟩) (by assumption) ?_
  go_simp
  refine wpAnyH_take (i := 1) (v := .agg KV) rfl (by kernel_rfl) (by kernel_rfl) (by kernel_rfl) (fun c a w h => HPAN.out c _ _ w h) (Or.inl ⟨by rfl, fun wq hSw => by exact run_load_arr (HF.out wq hSw).2.1 Try.underlying32 HIK.out rfl rfl⟩) (by assumption) ?_
  go_simp
  refine wpAnyH_take (i := 2) (v := .pointer (some ⟨sb, 3, none⟩)) rfl (by kernel_rfl) (by kernel_rfl) (by kernel_rfl) (fun c a w h => HPAN.out c _ _ w h) (Or.inl ⟨by rfl, fun wq hSw => by go_simp⟩) (by assumption) ?_
  go_simp
  refine wpAnyH_take (i := 3) (v := .string s.text) rfl (by kernel_rfl) (by kernel_rfl) (by kernel_rfl) (fun c a w h => HPAN.out c _ _ w h) (Or.inl ⟨by rfl, fun wq hSw => by (have qq : wq.cell? ⟨sb, 3, none⟩ = some (.string s.text) := (by rw [cell_of_row _ _ _ _ _ _ (HF.out wq hSw).2.2]; rfl)); go_simp⟩) (by assumption) ?_
  go_simp
  refine wpAnyH_take (i := 4) (v := .int .i64 (s.text.size : Int)) rfl (by kernel_rfl) (by kernel_rfl) (by kernel_rfl) (fun c a w h => HPAN.out c _ _ w h) (Or.inl ⟨by rfl, fun wq hSw => by go_simp⟩) (by assumption) ?_
  go_simp
  refine wpAnyH_take (i := 5) (v := .slice (some ⟨db, 0, none⟩) 16 16) rfl (by kernel_rfl) (by kernel_rfl) (by kernel_rfl) (fun c a w h => HPAN.out c _ _ w h) (Or.inl ⟨by rfl, fun wq hSw => by go_simp⟩) (by assumption) ?_
  go_simp
  have hop := (HTE.out _ hd6).te.open_ (u := (s.text.size : Int)) HBQ.out (mk_len 107 ta) (HDB.out _ hd6)
  rw [← HKV.out] at hop
  refine wpAnyH_ready (rs := [6]) (by kernel_rfl) (by simp) ?_
  refine AllReadyH.cons rfl (fun K' hK => ?_) AllReadyH.nil
  go_simp
  go_at_call 17
  refine hop.mono ?_
  rintro e wo (⟨hyes, _⟩ | ⟨_, rfl, hbo⟩)
  · exact absurd hyes.1 HKE.out
  have hbo6 := below_seq hd6 hbo
  have HBO := Lib.hid hbo6
  try go_simp
  refine hK.out _ _ hbo6 (fun hHeld2 => ?_)
  clear hK K' hop hbo hbo6 hHeld
  refine wpAnyH_take (i := 7) (v := .tuple #[.slice none 0 0, .bool false]) rfl (by kernel_rfl) (by kernel_rfl) (by kernel_rfl) (fun c a w h => HPAN.out c _ _ w h) (Or.inl ⟨by rfl, fun wq hSw => by go_simp⟩) (by assumption) ?_
  go_simp
  refine wpAnyH_take (i := 8) (v := .slice none 0 0) rfl (by kernel_rfl) (by kernel_rfl) (by kernel_rfl) (fun c a w h => HPAN.out c _ _ w h) (Or.inl ⟨by rfl, fun wq hSw => by go_simp⟩) (by assumption) ?_
  go_simp
  refine wpAnyH_take (i := 9) (v := .bool false) rfl (by kernel_rfl) (by kernel_rfl) (by kernel_rfl) (fun c a w h => HPAN.out c _ _ w h) (Or.inl ⟨by rfl, fun wq hSw => by go_simp⟩) (by assumption) ?_
  go_simp
  refine wpAnyH_take (i := 10) (v := .slice none 0 0) rfl (by kernel_rfl) (by kernel_rfl) (by kernel_rfl) (fun c a w h => HPAN.out c _ _ w h) (Or.inl ⟨by rfl, fun wq hSw => by go_simp⟩) (by assumption) ?_
  go_simp
  refine wpAnyH_take (i := 11) (v := .bool false) rfl (by kernel_rfl) (by kernel_rfl) (by kernel_rfl) (fun c a w h => HPAN.out c _ _ w h) (Or.inl ⟨by rfl, fun wq hSw => by go_simp⟩) (by assumption) ?_
  go_simp
  refine wpAnyH_done (by kernel_rfl) ?_ _
  clear hHeld2 hd6
  have q2 : wo.cell? ⟨sb, 2, none⟩ = some (.int .i64 s.b) := by rw [cell_of_row _ _ _ _ _ _ (HF.out _ HBO.out).2.2]; rfl
  go_wp2_with fail
  clear q2
  obtain ⟨wp, hwp⟩ : ∃ z, z = wo.drew := ⟨_, rfl⟩
  have hbp : Below W6.heap.size W6 wo.drew := below_seq HBO.out (below_of_drew (w := wo) (w' := wo.drew) ⟨1, rfl⟩ _)
  have hbop : Below wo.heap.size wo wo.drew := below_of_drew (w := wo) (w' := wo.drew) ⟨1, rfl⟩ _
  refine wp_region_held_drew (S := fun w' => Below W6.heap.size W6 w') (by kernel_rfl) hbp (fun hHeld => ?_)
  rw [← hwp] at hHeld hbp hbop ⊢
  have HBP := Lib.hid hbp
  have HBOP := Lib.hid hbop
  clear hwp hbp hbop
  refine wpAnyH_take (i := 0) (v := .int .i64 (q : Int)) rfl (by kernel_rfl) (by kernel_rfl) (by kernel_rfl) (fun c a w h => HPAN.out c _ _ w h) (Or.inl ⟨by rfl, fun wq hSw => by go_simp⟩) (by assumption) ?_
  go_simp
  refine wpAnyH_take (i := 1) (v := .bool true) rfl (by kernel_rfl) (by kernel_rfl) (by kernel_rfl) (fun c a w h => HPAN.out c _ _ w h) (Or.inl ⟨by rfl, fun wq hSw => by go_simp⟩) (by assumption) ?_
  go_simp
  refine wpAnyH_take (i := 2) (v := .bool true) rfl (by kernel_rfl) (by kernel_rfl) (by kernel_rfl) (fun c a w h => HPAN.out c _ _ w h) (Or.inl ⟨by rfl, fun wq hSw => by go_simp⟩) (by assumption) ?_
  go_simp
  refine wpAnyH_take (i := 3) (v := .int .i64 (q : Int)) rfl (by kernel_rfl) (by kernel_rfl) (by kernel_rfl) (fun c a w h => HPAN.out c _ _ w h) (Or.inl ⟨by rfl, fun wq hSw => by go_simp⟩) (by assumption) ?_
  go_simp
  refine wpAnyH_take (i := 4) (v := .slice (some ⟨gb, 0, none⟩) n5 c5) rfl (by kernel_rfl) (by kernel_rfl) (by kernel_rfl) (fun c a w h => HPAN.out c _ _ w h) (Or.inl ⟨by rfl, fun wq hSw => by go_simp⟩) (by assumption) ?_
  go_simp
  refine wpAnyH_take (i := 5) (v := .int .i64 (n5 : Int)) rfl (by kernel_rfl) (by kernel_rfl) (by kernel_rfl) (fun c a w h => HPAN.out c _ _ w h) (Or.inl ⟨by rfl, fun wq hSw => by go_simp⟩) (by assumption) ?_
  go_simp
  refine wpAnyH_take (i := 6) (v := .bool true) rfl (by kernel_rfl) (by kernel_rfl) (by kernel_rfl) (fun c a w h => HPAN.out c _ _ w h) (Or.inl ⟨by rfl, fun wq hSw => by go_simp⟩) (by assumption) ?_
  go_simp
  refine wpAnyH_take (i := 7) (v := .bool true) rfl (by kernel_rfl) (by kernel_rfl) (by kernel_rfl) (fun c a w h => HPAN.out c _ _ w h) (Or.inl ⟨by rfl, fun wq hSw => by go_simp⟩) (by assumption) ?_
  go_simp
  refine wpAnyH_take (i := 8) (v := .bool true) rfl (by kernel_rfl) (by kernel_rfl) (by kernel_rfl) (fun c a w h => HPAN.out c _ _ w h) (Or.inl ⟨by rfl, fun wq hSw => by go_simp⟩) (by assumption) ?_
  go_simp
  refine wpAnyH_take (i := 9) (v := .slice (some ⟨gb, 0, none⟩) n5 c5) rfl (by kernel_rfl) (by kernel_rfl) (by kernel_rfl) (fun c a w h => HPAN.out c _ _ w h) (Or.inl ⟨by rfl, fun wq hSw => by go_simp⟩) (by assumption) ?_
  go_simp
  refine wpAnyH_take (i := 10) (v := .int .i64 (q : Int)) rfl (by kernel_rfl) (by kernel_rfl) (by kernel_rfl) (fun c a w h => HPAN.out c _ _ w h) (Or.inl ⟨by rfl, fun wq hSw => by go_simp⟩) (by assumption) ?_
  go_simp
  refine wpAnyH_take (i := 11) (v := .int .i64 (j : Int)) rfl (by kernel_rfl) (by kernel_rfl) (by kernel_rfl) (fun c a w h => HPAN.out c _ _ w h) (Or.inl ⟨by rfl, fun wq hSw => by go_simp⟩) (by assumption) ?_
  go_simp
  refine wpAnyH_take (i := 12) (v := .pointer (some ⟨gb, j * 18, none⟩)) rfl (by kernel_rfl) (by kernel_rfl) (by kernel_rfl) (fun c a w h => HPAN.out c _ _ w h) (Or.inl ⟨by rfl, fun wq hSw => by go_simp⟩) (by assumption) ?_
  go_simp
  refine wpAnyH_take (i := 13) (v := .pointer (some ⟨gb, j * 18, none⟩)) rfl (by kernel_rfl) (by kernel_rfl) (by kernel_rfl) (fun c a w h => HPAN.out c _ _ w h) (Or.inl ⟨by rfl, fun wq hSw => by go_simp⟩) (by assumption) ?_
  go_simp
  refine wpAnyH_take (i := 14) (v := .agg XK) rfl (by kernel_rfl) (by kernel_rfl) (by kernel_rfl) (fun c a w h => HPAN.out c _ _ w h) (Or.inl ⟨by rfl, fun wq hSw => by rw [HXKV.out]; exact run_load_mid (HX.out wq hSw).1.1 Try.underlying36 rfl (by rw [List.length_map, HXK.out]; kernel_rfl) rfl rfl⟩) (by assumption) ?_
  go_simp
  refine wpAnyH_take (i := 15) (v := .agg KV) rfl (by kernel_rfl) (by kernel_rfl) (by kernel_rfl) (fun c a w h => HPAN.out c _ _ w h) (Or.inl ⟨by rfl, fun wq hSw => by exact run_load_arr (HF.out wq hSw).2.1 Try.underlying32 HIK.out rfl rfl⟩) (by assumption) ?_
  go_simp
  refine wpAnyH_take (i := 16) (v := .bool false) rfl (by kernel_rfl) (by kernel_rfl) (by kernel_rfl) (fun c a w h => HPAN.out c _ _ w h) (Or.inl ⟨by rfl, fun wq hSw => by go_simp⟩) (by assumption) ?_
  go_simp
  refine wpAnyH_take (i := 17) (v := .bool false) rfl (by kernel_rfl) (by kernel_rfl) (by kernel_rfl) (fun c a w h => HPAN.out c _ _ w h) (Or.inl ⟨by rfl, fun wq hSw => by go_simp⟩) (by assumption) ?_
  go_simp
  refine wpAnyH_take (i := 18) (v := .bool false) rfl (by kernel_rfl) (by kernel_rfl) (by kernel_rfl) (fun c a w h => HPAN.out c _ _ w h) (Or.inl ⟨by rfl, fun wq hSw => by go_simp⟩) (by assumption) ?_
  go_simp
  refine wpAnyH_take (i := 19) (v := undef) rfl (by kernel_rfl) (by kernel_rfl) (by kernel_rfl) (fun c a w h => HPAN.out c _ _ w h) (Or.inr ⟨by rfl, rfl⟩) (by assumption) ?_
  go_simp
  refine wpAnyH_take (i := 20) (v := undef) rfl (by kernel_rfl) (by kernel_rfl) (by kernel_rfl) (fun c a w h => HPAN.out c _ _ w h) (Or.inr ⟨by rfl, rfl⟩) (by assumption) ?_
  go_simp
  refine wpAnyH_take (i := 21) (v := undef) rfl (by kernel_rfl) (by kernel_rfl) (by kernel_rfl) (fun c a w h => HPAN.out c _ _ w h) (Or.inr ⟨by rfl, rfl⟩) (by assumption) ?_
  go_simp
  refine wpAnyH_take (i := 22) (v := undef) rfl (by kernel_rfl) (by kernel_rfl) (by kernel_rfl) (fun c a w h => HPAN.out c _ _ w h) (Or.inr ⟨by rfl, rfl⟩) (by assumption) ?_
  go_simp
  refine wpAnyH_take (i := 23) (v := undef) rfl (by kernel_rfl) (by kernel_rfl) (by kernel_rfl) (fun c a w h => HPAN.out c _ _ w h) (Or.inr ⟨by rfl, rfl⟩) (by assumption) ?_
  go_simp
  refine wpAnyH_take (i := 24) (v := undef) rfl (by kernel_rfl) (by kernel_rfl) (by kernel_rfl) (fun c a w h => HPAN.out c _ _ w h) (Or.inr ⟨by rfl, rfl⟩) (by assumption) ?_
  go_simp
  refine wpAnyH_take (i := 25) (v := undef) rfl (by kernel_rfl) (by kernel_rfl) (by kernel_rfl) (fun c a w h => HPAN.out c _ _ w h) (Or.inr ⟨by rfl, rfl⟩) (by assumption) ?_
  go_simp
  refine wpAnyH_take (i := 26) (v := undef) rfl (by kernel_rfl) (by kernel_rfl) (by kernel_rfl) (fun c a w h => HPAN.out c _ _ w h) (Or.inr ⟨by rfl, rfl⟩) (by assumption) ?_
  go_simp
  refine wpAnyH_take (i := 27) (v := undef) rfl (by kernel_rfl) (by kernel_rfl) (by kernel_rfl) (fun c a w h => HPAN.out c _ _ w h) (Or.inr ⟨by rfl, rfl⟩) (by assumption) ?_
  go_simp
  refine wpAnyH_take (i := 28) (v := undef) rfl (by kernel_rfl) (by kernel_rfl) (by kernel_rfl) (fun c a w h => HPAN.out c _ _ w h) (Or.inr ⟨by rfl, rfl⟩) (by assumption) ?_
  go_simp
  refine wpAnyH_take (i := 29) (v := .bool false) rfl (by kernel_rfl) (by kernel_rfl) (by kernel_rfl) (fun c a w h => HPAN.out c _ _ w h) (Or.inl ⟨by rfl, fun wq hSw => by go_simp⟩) (by assumption) ?_
  go_simp
  refine wpAnyH_take (i := 30) (v := .bool false) rfl (by kernel_rfl) (by kernel_rfl) (by kernel_rfl) (fun c a w h => HPAN.out c _ _ w h) (Or.inl ⟨by rfl, fun wq hSw => by go_simp⟩) (by assumption) ?_
  go_simp
  refine wpAnyH_done (by kernel_rfl) ?_ _
  clear hHeld
  go_wp2_with fail
  have hbox := (HTE.out _ HBP.out).te.box HBQ.out (HDB.out _ HBP.out)
  refine hbox.mono ?_
  rintro e wb ⟨Ab, cb, rfl, hownb, hbb⟩
  have HRBB := Lib.hid (show ∀ W, Below wb.heap.size wb W → RdB W W.heap.size Ab x.body.length cb x.body from fun W h => RdB.on (Rd.of_own hownb) h)
  obtain ⟨BV, hBV⟩ : ∃ z, z = slA x.key x.us Ab x.body.length cb := ⟨_, rfl⟩
  have hbv : (x.key.map bv ++ ([.int .i64 x.us, .slice Ab x.body.length cb] : List Value)).toArray = BV := hBV.symm
  rw [hbv]
  have HBV := Lib.hid hBV
  have hBs : BV.size = 18 := by rw [hBV]; exact slA_size HXK.out _ _ _ _
  have HBO1 := Lib.hid (show BV.all (·.oneCell') = true from by rw [hBV]; exact all_oneCell_toArray (by have := slA_one x.key x.us Ab x.body.length cb; exact this))
  clear hbox hownb hbv hBV
  have HB9 := Lib.hid (below_seq HBP.out hbb)
  obtain ⟨ZB, hZB⟩ : ∃ z, z = Z18 := ⟨_, rfl⟩
  have hz41 : ∀ w, (zeroValue 41).run Try.prog w = .ok (.agg ZB) w := fun w => by rw [hZB]; exact zero18 w
  have HIB := Lib.hid (show (Try.prog.info? 41).map (·.size) = some BV.size from by rw [hBs]; exact infoSl')
  have HZB := Lib.hid (show ZB.size = BV.size from by rw [hBs, hZB]; rfl)
  obtain ⟨W7, hW7⟩ : ∃ q, q = wb.alloc (.cells BV 41) := ⟨_, rfl⟩
  have hb7 : Below wb.heap.size wb W7 := by rw [hW7]; exact below_of_new _ _
  have HV7 := Lib.hid (show W7.heap[wb.heap.size]? = some (.cells BV 41 (0, 0)) from by rw [hW7]; exact heap_alloc_new _ _)
  have HB7 := Lib.hid hb7
  have HB67 := Lib.hid (below_seq HB9.out hb7)
  have HGN7 := Lib.hid (show ∀ z, (wb.alloc (.cells z 41)).heap[wb.heap.size]? = some (.cells z 41 (0, 0)) from fun z => heap_alloc_new wb _)
  have HW7 := Lib.hid (show wb.alloc (.cells BV 41) = W7 from hW7.symm)
  clear hW7 hb7 hbb hBs hZB
  go_wp2_with (refine wpList_store_row (o := ⟨none, _, _, _, _, _⟩) rfl 41 (.tmp 21) (.tmp 235) rfl wb.heap.size BV rfl rfl 41 _ (HGN7.out _) HIB.out HZB.out HBO1.out ?_; rw [World.setRow_alloc_new, HW7.out]; apply Hid.out)
  refine Lib.hid ?_
  clear hz41
  obtain ⟨xb, hxb⟩ : ∃ q, q = wb.heap.size := ⟨_, rfl⟩
  have hV7 := HV7.out
  rw [← hxb] at hV7 ⊢
  have HV7S := Lib.hid hV7
  clear hxb hV7 HV7 HGN7 HW7
  go_wp2_with fail
  obtain ⟨wd, hwd⟩ : ∃ z, z = W7.drew := ⟨_, rfl⟩
  have hb7d : Below W7.heap.size W7 W7.drew := below_of_drew (w := W7) (w' := W7.drew) ⟨1, rfl⟩ _
  refine wp_region_held_drew (S := fun w' => Below W7.heap.size W7 w') (by kernel_rfl) hb7d (fun hHeld => ?_)
  rw [← hwd] at hHeld hb7d ⊢
  have HB7D := Lib.hid hb7d
  clear hwd hb7d
  have HBR7 := Lib.hid (show ∀ W, Below W7.heap.size W7 W → W.rangeAt xb 0 (x.key.map bv) ∧ W.cell? ⟨xb, 16, none⟩ = some (.int .i64 x.us) ∧ W.cell? ⟨xb, 17, none⟩ = some (.slice Ab x.body.length cb) from fun W h => by
    have hrow : W.heap[xb]? = some (.cells BV 41 (0, 0)) := (h.block _ (Array.getElem?_eq_some_iff.1 HV7S.out).1).trans HV7S.out
    have hr : W.rangeAt xb 0 (x.key.map bv ++ ([.int .i64 x.us, .slice Ab x.body.length cb] : List Value)) := fun i v hv => by
      rw [cell_of_row _ _ _ _ _ _ hrow, HBV.out, slA, Nat.zero_add]
      simpa using hv
    have := range_sl HXK.out hr
    simpa using this)
  refine wpAnyH_take (i := 0) (v := .bool true) rfl (by kernel_rfl) (by kernel_rfl) (by kernel_rfl) (fun c a w h => HPAN.out c _ _ w h) (Or.inl ⟨by rfl, fun wq hSw => by go_simp⟩) (by assumption) ?_
  go_simp
  refine wpAnyH_take (i := 1) (v := .int .i64 (q : Int)) rfl (by kernel_rfl) (by kernel_rfl) (by kernel_rfl) (fun c a w h => HPAN.out c _ _ w h) (Or.inl ⟨by rfl, fun wq hSw => by go_simp⟩) (by assumption) ?_
  go_simp
  refine wpAnyH_take (i := 2) (v := .bool true) rfl (by kernel_rfl) (by kernel_rfl) (by kernel_rfl) (fun c a w h => HPAN.out c _ _ w h) (Or.inl ⟨by rfl, fun wq hSw => by go_simp⟩) (by assumption) ?_
  go_simp
  refine wpAnyH_take (i := 3) (v := .bool true) rfl (by kernel_rfl) (by kernel_rfl) (by kernel_rfl) (fun c a w h => HPAN.out c _ _ w h) (Or.inl ⟨by rfl, fun wq hSw => by go_simp⟩) (by assumption) ?_
  go_simp
  refine wpAnyH_take (i := 4) (v := .int .i64 (q : Int)) rfl (by kernel_rfl) (by kernel_rfl) (by kernel_rfl) (fun c a w h => HPAN.out c _ _ w h) (Or.inl ⟨by rfl, fun wq hSw => by go_simp⟩) (by assumption) ?_
  go_simp
  refine wpAnyH_take (i := 5) (v := .slice (some ⟨gb, 0, none⟩) n5 c5) rfl (by kernel_rfl) (by kernel_rfl) (by kernel_rfl) (fun c a w h => HPAN.out c _ _ w h) (Or.inl ⟨by rfl, fun wq hSw => by go_simp⟩) (by assumption) ?_
  go_simp
  refine wpAnyH_take (i := 6) (v := .int .i64 (n5 : Int)) rfl (by kernel_rfl) (by kernel_rfl) (by kernel_rfl) (fun c a w h => HPAN.out c _ _ w h) (Or.inl ⟨by rfl, fun wq hSw => by go_simp⟩) (by assumption) ?_
  go_simp
  refine wpAnyH_take (i := 7) (v := .bool true) rfl (by kernel_rfl) (by kernel_rfl) (by kernel_rfl) (fun c a w h => HPAN.out c _ _ w h) (Or.inl ⟨by rfl, fun wq hSw => by go_simp⟩) (by assumption) ?_
  go_simp
  refine wpAnyH_take (i := 8) (v := .bool true) rfl (by kernel_rfl) (by kernel_rfl) (by kernel_rfl) (fun c a w h => HPAN.out c _ _ w h) (Or.inl ⟨by rfl, fun wq hSw => by go_simp⟩) (by assumption) ?_
  go_simp
  refine wpAnyH_take (i := 9) (v := .bool false) rfl (by kernel_rfl) (by kernel_rfl) (by kernel_rfl) (fun c a w h => HPAN.out c _ _ w h) (Or.inl ⟨by rfl, fun wq hSw => by go_simp⟩) (by assumption) ?_
  go_simp
  refine wpAnyH_take (i := 10) (v := .bool false) rfl (by kernel_rfl) (by kernel_rfl) (by kernel_rfl) (fun c a w h => HPAN.out c _ _ w h) (Or.inl ⟨by rfl, fun wq hSw => by go_simp⟩) (by assumption) ?_
  go_simp
  refine wpAnyH_take (i := 11) (v := .bool true) rfl (by kernel_rfl) (by kernel_rfl) (by kernel_rfl) (fun c a w h => HPAN.out c _ _ w h) (Or.inl ⟨by rfl, fun wq hSw => by go_simp⟩) (by assumption) ?_
  go_simp
  refine wpAnyH_take (i := 12) (v := .bool true) rfl (by kernel_rfl) (by kernel_rfl) (by kernel_rfl) (fun c a w h => HPAN.out c _ _ w h) (Or.inl ⟨by rfl, fun wq hSw => by go_simp⟩) (by assumption) ?_
  go_simp
  refine wpAnyH_take (i := 13) (v := .pointer (some ⟨xb, 0, none⟩)) rfl (by kernel_rfl) (by kernel_rfl) (by kernel_rfl) (fun c a w h => HPAN.out c _ _ w h) (Or.inl ⟨by rfl, fun wq hSw => by go_simp⟩) (by assumption) ?_
  go_simp
  refine wpAnyH_take (i := 14) (v := .agg XK) rfl (by kernel_rfl) (by kernel_rfl) (by kernel_rfl) (fun c a w h => HPAN.out c _ _ w h) (Or.inl ⟨by rfl, fun wq hSw => by rw [HXKV.out]; exact run_load_mid (HBR7.out wq hSw).1 Try.underlying36 rfl (by rw [List.length_map, HXK.out]; kernel_rfl) rfl rfl⟩) (by assumption) ?_
  go_simp
  refine wpAnyH_take (i := 15) (v := .slice (some ⟨gb, 0, none⟩) n5 c5) rfl (by kernel_rfl) (by kernel_rfl) (by kernel_rfl) (fun c a w h => HPAN.out c _ _ w h) (Or.inl ⟨by rfl, fun wq hSw => by go_simp⟩) (by assumption) ?_
  go_simp
  refine wpAnyH_take (i := 16) (v := .int .i64 (q : Int)) rfl (by kernel_rfl) (by kernel_rfl) (by kernel_rfl) (fun c a w h => HPAN.out c _ _ w h) (Or.inl ⟨by rfl, fun wq hSw => by go_simp⟩) (by assumption) ?_
  go_simp
  refine wpAnyH_take (i := 17) (v := .int .i64 (j : Int)) rfl (by kernel_rfl) (by kernel_rfl) (by kernel_rfl) (fun c a w h => HPAN.out c _ _ w h) (Or.inl ⟨by rfl, fun wq hSw => by go_simp⟩) (by assumption) ?_
  go_simp
  refine wpAnyH_take (i := 18) (v := .pointer (some ⟨gb, j * 18, none⟩)) rfl (by kernel_rfl) (by kernel_rfl) (by kernel_rfl) (fun c a w h => HPAN.out c _ _ w h) (Or.inl ⟨by rfl, fun wq hSw => by go_simp⟩) (by assumption) ?_
  go_simp
  refine wpAnyH_take (i := 19) (v := .pointer (some ⟨gb, j * 18, none⟩)) rfl (by kernel_rfl) (by kernel_rfl) (by kernel_rfl) (fun c a w h => HPAN.out c _ _ w h) (Or.inl ⟨by rfl, fun wq hSw => by go_simp⟩) (by assumption) ?_
  go_simp
  refine wpAnyH_take (i := 20) (v := .agg XK) rfl (by kernel_rfl) (by kernel_rfl) (by kernel_rfl) (fun c a w h => HPAN.out c _ _ w h) (Or.inl ⟨by rfl, fun wq hSw => by rw [HXKV.out]; exact run_load_mid (HX.out wq (below_seq HB67.out hSw)).1.1 Try.underlying36 rfl (by rw [List.length_map, HXK.out]; kernel_rfl) rfl rfl⟩) (by assumption) ?_
  go_simp
  refine wpAnyH_take (i := 21) (v := .bool false) rfl (by kernel_rfl) (by kernel_rfl) (by kernel_rfl) (fun c a w h => HPAN.out c _ _ w h) (Or.inl ⟨by rfl, fun wq hSw => by go_simp⟩) (by assumption) ?_
  go_simp
  refine wpAnyH_take (i := 22) (v := .bool false) rfl (by kernel_rfl) (by kernel_rfl) (by kernel_rfl) (fun c a w h => HPAN.out c _ _ w h) (Or.inl ⟨by rfl, fun wq hSw => by go_simp⟩) (by assumption) ?_
  go_simp
  refine wpAnyH_take (i := 23) (v := .pointer (some ⟨xb, 16, none⟩)) rfl (by kernel_rfl) (by kernel_rfl) (by kernel_rfl) (fun c a w h => HPAN.out c _ _ w h) (Or.inl ⟨by rfl, fun wq hSw => by go_simp⟩) (by assumption) ?_
  go_simp
  refine wpAnyH_take (i := 24) (v := .int .i64 x.us) rfl (by kernel_rfl) (by kernel_rfl) (by kernel_rfl) (fun c a w h => HPAN.out c _ _ w h) (Or.inl ⟨by rfl, fun wq hSw => by (have qq := (HBR7.out wq hSw).2.1); go_simp⟩) (by assumption) ?_
  go_simp
  refine wpAnyH_take (i := 25) (v := .slice (some ⟨gb, 0, none⟩) n5 c5) rfl (by kernel_rfl) (by kernel_rfl) (by kernel_rfl) (fun c a w h => HPAN.out c _ _ w h) (Or.inl ⟨by rfl, fun wq hSw => by go_simp⟩) (by assumption) ?_
  go_simp
  refine wpAnyH_take (i := 26) (v := .int .i64 (q : Int)) rfl (by kernel_rfl) (by kernel_rfl) (by kernel_rfl) (fun c a w h => HPAN.out c _ _ w h) (Or.inl ⟨by rfl, fun wq hSw => by go_simp⟩) (by assumption) ?_
  go_simp
  refine wpAnyH_take (i := 27) (v := .int .i64 (j : Int)) rfl (by kernel_rfl) (by kernel_rfl) (by kernel_rfl) (fun c a w h => HPAN.out c _ _ w h) (Or.inl ⟨by rfl, fun wq hSw => by go_simp⟩) (by assumption) ?_
  go_simp
  refine wpAnyH_take (i := 28) (v := .pointer (some ⟨gb, j * 18, none⟩)) rfl (by kernel_rfl) (by kernel_rfl) (by kernel_rfl) (fun c a w h => HPAN.out c _ _ w h) (Or.inl ⟨by rfl, fun wq hSw => by go_simp⟩) (by assumption) ?_
  go_simp
  refine wpAnyH_take (i := 29) (v := .pointer (some ⟨gb, j * 18 + 16, none⟩)) rfl (by kernel_rfl) (by kernel_rfl) (by kernel_rfl) (fun c a w h => HPAN.out c _ _ w h) (Or.inl ⟨by rfl, fun wq hSw => by go_simp⟩) (by assumption) ?_
  go_simp
  refine wpAnyH_take (i := 30) (v := .int .i64 x.us) rfl (by kernel_rfl) (by kernel_rfl) (by kernel_rfl) (fun c a w h => HPAN.out c _ _ w h) (Or.inl ⟨by rfl, fun wq hSw => by (have qq := (HX.out wq (below_seq HB67.out hSw)).1.2.1); go_simp⟩) (by assumption) ?_
  go_simp
  refine wpAnyH_take (i := 31) (v := .bool false) rfl (by kernel_rfl) (by kernel_rfl) (by kernel_rfl) (fun c a w h => HPAN.out c _ _ w h) (Or.inl ⟨by rfl, fun wq hSw => by go_simp⟩) (by assumption) ?_
  go_simp
  refine wpAnyH_take (i := 32) (v := .bool false) rfl (by kernel_rfl) (by kernel_rfl) (by kernel_rfl) (fun c a w h => HPAN.out c _ _ w h) (Or.inl ⟨by rfl, fun wq hSw => by go_simp⟩) (by assumption) ?_
  go_simp
  refine wpAnyH_take (i := 33) (v := .bool false) rfl (by kernel_rfl) (by kernel_rfl) (by kernel_rfl) (fun c a w h => HPAN.out c _ _ w h) (Or.inl ⟨by rfl, fun wq hSw => by go_simp⟩) (by assumption) ?_
  go_simp
  refine wpAnyH_take (i := 34) (v := .pointer (some ⟨xb, 17, none⟩)) rfl (by kernel_rfl) (by kernel_rfl) (by kernel_rfl) (fun c a w h => HPAN.out c _ _ w h) (Or.inl ⟨by rfl, fun wq hSw => by go_simp⟩) (by assumption) ?_
  go_simp
  refine wpAnyH_take (i := 35) (v := .slice Ab x.body.length cb) rfl (by kernel_rfl) (by kernel_rfl) (by kernel_rfl) (fun c a w h => HPAN.out c _ _ w h) (Or.inl ⟨by rfl, fun wq hSw => by (have qq := (HBR7.out wq hSw).2.2); go_simp⟩) (by assumption) ?_
  go_simp
  refine wpAnyH_take (i := 36) (v := .slice (some ⟨gb, 0, none⟩) n5 c5) rfl (by kernel_rfl) (by kernel_rfl) (by kernel_rfl) (fun c a w h => HPAN.out c _ _ w h) (Or.inl ⟨by rfl, fun wq hSw => by go_simp⟩) (by assumption) ?_
  go_simp
  refine wpAnyH_take (i := 37) (v := .int .i64 (q : Int)) rfl (by kernel_rfl) (by kernel_rfl) (by kernel_rfl) (fun c a w h => HPAN.out c _ _ w h) (Or.inl ⟨by rfl, fun wq hSw => by go_simp⟩) (by assumption) ?_
  go_simp
  refine wpAnyH_take (i := 38) (v := .int .i64 (j : Int)) rfl (by kernel_rfl) (by kernel_rfl) (by kernel_rfl) (fun c a w h => HPAN.out c _ _ w h) (Or.inl ⟨by rfl, fun wq hSw => by go_simp⟩) (by assumption) ?_
  go_simp
  refine wpAnyH_take (i := 39) (v := .pointer (some ⟨gb, j * 18, none⟩)) rfl (by kernel_rfl) (by kernel_rfl) (by kernel_rfl) (fun c a w h => HPAN.out c _ _ w h) (Or.inl ⟨by rfl, fun wq hSw => by go_simp⟩) (by assumption) ?_
  go_simp
  refine wpAnyH_take (i := 40) (v := .pointer (some ⟨gb, j * 18 + 17, none⟩)) rfl (by kernel_rfl) (by kernel_rfl) (by kernel_rfl) (fun c a w h => HPAN.out c _ _ w h) (Or.inl ⟨by rfl, fun wq hSw => by go_simp⟩) (by assumption) ?_
  go_simp
  refine wpAnyH_take (i := 41) (v := .slice A' x.body.length c') rfl (by kernel_rfl) (by kernel_rfl) (by kernel_rfl) (fun c a w h => HPAN.out c _ _ w h) (Or.inl ⟨by rfl, fun wq hSw => by (have qq := (HX.out wq (below_seq HB67.out hSw)).1.2.2); go_simp⟩) (by assumption) ?_
  go_simp
  have hsm := rsame_new _ _ _ _ _ _ x.body x.body _ (HRBB.out _ (below_seq HB7.out HB7D.out)) (HX.out _ (below_seq HB67.out HB7D.out)).2
  rw [show decide (x.body = x.body) = true from by simp] at hsm
  refine wpAnyH_ready (rs := [42]) (by kernel_rfl) (by simp) ?_
  refine AllReadyH.cons rfl (fun K' hK => ?_) AllReadyH.nil
  go_simp
  go_at_call 15
  refine hsm.mono ?_
  rintro e wz ⟨rfl, hbz⟩
  have hbz7 := below_seq HB7D.out hbz
  have HBZ := Lib.hid (below_seq HB67.out hbz7)
  try go_simp
  refine hK.out _ _ hbz7 (fun hHeld3 => ?_)
  clear hK K' hsm hbz hbz7 hHeld
  refine wpAnyH_take (i := 43) (v := .bool false) rfl (by kernel_rfl) (by kernel_rfl) (by kernel_rfl) (fun c a w h => HPAN.out c _ _ w h) (Or.inl ⟨by rfl, fun wq hSw => by go_simp⟩) (by assumption) ?_
  go_simp
  refine wpAnyH_take (i := 44) (v := .bool false) rfl (by kernel_rfl) (by kernel_rfl) (by kernel_rfl) (fun c a w h => HPAN.out c _ _ w h) (Or.inl ⟨by rfl, fun wq hSw => by go_simp⟩) (by assumption) ?_
  go_simp
  refine wpAnyH_take (i := 45) (v := .bool false) rfl (by kernel_rfl) (by kernel_rfl) (by kernel_rfl) (fun c a w h => HPAN.out c _ _ w h) (Or.inl ⟨by rfl, fun wq hSw => by go_simp⟩) (by assumption) ?_
  go_simp
  refine wpAnyH_take (i := 46) (v := .bool false) rfl (by kernel_rfl) (by kernel_rfl) (by kernel_rfl) (fun c a w h => HPAN.out c _ _ w h) (Or.inl ⟨by rfl, fun wq hSw => by go_simp⟩) (by assumption) ?_
  go_simp
  refine wpAnyH_done (by kernel_rfl) ?_ _
  have HM9 := Lib.hid (HTE.out _ HBZ.out)
  clear hHeld3
  have hkeys : Calls Try.prog 20 #[.pointer (some ⟨tb, 0, none⟩)] _ _ := HM9.out.te.keys
  rw [HP.out.rel.klen, ← HN4.out] at hkeys
  have hboxes : Calls Try.prog 21 #[.pointer (some ⟨tb, 0, none⟩)] _ _ := HM9.out.te.boxes
  rw [HP.out.bs, ← HN5.out] at hboxes
  go_wp2_with fail
  refine hkeys.mono ?_
  rintro e w8 ⟨rfl, rfl⟩
  clear hkeys
  go_wp2_with fail
  refine hboxes.mono ?_
  rintro e w8 ⟨rfl, rfl⟩
  clear hboxes
  go_wp2_with fail
  have e_hn4 := HN4.out
  have e_hn5 := HN5.out
  have e_hn6 := HN6.out
  subst e_hn4 e_hn5 e_hn6
  refine HEND.out _ _ ⟨PI.mk (k := k + 1) (by omega) HM9.out HP.out.up (by rfl), ?_⟩
  simp only [mu]
  show n - (intOf (.int .i64 ((k : Int) + 1))).toNat < n - k
  simp [intOf]; omega
end Go.Proofs.Ytbfcdlfjlailjaa.Sym
