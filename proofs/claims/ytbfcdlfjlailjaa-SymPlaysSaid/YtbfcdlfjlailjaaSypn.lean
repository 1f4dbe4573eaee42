/-
  SymPlays: a round: a sum that is known.
-/
import Derived.Test.YtbfcdlfjlailjaaSypqu
namespace Go.Proofs.Ytbfcdlfjlailjaa.Sym
open Go.RowKit
open Go.Proofs.Ytbfcdlfjlailjaa.Kit
open Go.Proofs.Ytbfcdlfjlailjaa.Oct
set_option linter.unusedVariables false

set_option maxRecDepth 1000000 in
set_option maxHeartbeats 8000000 in
theorem plays_k5_in {w0 w wr : World} {A : Option Addr} {n c tb k : Nat} {x37 x39 x40 x41 : Value} {u : Nat → Value} {T : Tab} {R S : Nat → Prop} {J4 J5 J6 : Option Addr} {c4 c5 c6 : Nat} {K : List Fm} {B : List Sl} {M : List (List UInt8)} {x5 x6 : List Value} {st : List Ps}
    (hx : RdPs w A n c st) (hb0 : Below w.heap.size w w0) (hk : k < n) (hn60 : n ≤ 60) (hM : Mem w0 wr tb T R S J4 J5 J6 c4 c5 c6 K B M x5 x6) (hP : Pl k K B M T)
    {b o : Nat} {s : Ps} (hA : A = some ⟨b, o, none⟩) (hsb : -9223372036854775808 ≤ s.b ∧ s.b ≤ 9223372036854775807) (hbody : ∀ W, Below w.heap.size w W → RdB W W.heap.size s.A s.n s.c s.body)
    (p0 : wr.cell? ⟨b, o + k * 5, none⟩ = some (.int .i64 s.kind)) (p1 : wr.cell? ⟨b, o + k * 5 + 1, none⟩ = some (.int .i64 s.a)) (p2 : wr.cell? ⟨b, o + k * 5 + 2, none⟩ = some (.int .i64 s.b)) (p3 : wr.cell? ⟨b, o + k * 5 + 3, none⟩ = some (.string s.text)) (p4 : wr.cell? ⟨b, o + k * 5 + 4, none⟩ = some (.slice s.A s.n s.c))
    (hl : s.text.size ≤ 40 ∧ s.n ≤ 40) (hkd : Hid (s.kind = 5)) (hin : s.body ∈ M) {Q : Exit → Act → World → Prop} (hend : ∀ a' w', PI w0 A n c tb x37 x39 x40 x41 a' w' ∧ mu n a' w' < n - k → Q .normal a' w') (hpan : ∀ c a a' w, Q (.panic c) a w → Q (.panic c) a' w) :
    Code.wp Try.prog playsBody Q ⟨FR A n c tb x37 x39 x40 x41 u (.slice J4 K.length c4) (.slice J5 B.length c5) (.slice J6 M.length c6) k, []⟩ wr := by
  subst hA
  obtain ⟨n4, hn4⟩ : ∃ q, q = K.length := ⟨_, rfl⟩
  obtain ⟨n5, hn5⟩ : ∃ q, q = B.length := ⟨_, rfl⟩
  obtain ⟨n6, hn6⟩ : ∃ q, q = M.length := ⟨_, rfl⟩
  rw [← hn4, ← hn5, ← hn6]
  have hlt : (k : Int) < (n : Int) := by omega
  have HM := Lib.hid hM
  have HP := Lib.hid hP
  have HX := Lib.hid hx
  have HB0 := Lib.hid hb0
  have HBODY := Lib.hid hbody
  have HEND := Lib.hid hend
  have HPAN := Lib.hid hpan
  have HN4 := Lib.hid hn4
  have HN5 := Lib.hid hn5
  have HN6 := Lib.hid hn6
  have h4k : n4 ≤ k := by rw [hn4]; exact hP.kl
  have h5k : n5 ≤ k := by rw [hn5]; exact hP.bl
  have h6k : n6 ≤ k := by rw [hn6]; exact hP.ml
  clear hM hP hx hb0 hbody hend hpan hn4 hn5 hn6
  simp only [FR]
  conv => arg 2; whnf
  have t1 : decide ((40 : Int) < (s.text.size : Int)) = false := decide_eq_false (by omega)
  have t2 : decide ((40 : Int) < (s.n : Int)) = false := decide_eq_false (by omega)
  obtain ⟨ta, hta31, hta⟩ := and31 s.a
  obtain ⟨ZV, hZ⟩ : ∃ q : Array Value, q = #[.int .u8 0, .int .u8 0, .int .u8 0, .int .u8 0, .int .u8 0, .int .u8 0, .int .u8 0, .int .u8 0, .int .u8 0, .int .u8 0, .int .u8 0, .int .u8 0, .int .u8 0, .int .u8 0, .int .u8 0, .int .u8 0] := ⟨_, rfl⟩
  have hz : ∀ w, (zeroValue 32).run Try.prog w = .ok (.agg ZV) w := fun w => by rw [hZ]; kernel_rfl
  have hzl : ZV.size = 16 := by rw [hZ]; rfl
  obtain ⟨KV, hKV⟩ : ∃ z, z = kv (mk 107 ta) := ⟨_, rfl⟩
  have hKs : KV.size = 16 := by rw [hKV, kv_size, mk_len]
  have HIK := Lib.hid (show (Try.prog.info? 32).map (·.size) = some KV.size from by rw [hKs]; kernel_rfl)
  have HPK := Lib.hid (show KV.all (·.oneCell') = true from by rw [hKV]; exact all_oneCell_toArray (bv_one _))
  have HZK := Lib.hid (show ZV.size = KV.size by rw [hzl, hKs])
  have HMK := Lib.hid (show ∀ W, Calls Try.prog 11 #[.int .u8 107, .int .i64 (ta : Int)] W fun e w' => e = .returned (.agg KV) ∧ Below W.heap.size W w' from fun W => by rw [hKV]; exact lmark_any 107 ta W (by omega))
  have HKV := Lib.hid hKV
  have HZV := Lib.hid hZ
  clear hKV hKs hZ
  obtain ⟨W1, hW1⟩ : ∃ q, q = wr.alloc (.cells s.arr 31) := ⟨_, rfl⟩
  have hb1 : Below wr.heap.size wr W1 := by rw [hW1]; exact below_of_new _ _
  have hg1 : W1.heap[wr.heap.size]? = some (.cells s.arr 31 (0, 0)) := by rw [hW1]; exact heap_alloc_new _ _
  have HW1 := Lib.hid (show wr.alloc (.cells #[.int .i64 s.kind, .int .i64 s.a, .int .i64 s.b, .string s.text, .slice s.A s.n s.c] 31) = W1 from hW1.symm)
  have HB1 := Lib.hid hb1
  have HG1 := Lib.hid hg1
  clear hW1 hb1 hg1
  have b0 : (s.kind == 0) = false := by rw [hkd.out]; rfl
  have b1 : (s.kind == 1) = false := by rw [hkd.out]; rfl
  have b2 : (s.kind == 2) = false := by rw [hkd.out]; rfl
  have b3 : (s.kind == 3) = false := by rw [hkd.out]; rfl
  have b4 : (s.kind == 4) = false := by rw [hkd.out]; rfl
  have b5 : (s.kind == 5) = true := by rw [hkd.out]; rfl
  clear hkd
  have q3 : W1.cell? ⟨wr.heap.size, 3, none⟩ = some (.string s.text) := by rw [cell_of_row _ _ _ _ _ _ HG1.out]; rfl
  have q4 : W1.cell? ⟨wr.heap.size, 4, none⟩ = some (.slice s.A s.n s.c) := by rw [cell_of_row _ _ _ _ _ _ HG1.out]; rfl
  have q1 : W1.cell? ⟨wr.heap.size, 1, none⟩ = some (.int .i64 s.a) := by rw [cell_of_row _ _ _ _ _ _ HG1.out]; rfl
  go_wp2_with (rw [HW1.out])
  refine (HMK.out _).mono ?_
  rintro e w2 ⟨rfl, hb2⟩
  obtain ⟨W3, hW3⟩ : ∃ q, q = w2.alloc (.cells KV 32) := ⟨_, rfl⟩
  have hb3 : Below wr.heap.size wr W3 := by rw [hW3]; exact below_alloc (below_seq HB1.out hb2) _
  have hlt1 : wr.heap.size < W1.heap.size := (Array.getElem?_eq_some_iff.1 HG1.out).1
  have hg2 := (hb2.block wr.heap.size hlt1).trans HG1.out
  have hg3 : W3.heap[wr.heap.size]? = some (.cells s.arr 31 (0, 0)) := by rw [hW3, heap_alloc_old _ _ (Array.getElem?_eq_some_iff.1 hg2).1]; exact hg2
  have hk3 : W3.heap[w2.heap.size]? = some (.cells KV 32 (0, 0)) := by rw [hW3]; exact heap_alloc_new _ _
  have hlt2 : wr.heap.size < w2.heap.size := (Array.getElem?_eq_some_iff.1 hg2).1
  have hM3 := HM.out.below hb3
  have HB3 := Lib.hid hb3
  have HG3 := Lib.hid hg3
  have HK3 := Lib.hid hk3
  have HM3 := Lib.hid hM3
  have HGN := Lib.hid (show ∀ z, (w2.alloc (.cells z 32)).heap[w2.heap.size]? = some (.cells z 32 (0, 0)) from fun z => heap_alloc_new w2 _)
  have q0 : W3.cell? ⟨wr.heap.size, 0, none⟩ = some (.int .i64 s.kind) := by rw [cell_of_row _ _ _ _ _ _ hg3]; rfl
  have HW3 := Lib.hid (show w2.alloc (.cells KV 32) = W3 from hW3.symm)
  clear hb2 hb3 hg2 hg3 hk3 hM3 q1 q3 q4 hW3
  go_wp2_with (refine wpList_store_row (o := ⟨none, _, _, _, _, _⟩) rfl 32 (.tmp 9) (.tmp 61) rfl w2.heap.size KV rfl rfl 32 _ (HGN.out _) HIK.out HZK.out HPK.out ?_; rw [World.setRow_alloc_new, HW3.out]; apply Hid.out)
  clear hz
  refine Lib.hid ?_
  have HIN := Lib.hid hin
  clear hin
  obtain ⟨sb, hsb⟩ : ∃ q, q = wr.heap.size := ⟨_, rfl⟩
  have hM3r := HM.out.room (w' := W3) HB3.out (g := wr.heap.size) (Nat.le_refl _) (Array.getElem?_eq_some_iff.1 HG3.out).1
  have hG3s := HG3.out
  rw [← hsb] at hM3r hG3s q0 ⊢
  have HM3R := Lib.hid hM3r
  have HG3S := Lib.hid hG3s
  have hzK : ∀ w, (zeroValue 32).run Try.prog w = .ok (.agg ZV) w := fun w => by rw [HZV.out]; kernel_rfl
  obtain ⟨N, hN⟩ : ∃ q, q = idxS M s.body + 1 := ⟨_, rfl⟩
  have HAT := Lib.hid (show At2 M s.body N from by rw [hN]; exact idx_at2 M HP.out.nd s.body)
  have hw3 : Below w.heap.size w W3 := below_seq HB0.out HM3.out.te.bel
  have HRB := Lib.hid (show ∀ W, Below W3.heap.size W3 W → RdB W W.heap.size s.A s.n s.c s.body from fun W hW => HBODY.out W (below_seq hw3 hW))
  have q4 : W3.cell? ⟨sb, 4, none⟩ = some (.slice s.A s.n s.c) := by rw [cell_of_row _ _ _ _ _ _ HG3S.out]; rfl
  have HR6 := Lib.hid (show ∀ (j : Nat) (g : List UInt8), M[j]? = some g → ∃ (gb : Nat) (A' : Option Addr) (c' : Nat), J6 = some ⟨gb, 0, none⟩ ∧ gb < W3.heap.size ∧ W3.cell? ⟨gb, j, none⟩ = some (.slice A' g.length c') ∧ RdB W3 W3.heap.size A' g.length c' g from fun j g hg => by
    obtain ⟨hjl, rfl⟩ := List.getElem?_eq_some_iff.1 hg
    have o6 := HM3.out.o6
    obtain ⟨A', c', h1, h2⟩ := SmRow.at_ M HM3.out.r6 j hjl
    rcases o6.2 with ⟨hv, h0⟩ | ⟨gb, cap, cur, hv, _⟩
    · omega
    · cases hv
      refine ⟨gb, A', c', rfl, (o6.lt gb rfl).2, (o6.cellAt j (by omega)).trans h1, h2.1, h2.2.1, h2.2.2.1, fun hn => ?_⟩
      obtain ⟨b', o', e', hb', hc'⟩ := h2.2.2.2 hn
      exact ⟨b', o', e', HM3.out.te.lt (HM3.out.s b' hb').1, hc'⟩)
  have HQ4 := Lib.hid (show ∀ W, Below W3.heap.size W3 W → W.cell? ⟨sb, 4, none⟩ = some (.slice s.A s.n s.c) from fun W hW => (hW.cell (p := ⟨sb, 4, none⟩) (Array.getElem?_eq_some_iff.1 HG3S.out).1).trans q4)
  have HNN := Lib.hid hN
  obtain ⟨DV, hDV⟩ : ∃ z, z = kv (mk 100 N) := ⟨_, rfl⟩
  have hDs : DV.size = 16 := by rw [hDV, kv_size, mk_len]
  have HID := Lib.hid (show (Try.prog.info? 32).map (·.size) = some DV.size from by rw [hDs]; kernel_rfl)
  have HPD := Lib.hid (show DV.all (·.oneCell') = true from by rw [hDV]; exact all_oneCell_toArray (bv_one _))
  have HZD := Lib.hid (show ZV.size = DV.size by rw [hzl, hDs])
  have hNle := HAT.out.le
  rw [← HN6.out] at hNle
  have HMKD := Lib.hid (show ∀ W, Calls Try.prog 11 #[.int .u8 100, .int .i64 (N : Int)] W fun e w' => e = .returned (.agg DV) ∧ Below W.heap.size W w' from fun W => by rw [hDV]; exact lmark_any 100 N W (by omega))
  have HDV := Lib.hid hDV
  clear hN hw3 hDs hDV hM3r hG3s hsb
  go_wp2_with fail
  go_loopw [23, 288] (fun va vi wx => ∃ j : Nat, j ≤ n6 ∧ va = .int .i64 (sofar N j : Nat) ∧ vi = .int .i64 (j : Nat) ∧ Below W3.heap.size W3 wx) (fun _ vi _ => n6 - (intOf vi).toNat)
  case atStart => exact ⟨0, by omega, by rw [HAT.out.start]; rfl, rfl, Below.refl _ _⟩
  case round =>
    obtain ⟨j, hj, rfl, rfl, hbx⟩ := hrel
    have HBX := Lib.hid hbx
    clear hbx
    have q4x := HQ4.out _ HBX.out
    by_cases hlj : j < n6
    · have l1 : (j : Int) < (n6 : Int) := by omega
      obtain ⟨g, hg⟩ : ∃ g, M[j]? = some g := ⟨M[j]'(by rw [← HN6.out]; exact hlj), List.getElem?_eq_getElem _⟩
      obtain ⟨gb, A', c', rfl, hgb, hc0, hrd⟩ := HR6.out j g hg
      have hc := (HBX.out.cell (p := ⟨gb, j, none⟩) hgb).trans hc0
      have he := rsame_new _ _ _ _ _ _ _ _ _ (hrd.on HBX.out) (HRB.out _ HBX.out)
      have HG := Lib.hid hg
      clear hg hrd hc0 hgb
      by_cases e : g = s.body
      · rw [decide_eq_true e] at he
        have HE := Lib.hid e
        clear e
        go_wp2_with fail
        refine he.mono ?_
        rintro e w' ⟨rfl, hb'⟩
        have HBY := Lib.hid (below_seq HBX.out hb')
        clear he hb'
        go_wp2_with fail
        go_roundw
        case rel => exact ⟨j + 1, by omega, by rw [HAT.out.hit (HE.out ▸ HG.out)]; go_num, by go_num, HBY.out⟩
        case measure => simp [intOf]; omega
      · rw [decide_eq_false e] at he
        have HE := Lib.hid e
        clear e
        go_wp2_with fail
        refine he.mono ?_
        rintro e w' ⟨rfl, hb'⟩
        have HBY := Lib.hid (below_seq HBX.out hb')
        clear he hb'
        go_wp2_with fail
        go_roundw
        case rel => exact ⟨j + 1, by omega, by rw [HAT.out.miss HG.out (fun q => HE.out q.symm)], by go_num, HBY.out⟩
        case measure => simp [intOf]; omega
    · obtain rfl : j = n6 := by omega
      have hpos := HAT.out.pos
      by_cases hNn : N ≤ j
      · have hsf : sofar N j = N := by rw [sofar, if_pos hNn]
        have hN0 : ((N : Int) == 0) = false := by simp; omega
        rw [hsf]
        have HMEM := Lib.hid (HAT.out.mem (by rw [← HN6.out]; exact hNn))
        clear hsf hNn hpos
        go_wp2_with fail
        refine (HMKD.out _).mono ?_
        rintro e w5 ⟨rfl, hb5⟩
        obtain ⟨W6, hW6⟩ : ∃ q, q = w5.alloc (.cells DV 32) := ⟨_, rfl⟩
        have hb35 := below_seq HBX.out hb5
        have hb6 : Below W3.heap.size W3 W6 := by rw [hW6]; exact below_alloc hb35 _
        have hD6 : W6.heap[w5.heap.size]? = some (.cells DV 32 (0, 0)) := by rw [hW6]; exact heap_alloc_new _ _
        have hM6 := HM3R.out.room hb6 (g := w5.heap.size) hb35.size (Array.getElem?_eq_some_iff.1 hD6).1
        have hG6 := (hb6.block sb (Array.getElem?_eq_some_iff.1 HG3S.out).1).trans HG3S.out
        have HM6 := Lib.hid hM6
        have HG6 := Lib.hid hG6
        have HD6 := Lib.hid hD6
        have HB6 := Lib.hid hb6
        have HGN6 := Lib.hid (show ∀ z, (w5.alloc (.cells z 32)).heap[w5.heap.size]? = some (.cells z 32 (0, 0)) from fun z => heap_alloc_new w5 _)
        have HW6 := Lib.hid (show w5.alloc (.cells DV 32) = W6 from hW6.symm)
        clear hW6 hb6 hD6 hM6 hG6 hb5 hb35
        go_wp2_with (refine wpList_store_row (o := ⟨none, _, _, _, _, _⟩) rfl 32 (.tmp 26) (.tmp 312) rfl w5.heap.size DV rfl rfl 32 _ (HGN6.out _) HID.out HZD.out HPD.out ?_; rw [World.setRow_alloc_new, HW6.out]; apply Hid.out)
        refine Lib.hid ?_
        go_wp2_with fail
        refine wp_region_held_drew (S := fun w' => w'.heap[w5.heap.size]? = some (.cells DV 32 (0, 0)) ∧ w'.heap[sb]? = some (.cells s.arr 31 (0, 0))) (by kernel_rfl) ⟨HD6.out, HG6.out⟩ (fun hHeld => ?_)
        refine wpAnyH_take (i := 0) (v := .pointer (some ⟨tb, 0, none⟩)) rfl (by kernel_rfl) (by kernel_rfl) (by kernel_rfl) (fun c a w h => HPAN.out c _ _ w h) (Or.inl ⟨by rfl, fun wq hSw => by go_simp⟩) (by assumption) ?_
        go_simp
        refine wpAnyH_take (i := 1) (v := .pointer (some ⟨sb, 4, none⟩)) rfl (by kernel_rfl) (by kernel_rfl) (by kernel_rfl) (fun c a w h => HPAN.out c _ _ w h) (Or.inl ⟨by rfl, fun wq hSw => by go_simp⟩) (by assumption) ?_
        go_simp
        refine wpAnyH_take (i := 2) (v := .slice s.A s.n s.c) rfl (by kernel_rfl) (by kernel_rfl) (by kernel_rfl) (fun c a w h => HPAN.out c _ _ w h) (Or.inl ⟨by rfl, fun wq hSw => by (have qq : wq.cell? ⟨sb, 4, none⟩ = some (.slice s.A s.n s.c) := (by rw [cell_of_row _ _ _ _ _ _ hSw.2]; rfl)); go_simp⟩) (by assumption) ?_
        go_simp
        refine wpAnyH_take (i := 4) (v := .slice (some ⟨w5.heap.size, 0, none⟩) 16 16) rfl (by kernel_rfl) (by kernel_rfl) (by kernel_rfl) (fun c a w h => HPAN.out c _ _ w h) (Or.inl ⟨by rfl, fun wq hSw => by go_simp⟩) (by assumption) ?_
        go_simp
        have hMd := HM6.out.below (below_of_drew (w := W6) (w' := W6.drew) ⟨1, rfl⟩ _)
        have hdg := hMd.te.digest (b := s.body) (HRB.out _ (below_seq HB6.out (below_of_drew (w := W6) (w' := W6.drew) ⟨1, rfl⟩ _))) (by omega) (by rw [HP.out.sm, ← HN6.out]; omega)
        rw [HP.out.sm, ← HNN.out] at hdg
        have HMD := Lib.hid hMd
        clear hMd
        refine wpAnyH_ready (rs := [3]) (by kernel_rfl) (by simp) ?_
        refine AllReadyH.cons rfl (fun K' hK => ?_) AllReadyH.nil
        go_simp
        go_at_call 19
        refine hdg.mono ?_
        rintro e w9 ⟨g, rfl, hg9, hgs, hte9, hrw9⟩
        have hM9 := HMD.out.turn (hte9.weak fun b h => .inl h) hrw9
        have hD9 : w9.heap[w5.heap.size]? = some (.cells DV 32 (0, 0)) := (hrw9.2 w5.heap.size (.inr rfl)).trans (by rw [heap_drew]; exact HD6.out)
        have hG9 : w9.heap[sb]? = some (.cells s.arr 31 (0, 0)) := (hrw9.2 sb (.inl (.inr rfl))).trans (by rw [heap_drew]; exact HG6.out)
        have hsm := rsame_new _ _ _ _ _ _ (mk 100 N) (mk 100 N) _ (rd_block (bs := mk 100 N) hg9 (mk_len _ _) (by omega)) (rd_block (bs := mk 100 N) (show w9.heap[w5.heap.size]? = some (.cells (kv (mk 100 N)) 32 (0, 0)) from by rw [← HDV.out]; exact hD9) (mk_len _ _) (by omega))
        try go_simp
        refine hK.out _ _ ⟨hD9, hG9⟩ (fun hHeld2 => ?_)
        clear hK K' hdg
        refine wpAnyH_ready (rs := [5]) (by kernel_rfl) (by simp) ?_
        refine AllReadyH.cons rfl (fun K' hK => ?_) AllReadyH.nil
        go_simp
        go_at_call 15
        refine hsm.mono ?_
        rintro e wz ⟨rfl, hbz⟩
        rw [show decide (mk 100 N = mk 100 N) = true from by simp]
        have HM9 := Lib.hid (hM9.below hbz)
        have hDz := (hbz.block _ (Array.getElem?_eq_some_iff.1 hD9).1).trans hD9
        have hGz := (hbz.block _ (Array.getElem?_eq_some_iff.1 hG9).1).trans hG9
        try go_simp
        refine hK.out _ _ ⟨hDz, hGz⟩ (fun hHeld3 => ?_)
        clear hK K' hsm
        refine wpAnyH_take (i := 6) (v := .bool false) rfl (by kernel_rfl) (by kernel_rfl) (by kernel_rfl) (fun c a w h => HPAN.out c _ _ w h) (Or.inl ⟨by rfl, fun wq hSw => by go_simp⟩) (by assumption) ?_
        go_simp
        refine wpAnyH_done (by kernel_rfl) ?_ _
        have HP9 := Lib.hid (HP.out.sum_in (HMEM.out))
        clear hDz hGz hbz hHeld hHeld2 hHeld3 hD9 hG9 hM9 hte9 hrw9 hg9 hgs
        have hkeys : Calls Try.prog 20 #[.pointer (some ⟨tb, 0, none⟩)] _ _ := HM9.out.te.keys
        rw [HP9.out.rel.klen, ← HN4.out] at hkeys
        have hboxes : Calls Try.prog 21 #[.pointer (some ⟨tb, 0, none⟩)] _ _ := HM9.out.te.boxes
        rw [HP9.out.bs, ← HN5.out] at hboxes
        go_wp2_with fail
        refine hkeys.mono ?_
        rintro e w8 ⟨rfl, rfl⟩
        clear hkeys
        go_wp2_with fail
        refine hboxes.mono ?_
        rintro e w8 ⟨rfl, rfl⟩
        clear hboxes
        go_wp2_with fail
        have e4 := HN4.out
        subst e4
        have e5 := HN5.out
        have e6 := HN6.out
        subst e5 e6
        refine HEND.out _ _ ⟨PI.mk (k := k + 1) (by omega) HM9.out HP9.out (by rfl), ?_⟩
        simp only [mu]
        show n - (intOf (.int .i64 ((k : Int) + 1))).toNat < n - k
        simp [intOf]; omega
      · have hsf : sofar N j = 0 := by rw [sofar, if_neg hNn]
        exact absurd HIN.out (HAT.out.not_mem (by rw [← HN6.out]; exact hNn))
end Go.Proofs.Ytbfcdlfjlailjaa.Sym
