/-
  THE CONTRACT of seal's Seal.
-/
import Derived.Test.YtgebdkbbdabomaaDoorSealc
import Derived.Deep.Onto
import Derived.Test.YtgebdkbbdabomaaDoorCuts
import Derived.Test.YtgebdkbbdabomaaDoorShaz
namespace Go.Proofs.YtgebdkbbdabomaaDoor.Seal
open Go.RowKit
open Go.Proofs.YtgebdkbbdabomaaDoor.Kit
open Go.Proofs.YtgebdkbbdabomaaDoor.Oct
open Go.Proofs.YtgebdkbbdabomaaDoor.Sha
open Go.Proofs.YtgebdkbbdabomaaDoor.Mac (derS derS_len macS macS_len strL strL_len derive_any sum_any text_any textS textS_len infoKz rd_str keyK keyK_len)
set_option linter.unusedVariables false

theorem join2 (A1 A2 : Option Addr) (n1 c1 n2 c2 : Nat) (xs ys : List UInt8) (W : World) (h1 : RdB W W.heap.size A1 n1 c1 xs) (h2 : RdB W W.heap.size A2 n2 c2 ys) (hn : n1 + n2 ≤ 10000000) :
    Calls Tryd.prog 39 #[.slice (some ⟨W.heap.size, 0, none⟩) 2 2] (W.alloc (.cells #[.slice A1 n1 c1, .slice A2 n2 c2] 22)) fun e w' => ∃ A' c', e = .returned (.slice A' (n1 + n2) c') ∧ w'.ownsRow W.heap.size 5 1 (.slice A' (n1 + n2) c') (n1 + n2) ((xs ++ ys).map bv) ∧ Below W.heap.size W w' := by
  have hj : joinL [⟨A1, n1, c1, xs⟩, ⟨A2, n2, c2, ys⟩] = xs ++ ys := by simp [joinL]
  have hl : (xs ++ ys).length = n1 + n2 := by rw [List.length_append, h1.len, h2.len]
  have h := joined_any (some ⟨W.heap.size, 0, none⟩) 2 2 _ [⟨A1, n1, c1, xs⟩, ⟨A2, n2, c2, ys⟩] (W.alloc (.cells #[.slice A1 n1 c1, .slice A2 n2 c2] 22)) (rd_cells (n := 2) W rfl rfl rfl (by omega))
    (by
      intro r hr
      simp only [List.mem_cons, List.not_mem_nil, or_false] at hr
      rcases hr with rfl | rfl
      · exact h1.lit _
      · exact h2.lit _) (Nat.le_refl _) (by rw [hj, hl]; omega)
  rw [hj, hl] at h
  exact h.mono fun e w' ⟨A', c', he, ho, hb⟩ => ⟨A', c', he, World.ownsRow.mono ho (by simp), below_seq (below_of_new W _) hb⟩
theorem boxS_len (k : List UInt8) (D : ByteArray) (num b : List UInt8) (h : num.length = 8) : (boxS k D num b).length = b.length + 24 := by
  rw [boxS, txtS, List.length_append, List.length_append, hidS_len, codS_len, h]; omega

set_option maxRecDepth 100000 in
set_option maxHeartbeats 4000000 in
theorem seal_any (g : Nat) (seed : List UInt8) (ks bs : Nat) (k : List UInt8) (hk : k.length = 16) (D : ByteArray) (u : Int) (hD : D.size ≤ 90) (Ab : Option Addr) (n c : Nat) (body : List UInt8) (w : World)
    (h : RealAt w g seed ks bs) (hR : Roots w) (hI : ∀ W, w.grownBy W (some g) → Ito W u D) (hne : g ≠ 0) (hbs : bs < 1000000) (hb : RdS w (fun b => b < w.heap.size ∧ b ≠ g) Ab n c (body.map bv)) (hn : n ≤ 900000) :
    Calls Tryd.prog 19 #[.pointer (some ⟨g, 0, none⟩), .agg (k.map bv).toArray, .int .i64 u, .slice Ab n c] w fun e w' => ∃ A' c', e = .returned (.slice A' (n + 24) c') ∧ w'.ownsRow w.heap.size 5 1 (.slice A' (n + 24) c') (n + 24) ((boxS k D (be 8 (bs + 1)) body).map bv) ∧ RealAt w' g seed ks (bs + 1) ∧ w.grownBy w' (some g) := by
  have hglt := h.lt
  obtain ⟨As, ns, cs, hg, hrd, hns⟩ := h
  obtain ⟨B1, hB1⟩ : ∃ q, q = bs + 1 := ⟨_, rfl⟩
  obtain ⟨KV, hKV⟩ : ∃ q, q = (k.map bv).toArray := ⟨_, rfl⟩
  have hKs : KV.size = 16 := by rw [hKV]; simp [hk]
  have hIK : (Tryd.prog.info? 30).map (·.size) = some KV.size := by rw [hKs]; exact infoKz
  have hg1 : (w.alloc (.cells KV 30)).heap[g]? = some (.cells #[.slice As ns cs, .int .u64 (ks : Int), .int .u64 (bs : Int)] 67 (0, 0)) := (heap_alloc_old w _ hglt).trans hg
  have c1 : (w.alloc (.cells KV 30)).cell? ⟨g, 2, none⟩ = some (.int .u64 (bs : Int)) := by rw [cell_of_row _ g 2 _ _ (0, 0) hg1]; rfl
  have f1 : (w.alloc (.cells KV 30)).frozen? ⟨g, 2, none⟩ = false := frozen_of_row _ g 2 _ _ hg1
  obtain ⟨V1, hV1⟩ : ∃ q, q = w.setCell ⟨g, 2, none⟩ (.int .u64 (B1 : Int)) := ⟨_, rfl⟩
  have hg2 : V1.heap[g]? = some (.cells #[.slice As ns cs, .int .u64 (ks : Int), .int .u64 (B1 : Int)] 67 (0, 0)) := by rw [hV1, heap_setCell_same w g 2 _ _ _ hg]; rfl
  have hgb : w.grownBy V1 (some g) := by
    rw [hV1]
    exact ⟨rfl, rfl, rfl, by simp [World.setCell], fun i hi hn => heap_setCell_other _ _ _ _ (fun e => hn (by rw [e]))⟩
  have hv1s : V1.heap.size = w.heap.size := by rw [hV1]; simp [World.setCell]
  have hr2 : RdB V1 g As ns cs seed := hrd.keep (fun p hp => World.cell?_of_block (gb_block hgb (by omega) (by omega)))
  have hR2 : Roots V1 := hR.gb hgb hne
  have hI2 : Ito V1 u D := hI V1 hgb
  have hb2 : RdB V1 V1.heap.size Ab n c body := by
    obtain ⟨h1, h2, h3, h4⟩ := hb
    refine ⟨h1, h2, h3, fun hn => ?_⟩
    obtain ⟨b, o, e, ⟨hb1, hb2⟩, hc⟩ := h4 hn
    exact ⟨b, o, e, by omega, fun j u hu => (World.cell?_of_block (gb_block hgb hb1 hb2)).trans (hc j u hu)⟩
  obtain ⟨V2, hV2⟩ : ∃ q, q = V1.alloc (.cells KV 30) := ⟨_, rfl⟩
  have hb12 : Below V1.heap.size V1 V2 := by rw [hV2]; exact below_of_new V1 _
  have hgk : V2.heap[w.heap.size]? = some (.cells KV 30 (0, 0)) := by rw [hV2, ← hv1s]; exact heap_alloc_new V1 _
  have c2 : V2.cell? ⟨g, 2, none⟩ = some (.int .u64 (B1 : Int)) := by
    have := (hb12.block g (by omega)).trans hg2
    rw [cell_of_row V2 g 2 _ _ (0, 0) this]; rfl
  rw [hV2, hV1] at c2
  have HGK := Lib.hid (show ∀ W, Below V2.heap.size V2 W → W.heap[w.heap.size]? = some (.cells KV 30 (0, 0)) from fun W h => (h.block _ (block_lt_of_heap hgk)).trans hgk)
  have HBODY := Lib.hid (show ∀ W, Below V2.heap.size V2 W → RdB W W.heap.size Ab n c body from fun W h => (hb2.on hb12).on h)
  have HROOT := Lib.hid (show ∀ W, Below V2.heap.size V2 W → Roots W from fun W h => (hR2.on hb12).on h)
  have HITO := Lib.hid (show ∀ W, Below V2.heap.size V2 W → Ito W u D from fun W h => (hI2.on hb12).on h)
  have hbl := hb2.len
  have eB : (bs : Int) + 1 = (B1 : Int) := by omega
  have hB18 : B1 < 18446744073709551616 := by omega
  have HB1 := Lib.hid hB1
  rw [← hB1, ← hKV]
  have HV1 := Lib.hid hV1
  have HV2 := Lib.hid hV2
  have HG2 := Lib.hid hg2
  have HR2 := Lib.hid hr2
  have HGB := Lib.hid hgb
  have HB12 := Lib.hid hb12
  have HV1S := Lib.hid hv1s
  have HKV := Lib.hid hKV
  have HIK := Lib.hid hIK
  clear hB1 hKV hKs hIK hg hg1 hg2 hV1 hV2 hgb hr2 hR2 hb2 hb12 hgk hv1s hrd hR hb hI hI2
  go_enter Tryd.func19, Tryd.ntmps19
  go_wp2_with fail
  rw [← HV1.out, ← HV2.out]
  refine (put_new B1 V2 hB18).mono ?_
  rintro e w3 ⟨A3, c3, rfl, hn3⟩
  have HN3 := Lib.hid hn3.rd
  have HB3 := Lib.hid hn3.bl
  clear hn3
  go_wp2_with (first
    | (refine wpList_load_row rfl 30 (.tmp 5) rfl w.heap.size rfl 30 KV (0, 0) _ (HGK.out _ HB3.out) Tryd.underlying30 rfl HIK.out ?_)
    | fail)
  have hcall := hide_any k hk D u hD A3 Ab c3 n c (be 8 B1) body w3 (HROOT.out _ HB3.out) (HITO.out _ HB3.out) HN3.out (HBODY.out _ HB3.out) (by omega)
  rw [← HKV.out] at hcall
  refine hcall.mono ?_
  rintro e w4 ⟨g4, rfl, hr4, hb4⟩
  have HN4 := Lib.hid (HN3.out.on hb4)
  have HR4 := Lib.hid hr4
  have HB4 := Lib.hid (below_seq HB3.out hb4)
  clear hr4 hb4 hcall
  go_wp2_with fail
  refine (join2 A3 (some ⟨g4, 0, none⟩) 8 c3 n n (be 8 B1) (hidS k D (be 8 B1) body) w4 HN4.out HR4.out (by omega)).mono ?_
  rintro e w5 ⟨A5, c5, rfl, ho5, hb5⟩
  have hr5 : RdB w5 w5.heap.size A5 (8 + n) c5 (txtS k D (be 8 B1) body) := Rd.of_own ho5
  have HR5 := Lib.hid hr5
  have HB5 := Lib.hid (below_seq HB4.out hb5)
  clear ho5 hb5 hr5
  go_wp2_with (first
    | (refine wpList_load_row rfl 30 (.tmp 5) rfl w.heap.size rfl 30 KV (0, 0) _ (HGK.out _ HB5.out) Tryd.underlying30 rfl HIK.out ?_)
    | fail)
  have hcall := code_any k hk D u hD A5 (8 + n) c5 (txtS k D (be 8 B1) body) w5 (HROOT.out _ HB5.out) (HITO.out _ HB5.out) HR5.out (by omega)
  rw [← HKV.out] at hcall
  refine hcall.mono ?_
  rintro e w6 ⟨A6, c6, rfl, hr6, hb6⟩
  have HT6 := Lib.hid (HR5.out.on hb6)
  have HR6 := Lib.hid hr6
  have HB6 := Lib.hid (below_seq HB5.out hb6)
  clear hr6 hb6 hcall
  go_wp2_with fail
  refine (join2 A5 A6 (8 + n) c5 16 c6 (txtS k D (be 8 B1) body) (codS k D (txtS k D (be 8 B1) body)) w6 HT6.out HR6.out (by omega)).mono ?_
  rintro e w7 ⟨A7, c7, rfl, ho7, hb7⟩
  have hb27 := below_seq HB6.out hb7
  have hbe : Below w.heap.size V1 w7 := by
    have h1 := HB12.out
    rw [HV1S.out] at h1
    exact low_seq h1 (by have := h1.size; have := HV1S.out; omega) hb27
  rw [show 8 + n + 16 = n + 24 from by omega] at ho7
  have ho8 := World.ownsRow.mono ho7 (show w.heap.size ≤ w6.heap.size by have := HB6.out.size; have := HB12.out.size; have := HV1S.out; omega)
  have HO8 := Lib.hid ho8
  have HBE := Lib.hid hbe
  clear ho7 hb7 hb27 hbe ho8
  go_wp2_with fail
  go_ret
  have hbe := HBE.out
  have h1 := HGB.out
  refine ⟨A7, c7, by rw [show 8 + n + 16 = n + 24 from by omega]; rfl, HO8.out, ⟨As, ns, cs, (hbe.block g hglt).trans HG2.out, HR2.out.keep (fun p hp => World.cell?_of_block (hbe.block p.block (by omega))), hns⟩, ?_⟩
  exact ⟨hbe.os.trans h1.os, hbe.tape.trans h1.tape, hbe.output.trans h1.output, by have := hbe.size; have := HV1S.out; omega, fun i hi hn => (hbe.block i hi).trans (h1.block i hi hn)⟩
end Go.Proofs.YtgebdkbbdabomaaDoor.Seal

/-
  THE CONTRACTS of seal's Open, at a box that was made for this key and usage, and of Text and Derive.
-/
namespace Go.Proofs.YtgebdkbbdabomaaDoor.Seal
open Go.RowKit
open Go.Proofs.YtgebdkbbdabomaaDoor.Kit
open Go.Proofs.YtgebdkbbdabomaaDoor.Oct
open Go.Proofs.YtgebdkbbdabomaaDoor.Sha
open Go.Proofs.YtgebdkbbdabomaaDoor.Mac (derS derS_len macS macS_len strL strL_len derive_any sum_any text_any textS textS_len infoKz rd_str keyK keyK_len)
set_option linter.unusedVariables false

theorem front_n (A : Option Addr) (n c q : Nat) (hq : q ≤ c) (w : World) : (Instr.slice 22 (.slice A n c) none (some (.int .i64 (q : Int))) none).run Tryd.prog w = .ok (.slice A q c) w := by
  rw [run_slice_h w 22 A n c undBs .i64 (q : Int) (by omega) (by omega), elemBs]
  have e : A.map (·.add 0) = A := by cases A <;> simp [Addr.add]
  simp [sliced, e]
set_option maxRecDepth 100000 in
theorem cut_at (b o n c q : Nat) (hq : q ≤ n) (hqc : q < c) (hnc : n ≤ c) (w : World) : (Instr.slice 22 (.slice (some ⟨b, o, none⟩) n c) (some (.int .i64 (q : Int))) none none).run Tryd.prog w = .ok (.slice (some ⟨b, o + q, none⟩) (n - q) (c - q)) w := by
  rw [run_cut Tryd.underlying22 elemBs (some ⟨b, o, none⟩) n c q hq hnc w, if_neg (by omega), Option.map_some, add_off]
set_option maxRecDepth 100000 in
theorem cut_mid (b o n c j q : Nat) (hj : j ≤ q) (hq : q ≤ c) (hjc : j < c) (hc : c ≤ 9223372036854775807) (w : World) : (Instr.slice 22 (.slice (some ⟨b, o, none⟩) n c) (some (.int .i64 (j : Int))) (some (.int .i64 (q : Int))) none).run Tryd.prog w = .ok (.slice (some ⟨b, o + j, none⟩) (q - j) (c - j)) w := by
  rw [run_cut2 Tryd.underlying22 elemBs (some ⟨b, o, none⟩) n c j q hj hq (by rw [IntKind.wrap_i64]; omega) w (q : Int) rfl, if_neg (by omega), Option.map_some, add_off]

set_option maxRecDepth 100000 in
set_option maxHeartbeats 4000000 in
theorem open_yes (g : Nat) (k : List UInt8) (hk : k.length = 16) (D : ByteArray) (u : Int) (hD : D.size ≤ 90) (Ab : Option Addr) (m c : Nat) (num body : List UInt8) (w : World) (hR : Roots w) (hI : Ito w u D) (hnum : num.length = 8)
    (hb : RdB w w.heap.size Ab (m + 24) c (boxS k D num body)) (hm : body.length = m) (hml : m ≤ 900000) :
    Calls Tryd.prog 21 #[.pointer (some ⟨g, 0, none⟩), .agg (k.map bv).toArray, .int .i64 u, .slice Ab (m + 24) c] w fun e w' => ∃ r, e = .returned (.tuple #[.slice (some ⟨r, 0, none⟩) m m, .bool true]) ∧ RdB w' w'.heap.size (some ⟨r, 0, none⟩) m m body ∧ Below w.heap.size w w' := by
  obtain ⟨b, o, rfl⟩ := hb.addr (by omega)
  have hrb := hb.room
  obtain ⟨n, hn⟩ : ∃ n, n = m + 24 := ⟨_, rfl⟩
  obtain ⟨q, hq⟩ : ∃ q, q = m + 8 := ⟨_, rfl⟩
  obtain ⟨X, hX⟩ : ∃ X, X = boxS k D num body := ⟨_, rfl⟩
  obtain ⟨T, hT⟩ : ∃ T, T = txtS k D num body := ⟨_, rfl⟩
  obtain ⟨C, hC⟩ : ∃ C, C = codS k D T := ⟨_, rfl⟩
  have hXT : X = T ++ C := by rw [hX, boxS, hC, hT]
  have hTl : T.length = q := by rw [hT, txtS, List.length_append, hidS_len, hnum, hm]; omega
  have hTn : T = num ++ hidS k D num body := by rw [hT, txtS]
  rw [← hX, ← hn] at hb
  have HTEXT := Lib.hid (show ∀ W, Below w.heap.size w W → RdB W W.heap.size (some ⟨b, o, none⟩) q c T from fun W h => by
    have := Rd.front (k := q) (hb.on h) (by omega)
    rw [← List.map_take, hXT, List.take_append_of_le_length (by omega), List.take_of_length_le (by omega)] at this
    exact this)
  have HCODE := Lib.hid (show ∀ W, Below w.heap.size w W → RdB W W.heap.size (some ⟨b, o + q, none⟩) 16 (c - q) C from fun W h => by
    have := RdB.cut (hb.on h) (k := q) (by omega) (by omega)
    rw [hXT, List.drop_append_of_le_length (by omega), List.drop_eq_nil_of_le (by omega), List.nil_append, show n - q = 16 from by omega] at this
    exact this)
  have HNUM := Lib.hid (show ∀ W, Below w.heap.size w W → RdB W W.heap.size (some ⟨b, o, none⟩) 8 c num from fun W h => by
    have := Rd.front (k := 8) (HTEXT.out W h) (by omega)
    rw [← List.map_take, hTn, List.take_append_of_le_length (by omega), List.take_of_length_le (by omega)] at this
    exact this)
  have HHID := Lib.hid (show ∀ W, Below w.heap.size w W → RdB W W.heap.size (some ⟨b, o + 8, none⟩) m (c - 8) (hidS k D num body) from fun W h => by
    have := RdB.cut (HTEXT.out W h) (k := 8) (by omega) (by omega)
    rw [hTn, List.drop_append_of_le_length (by omega), List.drop_eq_nil_of_le (by omega), List.nil_append, show q - 8 = m from by omega] at this
    exact this)
  obtain ⟨KL, hKL⟩ : ∃ q, q = k.map bv := ⟨_, rfl⟩
  have hKl : KL.length = 16 := by rw [hKL, List.length_map, hk]
  have hiK : (Tryd.prog.info? 30).map (·.size) = some KL.length := by rw [hKl]; exact infoKz
  obtain ⟨W1, hW1⟩ : ∃ q, q = w.alloc (.cells KL.toArray 30) := ⟨_, rfl⟩
  have hb1 : Below w.heap.size w W1 := by rw [hW1]; exact below_of_new w _
  have hg1 : W1.heap[w.heap.size]? = some (.cells KL.toArray 30 (0, 0)) := by rw [hW1]; exact heap_alloc_new w _
  have HAR := Lib.hid (show ∀ W, Below W1.heap.size W1 W → W.rangeAt w.heap.size 0 KL from fun W h => range_block ((h.block _ (block_lt_of_heap hg1)).trans hg1))
  have HCOD := Lib.hid (show ∀ W, Below W1.heap.size W1 W → Calls Tryd.prog 42 #[.agg KL.toArray, .int .i64 u, .slice (some ⟨b, o, none⟩) q c] W fun e w' => ∃ A' c', e = .returned (.slice A' 16 c') ∧ RdB w' w'.heap.size A' 16 c' C ∧ Below W.heap.size W w' from fun W h => by
    have := code_any k hk D u hD (some ⟨b, o, none⟩) q c T W (hR.on (below_seq hb1 h)) (hI.on (below_seq hb1 h)) (HTEXT.out W (below_seq hb1 h)) (by omega)
    rw [← hC] at this
    rw [hKL]; exact this)
  have HHIDE := Lib.hid (show ∀ W, Below W1.heap.size W1 W → Calls Tryd.prog 41 #[.agg KL.toArray, .int .i64 u, .slice (some ⟨b, o, none⟩) 8 c, .slice (some ⟨b, o + 8, none⟩) m (c - 8)] W fun e w' => ∃ r, e = .returned (.slice (some ⟨r, 0, none⟩) m m) ∧ RdB w' w'.heap.size (some ⟨r, 0, none⟩) m m body ∧ Below W.heap.size W w' from fun W h => by
    have := hide_any k hk D u hD (some ⟨b, o, none⟩) (some ⟨b, o + 8, none⟩) c m (c - 8) num (hidS k D num body) W (hR.on (below_seq hb1 h)) (hI.on (below_seq hb1 h)) (HNUM.out W (below_seq hb1 h)) (HHID.out W (below_seq hb1 h)) (by omega)
    rw [hidS_back] at this
    rw [hKL]; exact this)
  have hcut1 := cut_at b o n c q (by omega) (by omega) (by omega)
  rw [show n - q = 16 from by omega] at hcut1
  have hcut2 := front_n (some ⟨b, o, none⟩) n c q (by omega)
  have hcut3 : ∀ W, (Instr.slice 22 (.slice (some ⟨b, o, none⟩) n c) none (some (.int .i64 8)) none).run Tryd.prog W = .ok (.slice (some ⟨b, o, none⟩) 8 c) W := fun W => by
    have h := front_n (some ⟨b, o, none⟩) n c 8 (by omega) W
    rw [show ((8 : Nat) : Int) = 8 from rfl] at h
    exact h
  have hcut4 : ∀ W, (Instr.slice 22 (.slice (some ⟨b, o, none⟩) n c) (some (.int .i64 8)) (some (.int .i64 (q : Int))) none).run Tryd.prog W = .ok (.slice (some ⟨b, o + 8, none⟩) m (c - 8)) W := fun W => by
    have := cut_mid b o n c 8 q (by omega) (by omega) (by omega) hrb.2 W
    rw [show q - 8 = m from by omega, show ((8 : Nat) : Int) = 8 from rfl] at this
    exact this
  have t1 : decide ((n : Int) < 24) = false := by rw [decide_eq_false_iff_not]; omega
  have eq1 : (n : Int) - 16 = (q : Int) := by omega
  have wq : wrap64 (q : Int) = (q : Int) := by unfold wrap64; omega
  have HB1 := Lib.hid hb1
  have HW1 := Lib.hid hW1
  have hbd : Below W1.heap.size W1 W1.drew := below_of_drew ⟨1, rfl⟩ _
  have HLOW := Lib.hid (show ∀ W, Below W1.heap.size W1 W → Below w.heap.size w W from fun W h => below_seq hb1 h)
  rw [← hn, ← hKL]
  clear hn hq hX hT hC hXT hTl hTn hb hKL hW1 hb1 hg1 hR hI
  go_enter Tryd.func21, Tryd.ntmps21
  go_wp2_with fail
  rw [← HW1.out]
  have hu1 := Tryd.underlying30
  have p0 : True := trivial
  have p1 : True := trivial
  have p2 : True := trivial
  refine wp_region_held_drew (S := fun W => W.rangeAt w.heap.size 0 KL) (by kernel_rfl) (HAR.out _ (by assumption)) (fun hHeld => ?_)
  refine wpAnyH_take (i := 0) (v := .slice (some ⟨b, o, none⟩) n c) rfl (by kernel_rfl) (by kernel_rfl) (by kernel_rfl) (fun _ _ _ h => h) (Or.inl ⟨by rfl, fun w _ => by go_simp⟩) (by assumption) ?_
  go_simp
  refine wpAnyH_take (i := 1) (v := .int .i64 (q : Int)) rfl (by kernel_rfl) (by kernel_rfl) (by kernel_rfl) (fun _ _ _ h => h) (Or.inl ⟨by rfl, fun w _ => by go_simp⟩) (by assumption) ?_
  go_simp
  refine wpAnyH_take (i := 2) (v := .slice (some ⟨b, o + q, none⟩) 16 (c - q)) rfl (by kernel_rfl) (by kernel_rfl) (by kernel_rfl) (fun _ _ _ h => h) (Or.inl ⟨by rfl, fun w _ => by go_simp⟩) (by assumption) ?_
  go_simp
  refine wpAnyH_take (i := 3) (v := .agg KL.toArray) rfl (by kernel_rfl) (by kernel_rfl) (by kernel_rfl) (fun _ _ _ h => h) (yieldsIf_load_mid (by rfl) _ (.tmp 5) rfl w.heap.size 0 rfl KL _ (fun _ h => h) Tryd.underlying30 rfl hiK) (by assumption) ?_
  go_simp
  refine wpAnyH_take (i := 4) (v := .int .i64 u) rfl (by kernel_rfl) (by kernel_rfl) (by kernel_rfl) (fun _ _ _ h => h) (Or.inl ⟨by rfl, fun w _ => by go_simp⟩) (by assumption) ?_
  go_simp
  refine wpAnyH_take (i := 5) (v := .slice (some ⟨b, o, none⟩) n c) rfl (by kernel_rfl) (by kernel_rfl) (by kernel_rfl) (fun _ _ _ h => h) (Or.inl ⟨by rfl, fun w _ => by go_simp⟩) (by assumption) ?_
  go_simp
  refine wpAnyH_take (i := 6) (v := .int .i64 (q : Int)) rfl (by kernel_rfl) (by kernel_rfl) (by kernel_rfl) (fun _ _ _ h => h) (Or.inl ⟨by rfl, fun w _ => by go_simp⟩) (by assumption) ?_
  go_simp
  refine wpAnyH_take (i := 7) (v := .slice (some ⟨b, o, none⟩) q c) rfl (by kernel_rfl) (by kernel_rfl) (by kernel_rfl) (fun _ _ _ h => h) (Or.inl ⟨by rfl, fun w _ => by go_simp⟩) (by assumption) ?_
  go_simp
  refine wpAnyH_ready (rs := [8]) (by kernel_rfl) (by simp) ?_
  refine AllReadyH.cons rfl (fun K hK => ?_) AllReadyH.nil
  (go_simp; go_at_call 42; refine (HCOD.out _ (by assumption)).mono ?_; rintro e wa ⟨Aa, ca, rfl, hra, hba⟩; have hca := below_seq (show Below W1.heap.size W1 _ from (by assumption)) hba)
  try go_simp
  refine hK.out _ _ (HAR.out _ (by assumption)) (fun hHeld => ?_)
  clear hK K
  refine wpAnyH_ready (rs := [9]) (by kernel_rfl) (by simp) ?_
  refine AllReadyH.cons rfl (fun K hK => ?_) AllReadyH.nil
  (go_simp; go_at_call 43; refine (equal_new _ _ _ _ _ _ C C _ (HCODE.out _ (HLOW.out _ hca)) hra).mono ?_; rintro e wb ⟨rfl, hbb⟩; rw [show decide (C = C) = true from by simp]; have hcb := below_seq hca hbb)
  try go_simp
  refine hK.out _ _ (HAR.out _ (by assumption)) (fun hHeld => ?_)
  clear hK K
  refine wpAnyH_take (i := 10) (v := .bool false) rfl (by kernel_rfl) (by kernel_rfl) (by kernel_rfl) (fun _ _ _ h => h) (Or.inl ⟨by rfl, fun w _ => by go_simp⟩) (by assumption) ?_
  go_simp
  refine wpAnyH_done (by kernel_rfl) ?_ _
  obtain ⟨W2, hW2⟩ : ∃ W, W = wb := ⟨_, rfl⟩
  rw [← hW2] at hcb ⊢
  have HB2 := Lib.hid hcb
  have hbd2 : Below W1.heap.size W1 W2.drew := below_seq hcb (below_of_drew ⟨1, rfl⟩ _)
  clear hW2 hra hba hca hbb hcb hbd
  go_wp2_with fail
  refine wp_region_held_drew (S := fun W => W.rangeAt w.heap.size 0 KL) (by kernel_rfl) (HAR.out _ (by assumption)) (fun hHeld => ?_)
  refine wpAnyH_take (i := 0) (v := .agg KL.toArray) rfl (by kernel_rfl) (by kernel_rfl) (by kernel_rfl) (fun _ _ _ h => h) (yieldsIf_load_mid (by rfl) _ (.tmp 5) rfl w.heap.size 0 rfl KL _ (fun _ h => h) Tryd.underlying30 rfl hiK) (by assumption) ?_
  go_simp
  refine wpAnyH_take (i := 1) (v := .int .i64 u) rfl (by kernel_rfl) (by kernel_rfl) (by kernel_rfl) (fun _ _ _ h => h) (Or.inl ⟨by rfl, fun w _ => by go_simp⟩) (by assumption) ?_
  go_simp
  refine wpAnyH_take (i := 2) (v := .slice (some ⟨b, o, none⟩) n c) rfl (by kernel_rfl) (by kernel_rfl) (by kernel_rfl) (fun _ _ _ h => h) (Or.inl ⟨by rfl, fun w _ => by go_simp⟩) (by assumption) ?_
  go_simp
  refine wpAnyH_take (i := 3) (v := .slice (some ⟨b, o, none⟩) 8 c) rfl (by kernel_rfl) (by kernel_rfl) (by kernel_rfl) (fun _ _ _ h => h) (Or.inl ⟨by rfl, fun w _ => by go_simp⟩) (by assumption) ?_
  go_simp
  refine wpAnyH_take (i := 4) (v := .slice (some ⟨b, o, none⟩) n c) rfl (by kernel_rfl) (by kernel_rfl) (by kernel_rfl) (fun _ _ _ h => h) (Or.inl ⟨by rfl, fun w _ => by go_simp⟩) (by assumption) ?_
  go_simp
  refine wpAnyH_take (i := 5) (v := .int .i64 (q : Int)) rfl (by kernel_rfl) (by kernel_rfl) (by kernel_rfl) (fun _ _ _ h => h) (Or.inl ⟨by rfl, fun w _ => by go_simp⟩) (by assumption) ?_
  go_simp
  refine wpAnyH_take (i := 6) (v := .slice (some ⟨b, o + 8, none⟩) m (c - 8)) rfl (by kernel_rfl) (by kernel_rfl) (by kernel_rfl) (fun _ _ _ h => h) (Or.inl ⟨by rfl, fun w _ => by go_simp⟩) (by assumption) ?_
  go_simp
  refine wpAnyH_ready (rs := [7]) (by kernel_rfl) (by simp) ?_
  refine AllReadyH.cons rfl (fun K hK => ?_) AllReadyH.nil
  (go_simp; go_at_call 41; refine (HHIDE.out _ (by assumption)).mono ?_; rintro e wc ⟨r, rfl, hr, hbc⟩; have hcc := below_seq (show Below W1.heap.size W1 _ from (by assumption)) hbc)
  try go_simp
  refine hK.out _ _ (HAR.out _ (by assumption)) (fun hHeld => ?_)
  clear hK K
  refine wpAnyH_take (i := 8) (v := .slice (some ⟨r, 0, none⟩) m m) rfl (by kernel_rfl) (by kernel_rfl) (by kernel_rfl) (fun _ _ _ h => h) (Or.inl ⟨by rfl, fun w _ => by go_simp⟩) (by assumption) ?_
  go_simp
  refine wpAnyH_take (i := 9) (v := .bool true) rfl (by kernel_rfl) (by kernel_rfl) (by kernel_rfl) (fun _ _ _ h => h) (Or.inl ⟨by rfl, fun w _ => by go_simp⟩) (by assumption) ?_
  go_simp
  refine wpAnyH_done (by kernel_rfl) ?_ _
  have HBE := Lib.hid (below_seq HB1.out hcc)
  have HR := Lib.hid hr
  go_wp2_with fail
  go_ret2
  exact ⟨r, rfl, HR.out, HBE.out⟩
end Go.Proofs.YtgebdkbbdabomaaDoor.Seal

/-
  THE CONTRACTS of seal's Text, Derive and Digest.
-/
namespace Go.Proofs.YtgebdkbbdabomaaDoor.Seal
open Go.RowKit
open Go.Proofs.YtgebdkbbdabomaaDoor.Kit
open Go.Proofs.YtgebdkbbdabomaaDoor.Oct
open Go.Proofs.YtgebdkbbdabomaaDoor.Sha
open Go.Proofs.YtgebdkbbdabomaaDoor.Mac (derS derS_len macS macS_len strL strL_len derive_any sum_any text_any textS textS_len infoKz rd_str keyK keyK_len)
set_option linter.unusedVariables false

set_option maxRecDepth 100000 in
set_option maxHeartbeats 2000000 in
theorem textr_any (g : Nat) (p s : ByteArray) (hp : p.size ≤ 1000) (hs : s.size ≤ 1000) (w : World) (hR : Roots w) :
    Calls Tryd.prog 27 #[.pointer (some ⟨g, 0, none⟩), .string p, .string s] w fun e w' => e = .returned (.agg ((textS (strL p) (strL s)).map bv).toArray) ∧ Below w.heap.size w w' := by
  obtain ⟨ZV, hZ⟩ : ∃ q, q = Mac.Z16 := ⟨_, rfl⟩
  have hz : ∀ w, (zeroValue 30).run Tryd.prog w = .ok (.agg ZV) w := by rw [hZ]; exact Mac.z16
  have hzl : ZV.size = 16 := by rw [hZ]; rfl
  obtain ⟨PV, hPV⟩ : ∃ q, q = ((textS (strL p) (strL s)).map bv).toArray := ⟨_, rfl⟩
  have hPs : PV.size = 16 := by rw [hPV]; simp [textS_len]
  have hI : (Tryd.prog.info? 30).map (·.size) = some PV.size := by rw [hPs]; exact infoKz
  have hP1 : PV.all (·.oneCell') = true := by rw [hPV]; exact all_oneCell_toArray (bv_one _)
  have hcall := text_any p s (by omega) (by omega) (w.alloc (.cells ZV 30)) (hR.lit _)
  rw [← hPV] at hcall ⊢
  have hg0 := heap_alloc_new w (.cells ZV 30)
  have HCALL := Lib.hid hcall
  have HG0 := Lib.hid hg0
  have HI := Lib.hid hI
  have HP1 := Lib.hid hP1
  have HPS := Lib.hid hPs
  have HZL := Lib.hid hzl
  clear hZ hzl hPV hPs hI hP1 hcall hg0 hR
  go_enter Tryd.func27, Tryd.ntmps27
  go_wp2_with fail
  refine HCALL.out.mono ?_
  rintro e w2 ⟨rfl, hb2⟩
  have hg2 := (hb2.block w.heap.size (by simp)).trans HG0.out
  have HG2 := Lib.hid hg2
  have HB2 := Lib.hid (below_seq (below_of_new w _) hb2)
  clear hg2 hb2
  go_wp2_with (first
    | (refine wpList_store_row rfl 30 (.tmp 6) (.tmp 9) rfl w.heap.size PV rfl rfl 30 _ HG2.out HI.out (by rw [HZL.out, HPS.out]) HP1.out ?_)
    | fail)
  have hres := setRow_heap _ w.heap.size _ PV _ _ HG2.out
  refine bodyPost_ret (v := .agg PV) (results_cell_row Tryd.results27 _ _ w.heap.size 30 PV (0, 0) _ (by rfl) hres Tryd.underlying30 rfl HI.out) rfl ?_
  exact ⟨rfl, below_setRow HB2.out (Nat.le_refl _) _⟩

set_option maxRecDepth 100000 in
set_option maxHeartbeats 2000000 in
theorem deriver_any (g : Nat) (k : List UInt8) (hk : k.length = 16) (s : ByteArray) (hs : s.size ≤ 1000) (w : World) (hR : Roots w) :
    Calls Tryd.prog 28 #[.pointer (some ⟨g, 0, none⟩), .agg (k.map bv).toArray, .string s] w fun e w' => e = .returned (.agg ((derS k (strL s)).map bv).toArray) ∧ Below w.heap.size w w' := by
  obtain ⟨ZV, hZ⟩ : ∃ q, q = Mac.Z16 := ⟨_, rfl⟩
  have hz : ∀ w, (zeroValue 30).run Tryd.prog w = .ok (.agg ZV) w := by rw [hZ]; exact Mac.z16
  have hzl : ZV.size = 16 := by rw [hZ]; rfl
  obtain ⟨KV, hKV⟩ : ∃ q, q = (k.map bv).toArray := ⟨_, rfl⟩
  have hKs : KV.size = 16 := by rw [hKV]; simp [hk]
  have hIK : (Tryd.prog.info? 30).map (·.size) = some KV.size := by rw [hKs]; exact infoKz
  obtain ⟨PV, hPV⟩ : ∃ q, q = ((derS k (strL s)).map bv).toArray := ⟨_, rfl⟩
  have hPs : PV.size = 16 := by rw [hPV]; simp [derS_len]
  have hI : (Tryd.prog.info? 30).map (·.size) = some PV.size := by rw [hPs]; exact infoKz
  have hP1 : PV.all (·.oneCell') = true := by rw [hPV]; exact all_oneCell_toArray (bv_one _)
  obtain ⟨W2, hW2⟩ : ∃ q, q = (w.alloc (.cells KV 30)).alloc (.cells ZV 30) := ⟨_, rfl⟩
  have hg0 : W2.heap[w.heap.size]? = some (.cells KV 30 (0, 0)) := by rw [hW2]; exact (Mac.heap2 w _ _).1
  have hg1 : W2.heap[w.heap.size + 1]? = some (.cells ZV 30 (0, 0)) := by rw [hW2]; exact (Mac.heap2 w _ _).2
  have hb2 : Below w.heap.size w W2 := by rw [hW2]; exact below_alloc (below_of_new w _) _
  have hcall := derive_any k hk s (by omega) W2 (hR.on hb2)
  rw [← hPV, ← hKV] at hcall
  rw [← hPV, ← hKV]
  have HCALL := Lib.hid hcall
  have HW2 := Lib.hid hW2
  have HG0 := Lib.hid hg0
  have HG1 := Lib.hid hg1
  have HB2 := Lib.hid hb2
  have HIK := Lib.hid hIK
  have HI := Lib.hid hI
  have HP1 := Lib.hid hP1
  have HPS := Lib.hid hPs
  have HZL := Lib.hid hzl
  clear hZ hzl hKV hKs hIK hPV hPs hI hP1 hW2 hcall hg0 hg1 hb2 hR
  go_enter Tryd.func28, Tryd.ntmps28
  go_wp2_with (first
    | (rw [← HW2.out]; refine wpList_load_row rfl 30 (.tmp 4) rfl w.heap.size rfl 30 KV (0, 0) _ HG0.out Tryd.underlying30 rfl HIK.out ?_)
    | fail)
  refine HCALL.out.mono ?_
  rintro e w3 ⟨rfl, hb3⟩
  have hlt := block_lt_of_heap HG1.out
  have hg3 := (hb3.block (w.heap.size + 1) hlt).trans HG1.out
  have HG3 := Lib.hid hg3
  have HB3 := Lib.hid (below_seq HB2.out hb3)
  clear hg3 hb3
  go_wp2_with (first
    | (refine wpList_store_row rfl 30 (.tmp 6) (.tmp 9) rfl (w.heap.size + 1) PV rfl rfl 30 _ HG3.out HI.out (by rw [HZL.out, HPS.out]) HP1.out ?_)
    | fail)
  have hres := setRow_heap _ (w.heap.size + 1) _ PV _ _ HG3.out
  refine bodyPost_ret (v := .agg PV) (results_cell_row Tryd.results28 _ _ (w.heap.size + 1) 30 PV (0, 0) _ (by rfl) hres Tryd.underlying30 rfl HI.out) rfl ?_
  exact ⟨rfl, below_setRow HB3.out (by omega) _⟩
end Go.Proofs.YtgebdkbbdabomaaDoor.Seal
