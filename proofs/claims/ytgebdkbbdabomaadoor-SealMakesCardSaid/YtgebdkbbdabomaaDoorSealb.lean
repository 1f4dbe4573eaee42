/-
  THE CONTRACTS of seal's stream and code.
-/
import Derived.Test.YtgebdkbbdabomaaDoorSeala
namespace Go.Proofs.YtgebdkbbdabomaaDoor.Seal
open Go.RowKit
open Go.Proofs.YtgebdkbbdabomaaDoor.Kit
open Go.Proofs.YtgebdkbbdabomaaDoor.Oct
open Go.Proofs.YtgebdkbbdabomaaDoor.Sha
open Go.Proofs.YtgebdkbbdabomaaDoor.Mac (derS derS_len macS macS_len strL strL_len derive_any sum_any text_any textS textS_len infoKz rd_str keyK keyK_len)
open Go.Proofs.YtgebdkbbdabomaaDoor.Aes (row row_len row_at row_of at_ strF strF_len strF_back CipherAt A16 A16_size A16_one Arr Ag16 There16 ag16 new_any)
set_option linter.unusedVariables false

def ZB : List Value := List.replicate 16 (Value.int .u8 0)
theorem zB (w : World) : (zeroValue 29).run Tryd.prog w = .ok (.agg ZB.toArray) w := by kernel_rfl
theorem info16s : (Tryd.prog.info? 29).map (·.size) = some 16 := by kernel_rfl
theorem info8s : (Tryd.prog.info? 5).map (·.size) = some 1 := by kernel_rfl
theorem from_row (num : List UInt8) (h : num.length = 8) : splice ZB 0 (num.map bv) = (row (at_ num) 16).map bv := by
  rw [splice, List.take_zero, List.nil_append, Nat.zero_add, List.length_map, h]
  apply List.ext_getElem?
  intro i
  by_cases h1 : i < 8
  · rw [List.getElem?_append_left (by simp; omega), List.getElem?_map, List.getElem?_map, row_at _ (by omega), at_, List.getD_eq_getElem?_getD, List.getElem?_eq_getElem (by omega)]; rfl
  · rw [List.getElem?_append_right (by simp; omega), List.length_map, h, ZB, List.drop_replicate, List.getElem?_replicate, List.getElem?_map]
    by_cases h2 : i < 16
    · rw [if_pos (by omega), row_at _ h2, at_, List.getD_eq_getElem?_getD, List.getElem?_eq_none (by omega)]; rfl
    · rw [if_neg (by omega), List.getElem?_eq_none (by rw [row_len]; omega)]; rfl
theorem elemBs (w : World) : (sizeOf (Tryd.prog.elem 22)).run Tryd.prog w = .ok 1 w := by kernel_rfl
theorem undBs : Tryd.prog.underlying 22 = some (.slice (Tryd.prog.elem 22)) := by kernel_rfl
theorem front16 (A : Option Addr) (n c : Nat) (hc : 16 ≤ c) (w : World) : (Instr.slice 22 (.slice A n c) none (some (.int .i64 16)) none).run Tryd.prog w = .ok (.slice A 16 c) w := by
  have h := run_slice_h w 22 A n c undBs .i64 (16 : Int) (by omega) (by omega)
  rw [h, elemBs]
  have e : A.map (·.add 0) = A := by cases A <;> simp [Addr.add]
  simp [sliced, e]
theorem key_row {S : List UInt8} (h : S.length = 16) : A16 (at_ S) = (S.map bv).toArray := by rw [A16, row_of S h]
/-- the two boxes of stream -/
def BoxesS (g : Nat) (KL FL : List Value) (w : World) : Prop := w.rangeAt g 0 KL ∧ w.rangeAt (g + 1) 0 FL

set_option maxRecDepth 100000 in
set_option maxHeartbeats 4000000 in
theorem hide_any (k : List UInt8) (hk : k.length = 16) (D : ByteArray) (u : Int) (hD : D.size ≤ 90) (An Ab : Option Addr) (cn n c : Nat) (num bs : List UInt8) (w : World) (hR : Roots w) (hI : Ito w u D) (hn : RdB w w.heap.size An 8 cn num) (hb : RdB w w.heap.size Ab n c bs) (hl : n ≤ 1000000) :
    Calls Tryd.prog 41 #[.agg (k.map bv).toArray, .int .i64 u, .slice An 8 cn, .slice Ab n c] w fun e w' => ∃ g, e = .returned (.slice (some ⟨g, 0, none⟩) n n) ∧ RdB w' w'.heap.size (some ⟨g, 0, none⟩) n n (hidS k D num bs) ∧ Below w.heap.size w w' := by
  have hnl := hn.len
  obtain ⟨bn, on, rfl⟩ := hn.addr (by omega)
  have hz := zB
  obtain ⟨KL, hKL⟩ : ∃ q, q = k.map bv := ⟨_, rfl⟩
  have hKl : KL.length = 16 := by rw [hKL, List.length_map, hk]
  have hiK : (Tryd.prog.info? 30).map (·.size) = some KL.length := by rw [hKl]; exact infoKz
  obtain ⟨W2, hW2⟩ : ∃ q, q = (w.alloc (.cells KL.toArray 30)).alloc (.cells ZB.toArray 29) := ⟨_, rfl⟩
  have hg0 : W2.heap[w.heap.size]? = some (.cells KL.toArray 30 (0, 0)) := by rw [hW2]; exact (Mac.heap2 w _ _).1
  have hg1 : W2.heap[w.heap.size + 1]? = some (.cells ZB.toArray 29 (0, 0)) := by rw [hW2]; exact (Mac.heap2 w _ _).2
  have hbw : Below w.heap.size w W2 := by rw [hW2]; exact below_alloc (below_of_new w _) _
  have hn2 := hn.on hbw
  obtain ⟨hn2a, hn2b, hn2c, hn2d⟩ := hn2
  obtain ⟨bn', on', en, hbn, hcn⟩ := hn2d (by omega)
  obtain ⟨rfl, rfl⟩ : bn = bn' ∧ on = on' := by injection en with en; injection en with e1 e2; exact ⟨e1, e2⟩
  have hsrc : ∀ j v, (num.map bv)[j]? = some v → W2.cell? ((⟨bn, on, none⟩ : Addr).add j) = some v := fun j v hv => by rw [add_off]; exact hcn j v hv
  obtain ⟨S, hS⟩ : ∃ S, S = subS k lE D := ⟨_, rfl⟩
  have hSl : S.length = 16 := by rw [hS, subS_len]
  obtain ⟨SV, hSV⟩ : ∃ q, q = (S.map bv).toArray := ⟨_, rfl⟩
  obtain ⟨FL, hFL⟩ : ∃ q, q = (row (at_ num) 16).map bv := ⟨_, rfl⟩
  have hFl : FL.length = 16 := by rw [hFL, List.length_map, row_len]
  have hiF : (Tryd.prog.info? 29).map (·.size) = some FL.length := by rw [hFl]; exact info16s
  have hA16 : A16 (at_ num) = FL.toArray := by rw [hFL]; rfl
  have HSUB := Lib.hid (show ∀ W, Below w.heap.size w W → Calls Tryd.prog 56 #[.agg KL.toArray, .string ⟨#[101]⟩, .int .i64 u] W fun e w' => e = .returned (.agg SV) ∧ Below W.heap.size W w' from fun W h => by
    have := subkey_any k hk lE D u (by decide) (by omega) W (hR.on h) (hI.on h)
    rw [← hS, ← hSV] at this
    rw [hKL]; exact this)
  have HNEW := Lib.hid (show ∀ W : World, Calls Tryd.prog 55 #[.agg SV] W fun e w' => ∃ G, e = .returned (.pointer (some ⟨G, 0, none⟩)) ∧ CipherAt w' G (at_ S) ∧ Below W.heap.size W w' from fun W => by
    have := new_any (at_ S) W
    rw [key_row hSl, ← hSV] at this
    exact this.mono fun e w' ⟨G, he, _, hc, hb⟩ => ⟨G, he, hc, hb⟩)
  have HSTR := Lib.hid (show ∀ W G, Below w.heap.size w W → CipherAt W G (at_ S) → Calls Tryd.prog 57 #[.pointer (some ⟨G, 0, none⟩), .agg FL.toArray, .slice Ab n c] W fun e w' => ∃ g, e = .returned (.slice (some ⟨g, 0, none⟩) n n) ∧ RdB w' w'.heap.size (some ⟨g, 0, none⟩) n n (hidS k D num bs) ∧ Below W.heap.size W w' from fun W G h hC => by
    have := stream_new G (at_ S) (at_ num) Ab n c bs W hC (hb.on h) (by omega)
    rw [hA16] at this
    rw [hidS, ← hS]
    exact this)
  rw [← hKL]
  have hns : (num.map bv).length = Nat.min 8 16 := by rw [List.length_map, hnl]; rfl
  have hfit : 0 + (num.map bv).length ≤ ZB.length := by rw [hns]; decide
  have HW2 := Lib.hid hW2
  have HB2 := Lib.hid hbw
  have HG0 := Lib.hid hg0
  have HG1 := Lib.hid hg1
  have HSRC := Lib.hid hsrc
  have HNS := Lib.hid hns
  have HFIT := Lib.hid hfit
  have HFL := Lib.hid (show splice ZB 0 (num.map bv) = FL from by rw [hFL]; exact from_row num hnl)
  have hne : w.heap.size ≠ w.heap.size + 1 := by omega
  clear hn2a hn2b hn2c hn2d en hcn hKL hW2 hg0 hg1 hbw hsrc hS hSV hFL hA16 hns hfit hn hb hR hI
  go_enter Tryd.func41, Tryd.ntmps41
  go_wp2_with (first
    | (rw [← HW2.out]; refine wpList_copy_gb rfl (.tmp 10) (.tmp 11) 22 22 rfl 5 Tryd.underlying22 info8s (w.heap.size + 1) 0 16 16 ⟨bn, on, none⟩ 8 cn rfl rfl ZB 29 HG1.out (num.map bv) HNS.out HSRC.out HFIT.out (bv_one num) ?_; intro w3 hg3 hgb3)
    | fail)
  rw [HFL.out] at hg3
  have hlt0 := block_lt_of_heap HG0.out
  have hg30 := (hgb3.block w.heap.size hlt0 (fun e => hne (by injection e))).trans HG0.out
  have hb3 : Below w.heap.size w w3 := HB2.out.grown hgb3 HB2.out.size (fun j hj => by injection hj with hj; omega)
  have HAR := Lib.hid (show ∀ W, Below w3.heap.size w3 W → BoxesS w.heap.size KL FL W from fun W h => ⟨range_block ((h.block _ (block_lt_of_heap hg30)).trans hg30), range_block ((h.block _ (block_lt_of_heap hg3)).trans hg3)⟩)
  have HB3 := Lib.hid hb3
  have hbd : Below w3.heap.size w3 w3.drew := below_of_drew ⟨1, rfl⟩ _
  have hu1 := Tryd.underlying30
  have hu2 := Tryd.underlying29
  have p0 : True := trivial
  have p1 : True := trivial
  have p2 : True := trivial
  clear hg3 hgb3 hlt0 hg30 hb3
  refine wp_region_held_drew (S := BoxesS w.heap.size KL FL) (by kernel_rfl) (HAR.out _ hbd) (fun hHeld => ?_)
  refine wpAnyH_take (i := 0) (v := .agg KL.toArray) rfl (by kernel_rfl) (by kernel_rfl) (by kernel_rfl) (fun _ _ _ h => h) (yieldsIf_load_mid (by rfl) _ (.tmp 4) rfl (w.heap.size) 0 rfl KL _ (fun _ h => h.1) Tryd.underlying30 rfl hiK) (by assumption) ?_
  go_simp
  refine wpAnyH_take (i := 1) (v := .int .i64 u) rfl (by kernel_rfl) (by kernel_rfl) (by kernel_rfl) (fun _ _ _ h => h) (Or.inl ⟨by rfl, fun w _ => by go_simp⟩) (by assumption) ?_
  go_simp
  refine wpAnyH_take (i := 4) (v := .agg FL.toArray) rfl (by kernel_rfl) (by kernel_rfl) (by kernel_rfl) (fun _ _ _ h => h) (yieldsIf_load_mid (by rfl) _ (.tmp 9) rfl (w.heap.size + 1) 0 rfl FL _ (fun _ h => h.2) Tryd.underlying29 rfl hiF) (by assumption) ?_
  go_simp
  refine wpAnyH_take (i := 5) (v := .slice Ab n c) rfl (by kernel_rfl) (by kernel_rfl) (by kernel_rfl) (fun _ _ _ h => h) (Or.inl ⟨by rfl, fun w _ => by go_simp⟩) (by assumption) ?_
  go_simp
  refine wpAnyH_ready (rs := [2]) (by kernel_rfl) (by simp) ?_
  refine AllReadyH.cons rfl (fun K hK => ?_) AllReadyH.nil
  (go_simp; go_at_call 56; refine (HSUB.out _ (below_seq HB3.out (by assumption))).mono ?_; rintro e wa ⟨rfl, hba⟩; have hca := below_seq (show Below w3.heap.size w3 _ from (by assumption)) hba)
  try go_simp
  refine hK.out _ _ (HAR.out _ (by assumption)) (fun hHeld => ?_)
  clear hK K
  refine wpAnyH_ready (rs := [3]) (by kernel_rfl) (by simp) ?_
  refine AllReadyH.cons rfl (fun K hK => ?_) AllReadyH.nil
  (go_simp; go_at_call 55; refine (HNEW.out _).mono ?_; rintro e wb ⟨G, rfl, hC, hbb⟩; have hcb := below_seq (show Below w3.heap.size w3 _ from (by assumption)) hbb)
  try go_simp
  refine hK.out _ _ (HAR.out _ (by assumption)) (fun hHeld => ?_)
  clear hK K
  refine wpAnyH_ready (rs := [6]) (by kernel_rfl) (by simp) ?_
  refine AllReadyH.cons rfl (fun K hK => ?_) AllReadyH.nil
  (go_simp; go_at_call 57; refine (HSTR.out _ _ (below_seq HB3.out (by assumption)) hC).mono ?_; rintro e wc ⟨gr, rfl, hr, hbc⟩; have hcc := below_seq (show Below w3.heap.size w3 _ from (by assumption)) hbc)
  try go_simp
  refine hK.out _ _ (HAR.out _ (by assumption)) (fun hHeld => ?_)
  clear hK K
  refine wpAnyH_take (i := 7) (v := .slice (some ⟨gr, 0, none⟩) n n) rfl (by kernel_rfl) (by kernel_rfl) (by kernel_rfl) (fun _ _ _ h => h) (Or.inl ⟨by rfl, fun w _ => by go_simp⟩) (by assumption) ?_
  go_simp
  refine wpAnyH_done (by kernel_rfl) ?_ _
  have HBE := Lib.hid (below_seq HB3.out hcc)
  go_wp2_with fail
  go_ret
  exact ⟨gr, rfl, hr, HBE.out⟩

set_option maxRecDepth 100000 in
set_option maxHeartbeats 4000000 in
theorem code_any (k : List UInt8) (hk : k.length = 16) (D : ByteArray) (u : Int) (hD : D.size ≤ 90) (Ab : Option Addr) (n c : Nat) (bs : List UInt8) (w : World) (hR : Roots w) (hI : Ito w u D) (hb : RdB w w.heap.size Ab n c bs) (hl : n ≤ 1000000) :
    Calls Tryd.prog 42 #[.agg (k.map bv).toArray, .int .i64 u, .slice Ab n c] w fun e w' => ∃ A' c', e = .returned (.slice A' 16 c') ∧ RdB w' w'.heap.size A' 16 c' (codS k D bs) ∧ Below w.heap.size w w' := by
  obtain ⟨ZV, hZ⟩ : ∃ q, q = Mac.Z16 := ⟨_, rfl⟩
  have hz : ∀ w, (zeroValue 30).run Tryd.prog w = .ok (.agg ZV) w := by rw [hZ]; exact Mac.z16
  have hzl : ZV.size = 16 := by rw [hZ]; rfl
  obtain ⟨KV, hKV⟩ : ∃ q, q = (k.map bv).toArray := ⟨_, rfl⟩
  have hKs : KV.size = 16 := by rw [hKV]; simp [hk]
  have hIK : (Tryd.prog.info? 30).map (·.size) = some KV.size := by rw [hKs]; exact infoKz
  obtain ⟨S, hS⟩ : ∃ S, S = subS k lM D := ⟨_, rfl⟩
  have hSl : S.length = 16 := by rw [hS, subS_len]
  obtain ⟨SV, hSV⟩ : ∃ q, q = (S.map bv).toArray := ⟨_, rfl⟩
  have hSs : SV.size = 16 := by rw [hSV]; simp [hSl]
  have hIS : (Tryd.prog.info? 30).map (·.size) = some SV.size := by rw [hSs]; exact infoKz
  have hS1 : SV.all (·.oneCell') = true := by rw [hSV]; exact all_oneCell_toArray (bv_one _)
  obtain ⟨W1, hW1⟩ : ∃ q, q = w.alloc (.cells KV 30) := ⟨_, rfl⟩
  have hg1 : W1.heap[w.heap.size]? = some (.cells KV 30 (0, 0)) := by rw [hW1]; exact heap_alloc_new w _
  have hb1 : Below w.heap.size w W1 := by rw [hW1]; exact below_of_new w _
  have HSUB := Lib.hid (show Calls Tryd.prog 56 #[.agg KV, .string ⟨#[109]⟩, .int .i64 u] W1 fun e w' => e = .returned (.agg SV) ∧ Below W1.heap.size W1 w' from by
    have := subkey_any k hk lM D u (by decide) (by omega) W1 (hR.on hb1) (hI.on hb1)
    rw [← hS, ← hSV] at this
    rw [hKV]; exact this)
  rw [← hKV]
  have HW1 := Lib.hid hW1
  have HG1 := Lib.hid hg1
  have HB1 := Lib.hid hb1
  have HIK := Lib.hid hIK
  have HIS := Lib.hid hIS
  have HS1 := Lib.hid hS1
  have HSS := Lib.hid hSs
  have HZL := Lib.hid hzl
  have HS := Lib.hid (And.intro hS (And.intro hSV hSl))
  have HR := Lib.hid hR
  have HB := Lib.hid hb
  clear hZ hzl hKV hKs hIK hS hSV hSs hIS hS1 hW1 hg1 hb1 hR hb hI
  go_enter Tryd.func42, Tryd.ntmps42
  go_wp2_with (first
    | (rw [← HW1.out]; refine wpList_load_row rfl 30 (.tmp 3) rfl w.heap.size rfl 30 KV (0, 0) _ HG1.out Tryd.underlying30 rfl HIK.out ?_)
    | fail)
  refine HSUB.out.mono ?_
  rintro e w2 ⟨rfl, hb2⟩
  have hg2 := heap_alloc_new w2 (.cells ZV 30)
  have HG2 := Lib.hid hg2
  have HB2 := Lib.hid (below_seq HB1.out hb2)
  clear hg2 hb2
  go_wp2_with (first
    | ((refine wpList_store_row rfl 30 (.tmp 7) (.tmp 10) rfl w2.heap.size SV rfl rfl 30 _ HG2.out HIS.out (by rw [HZL.out, HSS.out]) HS1.out ?_)
       have hg3 := setRow_heap (w2.alloc (.cells ZV 30)) w2.heap.size _ SV _ _ HG2.out)
    | fail)
  obtain ⟨W3, hW3⟩ : ∃ q, q = (w2.alloc (.cells ZV 30)).setRow w2.heap.size SV := ⟨_, rfl⟩
  rw [← hW3] at hg3 ⊢
  have hb23 : Below w2.heap.size w2 W3 := by rw [hW3]; exact below_setRow (below_of_new w2 _) (Nat.le_refl _) _
  have hz3 : W3.heap.size = w2.heap.size + 1 := by rw [hW3]; simp [World.setRow]
  have HB3 := Lib.hid (below_seq HB2.out hb23)
  rw [HS.out.2.1] at hg3
  have hrs : RdB W3 W3.heap.size (some ⟨w2.heap.size, 0, none⟩) 16 16 S := rd_block hg3 HS.out.2.2 (by omega)
  have hrb := HB.out.on HB3.out
  rw [← hz3]
  refine (sum_any (some ⟨w2.heap.size, 0, none⟩) 16 16 S _ 1 1 [⟨Ab, n, c, bs⟩] _ (hrs.lit _) (by omega) (rd_cells (n := 1) W3 rfl rfl rfl (by omega)) ?h1 ((HR.out.on HB3.out).lit _) (by have := hrb.len; simp [joinL]; omega)).mono ?_
  case h1 =>
    intro r hr
    obtain rfl := List.mem_singleton.1 hr
    exact hrb.lit _
  rintro e w4 ⟨A4, c4, rfl, hn4⟩
  rw [show joinL [⟨Ab, n, c, bs⟩] = bs from by simp [joinL]] at hn4
  have hb4 := below_seq HB3.out (below_seq (below_of_new W3 _) hn4.bl)
  have hr4 := hn4.rd
  have hrm4 := hr4.room
  have hfr := Rd.front (k := 16) hr4 (by omega)
  rw [← List.map_take, HS.out.1] at hfr
  have hcut := front16 A4 32 c4 (by omega)
  have HFR := Lib.hid (show RdB w4 w4.heap.size A4 16 c4 (codS k D bs) from hfr)
  have HB4 := Lib.hid hb4
  clear hfr hb4 hr4 hn4 hrb hrs hg3 hW3 hz3 hb23
  go_wp2_with fail
  go_ret
  exact ⟨_, _, rfl, HFR.out, HB4.out⟩
end Go.Proofs.YtgebdkbbdabomaaDoor.Seal
