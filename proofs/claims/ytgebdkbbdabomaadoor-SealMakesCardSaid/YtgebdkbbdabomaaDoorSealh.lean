/-
  THE CONTRACT of seal's Open, at all bytes.
-/
import Derived.Test.YtgebdkbbdabomaaDoorSealx
namespace Go.Proofs.YtgebdkbbdabomaaDoor.Seal
open Go.RowKit
open Go.Proofs.YtgebdkbbdabomaaDoor.Kit
open Go.Proofs.YtgebdkbbdabomaaDoor.Oct
open Go.Proofs.YtgebdkbbdabomaaDoor.Sha
open Go.Proofs.YtgebdkbbdabomaaDoor.Mac (derS derS_len macS macS_len strL strL_len derive_any sum_any text_any textS textS_len infoKz rd_str keyK keyK_len)
set_option linter.unusedVariables false

/-- what is in a box, by its parts: the text, the code -/
def inS (k : List UInt8) (D : ByteArray) (T C : List UInt8) : Option (List UInt8) := if C = codS k D T then some (hidS k D (T.take 8) (T.drop 8)) else none
def openS (k : List UInt8) (D : ByteArray) (X : List UInt8) : Option (List UInt8) := if X.length < 24 then none else inS k D (X.take (X.length - 16)) (X.drop (X.length - 16))

set_option maxRecDepth 100000 in
theorem open_short (g : Nat) (k : List UInt8) (D : ByteArray) (u : Int) (Ab : Option Addr) (n c : Nat) (X : List UInt8) (w : World) (hb : RdB w w.heap.size Ab n c X) (hn : n < 24) :
    Calls Tryd.prog 21 #[.pointer (some ⟨g, 0, none⟩), .agg (k.map bv).toArray, .int .i64 u, .slice Ab n c] w fun e w' => e = .returned (.tuple #[.slice none 0 0, .bool false]) ∧ openS k D X = none ∧ Below w.heap.size w w' := by
  have hl := hb.len
  have hr := hb.room
  have hX : openS k D X = none := by rw [openS, if_pos (by omega)]
  have t1 : decide ((n : Int) < 24) = true := by rw [decide_eq_true_iff]; omega
  clear hb
  obtain ⟨KV, hKV⟩ : ∃ q, q = (k.map bv).toArray := ⟨_, rfl⟩
  rw [← hKV]
  clear hKV hl hn
  have HX := Lib.hid hX
  clear hX
  go_enter Tryd.func21, Tryd.ntmps21
  go_wp2
  go_ret2
  exact ⟨rfl, HX.out, below_of_new w _⟩

set_option maxRecDepth 100000 in
set_option maxHeartbeats 4000000 in
theorem open_long (g : Nat) (k : List UInt8) (hk : k.length = 16) (D : ByteArray) (u : Int) (hD : D.size ≤ 90) (Ab : Option Addr) (n c : Nat) (X : List UInt8) (w : World) (hR : Roots w) (hI : Ito w u D)
    (hb : RdB w w.heap.size Ab n c X) (hn : 24 ≤ n) (hml : n ≤ 900000) :
    Calls Tryd.prog 21 #[.pointer (some ⟨g, 0, none⟩), .agg (k.map bv).toArray, .int .i64 u, .slice Ab n c] w fun e w' => ∃ A' n' c', e = .returned (.tuple #[.slice A' n' c', .bool (openS k D X).isSome]) ∧ RdB w' w'.heap.size A' n' c' ((openS k D X).getD []) ∧ Below w.heap.size w w' := by
  obtain ⟨b, o, rfl⟩ := hb.addr (by omega)
  have hrb := hb.room
  have hlX := hb.len
  obtain ⟨q, hq⟩ : ∃ q, q = n - 16 := ⟨_, rfl⟩
  obtain ⟨m, hm⟩ : ∃ m, m = q - 8 := ⟨_, rfl⟩
  obtain ⟨T, hT⟩ : ∃ T, T = X.take q := ⟨_, rfl⟩
  obtain ⟨C, hC⟩ : ∃ C, C = X.drop q := ⟨_, rfl⟩
  obtain ⟨C2, hC2⟩ : ∃ C, C = codS k D T := ⟨_, rfl⟩
  have hopen : openS k D X = if C = C2 then some (hidS k D (T.take 8) (T.drop 8)) else none := by
    rw [openS, if_neg (by omega), hlX, ← hq, ← hT, ← hC, inS, ← hC2]
  have HTEXT := Lib.hid (show ∀ W, Below w.heap.size w W → RdB W W.heap.size (some ⟨b, o, none⟩) q c T from fun W h => by
    have := Rd.front (k := q) (hb.on h) (by omega)
    rw [← List.map_take, ← hT] at this
    exact this)
  have HCODE := Lib.hid (show ∀ W, Below w.heap.size w W → RdB W W.heap.size (some ⟨b, o + q, none⟩) 16 (c - q) C from fun W h => by
    have := RdB.cut (hb.on h) (k := q) (by omega) (by omega)
    rw [← hC, show n - q = 16 from by omega] at this
    exact this)
  have HNUM := Lib.hid (show ∀ W, Below w.heap.size w W → RdB W W.heap.size (some ⟨b, o, none⟩) 8 c (T.take 8) from fun W h => by
    have := Rd.front (k := 8) (HTEXT.out W h) (by omega)
    rw [← List.map_take] at this
    exact this)
  have HHID := Lib.hid (show ∀ W, Below w.heap.size w W → RdB W W.heap.size (some ⟨b, o + 8, none⟩) m (c - 8) (T.drop 8) from fun W h => by
    have := RdB.cut (HTEXT.out W h) (k := 8) (by omega) (by omega)
    rw [show q - 8 = m from by omega] at this
    exact this)
  obtain ⟨KL, hKL⟩ : ∃ q, q = k.map bv := ⟨_, rfl⟩
  have hKl : KL.length = 16 := by rw [hKL, List.length_map, hk]
  have hiK : (Tryd.prog.info? 30).map (·.size) = some KL.length := by rw [hKl]; exact infoKz
  obtain ⟨W1, hW1⟩ : ∃ q, q = w.alloc (.cells KL.toArray 30) := ⟨_, rfl⟩
  have hb1 : Below w.heap.size w W1 := by rw [hW1]; exact below_of_new w _
  have hg1 : W1.heap[w.heap.size]? = some (.cells KL.toArray 30 (0, 0)) := by rw [hW1]; exact heap_alloc_new w _
  have HAR := Lib.hid (show ∀ W, Below W1.heap.size W1 W → W.rangeAt w.heap.size 0 KL from fun W h => range_block ((h.block _ (block_lt_of_heap hg1)).trans hg1))
  have HCOD := Lib.hid (show ∀ W, Below W1.heap.size W1 W → Calls Tryd.prog 42 #[.agg KL.toArray, .int .i64 u, .slice (some ⟨b, o, none⟩) q c] W fun e w' => ∃ A' c', e = .returned (.slice A' 16 c') ∧ RdB w' w'.heap.size A' 16 c' C2 ∧ Below W.heap.size W w' from fun W h => by
    have := code_any k hk D u hD (some ⟨b, o, none⟩) q c T W (hR.on (below_seq hb1 h)) (hI.on (below_seq hb1 h)) (HTEXT.out W (below_seq hb1 h)) (by omega)
    rw [← hC2] at this
    rw [hKL]; exact this)
  have HHIDE := Lib.hid (show ∀ W, Below W1.heap.size W1 W → Calls Tryd.prog 41 #[.agg KL.toArray, .int .i64 u, .slice (some ⟨b, o, none⟩) 8 c, .slice (some ⟨b, o + 8, none⟩) m (c - 8)] W fun e w' => ∃ r, e = .returned (.slice (some ⟨r, 0, none⟩) m m) ∧ RdB w' w'.heap.size (some ⟨r, 0, none⟩) m m (hidS k D (T.take 8) (T.drop 8)) ∧ Below W.heap.size W w' from fun W h => by
    have := hide_any k hk D u hD (some ⟨b, o, none⟩) (some ⟨b, o + 8, none⟩) c m (c - 8) (T.take 8) (T.drop 8) W (hR.on (below_seq hb1 h)) (hI.on (below_seq hb1 h)) (HNUM.out W (below_seq hb1 h)) (HHID.out W (below_seq hb1 h)) (by omega)
    rw [hKL]; exact this)
  have hcut1 := cut_at b o n c q (by omega) (by omega) (by omega)
  rw [show n - q = 16 from by omega] at hcut1
  have hcut2 := front_n (some ⟨b, o, none⟩) n c q (by omega)
  have hcut3 : ∀ W, (Instr.slice 22 (.slice (some ⟨b, o, none⟩) n c) none (some (.int .i64 8)) none).run Tryd.prog W = .ok (.slice (some ⟨b, o, none⟩) 8 c) W := fun W => by
    have h := front_n (some ⟨b, o, none⟩) n c 8 (by omega) W
    rw [show ((8 : Nat) : Int) = 8 from rfl] at h
    exact h
  have hcut4 : ∀ W, (Instr.slice 22 (.slice (some ⟨b, o, none⟩) n c) (some (.int .i64 8)) (some (.int .i64 (q : Int))) none).run Tryd.prog W = .ok (.slice (some ⟨b, o + 8, none⟩) m (c - 8)) W := fun W => by
    have := cut_mid b o n c 8 q (by omega) (by omega) (by omega) hrb.2 W
    rw [show q - 8 = m from by omega, show ((8 : Nat) : Int) = 8 from rfl] at this
    exact this
  have t1 : decide ((n : Int) < 24) = false := by rw [decide_eq_false_iff_not]; omega
  have eq1 : (n : Int) - 16 = (q : Int) := by omega
  have wq : wrap64 (q : Int) = (q : Int) := by unfold wrap64; omega
  have HB1 := Lib.hid hb1
  have HW1 := Lib.hid hW1
  have hbd : Below W1.heap.size W1 W1.drew := below_of_drew ⟨1, rfl⟩ _
  have HLOW := Lib.hid (show ∀ W, Below W1.heap.size W1 W → Below w.heap.size w W from fun W h => below_seq hb1 h)
  rw [← hKL]
  have HOPEN := Lib.hid hopen
  clear hq hm hT hC hC2 hopen hb hKL hW1 hb1 hg1 hR hI
  by_cases hcc2 : C = C2
  · have HEQ := Lib.hid (show decide (C = C2) = true from by simp [hcc2])
    have HRES := Lib.hid (show openS k D X = some (hidS k D (T.take 8) (T.drop 8)) from by rw [HOPEN.out, if_pos hcc2])
    clear hcc2
    go_enter Tryd.func21, Tryd.ntmps21
    go_wp2_with fail
    rw [← HW1.out]
    have hu1 := Tryd.underlying30
    have p0 : True := trivial
    have p1 : True := trivial
    have p2 : True := trivial
    refine wp_region_held_drew (S := fun W => W.rangeAt w.heap.size 0 KL) (by kernel_rfl) (HAR.out _ (by assumption)) (fun hHeld => ?_)
    refine wpAnyH_take (i := 0) (v := .slice (some ⟨b, o, none⟩) n c) rfl (by kernel_rfl) (by kernel_rfl) (by kernel_rfl) (fun _ _ _ h => h) (Or.inl ⟨by rfl, fun w _ => by go_simp⟩) (by assumption) ?_
    go_simp
    refine wpAnyH_take (i := 1) (v := .int .i64 (q : Int)) rfl (by kernel_rfl) (by kernel_rfl) (by kernel_rfl) (fun _ _ _ h => h) (Or.inl ⟨by rfl, fun w _ => by go_simp⟩) (by assumption) ?_
    go_simp
    refine wpAnyH_take (i := 2) (v := .slice (some ⟨b, o + q, none⟩) 16 (c - q)) rfl (by kernel_rfl) (by kernel_rfl) (by kernel_rfl) (fun _ _ _ h => h) (Or.inl ⟨by rfl, fun w _ => by go_simp⟩) (by assumption) ?_
    go_simp
    refine wpAnyH_take (i := 3) (v := .agg KL.toArray) rfl (by kernel_rfl) (by kernel_rfl) (by kernel_rfl) (fun _ _ _ h => h) (yieldsIf_load_mid (by rfl) _ (.tmp 5) rfl w.heap.size 0 rfl KL _ (fun _ h => h) Tryd.underlying30 rfl hiK) (by assumption) ?_
    go_simp
    refine wpAnyH_take (i := 4) (v := .int .i64 u) rfl (by kernel_rfl) (by kernel_rfl) (by kernel_rfl) (fun _ _ _ h => h) (Or.inl ⟨by rfl, fun w _ => by go_simp⟩) (by assumption) ?_
    go_simp
    refine wpAnyH_take (i := 5) (v := .slice (some ⟨b, o, none⟩) n c) rfl (by kernel_rfl) (by kernel_rfl) (by kernel_rfl) (fun _ _ _ h => h) (Or.inl ⟨by rfl, fun w _ => by go_simp⟩) (by assumption) ?_
    go_simp
    refine wpAnyH_take (i := 6) (v := .int .i64 (q : Int)) rfl (by kernel_rfl) (by kernel_rfl) (by kernel_rfl) (fun _ _ _ h => h) (Or.inl ⟨by rfl, fun w _ => by go_simp⟩) (by assumption) ?_
    go_simp
    refine wpAnyH_take (i := 7) (v := .slice (some ⟨b, o, none⟩) q c) rfl (by kernel_rfl) (by kernel_rfl) (by kernel_rfl) (fun _ _ _ h => h) (Or.inl ⟨by rfl, fun w _ => by go_simp⟩) (by assumption) ?_
    go_simp
    refine wpAnyH_ready (rs := [8]) (by kernel_rfl) (by simp) ?_
    refine AllReadyH.cons rfl (fun K hK => ?_) AllReadyH.nil
    (go_simp; go_at_call 42; refine (HCOD.out _ (by assumption)).mono ?_; rintro e wa ⟨Aa, ca, rfl, hra, hba⟩; have hca := below_seq (show Below W1.heap.size W1 _ from (by assumption)) hba)
    try go_simp
    refine hK.out _ _ (HAR.out _ (by assumption)) (fun hHeld => ?_)
    clear hK K
    refine wpAnyH_ready (rs := [9]) (by kernel_rfl) (by simp) ?_
    refine AllReadyH.cons rfl (fun K hK => ?_) AllReadyH.nil
    (go_simp; go_at_call 43; refine (equal_new _ _ _ _ _ _ C C2 _ (HCODE.out _ (HLOW.out _ hca)) hra).mono ?_; rintro e wb ⟨rfl, hbb⟩; rw [HEQ.out]; have hcb := below_seq hca hbb)
    try go_simp
    refine hK.out _ _ (HAR.out _ (by assumption)) (fun hHeld => ?_)
    clear hK K
    refine wpAnyH_take (i := 10) (v := .bool false) rfl (by kernel_rfl) (by kernel_rfl) (by kernel_rfl) (fun _ _ _ h => h) (Or.inl ⟨by rfl, fun w _ => by go_simp⟩) (by assumption) ?_
    go_simp
    refine wpAnyH_done (by kernel_rfl) ?_ _
    obtain ⟨W2, hW2⟩ : ∃ W, W = wb := ⟨_, rfl⟩
    rw [← hW2] at hcb ⊢
    have HB2 := Lib.hid hcb
    have hbd2 : Below W1.heap.size W1 W2.drew := below_seq hcb (below_of_drew ⟨1, rfl⟩ _)
    clear hW2 hra hba hca hbb hcb hbd
    go_wp2_with fail
    refine wp_region_held_drew (S := fun W => W.rangeAt w.heap.size 0 KL) (by kernel_rfl) (HAR.out _ (by assumption)) (fun hHeld => ?_)
    refine wpAnyH_take (i := 0) (v := .agg KL.toArray) rfl (by kernel_rfl) (by kernel_rfl) (by kernel_rfl) (fun _ _ _ h => h) (yieldsIf_load_mid (by rfl) _ (.tmp 5) rfl w.heap.size 0 rfl KL _ (fun _ h => h) Tryd.underlying30 rfl hiK) (by assumption) ?_
    go_simp
    refine wpAnyH_take (i := 1) (v := .int .i64 u) rfl (by kernel_rfl) (by kernel_rfl) (by kernel_rfl) (fun _ _ _ h => h) (Or.inl ⟨by rfl, fun w _ => by go_simp⟩) (by assumption) ?_
    go_simp
    refine wpAnyH_take (i := 2) (v := .slice (some ⟨b, o, none⟩) n c) rfl (by kernel_rfl) (by kernel_rfl) (by kernel_rfl) (fun _ _ _ h => h) (Or.inl ⟨by rfl, fun w _ => by go_simp⟩) (by assumption) ?_
    go_simp
    refine wpAnyH_take (i := 3) (v := .slice (some ⟨b, o, none⟩) 8 c) rfl (by kernel_rfl) (by kernel_rfl) (by kernel_rfl) (fun _ _ _ h => h) (Or.inl ⟨by rfl, fun w _ => by go_simp⟩) (by assumption) ?_
    go_simp
    refine wpAnyH_take (i := 4) (v := .slice (some ⟨b, o, none⟩) n c) rfl (by kernel_rfl) (by kernel_rfl) (by kernel_rfl) (fun _ _ _ h => h) (Or.inl ⟨by rfl, fun w _ => by go_simp⟩) (by assumption) ?_
    go_simp
    refine wpAnyH_take (i := 5) (v := .int .i64 (q : Int)) rfl (by kernel_rfl) (by kernel_rfl) (by kernel_rfl) (fun _ _ _ h => h) (Or.inl ⟨by rfl, fun w _ => by go_simp⟩) (by assumption) ?_
    go_simp
    refine wpAnyH_take (i := 6) (v := .slice (some ⟨b, o + 8, none⟩) m (c - 8)) rfl (by kernel_rfl) (by kernel_rfl) (by kernel_rfl) (fun _ _ _ h => h) (Or.inl ⟨by rfl, fun w _ => by go_simp⟩) (by assumption) ?_
    go_simp
    refine wpAnyH_ready (rs := [7]) (by kernel_rfl) (by simp) ?_
    refine AllReadyH.cons rfl (fun K hK => ?_) AllReadyH.nil
    (go_simp; go_at_call 41; refine (HHIDE.out _ (by assumption)).mono ?_; rintro e wc ⟨r, rfl, hr, hbc⟩; have hcc := below_seq (show Below W1.heap.size W1 _ from (by assumption)) hbc)
    try go_simp
    refine hK.out _ _ (HAR.out _ (by assumption)) (fun hHeld => ?_)
    clear hK K
    refine wpAnyH_take (i := 8) (v := .slice (some ⟨r, 0, none⟩) m m) rfl (by kernel_rfl) (by kernel_rfl) (by kernel_rfl) (fun _ _ _ h => h) (Or.inl ⟨by rfl, fun w _ => by go_simp⟩) (by assumption) ?_
    go_simp
    refine wpAnyH_take (i := 9) (v := .bool true) rfl (by kernel_rfl) (by kernel_rfl) (by kernel_rfl) (fun _ _ _ h => h) (Or.inl ⟨by rfl, fun w _ => by go_simp⟩) (by assumption) ?_
    go_simp
    refine wpAnyH_done (by kernel_rfl) ?_ _
    have HBE := Lib.hid (below_seq HB1.out hcc)
    have HR := Lib.hid hr
    go_wp2_with fail
    go_ret2
    exact ⟨_, m, m, by rw [HRES.out]; rfl, by rw [HRES.out]; exact HR.out, HBE.out⟩
  · have HEQ := Lib.hid (show decide (C = C2) = false from by simp [hcc2])
    have HRES := Lib.hid (show openS k D X = none from by rw [HOPEN.out, if_neg hcc2])
    clear hcc2
    go_enter Tryd.func21, Tryd.ntmps21
    go_wp2_with fail
    rw [← HW1.out]
    have hu1 := Tryd.underlying30
    have p0 : True := trivial
    have p1 : True := trivial
    have p2 : True := trivial
    refine wp_region_held_drew (S := fun W => W.rangeAt w.heap.size 0 KL) (by kernel_rfl) (HAR.out _ (by assumption)) (fun hHeld => ?_)
    refine wpAnyH_take (i := 0) (v := .slice (some ⟨b, o, none⟩) n c) rfl (by kernel_rfl) (by kernel_rfl) (by kernel_rfl) (fun _ _ _ h => h) (Or.inl ⟨by rfl, fun w _ => by go_simp⟩) (by assumption) ?_
    go_simp
    refine wpAnyH_take (i := 1) (v := .int .i64 (q : Int)) rfl (by kernel_rfl) (by kernel_rfl) (by kernel_rfl) (fun _ _ _ h => h) (Or.inl ⟨by rfl, fun w _ => by go_simp⟩) (by assumption) ?_
    go_simp
    refine wpAnyH_take (i := 2) (v := .slice (some ⟨b, o + q, none⟩) 16 (c - q)) rfl (by kernel_rfl) (by kernel_rfl) (by kernel_rfl) (fun _ _ _ h => h) (Or.inl ⟨by rfl, fun w _ => by go_simp⟩) (by assumption) ?_
    go_simp
    refine wpAnyH_take (i := 3) (v := .agg KL.toArray) rfl (by kernel_rfl) (by kernel_rfl) (by kernel_rfl) (fun _ _ _ h => h) (yieldsIf_load_mid (by rfl) _ (.tmp 5) rfl w.heap.size 0 rfl KL _ (fun _ h => h) Tryd.underlying30 rfl hiK) (by assumption) ?_
    go_simp
    refine wpAnyH_take (i := 4) (v := .int .i64 u) rfl (by kernel_rfl) (by kernel_rfl) (by kernel_rfl) (fun _ _ _ h => h) (Or.inl ⟨by rfl, fun w _ => by go_simp⟩) (by assumption) ?_
    go_simp
    refine wpAnyH_take (i := 5) (v := .slice (some ⟨b, o, none⟩) n c) rfl (by kernel_rfl) (by kernel_rfl) (by kernel_rfl) (fun _ _ _ h => h) (Or.inl ⟨by rfl, fun w _ => by go_simp⟩) (by assumption) ?_
    go_simp
    refine wpAnyH_take (i := 6) (v := .int .i64 (q : Int)) rfl (by kernel_rfl) (by kernel_rfl) (by kernel_rfl) (fun _ _ _ h => h) (Or.inl ⟨by rfl, fun w _ => by go_simp⟩) (by assumption) ?_
    go_simp
    refine wpAnyH_take (i := 7) (v := .slice (some ⟨b, o, none⟩) q c) rfl (by kernel_rfl) (by kernel_rfl) (by kernel_rfl) (fun _ _ _ h => h) (Or.inl ⟨by rfl, fun w _ => by go_simp⟩) (by assumption) ?_
    go_simp
    refine wpAnyH_ready (rs := [8]) (by kernel_rfl) (by simp) ?_
    refine AllReadyH.cons rfl (fun K hK => ?_) AllReadyH.nil
    (go_simp; go_at_call 42; refine (HCOD.out _ (by assumption)).mono ?_; rintro e wa ⟨Aa, ca, rfl, hra, hba⟩; have hca := below_seq (show Below W1.heap.size W1 _ from (by assumption)) hba)
    try go_simp
    refine hK.out _ _ (HAR.out _ (by assumption)) (fun hHeld => ?_)
    clear hK K
    refine wpAnyH_ready (rs := [9]) (by kernel_rfl) (by simp) ?_
    refine AllReadyH.cons rfl (fun K hK => ?_) AllReadyH.nil
    (go_simp; go_at_call 43; refine (equal_new _ _ _ _ _ _ C C2 _ (HCODE.out _ (HLOW.out _ hca)) hra).mono ?_; rintro e wb ⟨rfl, hbb⟩; rw [HEQ.out]; have hcb := below_seq hca hbb)
    try go_simp
    refine hK.out _ _ (HAR.out _ (by assumption)) (fun hHeld => ?_)
    clear hK K
    refine wpAnyH_take (i := 10) (v := .bool true) rfl (by kernel_rfl) (by kernel_rfl) (by kernel_rfl) (fun _ _ _ h => h) (Or.inl ⟨by rfl, fun w _ => by go_simp⟩) (by assumption) ?_
    go_simp
    refine wpAnyH_done (by kernel_rfl) ?_ _
    have HBE := Lib.hid (below_seq HB1.out hcb)
    go_wp2_with fail
    go_ret2
    exact ⟨none, 0, 0, by rw [HRES.out]; rfl, by rw [HRES.out]; exact Rd.nil _ _, HBE.out⟩
end Go.Proofs.YtgebdkbbdabomaaDoor.Seal
