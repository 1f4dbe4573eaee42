/-
  THE CONTRACT of the document's Open, at all bytes.
-/
import Derived.Test.YtgebdkbbdabomaaDoorSealh
import Derived.Test.YtgebdkbbdabomaaDoorSealy
import Derived.Test.YtgebdkbbdabomaaDoorMacr
import Derived.Test.YtgebdkbbdabomaaDoorShrh
import Derived.Test.YtgebdkbbdabomaaDoorReff
namespace Go.Proofs.YtgebdkbbdabomaaDoor.Seal
open Go.RowKit
open Go.Proofs.YtgebdkbbdabomaaDoor.Kit
open Go.Proofs.YtgebdkbbdabomaaDoor.Oct
open Go.Proofs.YtgebdkbbdabomaaDoor.Sha
open Go.Proofs.YtgebdkbbdabomaaDoor.Aes (row row_len row_at row_of at_ strF sbN boxes_own refstream_new)
open Go.Proofs.YtgebdkbbdabomaaDoor.Mac (derS derS_len macS macS_len strL strL_len)
set_option linter.unusedVariables false

theorem first_row (num : List UInt8) (h : num.length = 8) : num ++ List.replicate 8 0 = row (at_ num) 16 := by
  apply List.ext_getElem?
  intro i
  by_cases h1 : i < 8
  · rw [List.getElem?_append_left (by omega), row_at _ (by omega), at_, List.getD_eq_getElem?_getD, List.getElem?_eq_getElem (by omega)]; rfl
  · rw [List.getElem?_append_right (by omega), h, List.getElem?_replicate]
    by_cases h2 : i < 16
    · rw [if_pos (by omega), row_at _ h2, at_, List.getD_eq_getElem?_getD, List.getElem?_eq_none (by omega)]; rfl
    · rw [if_neg (by omega), List.getElem?_eq_none (by rw [row_len]; omega)]

set_option maxRecDepth 100000 in
theorem refopen_short (A Ab : Option Addr) (ck n c : Nat) (k X : List UInt8) (D : ByteArray) (u : Int) (w : World) (hb : RdB w w.heap.size Ab n c X) (hn : n < 24) :
    Calls Tryd.prog 26 #[.slice A 16 ck, .int .i64 u, .slice Ab n c] w fun e w' => e = .returned (.tuple #[.slice none 0 0, .bool false]) ∧ openS k D X = none ∧ Below w.heap.size w w' := by
  have hl := hb.len
  have hr := hb.room
  have hX : openS k D X = none := by rw [openS, if_pos (by omega)]
  have t1 : decide ((n : Int) < 24) = true := by rw [decide_eq_true_iff]; omega
  clear hb hl hn
  have HX := Lib.hid hX
  clear hX
  go_enter Tryd.func26, Tryd.ntmps26
  go_wp2
  go_ret2
  exact ⟨rfl, HX.out, Below.refl _ _⟩

set_option maxRecDepth 100000 in
set_option maxHeartbeats 4000000 in
theorem refopen_long (Ak Ab : Option Addr) (ck n c : Nat) (k X : List UInt8) (u : Int) (h0 : -9223372036854775808 ≤ u) (h1 : u ≤ 9223372036854775807) (D : ByteArray) (hD : D = ⟨(Lib.itoa u).toArray⟩) (w : World)
    (hk : RdB w w.heap.size Ak 16 ck k) (hb : RdB w w.heap.size Ab n c X) (hn : 24 ≤ n) (hml : n ≤ 800000) :
    Calls Tryd.prog 26 #[.slice Ak 16 ck, .int .i64 u, .slice Ab n c] w fun e w' => ∃ A' n' c', e = .returned (.tuple #[.slice A' n' c', .bool (openS k D X).isSome]) ∧ RdB w' w'.heap.size A' n' c' ((openS k D X).getD []) ∧ Below w.heap.size w w' := by
  obtain ⟨i0, hi, hz0, hz1, hz2⟩ := info_parts info8d
  have hDs : D.size ≤ 21 := by rw [hD]; exact itoa_len u h0 h1
  have HDIG := Lib.hid (show ∀ W, Calls Tryd.prog 45 #[.int .i64 u] W fun e w' => e = .returned (.string D) ∧ Below W.heap.size W w' from fun W => by rw [hD]; exact refdigits_any u h0 h1 W)
  obtain ⟨b, o, rfl⟩ := hb.addr (by omega)
  have hrb := hb.room
  have hlX := hb.len
  obtain ⟨q, hq⟩ : ∃ q, q = n - 16 := ⟨_, rfl⟩
  obtain ⟨m, hm⟩ : ∃ m, m = q - 8 := ⟨_, rfl⟩
  obtain ⟨T, hT⟩ : ∃ T, T = X.take q := ⟨_, rfl⟩
  obtain ⟨C, hC⟩ : ∃ C, C = X.drop q := ⟨_, rfl⟩
  obtain ⟨C2, hC2⟩ : ∃ C, C = codS k D T := ⟨_, rfl⟩
  obtain ⟨N8, hN8⟩ : ∃ q, q = T.take 8 := ⟨_, rfl⟩
  have hNl : N8.length = 8 := by rw [hN8, List.length_take, hT, List.length_take]; omega
  obtain ⟨S, hS⟩ : ∃ S, S = subS k lE D := ⟨_, rfl⟩
  have hSl : S.length = 16 := by rw [hS, subS_len]
  obtain ⟨M, hM⟩ : ∃ S, S = subS k lM D := ⟨_, rfl⟩
  have hopen : openS k D X = if C = C2 then some (hidS k D N8 (T.drop 8)) else none := by
    rw [openS, if_neg (by omega), hlX, ← hq, ← hT, ← hC, inS, ← hC2, ← hN8]
  have HTEXT := Lib.hid (show ∀ W, Below w.heap.size w W → RdB W W.heap.size (some ⟨b, o, none⟩) q c T from fun W h => by
    have := Rd.front (k := q) (hb.on h) (by omega)
    rw [← List.map_take, ← hT] at this
    exact this)
  have HCODE := Lib.hid (show ∀ W, Below w.heap.size w W → RdB W W.heap.size (some ⟨b, o + q, none⟩) 16 (c - q) C from fun W h => by
    have := RdB.cut (hb.on h) (k := q) (by omega) (by omega)
    rw [← hC, show n - q = 16 from by omega] at this
    exact this)
  have HNUM := Lib.hid (show ∀ W, Below w.heap.size w W → RdB W W.heap.size (some ⟨b, o, none⟩) 8 c N8 from fun W h => by
    have := Rd.front (k := 8) (HTEXT.out W h) (by omega)
    rw [← List.map_take, ← hN8] at this
    exact this)
  have HHID := Lib.hid (show ∀ W, Below w.heap.size w W → RdB W W.heap.size (some ⟨b, o + 8, none⟩) m (c - 8) (T.drop 8) from fun W h => by
    have := RdB.cut (HTEXT.out W h) (k := 8) (by omega) (by omega)
    rw [show q - 8 = m from by omega] at this
    exact this)
  have HKEY := Lib.hid (show ∀ W, Below w.heap.size w W → RdB W W.heap.size Ak 16 ck k from fun W h => hk.on h)
  have HDER := Lib.hid (show ∀ (l : ByteArray) (A1 : Option Addr) (c1 : Nat) (W : World), l.size ≤ 100 → Below w.heap.size w W → Rd W W.heap.size A1 64 c1 (shaK.map wv) → Calls Tryd.prog 15 #[.slice A1 64 c1, .slice Ak 16 ck, .string (l ++ D)] W fun e w' => ∃ A' c', e = .returned (.slice A' 16 c') ∧ RdB w' w'.heap.size A' 16 c' (subS k l D) ∧ Below W.heap.size W w' from fun l A1 c1 W hl h hc => by
    have := refderive_new A1 Ak c1 16 ck k (l ++ D) W hc (hk.on h) (by omega) (by rw [ByteArray.size_append]; omega)
    rw [strL_app] at this
    exact this)
  have HSU := Lib.hid (show ∀ (A1 Am : Option Addr) (c1 cm : Nat) (W : World), Below w.heap.size w W → Rd W W.heap.size A1 64 c1 (shaK.map wv) → RdB W W.heap.size Am 16 cm M → Calls Tryd.prog 11 #[.slice A1 64 c1, .slice Am 16 cm, .slice (some ⟨b, o, none⟩) q c] W fun e w' => ∃ A' c', e = .returned (.slice A' 32 c') ∧ 16 ≤ c' ∧ RdB w' w'.heap.size A' 16 c' C2 ∧ Below W.heap.size W w' from fun A1 Am c1 cm W h hc hm => 
    (refsum_own A1 Am (some ⟨b, o, none⟩) c1 16 cm q c M T W hc hm (HTEXT.out W h) (by omega) (by omega)).mono fun e w' ⟨A', c', he, ho, hbl⟩ => by
      have hr := Rd.of_own ho
      have hrm := hr.room
      have hf := Rd.front (k := 16) hr (by omega)
      rw [← List.map_take] at hf
      exact ⟨A', c', he, by omega, by rw [hC2, codS, ← hM]; exact hf, hbl⟩)
  have HSTR := Lib.hid (show ∀ (B A1 A2 : Option Addr) (cb c1 c2 : Nat) (W : World), Below w.heap.size w W → RdB W W.heap.size B 256 cb (row sbN 256) → RdB W W.heap.size A1 16 c1 S → RdB W W.heap.size A2 16 c2 (row (at_ N8) 16) → Calls Tryd.prog 46 #[.slice B 256 cb, .slice A1 16 c1, .slice A2 16 c2, .slice (some ⟨b, o + 8, none⟩) m (c - 8)] W fun e w' => ∃ A' c', e = .returned (.slice A' m c') ∧ RdB w' w'.heap.size A' m c' (hidS k D N8 (T.drop 8)) ∧ Below W.heap.size W w' from fun B A1 A2 cb c1 c2 W h hB hA1 hA2 =>
    (refstream_new B A1 A2 (some ⟨b, o + 8, none⟩) cb c1 c2 m (c - 8) (at_ S) (at_ N8) (T.drop 8) W hB (by rw [row_of S hSl]; exact hA1) hA2 (HHID.out W h) (by omega)).mono fun e w' ⟨A', c', he, hn⟩ => ⟨A', c', he, by rw [hidS, ← hS]; exact hn.rd, hn.bl⟩)
  have hcut1 := cut_at b o n c q (by omega) (by omega) (by omega)
  rw [show n - q = 16 from by omega] at hcut1
  have hcut2 := front_n (some ⟨b, o, none⟩) n c q (by omega)
  have hcut3 : ∀ W, (Instr.slice 22 (.slice (some ⟨b, o, none⟩) n c) none (some (.int .i64 8)) none).run Tryd.prog W = .ok (.slice (some ⟨b, o, none⟩) 8 c) W := fun W => by
    have h := front_n (some ⟨b, o, none⟩) n c 8 (by omega) W
    rw [show ((8 : Nat) : Int) = 8 from rfl] at h
    exact h
  have hcut4 : ∀ W, (Instr.slice 22 (.slice (some ⟨b, o, none⟩) n c) (some (.int .i64 8)) (some (.int .i64 (q : Int))) none).run Tryd.prog W = .ok (.slice (some ⟨b, o + 8, none⟩) m (c - 8)) W := fun W => by
    have := cut_mid b o n c 8 q (by omega) (by omega) (by omega) hrb.2 W
    rw [show q - 8 = m from by omega, show ((8 : Nat) : Int) = 8 from rfl] at this
    exact this
  have t1 : decide ((n : Int) < 24) = false := by rw [decide_eq_false_iff_not]; omega
  have eq1 : (n : Int) - 16 = (q : Int) := by omega
  have wq : wrap64 (q : Int) = (q : Int) := by unfold wrap64; omega
  have hsM : (⟨#[109]⟩ : ByteArray).size = 1 := rfl
  have hsE : (⟨#[101]⟩ : ByteArray).size = 1 := rfl
  have HOPEN := Lib.hid hopen
  have HNL := Lib.hid hNl
  have HML := Lib.hid (And.intro hM hS)
  clear hq hm hT hC hC2 hopen hb hk hD hN8 hS hM hNl hSl
  go_enter Tryd.func26, Tryd.ntmps26
  go_wp2_with fail
  refine (ks_own w).mono ?_
  rintro e w1 ⟨A1, c1, rfl, ho1, hb1⟩
  have HO1 := Lib.hid (Rd.of_own ho1)
  have HB1 := Lib.hid hb1
  have HC1 := Lib.hid (show ∀ W, Below w1.heap.size w1 W → Rd W W.heap.size A1 64 c1 (shaK.map wv) from fun W h => (HO1.out.below h).more h.size)
  clear ho1 hb1
  go_wp2_with fail
  refine (HDIG.out _).mono ?_
  rintro e w2 ⟨rfl, hb2⟩
  have HB2' := Lib.hid hb2
  clear hb2
  go_wp2_with fail
  refine (HDER.out ⟨#[109]⟩ A1 c1 _ (by decide) (below_seq HB1.out HB2'.out) (HC1.out _ HB2'.out)).mono ?_
  rintro e w3 ⟨Am, cm, rfl, hm3, hb3⟩
  have hM3 : RdB w3 w3.heap.size Am 16 cm M := by rw [HML.out.1]; exact hm3
  have HB3' := Lib.hid (below_seq HB2'.out hb3)
  have HB3 := Lib.hid (below_seq HB1.out HB3'.out)
  have HM3 := Lib.hid hM3
  have HSUM := Lib.hid (show ∀ W, Below w3.heap.size w3 W → Calls Tryd.prog 11 #[.slice A1 64 c1, .slice Am 16 cm, .slice (some ⟨b, o, none⟩) q c] W fun e w' => ∃ A' c', e = .returned (.slice A' 32 c') ∧ 16 ≤ c' ∧ RdB w' w'.heap.size A' 16 c' C2 ∧ Below W.heap.size W w' from fun W h => HSU.out A1 Am c1 cm W (below_seq HB3.out h) (HC1.out _ (below_seq HB3'.out h)) (HM3.out.on h))
  have hbd3 : Below w3.heap.size w3 w3.drew := below_of_drew ⟨1, rfl⟩ _
  clear hm3 hb3 hM3
  by_cases hcc2 : C2 = C
  · have HEQ := Lib.hid (show decide (C2 = C) = true from by simp [hcc2])
    have HRES := Lib.hid (show openS k D X = some (hidS k D N8 (T.drop 8)) from by rw [HOPEN.out, if_pos hcc2.symm])
    clear hcc2
    go_wp2_with fail
    refine wp_region_held_drew (S := fun _ => True) (by kernel_rfl) trivial (fun hHeld => ?_)
    refine wpAnyH_take (i := 0) (v := .slice A1 64 c1) rfl (by kernel_rfl) (by kernel_rfl) (by kernel_rfl) (fun _ _ _ h => h) (Or.inl ⟨by rfl, fun w _ => by go_simp⟩) (by assumption) ?_
    go_simp
    refine wpAnyH_take (i := 1) (v := .slice Am 16 cm) rfl (by kernel_rfl) (by kernel_rfl) (by kernel_rfl) (fun _ _ _ h => h) (Or.inl ⟨by rfl, fun w _ => by go_simp⟩) (by assumption) ?_
    go_simp
    refine wpAnyH_take (i := 2) (v := .slice (some ⟨b, o, none⟩) n c) rfl (by kernel_rfl) (by kernel_rfl) (by kernel_rfl) (fun _ _ _ h => h) (Or.inl ⟨by rfl, fun w _ => by go_simp⟩) (by assumption) ?_
    go_simp
    refine wpAnyH_take (i := 3) (v := .int .i64 (q : Int)) rfl (by kernel_rfl) (by kernel_rfl) (by kernel_rfl) (fun _ _ _ h => h) (Or.inl ⟨by rfl, fun w _ => by go_simp⟩) (by assumption) ?_
    go_simp
    refine wpAnyH_take (i := 4) (v := .slice (some ⟨b, o, none⟩) q c) rfl (by kernel_rfl) (by kernel_rfl) (by kernel_rfl) (fun _ _ _ h => h) (Or.inl ⟨by rfl, fun w _ => by go_simp⟩) (by assumption) ?_
    go_simp
    refine wpAnyH_take (i := 7) (v := .slice (some ⟨b, o, none⟩) n c) rfl (by kernel_rfl) (by kernel_rfl) (by kernel_rfl) (fun _ _ _ h => h) (Or.inl ⟨by rfl, fun w _ => by go_simp⟩) (by assumption) ?_
    go_simp
    refine wpAnyH_take (i := 8) (v := .int .i64 (q : Int)) rfl (by kernel_rfl) (by kernel_rfl) (by kernel_rfl) (fun _ _ _ h => h) (Or.inl ⟨by rfl, fun w _ => by go_simp⟩) (by assumption) ?_
    go_simp
    refine wpAnyH_take (i := 9) (v := .slice (some ⟨b, o + q, none⟩) 16 (c - q)) rfl (by kernel_rfl) (by kernel_rfl) (by kernel_rfl) (fun _ _ _ h => h) (Or.inl ⟨by rfl, fun w _ => by go_simp⟩) (by assumption) ?_
    go_simp
    refine wpAnyH_ready (rs := [5]) (by kernel_rfl) (by simp) ?_
    refine AllReadyH.cons rfl (fun K hK => ?_) AllReadyH.nil
    (go_simp; go_at_call 11; refine (HSUM.out _ hbd3).mono ?_; rintro e wa ⟨Aa, ca, rfl, hcr, hra, hba⟩; have hca := below_seq hbd3 hba; have hcut16 := front16 Aa 32 ca hcr)
    try go_simp
    refine hK.out _ _ trivial (fun hHeld => ?_)
    clear hK K
    refine wpAnyH_take (i := 6) (v := .slice Aa 16 ca) rfl (by kernel_rfl) (by kernel_rfl) (by kernel_rfl) (fun _ _ _ h => h) (Or.inl ⟨by rfl, fun w _ => by go_simp⟩) (by assumption) ?_
    go_simp
    refine wpAnyH_ready (rs := [10]) (by kernel_rfl) (by simp) ?_
    refine AllReadyH.cons rfl (fun K hK => ?_) AllReadyH.nil
    (go_simp; go_at_call 9; refine (rsame_new _ _ _ _ _ _ C2 C _ hra (HCODE.out _ (below_seq HB3.out hca))).mono ?_; rintro e wb ⟨rfl, hbb⟩; rw [HEQ.out]; have hcb := below_seq hca hbb)
    try go_simp
    refine hK.out _ _ trivial (fun hHeld => ?_)
    clear hK K
    refine wpAnyH_take (i := 11) (v := .bool false) rfl (by kernel_rfl) (by kernel_rfl) (by kernel_rfl) (fun _ _ _ h => h) (Or.inl ⟨by rfl, fun w _ => by go_simp⟩) (by assumption) ?_
    go_simp
    refine wpAnyH_done (by kernel_rfl) ?_ _
    have HB4' := Lib.hid (below_seq HB3'.out hcb)
    clear hra hba hca hbb hcb hbd3 hcut16 hcr
    go_wp2_with fail
    refine (HDIG.out _).mono ?_
    rintro e w5 ⟨rfl, hb5⟩
    have HB5' := Lib.hid (below_seq HB4'.out hb5)
    clear hb5
    go_wp2_with fail
    refine (HDER.out ⟨#[101]⟩ A1 c1 _ (by decide) (below_seq HB1.out HB5'.out) (HC1.out _ HB5'.out)).mono ?_
    rintro e w6 ⟨Ae, ce, rfl, he6, hb6⟩
    have HB6' := Lib.hid (below_seq HB5'.out hb6)
    have HB6 := Lib.hid (below_seq HB1.out HB6'.out)
    have HE6 := Lib.hid (show RdB w6 w6.heap.size Ae 16 ce S from by rw [HML.out.2]; exact he6)
    have HN6 := Lib.hid (HNUM.out _ HB6.out)
    clear he6 hb6
    go_wp2_with (at_builtin; first
      | (refine wpList_app _ rfl (.tmp 44) (.tmp 46) 22 rfl w6.heap.size 5 i0 _ 1 Tryd.underlying22 hi hz0 hz1 hz2 rfl _ 0 _ rfl (own_new w6 (Nat.le_refl _) rfl (by omega)) _ (some ⟨b, o, none⟩) 8 c _ rfl (RdB.lit HN6.out _) (bv_one _) (by omega) (by omega) (by simp) ?_; intro A2 c2 v2 hown2 hg2 hat2; have hbl2 := below_lit (Below.refl _ _) hg2; simp only [Nat.zero_add, List.nil_append] at hown2)
      | (refine wpList_app _ rfl (.tmp 47) (.tmp 48) 22 rfl w6.heap.size 5 i0 _ 1 Tryd.underlying22 hi hz0 hz1 hz2 rfl _ 8 _ rfl (hown2.alloc _) _ (some ⟨v2.heap.size, 0, none⟩) 8 8 ((List.replicate 8 (0 : UInt8)).map bv) rfl (rd_cells v2 rfl rfl rfl (by omega)) (bv_one _) (by omega) (by omega) (by have := hbl2.size; simp; omega) ?_; intro A3 c3 v3 hown3 hg3 hat3; have hbl3 := below_own hbl2 hown2 (Nat.le_refl _) hg3))
    rw [← List.map_append, first_row N8 HNL.out] at hown3
    have hf3 : RdB v3 v3.heap.size A3 16 c3 (row (at_ N8) 16) := Rd.of_own hown3
    have HF3 := Lib.hid hf3
    have HBL3 := Lib.hid hbl3
    have HB7' := Lib.hid (below_seq HB6'.out hbl3)
    have hbd7 : Below v3.heap.size v3 v3.drew := below_of_drew ⟨1, rfl⟩ _
    clear hown3 hg3 hat3 hbl3 hown2 hg2 hat2 hbl2 hf3
    go_wp2_with fail
    refine wp_region_held_drew (S := fun _ => True) (by kernel_rfl) trivial (fun hHeld => ?_)
    refine wpAnyH_take (i := 1) (v := .slice Ae 16 ce) rfl (by kernel_rfl) (by kernel_rfl) (by kernel_rfl) (fun _ _ _ h => h) (Or.inl ⟨by rfl, fun w _ => by go_simp⟩) (by assumption) ?_
    go_simp
    refine wpAnyH_take (i := 2) (v := .slice A3 16 c3) rfl (by kernel_rfl) (by kernel_rfl) (by kernel_rfl) (fun _ _ _ h => h) (Or.inl ⟨by rfl, fun w _ => by go_simp⟩) (by assumption) ?_
    go_simp
    refine wpAnyH_take (i := 3) (v := .slice (some ⟨b, o, none⟩) n c) rfl (by kernel_rfl) (by kernel_rfl) (by kernel_rfl) (fun _ _ _ h => h) (Or.inl ⟨by rfl, fun w _ => by go_simp⟩) (by assumption) ?_
    go_simp
    refine wpAnyH_take (i := 4) (v := .int .i64 (q : Int)) rfl (by kernel_rfl) (by kernel_rfl) (by kernel_rfl) (fun _ _ _ h => h) (Or.inl ⟨by rfl, fun w _ => by go_simp⟩) (by assumption) ?_
    go_simp
    refine wpAnyH_take (i := 5) (v := .slice (some ⟨b, o + 8, none⟩) m (c - 8)) rfl (by kernel_rfl) (by kernel_rfl) (by kernel_rfl) (fun _ _ _ h => h) (Or.inl ⟨by rfl, fun w _ => by go_simp⟩) (by assumption) ?_
    go_simp
    refine wpAnyH_ready (rs := [0]) (by kernel_rfl) (by simp) ?_
    refine AllReadyH.cons rfl (fun K hK => ?_) AllReadyH.nil
    (go_simp; go_at_call 47; refine (boxes_own _).mono ?_; rintro e wx ⟨Ax, cx, rfl, hox, hbx⟩; have hcx := below_seq hbd7 hbx)
    try go_simp
    refine hK.out _ _ trivial (fun hHeld => ?_)
    clear hK K
    refine wpAnyH_ready (rs := [6]) (by kernel_rfl) (by simp) ?_
    refine AllReadyH.cons rfl (fun K hK => ?_) AllReadyH.nil
    (go_simp; go_at_call 46; refine (HSTR.out _ _ _ _ _ _ _ (below_seq HB6.out (below_seq HBL3.out hcx)) (Rd.of_own hox) (HE6.out.on (below_seq HBL3.out hcx)) (HF3.out.on hcx)).mono ?_; rintro e wy ⟨Ay, cy, rfl, hry, hby⟩; have hcy := below_seq hcx hby)
    try go_simp
    refine hK.out _ _ trivial (fun hHeld => ?_)
    clear hK K
    refine wpAnyH_take (i := 7) (v := .slice Ay m cy) rfl (by kernel_rfl) (by kernel_rfl) (by kernel_rfl) (fun _ _ _ h => h) (Or.inl ⟨by rfl, fun w _ => by go_simp⟩) (by assumption) ?_
    go_simp
    refine wpAnyH_take (i := 8) (v := .bool true) rfl (by kernel_rfl) (by kernel_rfl) (by kernel_rfl) (fun _ _ _ h => h) (Or.inl ⟨by rfl, fun w _ => by go_simp⟩) (by assumption) ?_
    go_simp
    refine wpAnyH_done (by kernel_rfl) ?_ _
    have HBE := Lib.hid (below_seq HB6.out (below_seq HBL3.out hcy))
    have HR := Lib.hid hry
    go_wp2_with fail
    go_ret2
    exact ⟨_, m, _, by rw [HRES.out]; rfl, by rw [HRES.out]; exact HR.out, HBE.out⟩
  · have HEQ := Lib.hid (show decide (C2 = C) = false from by simp [hcc2])
    have HRES := Lib.hid (show openS k D X = none from by rw [HOPEN.out, if_neg (fun e => hcc2 e.symm)])
    clear hcc2
    go_wp2_with fail
    refine wp_region_held_drew (S := fun _ => True) (by kernel_rfl) trivial (fun hHeld => ?_)
    refine wpAnyH_take (i := 0) (v := .slice A1 64 c1) rfl (by kernel_rfl) (by kernel_rfl) (by kernel_rfl) (fun _ _ _ h => h) (Or.inl ⟨by rfl, fun w _ => by go_simp⟩) (by assumption) ?_
    go_simp
    refine wpAnyH_take (i := 1) (v := .slice Am 16 cm) rfl (by kernel_rfl) (by kernel_rfl) (by kernel_rfl) (fun _ _ _ h => h) (Or.inl ⟨by rfl, fun w _ => by go_simp⟩) (by assumption) ?_
    go_simp
    refine wpAnyH_take (i := 2) (v := .slice (some ⟨b, o, none⟩) n c) rfl (by kernel_rfl) (by kernel_rfl) (by kernel_rfl) (fun _ _ _ h => h) (Or.inl ⟨by rfl, fun w _ => by go_simp⟩) (by assumption) ?_
    go_simp
    refine wpAnyH_take (i := 3) (v := .int .i64 (q : Int)) rfl (by kernel_rfl) (by kernel_rfl) (by kernel_rfl) (fun _ _ _ h => h) (Or.inl ⟨by rfl, fun w _ => by go_simp⟩) (by assumption) ?_
    go_simp
    refine wpAnyH_take (i := 4) (v := .slice (some ⟨b, o, none⟩) q c) rfl (by kernel_rfl) (by kernel_rfl) (by kernel_rfl) (fun _ _ _ h => h) (Or.inl ⟨by rfl, fun w _ => by go_simp⟩) (by assumption) ?_
    go_simp
    refine wpAnyH_take (i := 7) (v := .slice (some ⟨b, o, none⟩) n c) rfl (by kernel_rfl) (by kernel_rfl) (by kernel_rfl) (fun _ _ _ h => h) (Or.inl ⟨by rfl, fun w _ => by go_simp⟩) (by assumption) ?_
    go_simp
    refine wpAnyH_take (i := 8) (v := .int .i64 (q : Int)) rfl (by kernel_rfl) (by kernel_rfl) (by kernel_rfl) (fun _ _ _ h => h) (Or.inl ⟨by rfl, fun w _ => by go_simp⟩) (by assumption) ?_
    go_simp
    refine wpAnyH_take (i := 9) (v := .slice (some ⟨b, o + q, none⟩) 16 (c - q)) rfl (by kernel_rfl) (by kernel_rfl) (by kernel_rfl) (fun _ _ _ h => h) (Or.inl ⟨by rfl, fun w _ => by go_simp⟩) (by assumption) ?_
    go_simp
    refine wpAnyH_ready (rs := [5]) (by kernel_rfl) (by simp) ?_
    refine AllReadyH.cons rfl (fun K hK => ?_) AllReadyH.nil
    (go_simp; go_at_call 11; refine (HSUM.out _ hbd3).mono ?_; rintro e wa ⟨Aa, ca, rfl, hcr, hra, hba⟩; have hca := below_seq hbd3 hba; have hcut16 := front16 Aa 32 ca hcr)
    try go_simp
    refine hK.out _ _ trivial (fun hHeld => ?_)
    clear hK K
    refine wpAnyH_take (i := 6) (v := .slice Aa 16 ca) rfl (by kernel_rfl) (by kernel_rfl) (by kernel_rfl) (fun _ _ _ h => h) (Or.inl ⟨by rfl, fun w _ => by go_simp⟩) (by assumption) ?_
    go_simp
    refine wpAnyH_ready (rs := [10]) (by kernel_rfl) (by simp) ?_
    refine AllReadyH.cons rfl (fun K hK => ?_) AllReadyH.nil
    (go_simp; go_at_call 9; refine (rsame_new _ _ _ _ _ _ C2 C _ hra (HCODE.out _ (below_seq HB3.out hca))).mono ?_; rintro e wb ⟨rfl, hbb⟩; rw [HEQ.out]; have hcb := below_seq hca hbb)
    try go_simp
    refine hK.out _ _ trivial (fun hHeld => ?_)
    clear hK K
    refine wpAnyH_take (i := 11) (v := .bool true) rfl (by kernel_rfl) (by kernel_rfl) (by kernel_rfl) (fun _ _ _ h => h) (Or.inl ⟨by rfl, fun w _ => by go_simp⟩) (by assumption) ?_
    go_simp
    refine wpAnyH_done (by kernel_rfl) ?_ _
    have HBE := Lib.hid (below_seq HB3.out hcb)
    go_wp2_with fail
    go_ret2
    exact ⟨none, 0, 0, by rw [HRES.out]; rfl, by rw [HRES.out]; exact Rd.nil _ _, HBE.out⟩
end Go.Proofs.YtgebdkbbdabomaaDoor.Seal
