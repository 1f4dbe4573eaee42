/-
  AesSteps holds: from a number one later on bytes become what those one block later do. No condition.
-/
import Derived.Test.YtchkjhgbbmablabAesm
import Derived.Test.YtchkjhgbbmablabFin
import Derived.Orders
import Derived.BigQuiet
namespace Go.Proofs.Ytchkjhgbbmablab.Steps
open Go.RowKit
open Go.Proofs.Ytchkjhgbbmablab.Kit
open Go.Proofs.Ytchkjhgbbmablab.Oct
open Go.Proofs.Ytchkjhgbbmablab.Aes
set_option linter.unusedVariables false

theorem undB : Try.prog.underlying 28 = some (.slice (Try.prog.elem 28)) := by kernel_rfl
theorem elB (w : World) : (sizeOf (Try.prog.elem 28)).run Try.prog w = .ok 1 w := by kernel_rfl
/-- where s[16:] begins -/
def cutA (n S : Nat) : Option Addr := if n = 16 then some ⟨S, 0, none⟩ else (some (⟨S, 0, none⟩ : Addr)).map (·.add 16)
theorem run_cutA (n : Nat) (h : 16 ≤ n) (hm : n ≤ 1000000000) (S : Nat) (w : World) : (Instr.slice 28 (.slice (some ⟨S, 0, none⟩) n n) (some (.int .i64 16)) none none).run Try.prog w = .ok (.slice (cutA n S) (n - 16) (n - 16)) w :=
  run_cut undB elB (some ⟨S, 0, none⟩) n n 16 h (Nat.le_refl _) w

attribute [local go_sem ↓] wp_load16 wp_load16k wp_st16 wp_load16g
attribute [local go_sem] HasRowAt_mk rowAt_mk StOk2_mk stAt_mk
set_option maxRecDepth 100000 in
set_option maxHeartbeats 8000000 in
theorem walk (key from_ : Nat → UInt8) (A : Option Addr) (n c : Nat) (bs : List UInt8) (w : World) (hx : RdB w w.heap.size A n c bs) :
    Calls Try.prog 6 #[.agg (A16 key), .agg (A16 from_), .slice A n c] w fun e w' => e = .returned (.bool true) ∧ Below w.heap.size w w' := by
  obtain ⟨ZV, hZ⟩ : ∃ q, q = Z16 := ⟨_, rfl⟩
  have hz : ∀ w, (zeroValue 22).run Try.prog w = .ok (.agg ZV) w := by rw [hZ]; exact z16
  have hrx := hx.room
  have hl := hx.len
  obtain ⟨KV, hKV⟩ : ∃ q, q = A16 key := ⟨_, rfl⟩
  obtain ⟨FV, hFV⟩ : ∃ q, q = A16 from_ := ⟨_, rfl⟩
  obtain ⟨NV, hNV⟩ : ∃ q, q = A16 (aft from_) := ⟨_, rfl⟩
  obtain ⟨XV, hXV⟩ : ∃ q, q = A16 (blk key from_) := ⟨_, rfl⟩
  have aF : Ag16 FV := by rw [hFV]; exact ag16 _
  have aX : Ag16 XV := by rw [hXV]; exact ag16 _
  obtain ⟨MC, hMC⟩ : ∃ q, q = madeCells #[.int .u8 0] 16 := ⟨_, rfl⟩
  have hmk : ∀ W : World, (Instr.makeSlice 28 (.int .i64 16) (.int .i64 16)).run Try.prog W = .ok (.slice (some ⟨W.heap.size, 0, none⟩) 16 16) (W.alloc (.cells MC 5)) := fun W => by
    rw [hMC]; exact run_make_row' 28 5 (.int .u8 0) 1 Try.underlying28 info5a rfl .i64 .i64 16 (by omega) (by omega) W
  have hml : MC.toList = (List.replicate 16 (0 : UInt8)).map bv := by rw [hMC, toList_madeCells_one]; rfl
  obtain ⟨W2, hW2⟩ : ∃ q, q = (w.alloc (.cells KV 22)).alloc (.cells FV 22) := ⟨_, rfl⟩
  have h2 := heap2 w (.cells KV 22) (.cells FV 22)
  have hk2 : Arr W2 w.heap.size 22 key 16 := by rw [Arr, hW2, h2.1, hKV]; rfl
  have hf2 : Arr W2 (w.heap.size + 1) 22 from_ 16 := by rw [Arr, hW2, h2.2, hFV]; rfl
  have hb2 : Below w.heap.size w W2 := by rw [hW2]; exact below2 _ _ _
  have hnew := new_any key
  rw [← hKV] at hnew
  obtain ⟨D, hD⟩ : ∃ q, q = (strF key from_ bs).drop 16 := ⟨_, rfl⟩
  obtain ⟨A2, hA2⟩ : ∃ q, q = if c = 16 then A else A.map (·.add 16) := ⟨_, rfl⟩
  have HCB := Lib.hid (show 16 ≤ n → ∀ w, (Instr.slice 28 (.slice A n c) (some (.int .i64 16)) none none).run Try.prog w = .ok (.slice A2 (n - 16) (c - 16)) w from fun h w => by rw [hA2]; exact run_cut undB elB A n c 16 h hrx.1 w)
  have HCUT := Lib.hid (show ∀ w', RdB w' w'.heap.size A n c bs → 16 ≤ n → RdB w' w'.heap.size A2 (n - 16) (c - 16) (bs.drop 16) from fun w' h h16 => by
    have := Rd.cut (k := 16) h h16
    rw [← List.map_drop, ← hA2] at this
    exact this)
  have HD2 := Lib.hid (show 16 ≤ n → D = strF key (aft from_) (bs.drop 16) from fun h => by rw [hD]; exact strF_drop key from_ bs (by omega))
  rw [← hKV, ← hFV]
  have HKV := Lib.hid hKV
  have HFV := Lib.hid hFV
  have HNV := Lib.hid hNV
  have HXV := Lib.hid hXV
  have HMC := Lib.hid hml
  have HW2 := Lib.hid hW2
  have HK2 := Lib.hid hk2
  have HF2 := Lib.hid hf2
  have HB2 := Lib.hid hb2
  have HNEW := Lib.hid hnew
  have HZ := Lib.hid hZ
  have HD := Lib.hid hD
  have HRD := Lib.hid hx
  clear hZ hKV hFV hNV hXV hMC hml hW2 h2 hk2 hf2 hb2 hnew hD hA2 hx hl
  by_cases h200 : 200 < n
  · have t1 : decide ((200 : Int) < n) = true := by simp; omega
    go_enter Try.func6, Try.ntmps6
    go_wp2_with fail
    rw [← HW2.out]
    refine (alive5_any _).mono ?_
    rintro e w1 ⟨rfl, hb1⟩
    go_wp2
    go_ret
    exact ⟨rfl, below_seq HB2.out hb1⟩
  · have t1 : decide ((200 : Int) < n) = false := by simp; omega
    go_enter Try.func6, Try.ntmps6
    go_wp2_with fail
    rw [← HW2.out]
    refine (alive5_any _).mono ?_
    rintro e w1 ⟨rfl, hb1⟩
    have hk1 := HK2.out.on hb1 HK2.out.lt
    obtain ⟨f1, f2⟩ := arr_facts hk1
    rw [← HKV.out] at f1
    have HF1 := Lib.hid (HF2.out.on hb1 HF2.out.lt)
    have HB1 := Lib.hid (below_seq HB2.out hb1)
    have hsz2 := HF2.out.lt
    have hsz1 := hb1.size
    clear hk1 hb1
    go_wp2_with fail
    refine (HNEW.out _).mono ?_
    rintro e w3 ⟨S, rfl, hS, hC3, hb3⟩
    have hf3 := HF1.out.on hb3 HF1.out.lt
    obtain ⟨f3, f4⟩ := arr_facts hf3
    rw [← HFV.out] at f3
    obtain ⟨gn, hgn⟩ : ∃ q, q = w3.heap.size := ⟨_, rfl⟩
    have hk : Arr (w3.alloc (.cells ZV 22)) w3.heap.size 22 (fun _ => 0) 16 := by rw [Arr, heap_alloc_new, HZ.out]; rfl
    have th : There16 (w3.alloc (.cells ZV 22)) w3.heap.size 0 := hk.there (by omega)
    have hn5 : Arr ((w3.alloc (.cells ZV 22)).setCells w3.heap.size 0 FV.toList) gn 22 (fun j => if j < 16 then from_ j else 0) 16 := by
      rw [HFV.out, hgn]
      exact (hk.store from_).congr fun i hi => by rw [if_pos hi]
    obtain ⟨W5, hW5⟩ : ∃ q, q = (w3.alloc (.cells ZV 22)).setCells w3.heap.size 0 FV.toList := ⟨_, rfl⟩
    have hb35 : Below w3.heap.size w3 W5 := by rw [hW5]; exact setCells_below (below_of_new w3 _) (Nat.le_refl _) _ _
    rw [← hW5] at hn5
    have hltS := hC3.lt
    have hltF := hf3.lt
    have HN5 := Lib.hid hn5
    have HF5 := Lib.hid (hf3.on hb35 hltF)
    have HC5 := Lib.hid (hC3.on hb35 hltS)
    have HB5 := Lib.hid (below_seq HB1.out (below_seq hb3 hb35))
    have HW5 := Lib.hid hW5
    have HGN := Lib.hid hgn
    have hlt5 : w.heap.size + 1 < gn ∧ S < gn := by omega
    have hgn5 : gn < W5.heap.size := hn5.lt
    clear hb3 hf3 hC3 hk hn5 hW5 hgn hb35 f1 f2
    go_wp2_with fail
    rw [← HW5.out, ← HGN.out]
    clear th f3 f4
    go_loopw [9] (fun i wr => ∃ k : Nat, k ≤ 16 ∧ i = .int .i64 ((k : Int) - 1) ∧ (∀ j, k ≤ j → j < 16 → from_ j + 1 = 0) ∧ Arr wr gn 22 (fun j => if j < k then from_ j else 0) 16 ∧ Below gn W5 wr) (fun i _ => (intOf i + 1).toNat)
    case atStart => exact ⟨16, by omega, rfl, fun j h1 h2 => by omega, HN5.out, Below.refl _ _⟩
    case round =>
      obtain ⟨k, hk, rfl, hall, hga, hbw⟩ := hrel
      rcases k with _ | q
      · skip
        have e : aft from_ = aftK from_ 16 := rfl
        have hn6 : Arr wr gn 22 (aft from_) 16 := hga.congr fun i hi => by rw [if_neg (by omega), e, aft_low from_ 0 16 (by omega) hall i hi, if_neg (by omega)]
        have hf6 := HF5.out.on (B := gn) hbw (by omega)
        have hc6 := HC5.out.on (B := gn) hbw (by omega)
        obtain ⟨y1, y2⟩ := arr_facts hf6
        rw [← HFV.out] at y1
        have hb6 : Below w.heap.size w wr := HB5.out.trans (hbw.mono (by have := HB5.out.size; omega))
        have HN6 := Lib.hid hn6
        have HF6 := Lib.hid hf6
        have HC6 := Lib.hid hc6
        have HB6 := Lib.hid hb6
        clear hn6 hf6 hc6 hb6 hga hall e hbw
        go_wp2_with fail
        obtain ⟨W6, hW6⟩ : ∃ q, q = wr := ⟨_, rfl⟩
        rw [← hW6] at HN6 HF6 HC6 HB6 ⊢
        clear hW6 y1 y2
        have hlg1 := HF6.out.lt
        have hblk : Calls Try.prog 9 #[.pointer (some ⟨S, 0, none⟩), .agg FV] W6 fun e w' => e = .returned (.agg XV) ∧ Below W6.heap.size W6 w' := by
          rw [HFV.out, HXV.out]; exact block_any S key from_ W6 HC6.out
        refine hblk.mono ?_
        clear hblk
        rintro e w7 ⟨rfl, hb7⟩
        have hk : Arr (w7.alloc (.cells ZV 22)) w7.heap.size 22 (fun _ => 0) 16 := by rw [Arr, heap_alloc_new, HZ.out]; rfl
        have th : There16 (w7.alloc (.cells ZV 22)) w7.heap.size 0 := hk.there (by omega)
        obtain ⟨gp, hgp⟩ : ∃ q, q = w7.heap.size := ⟨_, rfl⟩
        obtain ⟨W8, hW8⟩ : ∃ q, q = (w7.alloc (.cells ZV 22)).setCells w7.heap.size 0 XV.toList := ⟨_, rfl⟩
        have hx8 : Arr W8 gp 22 (blk key from_) 16 := by rw [hW8, hgp, HXV.out]; exact hk.store _
        have hb68 : Below W6.heap.size W6 W8 := by rw [hW8]; exact setCells_below (below_alloc hb7 _) hb7.size _ _
        have hf8 := HF6.out.on hb68 hlg1
        have hn8 := HN6.out.on hb68 HN6.out.lt
        have hc8 := HC6.out.on hb68 HC6.out.lt
        have hb8 := below_seq HB6.out hb68
        obtain ⟨r1, r2⟩ := arr_facts (w := W8.drew) hf8
        obtain ⟨r3, r4⟩ := arr_facts (w := (W8.alloc (.cells MC 5)).drew) (Arr.on (w := W8) hf8 (below_drew' (below_of_new W8 _)) hf8.lt)
        rw [← HFV.out] at r1 r3
        have hbd : Below W8.heap.size W8 (W8.alloc (.cells MC 5)).drew := below_drew' (below_of_new W8 _)
        have hstm : Calls Try.prog 13 #[.pointer (some ⟨S, 0, none⟩), .agg FV, .slice (some ⟨W8.heap.size, 0, none⟩) 16 16] (W8.alloc (.cells MC 5)).drew fun e w' => ∃ S9, e = .returned (.slice (some ⟨S9, 0, none⟩) 16 16) ∧ RdB w' w'.heap.size (some ⟨S9, 0, none⟩) 16 16 (row (blk key from_) 16) ∧ Below (W8.alloc (.cells MC 5)).drew.heap.size (W8.alloc (.cells MC 5)).drew w' := by
          rw [HFV.out, ← strF_zero]
          exact stream_new S key from_ _ 16 16 (List.replicate 16 0) _ (hc8.on hbd hc8.lt) (RdB.on (rd_lit' W8 (g := W8.heap.size) (n := 16) rfl HMC.out rfl (by omega)) (below_of_drew ⟨1, rfl⟩ _)) (by omega)
        have HSTM := Lib.hid hstm
        have HF8 := Lib.hid hf8
        have HN8 := Lib.hid hn8
        have HC8 := Lib.hid hc8
        have HB8 := Lib.hid hb8
        have HX8 := Lib.hid hx8
        have HW8 := Lib.hid hW8
        have HGP := Lib.hid hgp
        have hgplt := hx8.lt
        have q0 : True := trivial
        have q1 : True := trivial
        obtain ⟨XR, hXR⟩ : ∃ q, q = row (blk key from_) 16 := ⟨_, rfl⟩
        have HXR := Lib.hid hXR
        clear hk hx8 hb68 hf8 hn8 hc8 hb8 hstm hW8 hgp hb7 hXR
        go_upto_region 13 with fail
        rw [← HW8.out, ← HGP.out]
        go_cut [41] (fun s41 wx => s41 = .bool false ∧ Arr wx gn 22 (aft from_) 16 ∧ Arr wx (w.heap.size + 1) 22 from_ 16 ∧ CipherAt wx S key ∧ Below w.heap.size w wx)
        case first =>
          go_region_law ((first
            | (clear q0; go_simp; go_at_call 13; refine HSTM.out.mono ?_; rintro e w9 ⟨S9, rfl, hr9, hb9⟩; rw [← HXR.out] at hr9; have hb89 := below_seq hbd hb9; have hx9 : RdB w9 w9.heap.size (some ⟨gp, 0, none⟩) 16 16 XR := by { rw [HXR.out]; exact (HX8.out.on hb89 hgplt).rd (by omega) })
            | (clear q1; go_simp; go_at_call 10; refine (same_new _ _ _ _ _ _ XR XR _ hr9 hx9).mono ?_; rintro e w10 ⟨rfl, hb10⟩; rw [show decide (XR = XR) = true from by simp]; have hb810 := below_seq hb89 hb10)))
          all_goals
            go_wp2_with fail
            go_meet
            case rel => exact ⟨rfl, HN8.out.on hb810 HN8.out.lt, HF8.out.on hb810 HF8.out.lt, HC8.out.on hb810 HC8.out.lt, below_seq HB8.out hb810⟩
        case rest =>
          obtain ⟨rfl, hn9, hf9, hc9, hb9⟩ := hcut
          clear HSTM HF8 HN8 HC8 HB8 HX8 HW8 HGP HXR q0 q1 hgplt r1 r2 r3 r4 hbd th
          obtain ⟨w10, hw10⟩ : ∃ W, W = wc := ⟨_, rfl⟩
          rw [← hw10] at hn9 hf9 hc9 hb9 ⊢
          clear hw10
          by_cases h16 : n < 16
          · have t16 : decide ((n : Int) < 16) = true := by simp; omega
            have HB9 := Lib.hid hb9
            clear hn9 hf9 hc9 hb9
            go_wp2_with fail
            go_quiet (fail)
            go_wp2
            go_ret
            exact ⟨rfl, below_seq HB9.out (below_of_drew ⟨_, rfl⟩ _)⟩
          · have t16 : decide ((n : Int) < 16) = false := by simp; omega
            obtain ⟨r1, r2⟩ := arr_facts (w := w10.drew) hf9
            obtain ⟨r3, r4⟩ := arr_facts (w := w10.drew) hn9
            rw [← HFV.out] at r1
            rw [← HNV.out] at r3
            have hst1 : ∀ W, Below w10.heap.size w10 W → Calls Try.prog 13 #[.pointer (some ⟨S, 0, none⟩), .agg (A16 from_), .slice A n c] W fun e w' => ∃ S1, e = .returned (.slice (some ⟨S1, 0, none⟩) n n) ∧ RdB w' w'.heap.size (cutA n S1) (n - 16) (n - 16) D ∧ Below W.heap.size W w' := fun W hW => by
              refine (stream_new S key from_ A n c bs W (hc9.on hW hc9.lt) ((HRD.out.on hb9).on hW) (by omega)).mono ?_
              rintro e w' ⟨S1, he, hr, hb⟩
              refine ⟨S1, he, ?_, hb⟩
              have := Rd.cut (k := 16) hr (by omega)
              rw [← List.map_drop, ← HD.out] at this
              exact this
            have hst2 : ∀ W, Below w10.heap.size w10 W → Calls Try.prog 13 #[.pointer (some ⟨S, 0, none⟩), .agg (A16 (aft from_)), .slice A2 (n - 16) (c - 16)] W fun e w' => ∃ S2, e = .returned (.slice (some ⟨S2, 0, none⟩) (n - 16) (n - 16)) ∧ RdB w' w'.heap.size (some ⟨S2, 0, none⟩) (n - 16) (n - 16) D ∧ Below W.heap.size W w' := fun W hW => by
              rw [HD2.out (by omega)]
              exact stream_new S key (aft from_) A2 (n - 16) (c - 16) (bs.drop 16) W (hc9.on hW hc9.lt) (HCUT.out W ((HRD.out.on hb9).on hW) (by omega)) (by omega)
            have harr : ∀ W, Below w10.heap.size w10 W → Arr W (w.heap.size + 1) 22 from_ 16 ∧ Arr W gn 22 (aft from_) 16 := fun W hW => ⟨hf9.on hW hf9.lt, hn9.on hW hn9.lt⟩
            have HST1 := Lib.hid hst1
            have HST2 := Lib.hid hst2
            have HARR := Lib.hid harr
            have HB9 := Lib.hid hb9
            have hbd : Below w10.heap.size w10 w10.drew := below_of_drew ⟨1, rfl⟩ _
            have hcA := run_cutA n (by omega) (by omega)
            have hcB := HCB.out (by omega)
            clear hn9 hf9 hc9 hst1 hst2 harr hb9
            go_wp2_with fail
            refine wp_region_any (by kernel_rfl) ?_
            change wpAny _ _ _ _ _ _ _ (World.drew _)
            refine wpAny_take (i := 0) (v := .slice A n c) rfl (by kernel_rfl) (by kernel_rfl) (by kernel_rfl) (fun _ _ _ h => h) (Or.inl ⟨by rfl, fun w => by go_simp⟩) ?_
            go_simp
            refine wpAny_take (i := 1) (v := .int .i64 (n : Int)) rfl (by kernel_rfl) (by kernel_rfl) (by kernel_rfl) (fun _ _ _ h => h) (Or.inl ⟨by rfl, fun w => by go_simp⟩) ?_
            go_simp
            refine wpAny_take (i := 2) (v := .bool false) rfl (by kernel_rfl) (by kernel_rfl) (by kernel_rfl) (fun _ _ _ h => h) (Or.inl ⟨by rfl, fun w => by go_simp⟩) ?_
            go_simp
            refine wpAny_take (i := 3) (v := .bool false) rfl (by kernel_rfl) (by kernel_rfl) (by kernel_rfl) (fun _ _ _ h => h) (Or.inl ⟨by rfl, fun w => by go_simp⟩) ?_
            go_simp
            refine wpAny_take (i := 4) (v := .pointer (some ⟨S, 0, none⟩)) rfl (by kernel_rfl) (by kernel_rfl) (by kernel_rfl) (fun _ _ _ h => h) (Or.inl ⟨by rfl, fun w => by go_simp⟩) ?_
            go_simp
            refine wpAny_take (i := 6) (v := .slice A n c) rfl (by kernel_rfl) (by kernel_rfl) (by kernel_rfl) (fun _ _ _ h => h) (Or.inl ⟨by rfl, fun w => by go_simp⟩) ?_
            go_simp
            refine wpAny_take (i := 9) (v := .pointer (some ⟨S, 0, none⟩)) rfl (by kernel_rfl) (by kernel_rfl) (by kernel_rfl) (fun _ _ _ h => h) (Or.inl ⟨by rfl, fun w => by go_simp⟩) ?_
            go_simp
            refine wpAny_take (i := 11) (v := .slice A n c) rfl (by kernel_rfl) (by kernel_rfl) (by kernel_rfl) (fun _ _ _ h => h) (Or.inl ⟨by rfl, fun w => by go_simp⟩) ?_
            go_simp
            refine wpAny_take (i := 12) (v := .slice A2 (n - 16) (c - 16)) rfl (by kernel_rfl) (by kernel_rfl) (by kernel_rfl) (fun _ _ _ h => h) (Or.inl ⟨by rfl, fun w => by go_simp⟩) ?_
            go_simp
            refine wpAny_ready (rs := [5, 10]) (by kernel_rfl) (by simp) ?_
            refine AllReady.cons rfl (fun K hK => ?_) (AllReady.cons rfl (fun K hK => ?_) AllReady.nil)
            · rw [if_pos (by rfl)]
              refine wp_load_mid 22 (.tmp 4) rfl (w.heap.size + 1) 0 rfl ((row (from_) 16).map bv) _ ((HARR.out _ (by assumption)).1.range) Try.underlying22 rfl (by rw [List.length_map, row_len]; exact info16) ?_
              try go_simp
              refine hK _ _ ?_
              clear hK K
              refine wpAny_ready (rs := [7, 10]) (by kernel_rfl) (by simp) ?_
              refine AllReady.cons rfl (fun K hK => ?_) (AllReady.cons rfl (fun K hK => ?_) AllReady.nil)
              · (go_simp; go_at_call 13; refine (HST1.out _ (by assumption)).mono ?_; rintro e wq ⟨S1, rfl, hr1, hbq⟩; have hbn := below_seq (show Below w10.heap.size w10 _ from (by assumption)) hbq)
                try go_simp
                refine hK _ _ ?_
                clear hK K
                refine wpAny_take (i := 8) (v := .slice (cutA n S1) (n - 16) (n - 16)) rfl (by kernel_rfl) (by kernel_rfl) (by kernel_rfl) (fun _ _ _ h => h) (Or.inl ⟨by rfl, fun w => by go_simp⟩) ?_
                go_simp
                refine wpAny_ready (rs := [10]) (by kernel_rfl) (by simp) ?_
                refine AllReady.cons rfl (fun K hK => ?_) AllReady.nil
                rw [if_pos (by rfl)]
                refine wp_load_mid 22 (.tmp 8) rfl (gn) 0 rfl ((row (aft from_) 16).map bv) _ ((HARR.out _ (by assumption)).2.range) Try.underlying22 rfl (by rw [List.length_map, row_len]; exact info16) ?_
                try go_simp
                refine hK _ _ ?_
                clear hK K
                refine wpAny_ready (rs := [13]) (by kernel_rfl) (by simp) ?_
                refine AllReady.cons rfl (fun K hK => ?_) AllReady.nil
                (go_simp; go_at_call 13; refine (HST2.out _ (by assumption)).mono ?_; rintro e wq ⟨S2, rfl, hr2, hbq⟩; have hbn := below_seq (show Below w10.heap.size w10 _ from (by assumption)) hbq; replace hr1 := hr1.on hbq)
                try go_simp
                refine hK _ _ ?_
                clear hK K
                refine wpAny_ready (rs := [14]) (by kernel_rfl) (by simp) ?_
                refine AllReady.cons rfl (fun K hK => ?_) AllReady.nil
                (go_simp; go_at_call 10; refine (same_new _ _ _ _ _ _ D D _ hr1 hr2).mono ?_; rintro e wz ⟨rfl, hbz⟩; rw [show decide (D = D) = true from by simp]; have hbf := below_seq (show Below w10.heap.size w10 _ from (by assumption)) hbz)
                try go_simp
                refine hK _ _ ?_
                clear hK K
                refine wpAny_take (i := 15) (v := .bool true) rfl (by kernel_rfl) (by kernel_rfl) (by kernel_rfl) (fun _ _ _ h => h) (Or.inl ⟨by rfl, fun w => by go_simp⟩) ?_
                go_simp
                refine wpAny_take (i := 16) (v := .bool true) rfl (by kernel_rfl) (by kernel_rfl) (by kernel_rfl) (fun _ _ _ h => h) (Or.inl ⟨by rfl, fun w => by go_simp⟩) ?_
                go_simp
                refine wpAny_done (by kernel_rfl) ?_ _
                have HBF := below_seq HB9.out hbf
                go_wp2
                go_ret
                exact ⟨rfl, HBF⟩
              · rw [if_pos (by rfl)]
                refine wp_load_mid 22 (.tmp 8) rfl (gn) 0 rfl ((row (aft from_) 16).map bv) _ ((HARR.out _ (by assumption)).2.range) Try.underlying22 rfl (by rw [List.length_map, row_len]; exact info16) ?_
                try go_simp
                refine hK _ _ ?_
                clear hK K
                refine wpAny_ready (rs := [7]) (by kernel_rfl) (by simp) ?_
                refine AllReady.cons rfl (fun K hK => ?_) AllReady.nil
                (go_simp; go_at_call 13; refine (HST1.out _ (by assumption)).mono ?_; rintro e wq ⟨S1, rfl, hr1, hbq⟩; have hbn := below_seq (show Below w10.heap.size w10 _ from (by assumption)) hbq)
                try go_simp
                refine hK _ _ ?_
                clear hK K
                refine wpAny_take (i := 8) (v := .slice (cutA n S1) (n - 16) (n - 16)) rfl (by kernel_rfl) (by kernel_rfl) (by kernel_rfl) (fun _ _ _ h => h) (Or.inl ⟨by rfl, fun w => by go_simp⟩) ?_
                go_simp
                refine wpAny_ready (rs := [13]) (by kernel_rfl) (by simp) ?_
                refine AllReady.cons rfl (fun K hK => ?_) AllReady.nil
                (go_simp; go_at_call 13; refine (HST2.out _ (by assumption)).mono ?_; rintro e wq ⟨S2, rfl, hr2, hbq⟩; have hbn := below_seq (show Below w10.heap.size w10 _ from (by assumption)) hbq; replace hr1 := hr1.on hbq)
                try go_simp
                refine hK _ _ ?_
                clear hK K
                refine wpAny_ready (rs := [14]) (by kernel_rfl) (by simp) ?_
                refine AllReady.cons rfl (fun K hK => ?_) AllReady.nil
                (go_simp; go_at_call 10; refine (same_new _ _ _ _ _ _ D D _ hr1 hr2).mono ?_; rintro e wz ⟨rfl, hbz⟩; rw [show decide (D = D) = true from by simp]; have hbf := below_seq (show Below w10.heap.size w10 _ from (by assumption)) hbz)
                try go_simp
                refine hK _ _ ?_
                clear hK K
                refine wpAny_take (i := 15) (v := .bool true) rfl (by kernel_rfl) (by kernel_rfl) (by kernel_rfl) (fun _ _ _ h => h) (Or.inl ⟨by rfl, fun w => by go_simp⟩) ?_
                go_simp
                refine wpAny_take (i := 16) (v := .bool true) rfl (by kernel_rfl) (by kernel_rfl) (by kernel_rfl) (fun _ _ _ h => h) (Or.inl ⟨by rfl, fun w => by go_simp⟩) ?_
                go_simp
                refine wpAny_done (by kernel_rfl) ?_ _
                have HBF := below_seq HB9.out hbf
                go_wp2
                go_ret
                exact ⟨rfl, HBF⟩
            · rw [if_pos (by rfl)]
              refine wp_load_mid 22 (.tmp 8) rfl (gn) 0 rfl ((row (aft from_) 16).map bv) _ ((HARR.out _ (by assumption)).2.range) Try.underlying22 rfl (by rw [List.length_map, row_len]; exact info16) ?_
              try go_simp
              refine hK _ _ ?_
              clear hK K
              refine wpAny_ready (rs := [5]) (by kernel_rfl) (by simp) ?_
              refine AllReady.cons rfl (fun K hK => ?_) AllReady.nil
              rw [if_pos (by rfl)]
              refine wp_load_mid 22 (.tmp 4) rfl (w.heap.size + 1) 0 rfl ((row (from_) 16).map bv) _ ((HARR.out _ (by assumption)).1.range) Try.underlying22 rfl (by rw [List.length_map, row_len]; exact info16) ?_
              try go_simp
              refine hK _ _ ?_
              clear hK K
              refine wpAny_ready (rs := [7]) (by kernel_rfl) (by simp) ?_
              refine AllReady.cons rfl (fun K hK => ?_) AllReady.nil
              (go_simp; go_at_call 13; refine (HST1.out _ (by assumption)).mono ?_; rintro e wq ⟨S1, rfl, hr1, hbq⟩; have hbn := below_seq (show Below w10.heap.size w10 _ from (by assumption)) hbq)
              try go_simp
              refine hK _ _ ?_
              clear hK K
              refine wpAny_take (i := 8) (v := .slice (cutA n S1) (n - 16) (n - 16)) rfl (by kernel_rfl) (by kernel_rfl) (by kernel_rfl) (fun _ _ _ h => h) (Or.inl ⟨by rfl, fun w => by go_simp⟩) ?_
              go_simp
              refine wpAny_ready (rs := [13]) (by kernel_rfl) (by simp) ?_
              refine AllReady.cons rfl (fun K hK => ?_) AllReady.nil
              (go_simp; go_at_call 13; refine (HST2.out _ (by assumption)).mono ?_; rintro e wq ⟨S2, rfl, hr2, hbq⟩; have hbn := below_seq (show Below w10.heap.size w10 _ from (by assumption)) hbq; replace hr1 := hr1.on hbq)
              try go_simp
              refine hK _ _ ?_
              clear hK K
              refine wpAny_ready (rs := [14]) (by kernel_rfl) (by simp) ?_
              refine AllReady.cons rfl (fun K hK => ?_) AllReady.nil
              (go_simp; go_at_call 10; refine (same_new _ _ _ _ _ _ D D _ hr1 hr2).mono ?_; rintro e wz ⟨rfl, hbz⟩; rw [show decide (D = D) = true from by simp]; have hbf := below_seq (show Below w10.heap.size w10 _ from (by assumption)) hbz)
              try go_simp
              refine hK _ _ ?_
              clear hK K
              refine wpAny_take (i := 15) (v := .bool true) rfl (by kernel_rfl) (by kernel_rfl) (by kernel_rfl) (fun _ _ _ h => h) (Or.inl ⟨by rfl, fun w => by go_simp⟩) ?_
              go_simp
              refine wpAny_take (i := 16) (v := .bool true) rfl (by kernel_rfl) (by kernel_rfl) (by kernel_rfl) (fun _ _ _ h => h) (Or.inl ⟨by rfl, fun w => by go_simp⟩) ?_
              go_simp
              refine wpAny_done (by kernel_rfl) ?_ _
              have HBF := below_seq HB9.out hbf
              go_wp2
              go_ret
              exact ⟨rfl, HBF⟩
      · rw [show (((q + 1 : Nat) : Int) - 1) = (q : Int) from by omega]
        have l1 : (q : Int) < 16 := by omega
        obtain ⟨x, hx⟩ : ∃ x, x = from_ q := ⟨_, rfl⟩
        obtain ⟨v, hv⟩ : ∃ u, u = x + 1 := ⟨_, rfl⟩
        have y1 := inc_u8 hv
        have y2 : IntKind.u8.wrap ((x.toNat : Int) + 1) = (v.toNat : Int) := by rw [← y1]; rfl
        have c1 := hga.cell (show q < 16 by omega)
        rw [if_pos (by omega), ← hx] at c1
        have f1 := hga.frozen q
        have hs1 := hga.set' (show q < 16 by omega) v
        have c2 := hs1.cell (show q < 16 by omega)
        rw [if_pos rfl] at c2
        have hs4 : Below gn W5 (wr.setCell ⟨gn, q, none⟩ (.int .u8 (v.toNat : Int))) := hbw.setCell (Nat.le_refl _) _
        by_cases hv0 : v = 0
        · have t0 : ((v.toNat : Int) != 0) = false := by rw [hv0]; rfl
          have hs5 : Arr (wr.setCell ⟨gn, q, none⟩ (.int .u8 (v.toNat : Int))) gn 22 (fun j => if j < q then from_ j else 0) 16 := hs1.congr fun i hi => by
            by_cases h : i = q
            · rw [if_pos h, if_neg (by omega), hv0]
            · rw [if_neg h]
              by_cases h2 : i < q
              · rw [if_pos h2, if_pos (by omega)]
              · rw [if_neg h2, if_neg (by omega)]
          have hall2 : ∀ j, q ≤ j → j < 16 → from_ j + 1 = 0 := fun j h1 h2 => by
            by_cases h : j = q
            · rw [h, ← hx, ← hv, hv0]
            · exact hall j (by omega) h2
          have HS4 := Lib.hid hs4
          have HS5 := Lib.hid hs5
          have HA2 := Lib.hid hall2
          clear hx hv hv0 hs1 hs4 hs5 hall2 hall hga hbw
          go_wp2_with fail
          go_roundw
          case rel => exact ⟨q, by omega, by first | rfl | go_num, HA2.out, HS5.out, HS4.out⟩
          case measure => first | (simp [intOf]; done) | (simp [intOf]; omega)
        · have t0 : ((v.toNat : Int) != 0) = true := by
            rw [bne_iff_ne]; intro h; apply hv0; rw [← UInt8.toNat_inj]; simpa using h
          have e : aft from_ = aftK from_ 16 := rfl
          have hn6 : Arr (wr.setCell ⟨gn, q, none⟩ (.int .u8 (v.toNat : Int))) gn 22 (aft from_) 16 := by
            refine hs1.congr fun i hi => ?_
            rw [e, aft_low from_ (q + 1) 16 (by omega) hall i hi]
            by_cases h : i = q
            · rw [if_pos h, if_pos (by omega), aftK_succ, if_pos h, ← hx, ← hv]
            · rw [if_neg h]
              by_cases h2 : i < q + 1
              · rw [if_pos h2, if_pos h2, aftK_succ, if_neg h, ← hx, ← hv, if_neg hv0]
              · rw [if_neg h2, if_neg h2]
          have hf6 := HF5.out.on (B := gn) hs4 (by omega)
          have hc6 := HC5.out.on (B := gn) hs4 (by omega)
          obtain ⟨y3, y4⟩ := arr_facts hf6
          rw [← HFV.out] at y3
          have hb6 : Below w.heap.size w (wr.setCell ⟨gn, q, none⟩ (.int .u8 (v.toNat : Int))) := HB5.out.trans (hs4.mono (by have := HB5.out.size; omega))
          have HN6 := Lib.hid hn6
          have HF6 := Lib.hid hf6
          have HC6 := Lib.hid hc6
          have HB6 := Lib.hid hb6
          clear hx hv hv0 hs1 hs4 hall hga hbw e hn6 hf6 hc6 hb6
          go_wp2_with fail
          obtain ⟨W6, hW6⟩ : ∃ W, W = wr.setCell ⟨gn, q, none⟩ (.int .u8 (v.toNat : Int)) := ⟨_, rfl⟩
          rw [← hW6] at HN6 HF6 HC6 HB6 ⊢
          clear hW6 y3 y4 y1 y2 c1 c2 f1 t0 l1
          have hlg1 := HF6.out.lt
          have hblk : Calls Try.prog 9 #[.pointer (some ⟨S, 0, none⟩), .agg FV] W6 fun e w' => e = .returned (.agg XV) ∧ Below W6.heap.size W6 w' := by
            rw [HFV.out, HXV.out]; exact block_any S key from_ W6 HC6.out
          refine hblk.mono ?_
          clear hblk
          rintro e w7 ⟨rfl, hb7⟩
          have hk : Arr (w7.alloc (.cells ZV 22)) w7.heap.size 22 (fun _ => 0) 16 := by rw [Arr, heap_alloc_new, HZ.out]; rfl
          have th : There16 (w7.alloc (.cells ZV 22)) w7.heap.size 0 := hk.there (by omega)
          obtain ⟨gp, hgp⟩ : ∃ q, q = w7.heap.size := ⟨_, rfl⟩
          obtain ⟨W8, hW8⟩ : ∃ q, q = (w7.alloc (.cells ZV 22)).setCells w7.heap.size 0 XV.toList := ⟨_, rfl⟩
          have hx8 : Arr W8 gp 22 (blk key from_) 16 := by rw [hW8, hgp, HXV.out]; exact hk.store _
          have hb68 : Below W6.heap.size W6 W8 := by rw [hW8]; exact setCells_below (below_alloc hb7 _) hb7.size _ _
          have hf8 := HF6.out.on hb68 hlg1
          have hn8 := HN6.out.on hb68 HN6.out.lt
          have hc8 := HC6.out.on hb68 HC6.out.lt
          have hb8 := below_seq HB6.out hb68
          obtain ⟨r1, r2⟩ := arr_facts (w := W8.drew) hf8
          obtain ⟨r3, r4⟩ := arr_facts (w := (W8.alloc (.cells MC 5)).drew) (Arr.on (w := W8) hf8 (below_drew' (below_of_new W8 _)) hf8.lt)
          rw [← HFV.out] at r1 r3
          have hbd : Below W8.heap.size W8 (W8.alloc (.cells MC 5)).drew := below_drew' (below_of_new W8 _)
          have hstm : Calls Try.prog 13 #[.pointer (some ⟨S, 0, none⟩), .agg FV, .slice (some ⟨W8.heap.size, 0, none⟩) 16 16] (W8.alloc (.cells MC 5)).drew fun e w' => ∃ S9, e = .returned (.slice (some ⟨S9, 0, none⟩) 16 16) ∧ RdB w' w'.heap.size (some ⟨S9, 0, none⟩) 16 16 (row (blk key from_) 16) ∧ Below (W8.alloc (.cells MC 5)).drew.heap.size (W8.alloc (.cells MC 5)).drew w' := by
            rw [HFV.out, ← strF_zero]
            exact stream_new S key from_ _ 16 16 (List.replicate 16 0) _ (hc8.on hbd hc8.lt) (RdB.on (rd_lit' W8 (g := W8.heap.size) (n := 16) rfl HMC.out rfl (by omega)) (below_of_drew ⟨1, rfl⟩ _)) (by omega)
          have HSTM := Lib.hid hstm
          have HF8 := Lib.hid hf8
          have HN8 := Lib.hid hn8
          have HC8 := Lib.hid hc8
          have HB8 := Lib.hid hb8
          have HX8 := Lib.hid hx8
          have HW8 := Lib.hid hW8
          have HGP := Lib.hid hgp
          have hgplt := hx8.lt
          have q0 : True := trivial
          have q1 : True := trivial
          obtain ⟨XR, hXR⟩ : ∃ q, q = row (blk key from_) 16 := ⟨_, rfl⟩
          have HXR := Lib.hid hXR
          clear hk hx8 hb68 hf8 hn8 hc8 hb8 hstm hW8 hgp hb7 hXR
          go_upto_region 13 with fail
          rw [← HW8.out, ← HGP.out]
          go_cut [41] (fun s41 wx => s41 = .bool false ∧ Arr wx gn 22 (aft from_) 16 ∧ Arr wx (w.heap.size + 1) 22 from_ 16 ∧ CipherAt wx S key ∧ Below w.heap.size w wx)
          case first =>
            go_region_law ((first
              | (clear q0; go_simp; go_at_call 13; refine HSTM.out.mono ?_; rintro e w9 ⟨S9, rfl, hr9, hb9⟩; rw [← HXR.out] at hr9; have hb89 := below_seq hbd hb9; have hx9 : RdB w9 w9.heap.size (some ⟨gp, 0, none⟩) 16 16 XR := by { rw [HXR.out]; exact (HX8.out.on hb89 hgplt).rd (by omega) })
              | (clear q1; go_simp; go_at_call 10; refine (same_new _ _ _ _ _ _ XR XR _ hr9 hx9).mono ?_; rintro e w10 ⟨rfl, hb10⟩; rw [show decide (XR = XR) = true from by simp]; have hb810 := below_seq hb89 hb10)))
            all_goals
              go_wp2_with fail
              go_meet
              case rel => exact ⟨rfl, HN8.out.on hb810 HN8.out.lt, HF8.out.on hb810 HF8.out.lt, HC8.out.on hb810 HC8.out.lt, below_seq HB8.out hb810⟩
          case rest =>
            obtain ⟨rfl, hn9, hf9, hc9, hb9⟩ := hcut
            clear HSTM HF8 HN8 HC8 HB8 HX8 HW8 HGP HXR q0 q1 hgplt r1 r2 r3 r4 hbd th
            obtain ⟨w10, hw10⟩ : ∃ W, W = wc := ⟨_, rfl⟩
            rw [← hw10] at hn9 hf9 hc9 hb9 ⊢
            clear hw10
            by_cases h16 : n < 16
            · have t16 : decide ((n : Int) < 16) = true := by simp; omega
              have HB9 := Lib.hid hb9
              clear hn9 hf9 hc9 hb9
              go_wp2_with fail
              go_quiet (fail)
              go_wp2
              go_ret
              exact ⟨rfl, below_seq HB9.out (below_of_drew ⟨_, rfl⟩ _)⟩
            · have t16 : decide ((n : Int) < 16) = false := by simp; omega
              obtain ⟨r1, r2⟩ := arr_facts (w := w10.drew) hf9
              obtain ⟨r3, r4⟩ := arr_facts (w := w10.drew) hn9
              rw [← HFV.out] at r1
              rw [← HNV.out] at r3
              have hst1 : ∀ W, Below w10.heap.size w10 W → Calls Try.prog 13 #[.pointer (some ⟨S, 0, none⟩), .agg (A16 from_), .slice A n c] W fun e w' => ∃ S1, e = .returned (.slice (some ⟨S1, 0, none⟩) n n) ∧ RdB w' w'.heap.size (cutA n S1) (n - 16) (n - 16) D ∧ Below W.heap.size W w' := fun W hW => by
                refine (stream_new S key from_ A n c bs W (hc9.on hW hc9.lt) ((HRD.out.on hb9).on hW) (by omega)).mono ?_
                rintro e w' ⟨S1, he, hr, hb⟩
                refine ⟨S1, he, ?_, hb⟩
                have := Rd.cut (k := 16) hr (by omega)
                rw [← List.map_drop, ← HD.out] at this
                exact this
              have hst2 : ∀ W, Below w10.heap.size w10 W → Calls Try.prog 13 #[.pointer (some ⟨S, 0, none⟩), .agg (A16 (aft from_)), .slice A2 (n - 16) (c - 16)] W fun e w' => ∃ S2, e = .returned (.slice (some ⟨S2, 0, none⟩) (n - 16) (n - 16)) ∧ RdB w' w'.heap.size (some ⟨S2, 0, none⟩) (n - 16) (n - 16) D ∧ Below W.heap.size W w' := fun W hW => by
                rw [HD2.out (by omega)]
                exact stream_new S key (aft from_) A2 (n - 16) (c - 16) (bs.drop 16) W (hc9.on hW hc9.lt) (HCUT.out W ((HRD.out.on hb9).on hW) (by omega)) (by omega)
              have harr : ∀ W, Below w10.heap.size w10 W → Arr W (w.heap.size + 1) 22 from_ 16 ∧ Arr W gn 22 (aft from_) 16 := fun W hW => ⟨hf9.on hW hf9.lt, hn9.on hW hn9.lt⟩
              have HST1 := Lib.hid hst1
              have HST2 := Lib.hid hst2
              have HARR := Lib.hid harr
              have HB9 := Lib.hid hb9
              have hbd : Below w10.heap.size w10 w10.drew := below_of_drew ⟨1, rfl⟩ _
              have hcA := run_cutA n (by omega) (by omega)
              have hcB := HCB.out (by omega)
              clear hn9 hf9 hc9 hst1 hst2 harr hb9
              go_wp2_with fail
              refine wp_region_any (by kernel_rfl) ?_
              change wpAny _ _ _ _ _ _ _ (World.drew _)
              refine wpAny_take (i := 0) (v := .slice A n c) rfl (by kernel_rfl) (by kernel_rfl) (by kernel_rfl) (fun _ _ _ h => h) (Or.inl ⟨by rfl, fun w => by go_simp⟩) ?_
              go_simp
              refine wpAny_take (i := 1) (v := .int .i64 (n : Int)) rfl (by kernel_rfl) (by kernel_rfl) (by kernel_rfl) (fun _ _ _ h => h) (Or.inl ⟨by rfl, fun w => by go_simp⟩) ?_
              go_simp
              refine wpAny_take (i := 2) (v := .bool false) rfl (by kernel_rfl) (by kernel_rfl) (by kernel_rfl) (fun _ _ _ h => h) (Or.inl ⟨by rfl, fun w => by go_simp⟩) ?_
              go_simp
              refine wpAny_take (i := 3) (v := .bool false) rfl (by kernel_rfl) (by kernel_rfl) (by kernel_rfl) (fun _ _ _ h => h) (Or.inl ⟨by rfl, fun w => by go_simp⟩) ?_
              go_simp
              refine wpAny_take (i := 4) (v := .pointer (some ⟨S, 0, none⟩)) rfl (by kernel_rfl) (by kernel_rfl) (by kernel_rfl) (fun _ _ _ h => h) (Or.inl ⟨by rfl, fun w => by go_simp⟩) ?_
              go_simp
              refine wpAny_take (i := 6) (v := .slice A n c) rfl (by kernel_rfl) (by kernel_rfl) (by kernel_rfl) (fun _ _ _ h => h) (Or.inl ⟨by rfl, fun w => by go_simp⟩) ?_
              go_simp
              refine wpAny_take (i := 9) (v := .pointer (some ⟨S, 0, none⟩)) rfl (by kernel_rfl) (by kernel_rfl) (by kernel_rfl) (fun _ _ _ h => h) (Or.inl ⟨by rfl, fun w => by go_simp⟩) ?_
              go_simp
              refine wpAny_take (i := 11) (v := .slice A n c) rfl (by kernel_rfl) (by kernel_rfl) (by kernel_rfl) (fun _ _ _ h => h) (Or.inl ⟨by rfl, fun w => by go_simp⟩) ?_
              go_simp
              refine wpAny_take (i := 12) (v := .slice A2 (n - 16) (c - 16)) rfl (by kernel_rfl) (by kernel_rfl) (by kernel_rfl) (fun _ _ _ h => h) (Or.inl ⟨by rfl, fun w => by go_simp⟩) ?_
              go_simp
              refine wpAny_ready (rs := [5, 10]) (by kernel_rfl) (by simp) ?_
              refine AllReady.cons rfl (fun K hK => ?_) (AllReady.cons rfl (fun K hK => ?_) AllReady.nil)
              · rw [if_pos (by rfl)]
                refine wp_load_mid 22 (.tmp 4) rfl (w.heap.size + 1) 0 rfl ((row (from_) 16).map bv) _ ((HARR.out _ (by assumption)).1.range) Try.underlying22 rfl (by rw [List.length_map, row_len]; exact info16) ?_
                try go_simp
                refine hK _ _ ?_
                clear hK K
                refine wpAny_ready (rs := [7, 10]) (by kernel_rfl) (by simp) ?_
                refine AllReady.cons rfl (fun K hK => ?_) (AllReady.cons rfl (fun K hK => ?_) AllReady.nil)
                · (go_simp; go_at_call 13; refine (HST1.out _ (by assumption)).mono ?_; rintro e wq ⟨S1, rfl, hr1, hbq⟩; have hbn := below_seq (show Below w10.heap.size w10 _ from (by assumption)) hbq)
                  try go_simp
                  refine hK _ _ ?_
                  clear hK K
                  refine wpAny_take (i := 8) (v := .slice (cutA n S1) (n - 16) (n - 16)) rfl (by kernel_rfl) (by kernel_rfl) (by kernel_rfl) (fun _ _ _ h => h) (Or.inl ⟨by rfl, fun w => by go_simp⟩) ?_
                  go_simp
                  refine wpAny_ready (rs := [10]) (by kernel_rfl) (by simp) ?_
                  refine AllReady.cons rfl (fun K hK => ?_) AllReady.nil
                  rw [if_pos (by rfl)]
                  refine wp_load_mid 22 (.tmp 8) rfl (gn) 0 rfl ((row (aft from_) 16).map bv) _ ((HARR.out _ (by assumption)).2.range) Try.underlying22 rfl (by rw [List.length_map, row_len]; exact info16) ?_
                  try go_simp
                  refine hK _ _ ?_
                  clear hK K
                  refine wpAny_ready (rs := [13]) (by kernel_rfl) (by simp) ?_
                  refine AllReady.cons rfl (fun K hK => ?_) AllReady.nil
                  (go_simp; go_at_call 13; refine (HST2.out _ (by assumption)).mono ?_; rintro e wq ⟨S2, rfl, hr2, hbq⟩; have hbn := below_seq (show Below w10.heap.size w10 _ from (by assumption)) hbq; replace hr1 := hr1.on hbq)
                  try go_simp
                  refine hK _ _ ?_
                  clear hK K
                  refine wpAny_ready (rs := [14]) (by kernel_rfl) (by simp) ?_
                  refine AllReady.cons rfl (fun K hK => ?_) AllReady.nil
                  (go_simp; go_at_call 10; refine (same_new _ _ _ _ _ _ D D _ hr1 hr2).mono ?_; rintro e wz ⟨rfl, hbz⟩; rw [show decide (D = D) = true from by simp]; have hbf := below_seq (show Below w10.heap.size w10 _ from (by assumption)) hbz)
                  try go_simp
                  refine hK _ _ ?_
                  clear hK K
                  refine wpAny_take (i := 15) (v := .bool true) rfl (by kernel_rfl) (by kernel_rfl) (by kernel_rfl) (fun _ _ _ h => h) (Or.inl ⟨by rfl, fun w => by go_simp⟩) ?_
                  go_simp
                  refine wpAny_take (i := 16) (v := .bool true) rfl (by kernel_rfl) (by kernel_rfl) (by kernel_rfl) (fun _ _ _ h => h) (Or.inl ⟨by rfl, fun w => by go_simp⟩) ?_
                  go_simp
                  refine wpAny_done (by kernel_rfl) ?_ _
                  have HBF := below_seq HB9.out hbf
                  go_wp2
                  go_ret
                  exact ⟨rfl, HBF⟩
                · rw [if_pos (by rfl)]
                  refine wp_load_mid 22 (.tmp 8) rfl (gn) 0 rfl ((row (aft from_) 16).map bv) _ ((HARR.out _ (by assumption)).2.range) Try.underlying22 rfl (by rw [List.length_map, row_len]; exact info16) ?_
                  try go_simp
                  refine hK _ _ ?_
                  clear hK K
                  refine wpAny_ready (rs := [7]) (by kernel_rfl) (by simp) ?_
                  refine AllReady.cons rfl (fun K hK => ?_) AllReady.nil
                  (go_simp; go_at_call 13; refine (HST1.out _ (by assumption)).mono ?_; rintro e wq ⟨S1, rfl, hr1, hbq⟩; have hbn := below_seq (show Below w10.heap.size w10 _ from (by assumption)) hbq)
                  try go_simp
                  refine hK _ _ ?_
                  clear hK K
                  refine wpAny_take (i := 8) (v := .slice (cutA n S1) (n - 16) (n - 16)) rfl (by kernel_rfl) (by kernel_rfl) (by kernel_rfl) (fun _ _ _ h => h) (Or.inl ⟨by rfl, fun w => by go_simp⟩) ?_
                  go_simp
                  refine wpAny_ready (rs := [13]) (by kernel_rfl) (by simp) ?_
                  refine AllReady.cons rfl (fun K hK => ?_) AllReady.nil
                  (go_simp; go_at_call 13; refine (HST2.out _ (by assumption)).mono ?_; rintro e wq ⟨S2, rfl, hr2, hbq⟩; have hbn := below_seq (show Below w10.heap.size w10 _ from (by assumption)) hbq; replace hr1 := hr1.on hbq)
                  try go_simp
                  refine hK _ _ ?_
                  clear hK K
                  refine wpAny_ready (rs := [14]) (by kernel_rfl) (by simp) ?_
                  refine AllReady.cons rfl (fun K hK => ?_) AllReady.nil
                  (go_simp; go_at_call 10; refine (same_new _ _ _ _ _ _ D D _ hr1 hr2).mono ?_; rintro e wz ⟨rfl, hbz⟩; rw [show decide (D = D) = true from by simp]; have hbf := below_seq (show Below w10.heap.size w10 _ from (by assumption)) hbz)
                  try go_simp
                  refine hK _ _ ?_
                  clear hK K
                  refine wpAny_take (i := 15) (v := .bool true) rfl (by kernel_rfl) (by kernel_rfl) (by kernel_rfl) (fun _ _ _ h => h) (Or.inl ⟨by rfl, fun w => by go_simp⟩) ?_
                  go_simp
                  refine wpAny_take (i := 16) (v := .bool true) rfl (by kernel_rfl) (by kernel_rfl) (by kernel_rfl) (fun _ _ _ h => h) (Or.inl ⟨by rfl, fun w => by go_simp⟩) ?_
                  go_simp
                  refine wpAny_done (by kernel_rfl) ?_ _
                  have HBF := below_seq HB9.out hbf
                  go_wp2
                  go_ret
                  exact ⟨rfl, HBF⟩
              · rw [if_pos (by rfl)]
                refine wp_load_mid 22 (.tmp 8) rfl (gn) 0 rfl ((row (aft from_) 16).map bv) _ ((HARR.out _ (by assumption)).2.range) Try.underlying22 rfl (by rw [List.length_map, row_len]; exact info16) ?_
                try go_simp
                refine hK _ _ ?_
                clear hK K
                refine wpAny_ready (rs := [5]) (by kernel_rfl) (by simp) ?_
                refine AllReady.cons rfl (fun K hK => ?_) AllReady.nil
                rw [if_pos (by rfl)]
                refine wp_load_mid 22 (.tmp 4) rfl (w.heap.size + 1) 0 rfl ((row (from_) 16).map bv) _ ((HARR.out _ (by assumption)).1.range) Try.underlying22 rfl (by rw [List.length_map, row_len]; exact info16) ?_
                try go_simp
                refine hK _ _ ?_
                clear hK K
                refine wpAny_ready (rs := [7]) (by kernel_rfl) (by simp) ?_
                refine AllReady.cons rfl (fun K hK => ?_) AllReady.nil
                (go_simp; go_at_call 13; refine (HST1.out _ (by assumption)).mono ?_; rintro e wq ⟨S1, rfl, hr1, hbq⟩; have hbn := below_seq (show Below w10.heap.size w10 _ from (by assumption)) hbq)
                try go_simp
                refine hK _ _ ?_
                clear hK K
                refine wpAny_take (i := 8) (v := .slice (cutA n S1) (n - 16) (n - 16)) rfl (by kernel_rfl) (by kernel_rfl) (by kernel_rfl) (fun _ _ _ h => h) (Or.inl ⟨by rfl, fun w => by go_simp⟩) ?_
                go_simp
                refine wpAny_ready (rs := [13]) (by kernel_rfl) (by simp) ?_
                refine AllReady.cons rfl (fun K hK => ?_) AllReady.nil
                (go_simp; go_at_call 13; refine (HST2.out _ (by assumption)).mono ?_; rintro e wq ⟨S2, rfl, hr2, hbq⟩; have hbn := below_seq (show Below w10.heap.size w10 _ from (by assumption)) hbq; replace hr1 := hr1.on hbq)
                try go_simp
                refine hK _ _ ?_
                clear hK K
                refine wpAny_ready (rs := [14]) (by kernel_rfl) (by simp) ?_
                refine AllReady.cons rfl (fun K hK => ?_) AllReady.nil
                (go_simp; go_at_call 10; refine (same_new _ _ _ _ _ _ D D _ hr1 hr2).mono ?_; rintro e wz ⟨rfl, hbz⟩; rw [show decide (D = D) = true from by simp]; have hbf := below_seq (show Below w10.heap.size w10 _ from (by assumption)) hbz)
                try go_simp
                refine hK _ _ ?_
                clear hK K
                refine wpAny_take (i := 15) (v := .bool true) rfl (by kernel_rfl) (by kernel_rfl) (by kernel_rfl) (fun _ _ _ h => h) (Or.inl ⟨by rfl, fun w => by go_simp⟩) ?_
                go_simp
                refine wpAny_take (i := 16) (v := .bool true) rfl (by kernel_rfl) (by kernel_rfl) (by kernel_rfl) (fun _ _ _ h => h) (Or.inl ⟨by rfl, fun w => by go_simp⟩) ?_
                go_simp
                refine wpAny_done (by kernel_rfl) ?_ _
                have HBF := below_seq HB9.out hbf
                go_wp2
                go_ret
                exact ⟨rfl, HBF⟩
end Go.Proofs.Ytchkjhgbbmablab.Steps
