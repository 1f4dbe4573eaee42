/-
  DerOne: what is needed; the walk.
-/
import Derived.Test.YtfinonfkpmlfeaaDww
import Derived.Test.YtfinonfkpmlfeaaCuts
import Derived.Deep.RegionHeldLaw
namespace Go.Proofs.Ytfinonfkpmlfeaa.Der
open Go.RowKit
open Go.Proofs.Ytfinonfkpmlfeaa.Kit
open Go.Proofs.Ytfinonfkpmlfeaa.Oct
set_option linter.unusedVariables false
attribute [local go_sem ↓] Go.wp_at_zero Go.wp_at_succ

theorem wr_ok {x : V} (h : wrE x = 0) : x.right 0 = true ∧ x.enc.length ≤ 4096 ∧ wrB x = x.enc := by
  have hb : wrB x = x.enc := by rw [wrB, if_pos h]
  rw [wrE] at h
  cases hr : x.right 0 with
  | false => rw [hr] at h; simp at h
  | true =>
    rw [hr, if_pos rfl] at h
    by_cases hl : x.enc.length ≤ 4096
    · exact ⟨rfl, hl, hb⟩
    · rw [if_neg hl] at h; omega
theorem wr_no {x : V} (h : ¬ wrE x = 0) : wrB x = [] := by rw [wrB, if_neg h]
theorem rd_ok_enc {x : V} (h : wrE x = 0) (hf : x.fit) (r : List UInt8) : rd 8 (x.enc ++ r) = .ok x x.enc.length :=
  rd_enc x.size x (Nat.le_refl _) hf 0 (wr_ok h).1 (by have := (wr_ok h).2.1; omega) r
/-- without its last byte -/
theorem got_less {x : V} (h : wrE x = 0) (hf : x.fit) : gotE (x.enc.take (x.enc.length - 1)) ≠ 0 := by
  intro h0
  have h2 := x.enc_two
  have hw := wr_ok h
  unfold gotE at h0
  cases hr : rdW (x.enc.take (x.enc.length - 1)) with
  | err e => rw [hr] at h0; have := rdW_err hr (fun e he => rd_err 8 _ e he); simp only [] at h0; omega
  | ok y k =>
    obtain ⟨g1, g2, g3, g4⟩ := rdW_ok hr
    have e1 : x.enc = y.enc ++ x.enc.drop (x.enc.length - 1) := by rw [← g3]; exact (List.take_append_drop _ _).symm
    have e2 := rd_ok_enc h hf []
    rw [List.append_nil, e1] at e2
    have hl : y.enc.length = x.enc.length - 1 := by rw [← g3, List.length_take]; omega
    have e3 := rd_enc y.size y (Nat.le_refl _) g2 0 g1 (by omega) (x.enc.drop (x.enc.length - 1))
    have e3' : rd 8 (y.enc ++ x.enc.drop (x.enc.length - 1)) = .ok y y.enc.length := e3
    rw [e3'] at e2
    injection e2 with e4 e5
    rw [← e1] at e5
    omega
/-- with one more -/
theorem got_more {x : V} (h : wrE x = 0) (hf : x.fit) (b : UInt8) : gotE (x.enc ++ [b]) = if x.enc.length = 4096 then 20 else 5 := by
  have hw := wr_ok h
  unfold gotE rdW
  rw [List.length_append, List.length_singleton]
  by_cases h4 : x.enc.length = 4096
  · rw [if_pos (by omega), if_pos h4]
  · rw [if_neg (by omega), if_neg h4, rd_ok_enc h hf [b]]
    simp only []
    rw [if_pos (by omega)]
theorem enc_same {x y : V} (hx : wrE x = 0) (hfx : x.fit) (hy : wrE y = 0) (hfy : y.fit) : decide (x.enc = y.enc) = x.same y := by
  rw [Bool.eq_iff_iff, decide_eq_true_iff, V.same_iff]
  constructor
  · intro e
    have e1 := rd_ok_enc hx hfx []
    rw [e, rd_ok_enc hy hfy []] at e1
    injection e1 with e1 _
    exact e1.symm
  · rintro rfl; rfl

def errOf (k : Nat) : Nat := k + 1
theorem errOf_ne (k : Nat) : (((errOf k : Nat) : Int) != 0) = true := by unfold errOf; rw [bne_iff_ne]; omega
theorem errOf_of {n : Nat} (h : n ≠ 0) : ∃ k, n = errOf k := ⟨n - 1, by unfold errOf; omega⟩
attribute [local go_sem] errOf_ne

set_option maxRecDepth 100000 in
set_option maxHeartbeats 4000000 in
theorem one_walk (x : V) (A : Option Addr) (m c : Nat) (A' : Option Addr) (m' c' : Nat) (y : V) (D : Option Addr) (p q : Nat) (D' : Option Addr) (p' q' : Nat) (more : UInt8) (w : World)
    (hfx : x.fit) (hlx : lim x) (hx : RdV w w.heap.size x A m c A' m' c') (hfy : y.fit) (hly : lim y) (hy : RdV w w.heap.size y D p q D' p' q') :
    Calls Try.prog 5 #[.agg #[.int .i64 x.k, .int .i64 x.t, .int .u64 x.n, .slice A m c, .slice A' m' c'], .agg #[.int .i64 y.k, .int .i64 y.t, .int .u64 y.n, .slice D p q, .slice D' p' q'], .int .u8 more.toNat] w fun e w' => e = .returned (.bool true) ∧ Below w.heap.size w w' := by
  have hb0 : Below w.heap.size w ((w.alloc (.cells #[.int .i64 x.k, .int .i64 x.t, .int .u64 x.n, .slice A m c, .slice A' m' c'] 26)).alloc (.cells #[.int .i64 y.k, .int .i64 y.t, .int .u64 y.n, .slice D p q, .slice D' p' q'] 26)) := (below_of_new _ _).alloc (by simp) _
  have HX0 := Lib.hid (hx.on hb0)
  have HY0 := Lib.hid (hy.on hb0)
  have HFX := Lib.hid hfx
  have HFY := Lib.hid hfy
  have HLX := Lib.hid hlx
  have HLY := Lib.hid hly
  have HB0 := Lib.hid hb0
  clear hfx hlx hx hfy hly hy hb0
  go_enter Try.func5, Try.ntmps5
  go_wp2_with fail
  refine (alive2_any _).mono ?_
  rintro e w1 ⟨rfl, hb1⟩
  obtain ⟨hx0, hx1⟩ := boxes hb1
  have hs1 : w.heap.size + 1 < w1.heap.size := by have := hb1.size; simp at this; omega
  have hB1 := below_seq HB0.out hb1
  have HXA := Lib.hid (fun W (h : Below w1.heap.size w1 W) => (h.block w.heap.size (by omega)).trans hx0)
  have HXB := Lib.hid (fun W (h : Below w1.heap.size w1 W) => (h.block (w.heap.size + 1) (by omega)).trans hx1)
  have HVX := Lib.hid (fun W (h : Below w1.heap.size w1 W) => (HX0.out.on hb1).on h)
  have HVY := Lib.hid (fun W (h : Below w1.heap.size w1 W) => (HY0.out.on hb1).on h)
  obtain ⟨⟨d0, d1, d2, d3, d4⟩, _⟩ := cells5 hx0
  clear hb1 hx0 hx1 HX0 HY0 HB0
  go_wp2_with fail
  refine (Plain_new x _ _ _ _ _ _ _ (HVX.out _ (Below.refl _ _))).mono ?_
  rintro e w2 ⟨A2, m2, c2, rfl, hp2, hb2⟩
  clear d0 d1 d2 d3 d4
  go_wp2_with fail
  refine (Count_new x 3000 _ _ _ _ _ _ _ HLX.out hp2 (by omega) (by omega)).mono ?_
  rintro e w3 ⟨r, rfl, hr, hrs, hb3⟩
  have HRS := Lib.hid hrs
  have hb13 := below_seq hb2 hb3
  have hB3 := below_seq hB1 hb13
  clear hrs hb3 hb2 hp2
  by_cases hr3 : r ≤ 3000
  · have hszx : x.size ≤ 3000 := by have := HRS.out hr3; omega
    have g1 : decide (3000 < r) = false := by simp; omega
    obtain ⟨⟨d0, d1, d2, d3, d4⟩, _⟩ := cells5 (HXB.out _ hb13)
    clear hB1
    go_wp2_with fail
    refine (Plain_new y _ _ _ _ _ _ _ (HVY.out _ hb13)).mono ?_
    rintro e w4 ⟨A4, m4, c4, rfl, hp4, hb4⟩
    clear d0 d1 d2 d3 d4
    go_wp2_with fail
    refine (Count_new y 3000 _ _ _ _ _ _ _ HLY.out hp4 (by omega) (by omega)).mono ?_
    rintro e w5 ⟨r2, rfl, hr2, hrs2, hb5⟩
    have HRS2 := Lib.hid hrs2
    have hb35 := below_seq hb4 hb5
    have hB5 := below_seq hB3 hb35
    have hb15 := below_seq hb13 hb35
    clear hrs2 hb5 hb4 hp4 hb35 hB3 hb13
    by_cases hr4 : r2 ≤ 3000
    · have hszy : y.size ≤ 3000 := by have := HRS2.out hr4; omega
      have g2 : decide (3000 < r2) = false := by simp; omega
      obtain ⟨⟨d0, d1, d2, d3, d4⟩, _⟩ := cells5 (HXA.out _ hb15)
      go_wp2_with fail
      refine (Write_new x _ _ _ _ _ _ _ HFX.out (HVX.out _ hb15)).mono ?_
      rintro e w6 ⟨B6, c6, rfl, hn6⟩
      have hb16 := below_seq hb15 hn6.bl
      have HR6 := Lib.hid hn6.rd
      have hB6 := below_seq hB5 hn6.bl
      clear d0 d1 d2 d3 d4 hb15 hB5 hn6
      obtain ⟨⟨d0, d1, d2, d3, d4⟩, _⟩ := cells5 (HXB.out _ hb16)
      go_wp2_with fail
      refine (Write_new y _ _ _ _ _ _ _ HFY.out (HVY.out _ hb16)).mono ?_
      rintro e w7 ⟨B7, c7, rfl, hn7⟩
      have hb17 := below_seq hb16 hn7.bl
      have hB7 := below_seq hB6 hn7.bl
      have HR67 := Lib.hid (HR6.out.on hn7.bl)
      have HR7 := Lib.hid hn7.rd
      clear d0 d1 d2 d3 d4 hb16 hB6 hn7 HR6
      by_cases hE1 : wrE x = 0
      · by_cases hE2 : wrE y = 0
        · obtain ⟨hrx, hlx, hbx⟩ := wr_ok hE1
          obtain ⟨hry, hly, hby⟩ := wr_ok hE2
          have h2x := x.enc_two
          rw [hbx] at HR67
          rw [hby] at HR7
          rw [hE1, hE2, hbx, hby, show ((0 : Nat) : Int) = 0 from rfl]
          obtain ⟨ea, hea⟩ : ∃ q, q = x.enc := ⟨_, rfl⟩
          obtain ⟨eb, heb⟩ : ∃ q, q = y.enc := ⟨_, rfl⟩
          obtain ⟨n, hn⟩ : ∃ q, q = ea.length := ⟨_, rfl⟩
          have hnx : 2 ≤ n ∧ n ≤ 4096 := by rw [hn, hea]; omega
          rw [← hea, ← hn] at HR67
          rw [← heb] at HR7
          rw [← hea, ← heb, ← hn]
          have HEA := Lib.hid hea
          have HEB := Lib.hid heb
          have HN := Lib.hid hn
          have HE1 := Lib.hid hE1
          have HE2 := Lib.hid hE2
          have hrm := HR67.out.room
          clear hrx hlx hbx hry hly hby h2x hea heb hn hE1 hE2
          have hgl := got_less HE1.out HFX.out
          rw [← HEA.out, ← HN.out] at hgl
          obtain ⟨K, hK⟩ := errOf_of hgl
          have hfr : RdB w7 w7.heap.size B6 (n - 1) c6 (ea.take (n - 1)) := by
            have := Rd.front HR67.out (k := n - 1) (by omega)
            rw [← List.map_take] at this
            exact this
          have hgot := Read_got _ _ _ _ _ hfr
          unfold GotP at hgot
          obtain ⟨v1, hv1⟩ : ∃ v, v = gotV (ea.take (n - 1)) := ⟨_, rfl⟩
          rw [hK, ← hv1] at hgot
          have HG := Lib.hid hgot
          obtain ⟨i0, hi, hz0, hz1, hz2⟩ := info_parts info5
          clear hgl hK hfr hgot hv1
          go_wp2_with fail
          refine HG.out.mono ?_
          rintro e w8 ⟨A8, m8, c8, A8', m8', c8', rfl, _, hb8⟩
          have hBW8 : Below w7.heap.size w7 (w8.alloc (.cells #[.int .i64 v1.k, .int .i64 v1.t, .int .u64 v1.n, .slice A8 m8 c8, .slice A8' m8' c8'] 26)) := below_alloc hb8 _
          have HOWN0 := Lib.hid (show ((w8.alloc (.cells #[.int .i64 v1.k, .int .i64 v1.t, .int .u64 v1.n, .slice A8 m8 c8, .slice A8' m8' c8'] 26)).alloc (.cells #[] 5)).ownsRow (w8.heap.size + 1) 5 1 (.slice (some ⟨w8.heap.size + 1, 0, none⟩) 0 0) 0 [] from by
            have := own_new (w8.alloc (.cells #[.int .i64 v1.k, .int .i64 v1.t, .int .u64 v1.n, .slice A8 m8 c8, .slice A8' m8' c8'] 26)) (base := w8.heap.size + 1) (n := 0) (e := 5) (arr := #[]) (by simp) rfl (by omega)
            rw [World.size_alloc] at this
            exact this)
          have HRA := Lib.hid ((HR67.out.on hBW8).lit (.cells #[] 5))
          have HBW8 := Lib.hid hBW8
          have hs78 := hb8.size
          clear HG hb8 hBW8
          go_wp2_with (first
            | (at_builtin; go_loud (refine wpList_app _ rfl (.tmp 65) (.tmp 66) 23 rfl (w8.heap.size + 1) 5 i0 _ 1 Try.underlying23 hi hz0 hz1 hz2 rfl _ 0 _ (by rfl) HOWN0.out _ B6 n c6 _ (by rfl) HRA.out (bv_one _) (by omega) (by omega) (by simp) ?_); intro A9 c9 w9 hown9 hg9 hat9; rw [Nat.zero_add] at hown9 ⊢; rw [List.nil_append] at hown9; have HOWN9 := Lib.hid hown9; have hB9 : Below w7.heap.size w7 w9 := below_lit HBW8.out (by rw [World.size_alloc]; exact hg9); have hs79 : w8.heap.size + 1 ≤ w9.heap.size := (by have := hg9.size; simp at this; omega); have HB9 := Lib.hid hB9; clear hg9 hat9 hown9 hB9)
            | (at_builtin; go_loud (refine wpList_app _ rfl (.tmp 67) (.tmp 69) 23 rfl (w8.heap.size + 1) 5 i0 _ 1 Try.underlying23 hi hz0 hz1 hz2 rfl _ n _ (by rfl) (HOWN9.out.alloc _) _ (some ⟨w9.heap.size, 0, none⟩) 1 1 ([more].map bv) (by rfl) (rd_lit' w9 rfl rfl rfl (by omega)) (bv_one _) (by omega) (by omega) (by simp; omega) ?_); intro A10 c10 w10 hown10 hg10 hat10))
          have hrd10 : RdB w10 w10.heap.size A10 (n + 1) c10 (ea ++ [more]) := by
            have := Rd.of_own hown10
            rw [← List.map_append] at this
            exact this
          have hb10 : Below w7.heap.size w7 w10 := (below_alloc HB9.out _).grown hg10 (by simp; omega) (fun k hk => by have := (HOWN9.out.lt k hk).1; omega)
          have hgm := got_more HE1.out HFX.out more
          rw [← HEA.out, ← HN.out] at hgm
          have hgot := Read_got _ _ _ _ _ hrd10
          unfold GotP at hgot
          obtain ⟨v2, hv2⟩ : ∃ v, v = gotV (ea ++ [more]) := ⟨_, rfl⟩
          rw [hgm, ← hv2] at hgot
          have hab := enc_same HE1.out HFX.out HE2.out HFY.out
          rw [← HEA.out, ← HEB.out] at hab
          obtain ⟨T, hT⟩ : ∃ T, T = x.same y := ⟨_, rfl⟩
          rw [← hT] at hab
          have HT := Lib.hid hT
          have HAB := Lib.hid hab
          have HG := Lib.hid hgot
          have HB10 := Lib.hid hb10
          have hszx' : x.size ≤ 100000 := by omega
          clear hgm hgot hv2 hrd10 hown10 hg10 hat10 hb10 hab hT
          by_cases hn4 : n = 4096
          · subst hn4
            rw [if_pos rfl, show ((20 : Nat) : Int) = 20 from rfl] at HG
            go_wp2_with fail
            refine HG.out.mono ?_
            rintro e w11 ⟨A11, m11, c11, A11', m11', c11', rfl, _, hb11⟩
            obtain ⟨W, hW⟩ : ∃ W, W = w11.alloc (.cells #[.int .i64 v2.k, .int .i64 v2.t, .int .u64 v2.n, .slice A11 m11 c11, .slice A11' m11' c11'] 26) := ⟨_, rfl⟩
            have hb7W : Below w7.heap.size w7 W := by rw [hW]; exact below_alloc (below_seq HB10.out hb11) _
            have hb1W := below_seq hb17 hb7W
            have HBW := Lib.hid (below_seq hB7 hb7W)
            have hsW1 : w.heap.size + 1 < W.heap.size := Nat.lt_of_lt_of_le hs1 hb1W.size
            have hsW0 : w.heap.size < W.heap.size := by omega
            have HRAW := Lib.hid (fun Z (h : Below W.heap.size W Z) => HR67.out.on (below_seq hb7W h))
            have HRBW := Lib.hid (fun Z (h : Below W.heap.size W Z) => HR7.out.on (below_seq hb7W h))
            have HVXW := Lib.hid (fun Z (h : Below W.heap.size W Z) => HVX.out Z (below_seq hb1W h))
            have HVYW := Lib.hid (fun Z (h : Below W.heap.size W Z) => HVY.out Z (below_seq hb1W h))
            have hdr : Below W.heap.size W W.drew := below_of_drew ⟨1, rfl⟩ _
            obtain ⟨⟨d0, d1, d2, d3, d4⟩, _⟩ := cells5 (HXA.out _ hb1W)
            obtain ⟨⟨f0, f1, f2, f3, f4⟩, _⟩ := cells5 (HXB.out _ hb1W)
            have HW := Lib.hid hW
            clear hW hb7W hb1W hb11 HG
            go_wp2_with fail
            rw [← HW.out]
            go_region_held3 (fun w' => w'.cell? ⟨w.heap.size, 0, none⟩ = some (.int .i64 x.k) ∧ w'.cell? ⟨w.heap.size, 1, none⟩ = some (.int .i64 x.t) ∧ w'.cell? ⟨w.heap.size, 2, none⟩ = some (.int .u64 x.n) ∧ w'.cell? ⟨w.heap.size, 3, none⟩ = some (.slice A m c) ∧ w'.cell? ⟨w.heap.size, 4, none⟩ = some (.slice A' m' c') ∧
              w'.cell? ⟨w.heap.size + 1, 0, none⟩ = some (.int .i64 y.k) ∧ w'.cell? ⟨w.heap.size + 1, 1, none⟩ = some (.int .i64 y.t) ∧ w'.cell? ⟨w.heap.size + 1, 2, none⟩ = some (.int .u64 y.n) ∧ w'.cell? ⟨w.heap.size + 1, 3, none⟩ = some (.slice D p q) ∧ w'.cell? ⟨w.heap.size + 1, 4, none⟩ = some (.slice D' p' q'))
              (first
                | go_keep
                | (go_split_ands
                   refine ⟨?_, ?_, ?_, ?_, ?_, ?_, ?_, ?_, ?_, ?_⟩
                   all_goals (first | exact (hb20.cell hsW0).trans (by assumption) | exact (hb20.cell hsW1).trans (by assumption) | exact (hb21.cell hsA0).trans (by assumption) | exact (hb21.cell hsA1).trans (by assumption))))
              ((first
                | (go_at_call 14; (with_reducible refine (rsame_new _ _ _ _ _ _ ea eb _ (HRAW.out _ hdr) (HRBW.out _ hdr)).mono ?_); rintro r3 w20 ⟨rfl, hb20'⟩; rw [HAB.out]; have hb20 : Below W.heap.size W w20 := below_seq hdr hb20'; have hsA0 := Nat.lt_of_lt_of_le hsW0 hb20.size; have hsA1 := Nat.lt_of_lt_of_le hsW1 hb20.size)
                | (go_at_call 18; (with_reducible refine (Same_new x y _ _ _ _ _ _ _ _ _ _ _ _ _ hszx' (HVXW.out _ hb20) (HVYW.out _ hb20)).mono ?_); rintro r3 w21 ⟨rfl, hb21⟩; rw [← HT.out])))
            have hB21 := below_seq (below_seq HBW.out hb20) hb21
            go_wp2
            go_ret
            exact ⟨rfl, hB21⟩
          · rw [if_neg hn4, show ((5 : Nat) : Int) = 5 from rfl] at HG
            go_wp2_with fail
            refine HG.out.mono ?_
            rintro e w11 ⟨A11, m11, c11, A11', m11', c11', rfl, _, hb11⟩
            obtain ⟨W, hW⟩ : ∃ W, W = w11.alloc (.cells #[.int .i64 v2.k, .int .i64 v2.t, .int .u64 v2.n, .slice A11 m11 c11, .slice A11' m11' c11'] 26) := ⟨_, rfl⟩
            have hb7W : Below w7.heap.size w7 W := by rw [hW]; exact below_alloc (below_seq HB10.out hb11) _
            have hb1W := below_seq hb17 hb7W
            have HBW := Lib.hid (below_seq hB7 hb7W)
            have hsW1 : w.heap.size + 1 < W.heap.size := Nat.lt_of_lt_of_le hs1 hb1W.size
            have hsW0 : w.heap.size < W.heap.size := by omega
            have HRAW := Lib.hid (fun Z (h : Below W.heap.size W Z) => HR67.out.on (below_seq hb7W h))
            have HRBW := Lib.hid (fun Z (h : Below W.heap.size W Z) => HR7.out.on (below_seq hb7W h))
            have HVXW := Lib.hid (fun Z (h : Below W.heap.size W Z) => HVX.out Z (below_seq hb1W h))
            have HVYW := Lib.hid (fun Z (h : Below W.heap.size W Z) => HVY.out Z (below_seq hb1W h))
            have hdr : Below W.heap.size W W.drew := below_of_drew ⟨1, rfl⟩ _
            have HXAW := Lib.hid (fun Z (h : Below W.heap.size W Z) => HXA.out Z (below_seq hb1W h))
            have HXBW := Lib.hid (fun Z (h : Below W.heap.size W Z) => HXB.out Z (below_seq hb1W h))
            have HW := Lib.hid hW
            clear hW hb7W hb1W hb11 HG
            go_wp2_with fail
            rw [← HW.out]
            refine wp_region_held_drew (S := fun w' => Below W.heap.size W w') (by kernel_rfl) hdr (fun hHeld => ?_)
            refine wpAnyH_take (i := 0) (v := .slice B6 n c6) rfl (by kernel_rfl) (by kernel_rfl) (by kernel_rfl) (fun _ _ _ h => h) (Or.inl ⟨by rfl, fun wq hSw => by go_simp⟩) (by assumption) ?_
            go_simp
            refine wpAnyH_take (i := 1) (v := .slice B7 eb.length c7) rfl (by kernel_rfl) (by kernel_rfl) (by kernel_rfl) (fun _ _ _ h => h) (Or.inl ⟨by rfl, fun wq hSw => by go_simp⟩) (by assumption) ?_
            go_simp
            refine wpAnyH_take (i := 3) (v := .agg #[.int .i64 x.k, .int .i64 x.t, .int .u64 x.n, .slice A m c, .slice A' m' c']) rfl (by kernel_rfl) (by kernel_rfl) (by kernel_rfl) (fun _ _ _ h => h) (Or.inl ⟨by rfl, fun wq hSw => by (obtain ⟨⟨d0, d1, d2, d3, d4⟩, _⟩ := cells5 (HXAW.out wq hSw); go_simp)⟩) (by assumption) ?_
            go_simp
            refine wpAnyH_take (i := 4) (v := .agg #[.int .i64 y.k, .int .i64 y.t, .int .u64 y.n, .slice D p q, .slice D' p' q']) rfl (by kernel_rfl) (by kernel_rfl) (by kernel_rfl) (fun _ _ _ h => h) (Or.inl ⟨by rfl, fun wq hSw => by (obtain ⟨⟨f0, f1, f2, f3, f4⟩, _⟩ := cells5 (HXBW.out wq hSw); go_simp)⟩) (by assumption) ?_
            go_simp
            refine wpAnyH_ready (rs := [2]) (by kernel_rfl) (by simp) ?_
            refine AllReadyH.cons rfl (fun K hK => ?_) AllReadyH.nil
            (go_simp; go_at_call 14; refine (rsame_new _ _ _ _ _ _ ea eb _ (HRAW.out _ hdr) (HRBW.out _ hdr)).mono ?_; rintro r3 w20 ⟨rfl, hb20'⟩; rw [HAB.out]; have hb20 : Below W.heap.size W w20 := below_seq hdr hb20')
            try go_simp
            refine hK.out _ _ hb20 (fun hHeld => ?_)
            clear hK K
            refine wpAnyH_ready (rs := [5]) (by kernel_rfl) (by simp) ?_
            refine AllReadyH.cons rfl (fun K hK => ?_) AllReadyH.nil
            (go_simp; go_at_call 18; refine (Same_new x y _ _ _ _ _ _ _ _ _ _ _ _ _ hszx' (HVXW.out _ hb20) (HVYW.out _ hb20)).mono ?_; rintro r3 w21 ⟨rfl, hb21⟩; rw [← HT.out])
            try go_simp
            refine hK.out _ _ (below_seq hb20 hb21) (fun hHeld => ?_)
            clear hK K
            refine wpAnyH_take (i := 6) (v := .bool true) rfl (by kernel_rfl) (by kernel_rfl) (by kernel_rfl) (fun _ _ _ h => h) (Or.inl ⟨by rfl, fun wq hSw => by go_simp⟩) (by assumption) ?_
            go_simp
            refine wpAnyH_take (i := 7) (v := .bool true) rfl (by kernel_rfl) (by kernel_rfl) (by kernel_rfl) (fun _ _ _ h => h) (Or.inl ⟨by rfl, fun wq hSw => by go_simp⟩) (by assumption) ?_
            go_simp
            refine wpAnyH_take (i := 8) (v := .int .i64 (errOf K : Nat)) rfl (by kernel_rfl) (by kernel_rfl) (by kernel_rfl) (fun _ _ _ h => h) (Or.inl ⟨by rfl, fun wq hSw => by go_simp⟩) (by assumption) ?_
            go_simp
            refine wpAnyH_take (i := 9) (v := .bool true) rfl (by kernel_rfl) (by kernel_rfl) (by kernel_rfl) (fun _ _ _ h => h) (Or.inl ⟨by rfl, fun wq hSw => by go_simp⟩) (by assumption) ?_
            go_simp
            refine wpAnyH_take (i := 10) (v := .bool true) rfl (by kernel_rfl) (by kernel_rfl) (by kernel_rfl) (fun _ _ _ h => h) (Or.inl ⟨by rfl, fun wq hSw => by go_simp⟩) (by assumption) ?_
            go_simp
            refine wpAnyH_take (i := 11) (v := .bool true) rfl (by kernel_rfl) (by kernel_rfl) (by kernel_rfl) (fun _ _ _ h => h) (Or.inl ⟨by rfl, fun wq hSw => by go_simp⟩) (by assumption) ?_
            go_simp
            refine wpAnyH_take (i := 12) (v := .int .i64 5) rfl (by kernel_rfl) (by kernel_rfl) (by kernel_rfl) (fun _ _ _ h => h) (Or.inl ⟨by rfl, fun wq hSw => by go_simp⟩) (by assumption) ?_
            go_simp
            refine wpAnyH_take (i := 13) (v := .bool true) rfl (by kernel_rfl) (by kernel_rfl) (by kernel_rfl) (fun _ _ _ h => h) (Or.inl ⟨by rfl, fun wq hSw => by go_simp⟩) (by assumption) ?_
            go_simp
            refine wpAnyH_take (i := 14) (v := .bool true) rfl (by kernel_rfl) (by kernel_rfl) (by kernel_rfl) (fun _ _ _ h => h) (Or.inl ⟨by rfl, fun wq hSw => by go_simp⟩) (by assumption) ?_
            go_simp
            refine wpAnyH_take (i := 15) (v := undef) rfl (by kernel_rfl) (by kernel_rfl) (by kernel_rfl) (fun _ _ _ h => h) (Or.inr ⟨by rfl, rfl⟩) (by assumption) ?_
            go_simp
            refine wpAnyH_take (i := 16) (v := undef) rfl (by kernel_rfl) (by kernel_rfl) (by kernel_rfl) (fun _ _ _ h => h) (Or.inr ⟨by rfl, rfl⟩) (by assumption) ?_
            go_simp
            refine wpAnyH_take (i := 17) (v := undef) rfl (by kernel_rfl) (by kernel_rfl) (by kernel_rfl) (fun _ _ _ h => h) (Or.inr ⟨by rfl, rfl⟩) (by assumption) ?_
            go_simp
            refine wpAnyH_take (i := 18) (v := undef) rfl (by kernel_rfl) (by kernel_rfl) (by kernel_rfl) (fun _ _ _ h => h) (Or.inr ⟨by rfl, rfl⟩) (by assumption) ?_
            go_simp
            refine wpAnyH_take (i := 19) (v := undef) rfl (by kernel_rfl) (by kernel_rfl) (by kernel_rfl) (fun _ _ _ h => h) (Or.inr ⟨by rfl, rfl⟩) (by assumption) ?_
            go_simp
            refine wpAnyH_take (i := 20) (v := undef) rfl (by kernel_rfl) (by kernel_rfl) (by kernel_rfl) (fun _ _ _ h => h) (Or.inr ⟨by rfl, rfl⟩) (by assumption) ?_
            go_simp
            refine wpAnyH_take (i := 21) (v := undef) rfl (by kernel_rfl) (by kernel_rfl) (by kernel_rfl) (fun _ _ _ h => h) (Or.inr ⟨by rfl, rfl⟩) (by assumption) ?_
            go_simp
            refine wpAnyH_take (i := 22) (v := .bool true) rfl (by kernel_rfl) (by kernel_rfl) (by kernel_rfl) (fun _ _ _ h => h) (Or.inl ⟨by rfl, fun wq hSw => by go_simp⟩) (by assumption) ?_
            go_simp
            refine wpAnyH_take (i := 23) (v := .bool true) rfl (by kernel_rfl) (by kernel_rfl) (by kernel_rfl) (fun _ _ _ h => h) (Or.inl ⟨by rfl, fun wq hSw => by go_simp⟩) (by assumption) ?_
            go_simp
            refine wpAnyH_take (i := 24) (v := .bool true) rfl (by kernel_rfl) (by kernel_rfl) (by kernel_rfl) (fun _ _ _ h => h) (Or.inl ⟨by rfl, fun wq hSw => by go_simp⟩) (by assumption) ?_
            go_simp
            refine wpAnyH_done (by kernel_rfl) ?_ _
            have hB21 := below_seq (below_seq HBW.out hb20) hb21
            go_wp2
            go_ret
            exact ⟨rfl, hB21⟩
        · obtain ⟨hrx, hlx, hbx⟩ := wr_ok hE1
          have h2x := x.enc_two
          have hby := wr_no hE2
          have g3 : ((x.enc.length : Int) == 0) = false := beq_eq_false_iff_ne.2 (by omega)
          rcases wrE_cases hE2 with h7 | h7
          all_goals
            rw [hE1, h7, hbx, hby, show ((0 : Nat) : Int) = 0 from rfl, List.length_nil]
            first | rw [show ((7 : Nat) : Int) = 7 from rfl] | rw [show ((20 : Nat) : Int) = 20 from rfl]
            clear hE1 hE2 h7 hbx hby hrx HR67 HR7
            go_wp2
            go_ret
            exact ⟨rfl, hB7⟩
      · have hbx := wr_no hE1
        rcases wrE_cases hE1 with h7 | h7
        all_goals
          rw [h7, hbx, List.length_nil]
          first | rw [show ((7 : Nat) : Int) = 7 from rfl] | rw [show ((20 : Nat) : Int) = 20 from rfl]
          clear hE1 h7 hbx HR67 HR7
          go_wp2
          go_ret
          exact ⟨rfl, hB7⟩
    · have g2 : decide (3000 < r2) = true := by simp; omega
      have p2 : (3000 : Int) < r2 := by omega
      go_wp2
      go_ret
      exact ⟨rfl, hB5⟩
  · have g1 : decide (3000 < r) = true := by simp; omega
    have p1 : (3000 : Int) < r := by omega
    go_wp2
    go_ret
    exact ⟨rfl, hB3⟩
end Go.Proofs.Ytfinonfkpmlfeaa.Der
