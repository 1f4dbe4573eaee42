/-
  THE CONTRACT of the document's Block.
-/
import Derived.Test.YtgebdkbbdabomaaDoorRefd
import Derived.Deep.CutBlock
import Derived.Deep.Onto
namespace Go.Proofs.YtgebdkbbdabomaaDoor.Aes
open Go.RowKit
open Go.Proofs.YtgebdkbbdabomaaDoor.Kit
set_option linter.unusedVariables false

theorem two_way {p q : Prop} (f : p → q) (h : p) : q := f h
theorem m4_doc (a b c d : UInt8) : prodS 2 a ^^^ prodS 3 b ^^^ c ^^^ d = m4 a b c d := by
  rw [prod2_eq, prod3_eq, m4, dbl_add]
  generalize dbl a = x
  generalize dbl b = y
  have e : a ^^^ (a ^^^ b ^^^ c ^^^ d) = b ^^^ c ^^^ d := by rw [UInt8.xor_assoc a b c, UInt8.xor_assoc a (b ^^^ c) d, xor_cancel]
  rw [e]
  ac_rfl
theorem mix_at (f : Nat → UInt8) (c r : Nat) (hr : r < 4) : mixB f (4 * c + r) = m4 (f (c * 4 + r)) (f (c * 4 + (r + 1) % 4)) (f (c * 4 + (r + 2) % 4)) (f (c * 4 + (r + 3) % 4)) := by
  rw [Nat.mul_comm c 4]
  obtain rfl | rfl | rfl | rfl : r = 0 ∨ r = 1 ∨ r = 2 ∨ r = 3 := by omega
  · exact mix0 f c
  · exact mix1 f c
  · exact mix2 f c
  · exact mix3 f c
theorem sh_at (f : Nat → UInt8) (c r : Nat) (hr : r < 4) : shB f (4 * c + r) = sb (f ((c + r) % 4 * 4 + r)) := by
  rw [shB, show (4 * c + r + 4 * ((4 * c + r) % 4)) % 16 = (c + r) % 4 * 4 + r from by omega]
theorem kf_at (key : Nat → UInt8) (n k : Nat) (hk : k < 16) : kf key (16 * n + k) = rk key n k := by
  rw [kf, show (16 * n + k) / 16 = n from by omega, show (16 * n + k) % 16 = k from by omega]
/-- the bytes of a round ahead of its key -/
def preB (S : Nat → UInt8) (n : Nat) : Nat → UInt8 := if n < 10 then mixB (shB S) else shB S
theorem st_next (key m : Nat → UInt8) (n : Nat) (hn : 1 ≤ n) : stB key m n = sumB (preB (stB key m (n - 1)) n) (rk key n) := by
  obtain ⟨r, rfl⟩ : ∃ r, n = r + 1 := ⟨n - 1, by omega⟩
  rw [stB, preB, show r + 1 - 1 = r from rfl]
  by_cases h : r < 9
  · rw [if_pos h, if_pos (by omega)]
  · rw [if_neg h, if_neg (by omega)]
attribute [local irreducible] sbN boxS sb rk fst kf tw stB shB mixB sumB preB
set_option maxRecDepth 100000 in
set_option maxHeartbeats 4000000 in
theorem refblock_new (Ab Ak Am : Option Addr) (cb ck cm : Nat) (key m : Nat → UInt8) (w : World) (hb : RdB w w.heap.size Ab 256 cb (row sbN 256)) (hk : RdB w w.heap.size Ak 16 ck (row key 16)) (hm : RdB w w.heap.size Am 16 cm (row m 16)) :
    Calls Tryd.prog 59 #[.slice Ab 256 cb, .slice Ak 16 ck, .slice Am 16 cm] w fun e w' => ∃ A c, e = .returned (.slice A 16 c) ∧ w'.ownsRow w.heap.size 5 1 (.slice A 16 c) 16 ((row (blk key m) 16).map bv) ∧ Below w.heap.size w w' := by
  obtain ⟨i0, hi, hz0, hz1, hz2⟩ := info_parts info5c
  have HKEYS := Lib.hid (keys_own Ab Ak cb ck key w hb hk)
  obtain ⟨bb, ob, rfl⟩ := hb.addr (by omega)
  obtain ⟨bm, om, rfl⟩ := hm.addr (by omega)
  have hst0 : ∀ k, k < 16 → stB key m 0 k = m k ^^^ kf key k := fun k hk => by rw [stB, sumB, kf, show k / 16 = 0 from by omega, show k % 16 = k from by omega]
  have HST0 := Lib.hid hst0
  have HBLK := Lib.hid (show blk key m = stB key m 10 from rfl)
  have HB := Lib.hid hb
  have HM := Lib.hid hm
  clear hst0 hb hk hm
  go_enter Tryd.func59, Tryd.ntmps59
  go_wp2_with fail
  refine HKEYS.out.mono ?_
  rintro e w1 ⟨Aks, cks, rfl, hks, hbw1⟩
  have hkr := Rd.of_own hks
  have hkrr : RdB w1 w1.heap.size Aks 176 cks (row (kf key) 176) := hkr
  obtain ⟨bk, ok, rfl⟩ := hkrr.addr (by omega)
  have HKS := Lib.hid hkrr
  have HB1 := Lib.hid (HB.out.on hbw1)
  have HM1 := Lib.hid (HM.out.on hbw1)
  have HBW1 := Lib.hid hbw1
  clear hkr hkrr hks hbw1 HB HM HKEYS
  go_wp2_with fail
  go_loopw [8, 9] (fun s i wr => ∃ (k : Nat) (A : Option Addr) (c : Nat), k ≤ 16 ∧ i = .int .i64 (k : Int) ∧ s = .slice A k c ∧ wr.ownsRow w1.heap.size 5 1 (.slice A k c) k ((row (stB key m 0) k).map bv) ∧ Below w1.heap.size w1 wr) (fun _ i _ => 16 - (intOf i).toNat)
  case atStart => exact ⟨0, _, _, by omega, rfl, rfl, own_new w1 (Nat.le_refl _) rfl (by omega), below_of_new w1 _⟩
  case round =>
    obtain ⟨k, A, c, hk, rfl, rfl, hown, hbw⟩ := hrel
    by_cases hlt : k < 16
    · obtain ⟨x, hx⟩ : ∃ x, x = m k := ⟨_, rfl⟩
      obtain ⟨y, hy⟩ : ∃ y, y = kf key k := ⟨_, rfl⟩
      obtain ⟨v, hv⟩ : ∃ u, u = x ^^^ y := ⟨_, rfl⟩
      have ev := xor_nm hv
      have l1 : (k : Int) < 16 := by omega
      have l2 : (k : Int) < 176 := by omega
      have c1 := (HM1.out.on hbw).cell0 (j := k) (by rw [row_len]; omega)
      rw [row_get, ← hx] at c1
      have c2 := (HKS.out.on hbw).cell0 (j := k) (by rw [row_len]; omega)
      rw [row_get, ← hy] at c2
      have hrow : (row (stB key m 0) k).map bv ++ [bv v] = (row (stB key m 0) (k + 1)).map bv := by rw [row_snoc, List.map_append, HST0.out k hlt, hv, hx, hy]; rfl
      have HROW := Lib.hid hrow
      have HOWN := Lib.hid hown
      have HBW := Lib.hid hbw
      clear hx hy hv hrow hown hbw
      as_aux_lemma =>
      go_wp2_with fail
      refine wp_region_any (by kernel_rfl) ?_
      change wpAny _ _ _ _ _ _ _ (World.drew _)
      refine wpAny_take (i := 0) (v := .slice A k c) rfl (by kernel_rfl) (by kernel_rfl) (by kernel_rfl) (fun _ _ _ h => h) (Or.inl ⟨by rfl, fun w => by go_simp⟩) ?_
      go_simp
      refine wpAny_take (i := 1) (v := .slice (some ⟨bm, om, none⟩) 16 cm) rfl (by kernel_rfl) (by kernel_rfl) (by kernel_rfl) (fun _ _ _ h => h) (Or.inl ⟨by rfl, fun w => by go_simp⟩) ?_
      go_simp
      refine wpAny_take (i := 2) (v := .int .i64 (k : Int)) rfl (by kernel_rfl) (by kernel_rfl) (by kernel_rfl) (fun _ _ _ h => h) (Or.inl ⟨by rfl, fun w => by go_simp⟩) ?_
      go_simp
      refine wpAny_take (i := 3) (v := .pointer (some ⟨bm, om + k, none⟩)) rfl (by kernel_rfl) (by kernel_rfl) (by kernel_rfl) (fun _ _ _ h => h) (Or.inl ⟨by rfl, fun w => by go_simp⟩) ?_
      go_simp
      refine wpAny_take (i := 5) (v := .slice (some ⟨bk, ok, none⟩) 176 cks) rfl (by kernel_rfl) (by kernel_rfl) (by kernel_rfl) (fun _ _ _ h => h) (Or.inl ⟨by rfl, fun w => by go_simp⟩) ?_
      go_simp
      refine wpAny_take (i := 6) (v := .int .i64 (k : Int)) rfl (by kernel_rfl) (by kernel_rfl) (by kernel_rfl) (fun _ _ _ h => h) (Or.inl ⟨by rfl, fun w => by go_simp⟩) ?_
      go_simp
      refine wpAny_take (i := 7) (v := .pointer (some ⟨bk, ok + k, none⟩)) rfl (by kernel_rfl) (by kernel_rfl) (by kernel_rfl) (fun _ _ _ h => h) (Or.inl ⟨by rfl, fun w => by go_simp⟩) ?_
      go_simp
      apply two_way
      · intro hboth
        refine wpAny_ready (rs := [4, 8]) (by kernel_rfl) (by simp) ?_
        refine AllReady.cons rfl (fun K hK => ?_) (AllReady.cons rfl (fun K hK => ?_) AllReady.nil)
        · go_simp
          refine hK _ _ ?_
          clear hK K
          refine wpAny_ready (rs := [8]) (by kernel_rfl) (by simp) ?_
          refine AllReady.cons rfl (fun K hK => ?_) AllReady.nil
          go_simp
          refine hK _ _ ?_
          clear hK K
          exact hboth
        · go_simp
          refine hK _ _ ?_
          clear hK K
          refine wpAny_ready (rs := [4]) (by kernel_rfl) (by simp) ?_
          refine AllReady.cons rfl (fun K hK => ?_) AllReady.nil
          go_simp
          refine hK _ _ ?_
          clear hK K
          exact hboth
      refine wpAny_take (i := 9) (v := .int .u8 (v.toNat : Int)) rfl (by kernel_rfl) (by kernel_rfl) (by kernel_rfl) (fun _ _ _ h => h) (Or.inl ⟨by rfl, fun w => by go_simp⟩) ?_
      go_simp
      refine wpAny_ready (rs := [10]) (by kernel_rfl) (by simp) ?_
      refine AllReady.cons rfl (fun K hK => ?_) AllReady.nil
      go_simp
      refine hK _ _ ?_
      clear hK K
      refine wpAny_ready (rs := [11]) (by kernel_rfl) (by simp) ?_
      refine AllReady.cons rfl (fun K hK => ?_) AllReady.nil
      rw [if_pos (by rfl)]
      refine wp_app _ (.tmp 30) (.tmp 40) 22 rfl w1.heap.size 5 i0 _ 1 Tryd.underlying22 hi hz0 hz1 hz2 rfl _ k _ rfl (own_on HOWN.out (below_drew' (below_of_new _ _))) _ (some ⟨wr.heap.size, 0, none⟩) 1 1 [bv v] rfl (RdB.on (rd_lit' wr (n := 1) (bs := [v]) rfl rfl rfl (by omega)) (below_of_drew ⟨1, rfl⟩ _)) (bv_one [v]) (by omega) (by omega) (by have := HBW.out.size; simp; omega) ?_
      intro v3 w3 hown3 hg3 hat3
      obtain ⟨A2, c2, rfl⟩ := own_form hown3
      try go_simp
      refine hK _ _ ?_
      clear hK K
      refine wpAny_ready (rs := [12]) (by kernel_rfl) (by simp) ?_
      refine AllReady.cons rfl (fun K hK => ?_) AllReady.nil
      go_simp
      refine hK _ _ ?_
      clear hK K
      refine wpAny_done (by kernel_rfl) ?_ _
      go_wp2_with fail
      have hown3' := hown3
      rw [HROW.out] at hown3'
      have hb3 : Below w1.heap.size w1 w3 := (below_drew' (below_alloc HBW.out _)).grown hg3 (by have := HBW.out.size; simp; omega) (fun j hj => by have := (HOWN.out.lt j hj).1; omega)
      clear hown3 hg3 hat3
      exact ⟨⟨k + 1, A2, c2, by omega, by go_num, rfl, hown3', hb3⟩, by simp [intOf]; omega⟩
    · obtain rfl : k = 16 := by omega
      rw [show ((16 : Nat) : Int) = 16 from rfl]
      have hsr : wr.ownsRow w.heap.size 5 1 (.slice A 16 c) 16 ((row (stB key m 0) 16).map bv) := World.ownsRow.mono hown HBW1.out.size
      have HSR := Lib.hid hsr
      have HBW := Lib.hid hbw
      clear hown hbw hsr HST0 HM1
      go_wp2_with fail
      go_loopw [8, 10, 11, 12, 13, 14, 15, 16, 17, 18, 19, 20, 21] (fun s i _ _ _ _ _ _ _ _ _ _ _ wx => ∃ (n : Nat) (A : Option Addr) (c : Nat), 1 ≤ n ∧ n ≤ 11 ∧ i = .int .i64 (n : Int) ∧ s = .slice A 16 c ∧ wx.ownsRow w.heap.size 5 1 (.slice A 16 c) 16 ((row (stB key m (n - 1)) 16).map bv) ∧ Below w1.heap.size w1 wx) (fun _ i _ _ _ _ _ _ _ _ _ _ _ _ => 11 - (intOf i).toNat)
      case atStart => exact ⟨1, A, c, by omega, by omega, rfl, rfl, HSR.out, HBW.out⟩
      case round =>
        clear HSR HBW
        obtain ⟨n, A, c, hn1, hn, rfl, rfl, hso, hbw⟩ := hrel
        rename World => W0
        by_cases hlt : n ≤ 10
        · have hsr : RdB W0 W0.heap.size A 16 c (row (stB key m (n - 1)) 16) := Rd.of_own hso
          clear hso
          obtain ⟨bs, os, rfl⟩ := hsr.addr (by omega)
          have hnx := st_next key m n hn1
          obtain ⟨S, hS⟩ : ∃ S, S = stB key m (n - 1) := ⟨_, rfl⟩
          rw [← hS] at hsr hnx
          have HSR := Lib.hid hsr
          have HBW := Lib.hid hbw
          have HNX := Lib.hid hnx
          have HBR := Lib.hid (HB1.out.on hbw)
          have HKR := Lib.hid (HKS.out.on hbw)
          clear hsr hbw hnx hS HB1 HKS
          have hb10 : decide ((n : Int) ≤ 10) = true := by rw [decide_eq_true_iff]; omega
          go_upto_block 4 with fail
          try rw [hb10]
          clear hb10
          go_cut [11, 12, 13] (fun t _ _ wx => ∃ A c, t = .slice A 16 c ∧ wx.ownsRow W0.heap.size 5 1 (.slice A 16 c) 16 ((row (shB S) 16).map bv) ∧ Below W0.heap.size W0 wx)
          case first => as_aux_lemma =>
            go_wp2_with fail
            go_loopw [11, 12, 13] (fun t i _ wx => ∃ (q : Nat) (A : Option Addr) (c : Nat), q ≤ 4 ∧ i = .int .i64 (q : Int) ∧ t = .slice A (4 * q) c ∧ wx.ownsRow W0.heap.size 5 1 (.slice A (4 * q) c) (4 * q) ((row (shB S) (4 * q)).map bv) ∧ Below W0.heap.size W0 wx) (fun _ i _ _ => 4 - (intOf i).toNat)
            case atStart => exact ⟨0, _, _, by omega, rfl, rfl, own_new W0 (Nat.le_refl _) rfl (by omega), below_of_new W0 _⟩
            case round =>
              obtain ⟨q, A, c, hq, rfl, rfl, hown, hbw⟩ := hrel
              by_cases hlq : q < 4
              · obtain ⟨qq, hqq⟩ : ∃ z, z = 4 * q := ⟨_, rfl⟩
                rw [← hqq] at hown ⊢
                have HOWN0 := Lib.hid hown
                have HBW0 := Lib.hid hbw
                have HQQ := Lib.hid hqq
                have hqq4 : qq ≤ 12 := by omega
                clear hown hbw hqq
                have hbq : decide ((q : Int) < 4) = true := by rw [decide_eq_true_iff]; omega
                go_wp2_with fail
                try rw [hbq]
                clear hbq
                go_loopw [11, 13] (fun t i wx => ∃ (r : Nat) (A : Option Addr) (c : Nat), r ≤ 4 ∧ i = .int .i64 (r : Int) ∧ t = .slice A (qq + r) c ∧ wx.ownsRow W0.heap.size 5 1 (.slice A (qq + r) c) (qq + r) ((row (shB S) (qq + r)).map bv) ∧ Below W0.heap.size W0 wx) (fun _ i _ => 4 - (intOf i).toNat)
                case atStart => exact ⟨0, _, _, by omega, rfl, rfl, HOWN0.out, HBW0.out⟩
                case round =>
                  clear HOWN0 HBW0
                  obtain ⟨r, A, c, hr, rfl, rfl, hown, hbw⟩ := hrel
                  by_cases hlr : r < 4
                  · obtain ⟨k, hk⟩ : ∃ z, z = qq + r := ⟨_, rfl⟩
                    rw [← hk] at hown ⊢
                    obtain ⟨q1, hq1⟩ : ∃ z, z = q + r := ⟨_, rfl⟩
                    obtain ⟨q2, hq2⟩ : ∃ z, z = q1 % 4 := ⟨_, rfl⟩
                    obtain ⟨q3, hq3⟩ : ∃ z, z = q2 * 4 := ⟨_, rfl⟩
                    obtain ⟨q4, hq4⟩ : ∃ z, z = q3 + r := ⟨_, rfl⟩
                    have e1 : IntKind.i64.wrap ((q : Int) + (r : Int)) = (q1 : Int) := by rw [IntKind.wrap_i64]; omega
                    have e2 : (q1 : Int).tmod 4 = (q2 : Int) := tmod_nm (m := 4) hq2
                    have e3 : IntKind.i64.wrap ((q2 : Int) * 4) = (q3 : Int) := by rw [IntKind.wrap_i64]; omega
                    have e4 : IntKind.i64.wrap ((q3 : Int) + (r : Int)) = (q4 : Int) := by rw [IntKind.wrap_i64]; omega
                    have l4 : (q4 : Int) < 16 := by omega
                    obtain ⟨x, hx⟩ : ∃ x, x = S q4 := ⟨_, rfl⟩
                    obtain ⟨y, hy⟩ : ∃ y, y = sb x := ⟨_, rfl⟩
                    have c1 := (HSR.out.on hbw).cell0 (j := q4) (by rw [row_len]; omega)
                    rw [row_get, ← hx] at c1
                    have c2 := (HBR.out.on hbw).cell0 (j := x.toNat) (by rw [row_len]; exact x.toNat_lt)
                    rw [row_get, ← sb_at, ← hy] at c2
                    have m1 : (x.toNat : Int) < 256 := by have := x.toNat_lt; omega
                    have hrow : (row (shB S) k).map bv ++ [bv y] = (row (shB S) (k + 1)).map bv := by
                      have e : shB S k = y := by rw [hk, HQQ.out, sh_at S q r hlr, hy, hx, hq4, hq3, hq2, hq1]
                      rw [row_snoc, List.map_append, e]; rfl
                    have hk15 : k ≤ 15 := by omega
                    have HROW := Lib.hid hrow
                    have HOWN := Lib.hid hown
                    have HBW1' := Lib.hid hbw
                    have HK := Lib.hid hk
                    clear hq1 hq2 hq3 hq4 hx hy hrow hown hbw hk
                    go_wp2_with (at_builtin; refine wpList_app _ rfl (.tmp 55) (.tmp 69) 22 rfl W0.heap.size 5 i0 _ 1 Tryd.underlying22 hi hz0 hz1 hz2 rfl _ k _ rfl (HOWN.out.alloc _) _ (some ⟨wr.heap.size, 0, none⟩) 1 1 [bv y] rfl (rd_lit' wr (n := 1) (bs := [y]) rfl rfl rfl (by omega)) (bv_one [y]) (by omega) (by omega) (by have := HBW1'.out.size; simp; omega) ?_; intro A2 c2 w3 hown3 hg3 hat3)
                    have hown3' := hown3
                    rw [HROW.out] at hown3'
                    have hb3 := below_own HBW1'.out HOWN.out (Nat.le_refl _) hg3
                    have hk := HK.out
                    clear hown3 hg3 hat3
                    exact ⟨⟨r + 1, A2, c2, by omega, by go_num, by rw [hk]; rfl, by rw [hk] at hown3'; exact hown3', hb3⟩, by simp [intOf]; omega⟩
                  · obtain rfl : r = 4 := by omega
                    have hqq := HQQ.out
                    obtain ⟨k, hk⟩ : ∃ z, z = qq + 4 := ⟨_, rfl⟩
                    rw [← hk] at hown ⊢
                    have HOWN := Lib.hid hown
                    have HBW1' := Lib.hid hbw
                    have HK := Lib.hid (show k = 4 * (q + 1) by omega)
                    clear hown hbw hk
                    go_wp2_with fail
                    have hk := HK.out
                    exact ⟨⟨q + 1, A, c, by omega, by go_num, by rw [hk], by rw [← hk]; exact HOWN.out, HBW1'.out⟩, by simp [intOf]; omega⟩
              · obtain rfl : q = 4 := by omega
                go_wp2_with fail
                go_meet
                case rel => exact ⟨A, c, rfl, hown, hbw⟩
          case rest =>
            obtain ⟨At, ct, rfl, hown, hbw⟩ := hcut
            rename World => W1
            obtain ⟨gt, rfl⟩ : ∃ g, At = some ⟨g, 0, none⟩ := by
              rcases own_cases hown with ⟨_, _, h0⟩ | h
              · omega
              · exact h
            have HT := Lib.hid hown
            have HTB := Lib.hid hbw
            clear hown hbw
            go_upto_if 72 with fail
            go_cut [11, 14, 15, 16, 17, 18, 19, 20] (fun t _ _ _ _ _ _ _ wx => ∃ g c, t = .slice (some ⟨g, 0, none⟩) 16 c ∧ wx.ownsRow W0.heap.size 5 1 (.slice (some ⟨g, 0, none⟩) 16 c) 16 ((row (preB S n) 16).map bv) ∧ Below W0.heap.size W0 wx)
            case first => as_aux_lemma =>
              by_cases h10 : n < 10
              · have hpre : preB S n = mixB (shB S) := by rw [preB, if_pos h10]
                have HPRE := Lib.hid hpre
                clear hpre
                have hbn : decide ((n : Int) < 10) = true := by rw [decide_eq_true_iff]; omega
                go_wp2_with fail
                try rw [hbn]
                clear hbn
                go_loopw [14, 15, 16, 17, 18, 19, 20] (fun u i _ _ _ _ _ wx => ∃ (q : Nat) (A : Option Addr) (c : Nat), q ≤ 4 ∧ i = .int .i64 (q : Int) ∧ u = .slice A (4 * q) c ∧ wx.ownsRow W1.heap.size 5 1 (.slice A (4 * q) c) (4 * q) ((row (mixB (shB S)) (4 * q)).map bv) ∧ Below W1.heap.size W1 wx) (fun _ i _ _ _ _ _ _ => 4 - (intOf i).toNat)
                case atStart => exact ⟨0, _, _, by omega, rfl, rfl, own_new W1 (Nat.le_refl _) rfl (by omega), below_of_new W1 _⟩
                case round =>
                  obtain ⟨q, A, c, hq, rfl, rfl, hown, hbw⟩ := hrel
                  by_cases hlq : q < 4
                  · obtain ⟨qq, hqq⟩ : ∃ z, z = 4 * q := ⟨_, rfl⟩
                    rw [← hqq] at hown ⊢
                    have HOWN0 := Lib.hid hown
                    have HBW0 := Lib.hid hbw
                    have HQQ := Lib.hid hqq
                    have hqq4 : qq ≤ 12 := by omega
                    clear hown hbw hqq
                    have hbq : decide ((q : Int) < 4) = true := by rw [decide_eq_true_iff]; omega
                    go_wp2_with fail
                    try rw [hbq]
                    clear hbq
                    go_loopw [14, 16, 17, 18, 19, 20] (fun u i _ _ _ _ wx => ∃ (r : Nat) (A : Option Addr) (c : Nat), r ≤ 4 ∧ i = .int .i64 (r : Int) ∧ u = .slice A (qq + r) c ∧ wx.ownsRow W1.heap.size 5 1 (.slice A (qq + r) c) (qq + r) ((row (mixB (shB S)) (qq + r)).map bv) ∧ Below W1.heap.size W1 wx) (fun _ i _ _ _ _ _ => 4 - (intOf i).toNat)
                    case atStart => exact ⟨0, _, _, by omega, rfl, rfl, HOWN0.out, HBW0.out⟩
                    case round =>
                      clear HOWN0 HBW0
                      obtain ⟨r, A, c, hr, rfl, rfl, hown, hbw⟩ := hrel
                      by_cases hlr : r < 4
                      · obtain ⟨k, hk⟩ : ∃ z, z = qq + r := ⟨_, rfl⟩
                        rw [← hk] at hown ⊢
                        have e0 : IntKind.i64.wrap ((q : Int) * 4) = (qq : Int) := by have := HQQ.out; rw [IntKind.wrap_i64]; omega
                        have e1 : IntKind.i64.wrap ((qq : Int) + (r : Int)) = (k : Int) := by rw [IntKind.wrap_i64]; omega
                        obtain ⟨r1, hr1⟩ : ∃ z, z = r + 1 := ⟨_, rfl⟩
                        obtain ⟨r2, hr2⟩ : ∃ z, z = r + 2 := ⟨_, rfl⟩
                        obtain ⟨r3, hr3⟩ : ∃ z, z = r + 3 := ⟨_, rfl⟩
                        obtain ⟨n1, hn1'⟩ : ∃ z, z = r1 % 4 := ⟨_, rfl⟩
                        obtain ⟨n2, hn2'⟩ : ∃ z, z = r2 % 4 := ⟨_, rfl⟩
                        obtain ⟨n3, hn3'⟩ : ∃ z, z = r3 % 4 := ⟨_, rfl⟩
                        obtain ⟨k1, hk1⟩ : ∃ z, z = qq + n1 := ⟨_, rfl⟩
                        obtain ⟨k2, hk2⟩ : ∃ z, z = qq + n2 := ⟨_, rfl⟩
                        obtain ⟨k3, hk3⟩ : ∃ z, z = qq + n3 := ⟨_, rfl⟩
                        have e2 : IntKind.i64.wrap ((r : Int) + 1) = (r1 : Int) := by rw [IntKind.wrap_i64]; omega
                        have e3 : IntKind.i64.wrap ((r : Int) + 2) = (r2 : Int) := by rw [IntKind.wrap_i64]; omega
                        have e4 : IntKind.i64.wrap ((r : Int) + 3) = (r3 : Int) := by rw [IntKind.wrap_i64]; omega
                        have t1 : (r1 : Int).tmod 4 = (n1 : Int) := tmod_nm (m := 4) hn1'
                        have t2 : (r2 : Int).tmod 4 = (n2 : Int) := tmod_nm (m := 4) hn2'
                        have t3 : (r3 : Int).tmod 4 = (n3 : Int) := tmod_nm (m := 4) hn3'
                        have e5 : IntKind.i64.wrap ((qq : Int) + (n1 : Int)) = (k1 : Int) := by rw [IntKind.wrap_i64]; omega
                        have e6 : IntKind.i64.wrap ((qq : Int) + (n2 : Int)) = (k2 : Int) := by rw [IntKind.wrap_i64]; omega
                        have e7 : IntKind.i64.wrap ((qq : Int) + (n3 : Int)) = (k3 : Int) := by rw [IntKind.wrap_i64]; omega
                        have l0 : (k : Int) < 16 := by omega
                        have l1 : (k1 : Int) < 16 := by omega
                        have l2 : (k2 : Int) < 16 := by omega
                        have l3 : (k3 : Int) < 16 := by omega
                        obtain ⟨x0, hx0⟩ : ∃ x, x = shB S k := ⟨_, rfl⟩
                        obtain ⟨x1, hx1⟩ : ∃ x, x = shB S k1 := ⟨_, rfl⟩
                        obtain ⟨x2, hx2⟩ : ∃ x, x = shB S k2 := ⟨_, rfl⟩
                        obtain ⟨x3, hx3⟩ : ∃ x, x = shB S k3 := ⟨_, rfl⟩
                        have hcell := (own_cells (own_on HT.out hbw)).1
                        have c0 := hcell k (bv x0) (by rw [List.getElem?_map, row_at _ (show k < 16 by omega), ← hx0]; rfl)
                        have c1 := hcell k1 (bv x1) (by rw [List.getElem?_map, row_at _ (show k1 < 16 by omega), ← hx1]; rfl)
                        have c2 := hcell k2 (bv x2) (by rw [List.getElem?_map, row_at _ (show k2 < 16 by omega), ← hx2]; rfl)
                        have c3 := hcell k3 (bv x3) (by rw [List.getElem?_map, row_at _ (show k3 < 16 by omega), ← hx3]; rfl)
                        unfold bv at c0 c1 c2 c3
                        obtain ⟨d0, hd0⟩ : ∃ d, d = prodS 2 x0 := ⟨_, rfl⟩
                        obtain ⟨d1, hd1⟩ : ∃ d, d = prodS 3 x1 := ⟨_, rfl⟩
                        have hp2 : ∀ W, Calls Tryd.prog 76 #[.int .u8 2, .int .u8 (x0.toNat : Int)] W fun e w' => e = .returned (.int .u8 (d0.toNat : Int)) ∧ W = w' := fun W => by
                          have := prod_any 2 x0 W
                          rw [← hd0] at this
                          exact this
                        have hp3 : ∀ W, Calls Tryd.prog 76 #[.int .u8 3, .int .u8 (x1.toNat : Int)] W fun e w' => e = .returned (.int .u8 (d1.toNat : Int)) ∧ W = w' := fun W => by
                          have := prod_any 3 x1 W
                          rw [← hd1] at this
                          exact this
                        obtain ⟨v1, hv1⟩ : ∃ u, u = d0 ^^^ d1 := ⟨_, rfl⟩
                        obtain ⟨v2, hv2⟩ : ∃ u, u = v1 ^^^ x2 := ⟨_, rfl⟩
                        obtain ⟨v, hv⟩ : ∃ u, u = v2 ^^^ x3 := ⟨_, rfl⟩
                        have y1 := xor_nm hv1
                        have y2 := xor_nm hv2
                        have y3 := xor_nm hv
                        have hrow : (row (mixB (shB S)) k).map bv ++ [bv v] = (row (mixB (shB S)) (k + 1)).map bv := by
                          have e : mixB (shB S) k = v := by
                            rw [hv, hv2, hv1, hd0, hd1, m4_doc, hk, HQQ.out, mix_at (shB S) q r hlr, hx0, hx1, hx2, hx3, hk, hk1, hk2, hk3, hn1', hn2', hn3', hr1, hr2, hr3, HQQ.out, Nat.mul_comm 4 q]
                          rw [row_snoc, List.map_append, e]; rfl
                        have hk15 : k ≤ 15 := by omega
                        have HROW := Lib.hid hrow
                        have HOWN := Lib.hid hown
                        have HBW1' := Lib.hid hbw
                        have HK := Lib.hid hk
                        have HP2 := Lib.hid hp2
                        have HR1 := Lib.hid hr1
                        have HP3 := Lib.hid hp3
                        clear hr1 hr2 hr3 hn1' hn2' hn3' hk1 hk2 hk3 hx0 hx1 hx2 hx3 hcell hd0 hd1 hp2 hp3 hv1 hv2 hv hrow hown hbw hk
                        go_wp2_with fail
                        refine (HP2.out _).mono ?_
                        rintro e w2 ⟨rfl, rfl⟩
                        go_wp2_with fail
                        refine (HP3.out _).mono ?_
                        rintro e w2 ⟨rfl, rfl⟩
                        go_wp2_with (at_builtin; refine wpList_app _ rfl (.tmp 116) (.tmp 126) 22 rfl W1.heap.size 5 i0 _ 1 Tryd.underlying22 hi hz0 hz1 hz2 rfl _ k _ rfl (HOWN.out.alloc _) _ (some ⟨wr.heap.size, 0, none⟩) 1 1 [bv v] rfl (rd_lit' wr (n := 1) (bs := [v]) rfl rfl rfl (by omega)) (bv_one [v]) (by omega) (by omega) (by have := HBW1'.out.size; simp; omega) ?_; intro A2 c2 w3 hown3 hg3 hat3)
                        have hown3' := hown3
                        rw [HROW.out] at hown3'
                        have hb3 := below_own HBW1'.out HOWN.out (Nat.le_refl _) hg3
                        have hk := HK.out
                        clear hown3 hg3 hat3
                        have hr1 := HR1.out
                        exact ⟨⟨r + 1, A2, c2, by omega, by rw [hr1], by rw [hk]; rfl, by rw [hk] at hown3'; exact hown3', hb3⟩, by rw [hr1]; simp [intOf]; omega⟩
                      · obtain rfl : r = 4 := by omega
                        have hqq := HQQ.out
                        obtain ⟨k, hk⟩ : ∃ z, z = qq + 4 := ⟨_, rfl⟩
                        rw [← hk] at hown ⊢
                        have HOWN := Lib.hid hown
                        have HBW1' := Lib.hid hbw
                        have HK := Lib.hid (show k = 4 * (q + 1) by omega)
                        clear hown hbw hk
                        go_wp2_with fail
                        have hk := HK.out
                        exact ⟨⟨q + 1, A, c, by omega, by go_num, by rw [hk], by rw [← hk]; exact HOWN.out, HBW1'.out⟩, by simp [intOf]; omega⟩
                  · obtain rfl : q = 4 := by omega
                    obtain ⟨gu, rfl⟩ : ∃ g, A = some ⟨g, 0, none⟩ := by
                      rcases own_cases hown with ⟨_, _, h0⟩ | h
                      · omega
                      · exact h
                    have HOWN := Lib.hid hown
                    have HBW1' := Lib.hid hbw
                    clear hown hbw
                    go_wp2_with fail
                    go_meet
                    case rel =>
                      refine ⟨gu, c, rfl, ?_, below_seq HTB.out HBW1'.out⟩
                      rw [HPRE.out]
                      exact World.ownsRow.mono HOWN.out HTB.out.size
              · have hpre : preB S n = shB S := by rw [preB, if_neg h10]
                have HPRE := Lib.hid hpre
                clear hpre
                go_wp2_with fail
                go_meet
                case rel =>
                  refine ⟨gt, ct, rfl, ?_, HTB.out⟩
                  rw [HPRE.out]
                  exact HT.out
            case rest => as_aux_lemma =>
              clear HT HTB
              obtain ⟨g, c, rfl, hown, hbw⟩ := hcut
              obtain ⟨T, hT⟩ : ∃ T, T = preB S n := ⟨_, rfl⟩
              have hnx := HNX.out
              rw [← hT] at hown hnx
              have HOWN0 := Lib.hid hown
              have HBW0 := Lib.hid hbw
              have HNT := Lib.hid hnx
              clear hown hbw hnx hT HNX HSR HBR
              go_wp2_with fail
              go_loopw [21] (fun i wx => ∃ k : Nat, k ≤ 16 ∧ i = .int .i64 (k : Int) ∧ wx.ownsRow W0.heap.size 5 1 (.slice (some ⟨g, 0, none⟩) 16 c) 16 ((row (upto k (sumB T (rk key n)) T) 16).map bv) ∧ Below W0.heap.size W0 wx) (fun i _ => 16 - (intOf i).toNat)
              case atStart => exact ⟨0, by omega, rfl, by rw [upto_zero]; exact HOWN0.out, HBW0.out⟩
              case round =>
                clear HOWN0 HBW0
                obtain ⟨k, hk, rfl, hown, hbw⟩ := hrel
                by_cases hlk : k < 16
                · obtain ⟨p1, hp1⟩ : ∃ z, z = 16 * n := ⟨_, rfl⟩
                  obtain ⟨p2, hp2⟩ : ∃ z, z = p1 + k := ⟨_, rfl⟩
                  have e1 : IntKind.i64.wrap (16 * (n : Int)) = (p1 : Int) := by rw [IntKind.wrap_i64]; omega
                  have e2 : IntKind.i64.wrap ((p1 : Int) + (k : Int)) = (p2 : Int) := by rw [IntKind.wrap_i64]; omega
                  have l1 : (k : Int) < 16 := by omega
                  have l2 : (p2 : Int) < 176 := by omega
                  obtain ⟨x, hx⟩ : ∃ x, x = T k := ⟨_, rfl⟩
                  obtain ⟨y, hy⟩ : ∃ y, y = kf key p2 := ⟨_, rfl⟩
                  obtain ⟨v, hv⟩ : ∃ u, u = x ^^^ y := ⟨_, rfl⟩
                  have ev := xor_nm hv
                  have c1 := (own_cells hown).1 k (bv x) (by rw [List.getElem?_map, row_at _ hlk, upto_ge _ _ (Nat.le_refl _), ← hx]; rfl)
                  unfold bv at c1
                  have c2 := (HKR.out.on hbw).cell0 (j := p2) (by rw [row_len]; omega)
                  rw [row_get, ← hy] at c2
                  have f1 := hown.frozenAt k
                  have hst := (hown.stored k (.int .u8 (v.toNat : Int))).1
                  have hse : ((row (upto k (sumB T (rk key n)) T) 16).map bv).set k (.int .u8 (v.toNat : Int)) = (row (upto (k + 1) (sumB T (rk key n)) T) 16).map bv := by
                    have e : sumB T (rk key n) k = v := by rw [sumB, hv, hx, hy, hp2, hp1, kf_at key n k hlk]
                    rw [← upto_set _ _ hlk, e, List.map_set]; rfl
                  rw [hse] at hst
                  have hbs : Below W0.heap.size W0 (wr.setCell ⟨g, k, none⟩ (.int .u8 (v.toNat : Int))) := hbw.setCell (hown.lt g rfl).1 _
                  have HST := Lib.hid hst
                  have HBS := Lib.hid hbs
                  clear hp1 hp2 hx hy hv hst hse hbs hown hbw
                  go_wp2_with fail
                  refine wp_region_still_tail 15 (by kernel_rfl) (by kernel_rfl) ?_
                  simp only [List.take_succ_cons, List.take_zero, List.drop_succ_cons, List.drop_zero]
                  repeat still_step
                  refine wpStill_nil ?_
                  go_wp2_with fail
                  exact ⟨⟨k + 1, by omega, by go_num, HST.out, below_drew' HBS.out⟩, by simp [intOf]; omega⟩
                · obtain rfl : k = 16 := by omega
                  rw [upto_all, ← HNT.out] at hown
                  have hr : wr.ownsRow w.heap.size 5 1 (.slice (some ⟨g, 0, none⟩) 16 c) 16 ((row (stB key m n) 16).map bv) := World.ownsRow.mono hown (by have := HBW1.out.size; have := HBW.out.size; omega)
                  have HR := Lib.hid hr
                  have HBE := Lib.hid (below_seq HBW.out hbw)
                  clear hown hbw hr
                  go_wp2_with fail
                  exact ⟨⟨n + 1, some ⟨g, 0, none⟩, c, by omega, by omega, by go_num, rfl, HR.out, HBE.out⟩, by simp [intOf]; omega⟩
        · obtain rfl : n = 11 := by omega
          go_wp2_with fail
          go_ret
          refine ⟨A, c, rfl, ?_, below_seq HBW1.out hbw⟩
          rw [HBLK.out]
          exact hso
end Go.Proofs.YtgebdkbbdabomaaDoor.Aes
