/-
  THE CONTRACTS of the document's padded and Sum, of layer 4.
-/
import Derived.Test.YtgebdkbbdabomaaDoorMacx
import Derived.Test.YtgebdkbbdabomaaDoorShrg
import Derived.Deep.CutBlock
import Derived.Deep.DeepCutAuto
import Derived.Deep.Onto
namespace Go.Proofs.YtgebdkbbdabomaaDoor.Sha
open Go.RowKit
open Go.Proofs.YtgebdkbbdabomaaDoor.Kit
open Go.Proofs.YtgebdkbbdabomaaDoor.Oct
open Go.Proofs.YtgebdkbbdabomaaDoor.Mac
set_option linter.unusedVariables false

theorem keyK_get (key : List UInt8) (x : UInt8) (k : Nat) (hk : k < 64) : (keyK key x)[k]? = some (if k < (keyL key).length then (keyL key).getD k 0 ^^^ x else x) := by
  rw [keyK, List.getElem?_map, padK]
  by_cases h : k < (keyL key).length
  · rw [if_pos h, List.getElem?_append_left h, List.getElem?_eq_getElem h, List.getD_eq_getElem?_getD, List.getElem?_eq_getElem h]; rfl
  · rw [if_neg h, List.getElem?_append_right (by omega), List.getElem?_replicate, if_pos (by omega)]
    show some ((0 : UInt8) ^^^ x) = some x
    rw [UInt8.zero_xor]
theorem keyK_next (key : List UInt8) (x y : UInt8) (k : Nat) (hk : k < 64) (hy : y = if k < (keyL key).length then (keyL key).getD k 0 ^^^ x else x) : ((keyK key x).take k).map bv ++ [bv y] = ((keyK key x).take (k + 1)).map bv := by
  rw [List.take_add_one, keyK_get key x k hk, List.map_append, hy]; rfl
theorem below_grow {w wr w' : World} {base k c : Nat} {A : Option Addr} {e : TypeId} {xs : List Value} (hb : Below w.heap.size w wr) (ho : wr.ownsRow base e 1 (.slice A k c) k xs) (hB : w.heap.size ≤ base) (hg : wr.grownBy w' (Value.slice A k c).ownBlock) : Below w.heap.size w w' :=
  hb.grown hg hb.size (fun j hj => by have := (ho.lt j hj).1; omega)
theorem bvd_at {L : List UInt8} {p : Nat} (h : p < L.length) : (L.map bv)[p]? = some (.int .u8 (((L.getD p 0).toNat : Nat) : Int)) := bv_at h

set_option maxRecDepth 100000 in
set_option maxHeartbeats 4000000 in
theorem refpadded_own (Ak A : Option Addr) (ck n c : Nat) (key : List UInt8) (x : UInt8) (w : World) (hk : Rd w w.heap.size Ak 64 ck (shaK.map wv)) (hb : RdB w w.heap.size A n c key) (hn : n ≤ 1000000) :
    Calls Tryd.prog 35 #[.slice Ak 64 ck, .slice A n c, .int .u8 (x.toNat : Int)] w fun e w' => ∃ A' c', e = .returned (.slice A' 64 c') ∧ w'.ownsRow w.heap.size 5 1 (.slice A' 64 c') 64 ((keyK key x).map bv) ∧ Below w.heap.size w w' := by
  obtain ⟨i0, hi, hz0, hz1, hz2⟩ := info_parts info8d
  have hlen := hb.len
  have hroom := hb.room
  have HK := Lib.hid hk
  have HB := Lib.hid hb
  have HL := Lib.hid hlen
  clear hk hb hlen
  go_enter Tryd.func35, Tryd.ntmps35
  go_upto_if 11 with fail
  go_cut [1, 12, 13, 14] (fun s _ _ _ wx => ∃ A' n' c', s = .slice A' n' c' ∧ n' ≤ 64 ∧ RdB wx wx.heap.size A' n' c' (keyL key) ∧ Below w.heap.size w wx)
  case first => as_aux_lemma =>
    by_cases h64 : 64 < n
    · have t1 : decide ((64 : Int) < n) = true := by rw [decide_eq_true_iff]; omega
      go_wp2_with fail
      refine (refdigest_own Ak A ck n c key w HK.out HB.out hn).mono ?_
      rintro e w1 ⟨A1, c1, rfl, ho1, hb1⟩
      have hkl : dig key = keyL key := by rw [keyL, if_pos (by rw [HL.out]; exact h64)]
      rw [hkl] at ho1
      have HO1 := Lib.hid (Rd.of_own ho1)
      have HB1 := Lib.hid hb1
      clear ho1 hb1 hkl
      go_wp2_with fail
      go_meet
      case rel => exact ⟨A1, 32, c1, rfl, by omega, HO1.out, HB1.out⟩
    · have t1 : decide ((64 : Int) < n) = false := by rw [decide_eq_false_iff_not]; omega
      have hkl : key = keyL key := by rw [keyL, if_neg (by rw [HL.out]; exact h64)]
      have hb := HB.out
      rw [hkl] at hb
      have HB' := Lib.hid hb
      clear hb hkl
      go_wp2_with fail
      go_meet
      case rel => exact ⟨A, n, c, rfl, by omega, HB'.out, Below.refl _ _⟩
  case rest => as_aux_lemma =>
    obtain ⟨A', n', c', rfl, hn64, hrd, hbw⟩ := hcut
    rename World => W1
    have hll := hrd.len
    have hroom2 := hrd.room
    have HRD := Lib.hid hrd
    have HB1 := Lib.hid hbw
    clear hrd hbw HB HK
    go_wp2_with fail
    go_loopw [7, 8] (fun s i wr => ∃ (k : Nat) (A : Option Addr) (c : Nat), k ≤ 64 ∧ i = .int .i64 (k : Int) ∧ s = .slice A k c ∧ wr.ownsRow W1.heap.size 5 1 (.slice A k c) k (((keyK key x).take k).map bv) ∧ Below W1.heap.size W1 wr) (fun _ i _ => 64 - (intOf i).toNat)
    case atStart => exact ⟨0, _, _, by omega, rfl, rfl, own_new W1 (Nat.le_refl _) rfl (by omega), below_of_new W1 _⟩
    case round =>
      obtain ⟨k, Ao, co, hk, rfl, rfl, hown, hbw⟩ := hrel
      by_cases hlt : k < 64
      · have t1 : decide ((k : Int) < 64) = true := by rw [decide_eq_true_iff]; omega
        by_cases hkn : k < n'
        · have t2 : decide ((k : Int) < (n' : Int)) = true := by rw [decide_eq_true_iff]; omega
          obtain ⟨b, o, rfl, hbb, hcb⟩ := HRD.out.2.2.2 (by omega)
          have c1 := (hbw.cell (p := ⟨b, o + k, none⟩) hbb).trans (hcb k _ (bvd_at (by omega)))
          obtain ⟨a, ha⟩ : ∃ a, a = (keyL key).getD k 0 := ⟨_, rfl⟩
          rw [← ha] at c1
          obtain ⟨y, hy⟩ : ∃ y, y = a ^^^ x := ⟨_, rfl⟩
          have ev : bits .xor .u8 (a.toNat : Int) (x.toNat : Int) = (y.toNat : Int) := by rw [hy]; exact xor_u8 a x
          have hrow := keyK_next key x y k hlt (by rw [if_pos (by omega), hy, ha])
          have HROW := Lib.hid hrow
          have HOWN := Lib.hid hown
          have HBW := Lib.hid hbw
          clear hrow hown hbw ha hy hcb
          go_wp2_with (at_builtin; refine wpList_app _ rfl (.tmp 24) (.tmp 31) 22 rfl W1.heap.size 5 i0 _ 1 Tryd.underlying22 hi hz0 hz1 hz2 rfl _ k _ rfl (HOWN.out.alloc _) _ (some ⟨wr.heap.size, 0, none⟩) 1 1 [bv y] rfl (rd_cells wr rfl rfl rfl (by omega)) (bv_one [y]) (by omega) (by omega) (by have := HBW.out.size; simp; omega) ?_; intro A2 c2 w3 hown3 hg3 hat3)
          have hown3' := hown3
          rw [HROW.out] at hown3'
          have hb3 := below_own HBW.out HOWN.out (Nat.le_refl _) hg3
          clear hown3 hg3 hat3
          go_wp2_with fail
          exact ⟨⟨k + 1, A2, c2, by omega, by go_num, rfl, hown3', hb3⟩, by simp [intOf] <;> omega⟩
        · have t2 : decide ((k : Int) < (n' : Int)) = false := by rw [decide_eq_false_iff_not]; omega
          have hrow := keyK_next key x x k hlt (by rw [if_neg (by omega)])
          have HROW := Lib.hid hrow
          have HOWN := Lib.hid hown
          have HBW := Lib.hid hbw
          clear hrow hown hbw
          go_wp2_with (at_builtin; refine wpList_app _ rfl (.tmp 33) (.tmp 35) 22 rfl W1.heap.size 5 i0 _ 1 Tryd.underlying22 hi hz0 hz1 hz2 rfl _ k _ rfl (HOWN.out.alloc _) _ (some ⟨wr.heap.size, 0, none⟩) 1 1 [bv x] rfl (rd_cells wr rfl rfl rfl (by omega)) (bv_one [x]) (by omega) (by omega) (by have := HBW.out.size; simp; omega) ?_; intro A2 c2 w3 hown3 hg3 hat3)
          have hown3' := hown3
          rw [HROW.out] at hown3'
          have hb3 := below_own HBW.out HOWN.out (Nat.le_refl _) hg3
          clear hown3 hg3 hat3
          go_wp2_with fail
          exact ⟨⟨k + 1, A2, c2, by omega, by go_num, rfl, hown3', hb3⟩, by simp [intOf] <;> omega⟩
      · obtain rfl : k = 64 := by omega
        have e : (keyK key x).take 64 = keyK key x := List.take_of_length_le (by rw [keyK_len]; omega)
        rw [e] at hown
        have hown' := World.ownsRow.mono hown HB1.out.size
        have HOWN := Lib.hid hown'
        have HBW := Lib.hid (below_seq HB1.out hbw)
        rw [show ((64 : Nat) : Int) = 64 from rfl]
        clear hown hbw hown' e
        go_wp2_with fail
        go_ret
        exact ⟨_, _, rfl, HOWN.out, HBW.out⟩

set_option maxRecDepth 100000 in
set_option maxHeartbeats 4000000 in
theorem refsum_own (Ak A Ab : Option Addr) (ck n c nb cb : Nat) (key bs : List UInt8) (w : World) (hk : Rd w w.heap.size Ak 64 ck (shaK.map wv)) (ha : RdB w w.heap.size A n c key) (hb : RdB w w.heap.size Ab nb cb bs) (hn : n ≤ 1000000) (hnb : nb ≤ 900000) :
    Calls Tryd.prog 11 #[.slice Ak 64 ck, .slice A n c, .slice Ab nb cb] w fun e w' => ∃ A' c', e = .returned (.slice A' 32 c') ∧ w'.ownsRow w.heap.size 5 1 (.slice A' 32 c') 32 ((macS key bs).map bv) ∧ Below w.heap.size w w' := by
  obtain ⟨i0, hi, hz0, hz1, hz2⟩ := info_parts info8d
  have hlen := hb.len
  have HP54 := Lib.hid (show ∀ W, Below w.heap.size w W → Calls Tryd.prog 35 #[.slice Ak 64 ck, .slice A n c, .int .u8 54] W fun e w' => ∃ A' c', e = .returned (.slice A' 64 c') ∧ w'.ownsRow W.heap.size 5 1 (.slice A' 64 c') 64 ((keyK key 54).map bv) ∧ Below W.heap.size W w' from fun W h => refpadded_own Ak A ck n c key 54 W ((hk.below h).more h.size) (ha.on h) hn)
  have HP92 := Lib.hid (show ∀ W, Below w.heap.size w W → Calls Tryd.prog 35 #[.slice Ak 64 ck, .slice A n c, .int .u8 92] W fun e w' => ∃ A' c', e = .returned (.slice A' 64 c') ∧ w'.ownsRow W.heap.size 5 1 (.slice A' 64 c') 64 ((keyK key 92).map bv) ∧ Below W.heap.size W w' from fun W h => refpadded_own Ak A ck n c key 92 W ((hk.below h).more h.size) (ha.on h) hn)
  have HDIG := Lib.hid (show ∀ W A1 n1 c1 b1, Below w.heap.size w W → RdB W W.heap.size A1 n1 c1 b1 → n1 ≤ 1000000 → Calls Tryd.prog 25 #[.slice Ak 64 ck, .slice A1 n1 c1] W fun e w' => ∃ A' c', e = .returned (.slice A' 32 c') ∧ w'.ownsRow W.heap.size 5 1 (.slice A' 32 c') 32 ((dig b1).map bv) ∧ Below W.heap.size W w' from fun W A1 n1 c1 b1 h hr h1 => refdigest_own Ak A1 ck n1 c1 b1 W ((hk.below h).more h.size) hr h1)
  have HB := Lib.hid hb
  clear hk ha hb
  go_enter Tryd.func11, Tryd.ntmps11
  go_wp2_with fail
  refine (HP54.out _ (Below.refl _ _)).mono ?_
  rintro e w1 ⟨A1, c1, rfl, ho1, hb1⟩
  have HO1 := Lib.hid ho1
  have HB1 := Lib.hid hb1
  clear ho1 hb1
  go_wp2_with (at_builtin; refine wpList_app _ rfl (.tmp 11) (.tmp 12) 22 rfl w.heap.size 5 i0 _ 1 Tryd.underlying22 hi hz0 hz1 hz2 rfl _ 64 _ rfl HO1.out _ Ab nb cb (bs.map bv) rfl (HB.out.on HB1.out) (bv_one bs) (by omega) (by omega) HB1.out.size ?_; intro A2 c2 w2 hown2 hg2 hat2)
  have hb2 := below_grow HB1.out HO1.out (Nat.le_refl _) hg2
  rw [← List.map_append] at hown2
  have hr2 : RdB w2 w2.heap.size A2 (64 + nb) c2 (keyK key 54 ++ bs) := Rd.of_own hown2
  have HR2 := Lib.hid hr2
  have HB2 := Lib.hid hb2
  clear hown2 hg2 hat2 hb2 hr2
  go_wp2_with fail
  refine (HDIG.out _ _ _ _ _ HB2.out HR2.out (by omega)).mono ?_
  rintro e w3 ⟨A3, c3, rfl, ho3, hb3⟩
  obtain ⟨D, hD⟩ : ∃ D, D = dig (keyK key 54 ++ bs) := ⟨_, rfl⟩
  rw [← hD] at ho3
  have hDl : D.length = 32 := by rw [hD, dig_len]
  have HO3 := Lib.hid (show RdB w3 w3.heap.size A3 32 c3 D from Rd.of_own ho3)
  have HB3 := Lib.hid (below_seq HB2.out hb3)
  have HD := Lib.hid hD
  clear ho3 hb3 hD
  go_wp2_with fail
  refine (HP92.out _ HB3.out).mono ?_
  rintro e w4 ⟨A4, c4, rfl, ho4, hb4⟩
  have HO4 := Lib.hid ho4
  have HB4' := Lib.hid hb4
  have HB4 := Lib.hid (below_seq HB3.out hb4)
  clear ho4 hb4
  go_wp2_with (at_builtin; refine wpList_app _ rfl (.tmp 18) (.tmp 19) 22 rfl w3.heap.size 5 i0 _ 1 Tryd.underlying22 hi hz0 hz1 hz2 rfl _ 64 _ rfl HO4.out _ A3 32 c3 (D.map bv) rfl (HO3.out.on HB4'.out) (bv_one D) (by omega) (by omega) HB4'.out.size ?_; intro A5 c5 w5 hown5 hg5 hat5)
  have hb5 := below_seq HB3.out (below_grow HB4'.out HO4.out (Nat.le_refl _) hg5)
  rw [← List.map_append] at hown5
  have hr5 : RdB w5 w5.heap.size A5 (64 + 32) c5 (keyK key 92 ++ D) := Rd.of_own hown5
  have HR5 := Lib.hid hr5
  have HB5 := Lib.hid hb5
  clear hown5 hg5 hat5 hb5 hr5
  go_wp2_with fail
  refine (HDIG.out _ _ _ _ _ HB5.out HR5.out (by omega)).mono ?_
  rintro e w6 ⟨A6, c6, rfl, ho6, hb6⟩
  have hm : dig (keyK key 92 ++ D) = macS key bs := by rw [macS, HD.out]
  rw [hm] at ho6
  have HO6 := Lib.hid (World.ownsRow.mono ho6 HB5.out.size)
  have HB6 := Lib.hid (below_seq HB5.out hb6)
  clear ho6 hb6
  go_wp2_with fail
  go_ret
  exact ⟨_, _, rfl, HO6.out, HB6.out⟩
end Go.Proofs.YtgebdkbbdabomaaDoor.Sha
