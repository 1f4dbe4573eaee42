/-
  THE CONTRACT of the document's Digest, of layer 3.
-/
import Derived.Test.YtgebdkbbdabomaaDoorShrv
import Derived.Test.YtgebdkbbdabomaaDoorShad
namespace Go.Proofs.YtgebdkbbdabomaaDoor.Sha
open Go.RowKit
open Go.Proofs.YtgebdkbbdabomaaDoor.Kit
set_option linter.unusedVariables false

theorem info8d : (Tryd.prog.info? 5).map (fun i => (i.zero, i.size, i.bytes)) = some (some (.int .u8 0), 1, 1) := by kernel_rfl
theorem elemBd (w : World) : (sizeOf (Tryd.prog.elem 22)).run Tryd.prog w = .ok 1 w := by kernel_rfl
def lenV : Value → Nat
  | .slice _ n _ => n
  | _ => 0
theorem tmod_nat {a m n : Nat} (h : n = a % m) : (a : Int).tmod (m : Int) = (n : Int) := by rw [h, Int.tmod_eq_emod_of_nonneg (by omega), Int.natCast_emod]
theorem byte_of {n : Nat} {y : UInt8} (h : y = UInt8.ofNat n) : IntKind.u8.wrap (n : Int) = (y.toNat : Int) := by
  rw [h, UInt8.toNat_ofNat']; show (n : Int) % 256 = ((n % 2 ^ 8 : Nat) : Int); omega
/-- the message, and what is put behind it, up to z bytes of 0 -/
def zer (b : List UInt8) (z : Nat) : List UInt8 := b ++ ([128] ++ List.replicate z 0)
theorem zer_next (b : List UInt8) (z : Nat) : (zer b z).map bv ++ [bv 0] = (zer b (z + 1)).map bv := by
  rw [zer, zer, List.replicate_succ', ← List.append_assoc, ← List.append_assoc, ← List.append_assoc, List.map_append (l₂ := [0])]
  rfl
theorem zer_len (b : List UInt8) (z : Nat) : (zer b z).length = b.length + 1 + z := by simp [zer]; omega
theorem be_next (X k j : Nat) (hj : j + 1 + k = 8) (M : List UInt8) : (M ++ (be 8 X).take j).map bv ++ [bv (UInt8.ofNat (X / 2 ^ (8 * k)))] = (M ++ (be 8 X).take (j + 1)).map bv := by
  have h := be_at 8 X j (by omega)
  rw [show 8 - 1 - j = k from by omega, show 256 ^ k = 2 ^ (8 * k) from by rw [Nat.pow_mul]] at h
  rw [List.take_add_one, h, List.map_append, List.map_append, List.map_append, List.append_assoc]
  rfl
theorem out_next (V : S8) (k : Nat) (hk : k < 8) : ((outB V).take (4 * k)).map bv ++ (be 4 (wd V.list k).toNat).map bv = ((outB V).take (4 * (k + 1))).map bv := by
  rw [← List.map_append]
  congr 1
  obtain ⟨a, b, c, d, e, f, g, h⟩ := V
  obtain rfl | rfl | rfl | rfl | rfl | rfl | rfl | rfl : k = 0 ∨ k = 1 ∨ k = 2 ∨ k = 3 ∨ k = 4 ∨ k = 5 ∨ k = 6 ∨ k = 7 := by omega
  all_goals simp only [outB, be4, S8.list]; rfl

attribute [local go_sem] w_xor w_and w_or w_add w_not
set_option maxRecDepth 100000 in
set_option maxHeartbeats 8000000 in
theorem refdigest_own (Ak A : Option Addr) (ck n c : Nat) (bs : List UInt8) (w : World) (hk : Rd w w.heap.size Ak 64 ck (shaK.map wv)) (hb : RdB w w.heap.size A n c bs) (hn : n ≤ 1000000) :
    Calls Tryd.prog 25 #[.slice Ak 64 ck, .slice A n c] w fun e w' => ∃ A' c', e = .returned (.slice A' 32 c') ∧ w'.ownsRow w.heap.size 5 1 (.slice A' 32 c') 32 ((dig bs).map bv) ∧ Below w.heap.size w w' := by
  obtain ⟨i0, hi, hz0, hz1, hz2⟩ := info_parts info8d
  have hlen := hb.len
  have HK := Lib.hid hk
  have HB := Lib.hid hb
  have HL := Lib.hid hlen
  clear hk hb hlen
  go_enter Tryd.func25, Tryd.ntmps25
  go_wp2_with (at_builtin; first
    | (refine wpList_app _ rfl (.tmp 12) (.tmp 13) 22 rfl w.heap.size 5 i0 _ 1 Tryd.underlying22 hi hz0 hz1 hz2 rfl _ 0 _ rfl (own_new w (Nat.le_refl _) rfl (by omega)) _ A n c _ rfl (RdB.lit HB.out _) (bv_one _) (by omega) (by omega) (by simp) ?_; intro A2 c2 w2 hown2 hg2 hat2; have hbl2 := below_lit (Below.refl _ _) hg2; simp only [Nat.zero_add, List.nil_append] at hown2)
    | (refine wpList_app _ rfl (.tmp 14) (.tmp 15) 22 rfl w.heap.size 5 i0 _ 1 Tryd.underlying22 hi hz0 hz1 hz2 rfl _ n _ rfl (hown2.alloc _) _ (some ⟨w2.heap.size, 0, none⟩) 1 1 [bv 128] rfl (rd_cells w2 rfl rfl rfl (by omega)) (bv_one [128]) (by omega) (by omega) (by have := hbl2.size; simp; omega) ?_; intro A3 c3 w3 hown3 hg3 hat3; have hbl3 := below_own hbl2 hown2 (Nat.le_refl _) hg3))
  have e1 : bs.map bv ++ [bv 128] = (zer bs 0).map bv := by rw [zer, List.map_append]; rfl
  rw [e1] at hown3
  have HO3 := Lib.hid hown3
  have HB3 := Lib.hid hbl3
  clear hown2 hg2 hat2 hbl2 hown3 hg3 hat3 hbl3 e1
  obtain ⟨Z, hZ⟩ : ∃ Z, Z = padZ n := ⟨_, rfl⟩
  have hZ2 : Z = (119 - n % 64) % 64 := by rw [hZ, padZ]
  have HZ := Lib.hid hZ
  have HZ2 := Lib.hid hZ2
  clear hZ hZ2
  go_loopw [5] (fun s wr => ∃ (z : Nat) (A : Option Addr) (c : Nat), z ≤ Z ∧ s = .slice A (n + 1 + z) c ∧ wr.ownsRow w.heap.size 5 1 (.slice A (n + 1 + z) c) (n + 1 + z) ((zer bs z).map bv) ∧ Below w.heap.size w wr) (fun s _ => (n + 1 + Z) - lenV s)
  case atStart => exact ⟨0, _, _, by omega, rfl, HO3.out, HB3.out⟩
  case round =>
    clear HO3 HB3
    obtain ⟨z, Az, cz, hz, rfl, hown, hbw⟩ := hrel
    have hz2 := HZ2.out
    have HOWN := Lib.hid hown
    have HBW := Lib.hid hbw
    obtain ⟨l, hl⟩ : ∃ l, l = n + 1 + z := ⟨_, rfl⟩
    obtain ⟨r, hr⟩ : ∃ r, r = l % 64 := ⟨_, rfl⟩
    have e1 : (l : Int).tmod 64 = (r : Int) := tmod_nat (m := 64) hr
    have hr64 : r < 64 := by omega
    rw [← hl]
    rw [← hl] at hown
    have HOL := Lib.hid hown
    have HLL := Lib.hid hl
    have hl7 : l ≤ 1000100 := by omega
    by_cases hlt : z < Z
    · have t1 : ((r : Int) != 56) = true := by rw [bne_iff_ne]; omega
      have hrow := zer_next bs z
      have HROW := Lib.hid hrow
      clear hz2 hown hbw hl hr hrow
      go_wp2_with (at_builtin; refine wpList_app _ rfl (.tmp 21) (.tmp 22) 22 rfl w.heap.size 5 i0 _ 1 Tryd.underlying22 hi hz0 hz1 hz2 rfl _ l _ rfl (HOL.out.alloc _) _ (some ⟨wr.heap.size, 0, none⟩) 1 1 [bv 0] rfl (rd_cells wr rfl rfl rfl (by omega)) (bv_one [0]) (by omega) (by omega) (by have := HBW.out.size; simp; omega) ?_; intro A2 c2 w3 hown3 hg3 hat3)
      have hown3' := hown3
      rw [HROW.out] at hown3'
      have hb3 := below_own HBW.out HOL.out (Nat.le_refl _) hg3
      clear hown3 hg3 hat3
      go_wp2_with fail
      have hl := HLL.out
      refine ⟨⟨z + 1, A2, c2, by omega, by rw [hl]; rfl, ?_, hb3⟩, by simp [lenV]; omega⟩
      rw [← Nat.add_assoc, ← hl]
      exact hown3'
    · obtain rfl : z = Z := by omega
      have t1 : ((r : Int) != 56) = false := by rw [show r = 56 from by omega]; rfl
      have hZ := HZ.out
      obtain ⟨X, hX⟩ : ∃ X, X = 8 * n := ⟨_, rfl⟩
      have eX : (n : Int) * 8 = (X : Int) := by omega
      have hX7 : X ≤ 8000000 := by omega
      have HX := Lib.hid hX
      obtain ⟨M1, hM1⟩ : ∃ M, M = zer bs z := ⟨_, rfl⟩
      have hM1l : M1.length = l := by rw [hM1, zer_len, HL.out, hl]
      rw [← hM1] at hown
      have HO1 := Lib.hid hown
      have HM1 := Lib.hid (And.intro hM1 hM1l)
      clear hz2 hown hbw hl hr hX hM1 hM1l hZ HOL
      go_wp2_with fail
      go_loopw [5, 7] (fun s i wx => ∃ (q : Nat) (A : Option Addr) (c : Nat), q ≤ 8 ∧ i = .int .i64 ((q : Int) - 1) ∧ s = .slice A (l + (8 - q)) c ∧ wx.ownsRow w.heap.size 5 1 (.slice A (l + (8 - q)) c) (l + (8 - q)) ((M1 ++ (be 8 X).take (8 - q)).map bv) ∧ Below w.heap.size w wx) (fun _ i _ => (intOf i + 1).toNat)
      case atStart => exact ⟨8, _, _, by omega, congrArg (Value.int .i64) (show (7 : Int) = ((8 : Nat) : Int) - 1 by decide), rfl, by rw [Nat.sub_self, List.take_zero, List.append_nil]; exact HO1.out, HBW.out⟩
      case round =>
        clear HO1 HBW HOWN
        obtain ⟨q, A, c, hq, rfl, rfl, hown, hbw⟩ := hrel
        obtain ⟨m, hm⟩ : ∃ m, m = l + (8 - q) := ⟨_, rfl⟩
        rw [← hm] at hown ⊢
        have HM := Lib.hid hm
        have HOWN := Lib.hid hown
        have HBW := Lib.hid hbw
        have hm7 : m ≤ 1000200 := by omega
        cases q with
        | zero =>
          rw [show ((0 : Nat) : Int) - 1 = -1 from by decide]
          obtain ⟨M, hM⟩ : ∃ M, M = M1 ++ (be 8 X).take (8 - 0) := ⟨_, rfl⟩
          have hMp : M = bs ++ padB bs.length := by
            have hM1 := HM1.out
            have hZ := HZ.out
            have hX := HX.out
            rw [hM, List.take_of_length_le (by rw [be_len]; omega), hM1.1, zer, padB, hX, hZ, HL.out, List.append_assoc, List.append_assoc]
          have hml : M.length = m := by rw [hM, List.length_append, HM1.out.2, hm, List.length_take, be_len]; omega
          rw [← hM] at hown
          have hll := HLL.out
          have hz2 := HZ2.out
          obtain ⟨NB, hNB⟩ : ∃ NB, m = 64 * NB := ⟨m / 64, by omega⟩
          have hdig : dig bs = outB (blocksS H0 NB M) := by rw [dig, ← hMp, hml, hNB, Nat.mul_div_cancel_left _ (by omega)]
          obtain ⟨gm, rfl⟩ : ∃ g, A = some ⟨g, 0, none⟩ := by
            rcases own_cases hown with ⟨_, _, h⟩ | h
            · omega
            · exact h
          have hrm : RdB wr wr.heap.size (some ⟨gm, 0, none⟩) m c M := Rd.of_own hown
          have hroom := hrm.room
          rename World => wm
          have HDIG := Lib.hid hdig
          have HRM := Lib.hid hrm
          have HMN := Lib.hid (And.intro hml hNB)
          have HBM := Lib.hid hbw
          have HKM := Lib.hid ((HK.out.below hbw).more hbw.size)
          clear hown hbw hm hM hMp hml hNB hdig hrm hz2 hll HM HOWN HBW
          go_wp2_with fail
          go_loopw [8, 9] (fun h f wx => ∃ (j g : Nat), j ≤ NB ∧ f = .int .i64 ((64 * j : Nat) : Int) ∧ h = .slice (some ⟨g, 0, none⟩) 8 8 ∧ Rd wx wx.heap.size (some ⟨g, 0, none⟩) 8 8 ((blocksS H0 j M).list.map wv) ∧ Below wm.heap.size wm wx) (fun _ f _ => m - (intOf f).toNat)
          case atStart => exact ⟨0, _, by omega, rfl, rfl, by rw [blocksS_zero]; exact rd_cells wm rfl (by rfl) rfl (by omega), below_of_new wm _⟩
          case round =>
            obtain ⟨j, g, hj, rfl, rfl, hr, hbw⟩ := hrel
            obtain ⟨f, hf⟩ : ∃ f, f = 64 * j := ⟨_, rfl⟩
            rw [← hf]
            have hmn := HMN.out
            by_cases hltj : j < NB
            · have t1 : decide ((f : Int) < (m : Int)) = true := by rw [decide_eq_true_iff]; omega
              have hfm : f + 64 ≤ m := by omega
              have hcut : ∀ W, (Instr.slice 22 (.slice (some ⟨gm, 0, none⟩) m c) (some (.int .i64 (f : Int))) (some (.int .i64 ((f : Int) + 64))) none).run Tryd.prog W = .ok (.slice (some ⟨gm, f, none⟩) 64 (c - f)) W := fun W => by
                rw [run_cut2 Tryd.underlying22 elemBd (some ⟨gm, 0, none⟩) m c f (f + 64) (by omega) (by omega) (by rw [IntKind.wrap_i64]; omega) W ((f : Int) + 64) (by omega), if_neg (by omega), Option.map_some, add_off, Nat.zero_add, show f + 64 - f = 64 from by omega]
              have hsub : RdB wr wr.heap.size (some ⟨gm, f, none⟩) 64 (c - f) ((M.drop f).take 64) := by
                have h1 := RdB.cut (HRM.out.on hbw) (k := f) (by omega) (by omega)
                have h2 := Rd.front (k := 64) h1 (by omega)
                rw [← List.map_take, Nat.zero_add] at h2
                exact h2
              have hnx : comp (blocksS H0 j M) ((M.drop f).take 64) = blocksS H0 (j + 1) M := by rw [blocksS_last j H0 M (by omega), hf]
              have hcall := block_own _ _ _ 8 (c - f) ck _ _ wr hr hsub ((HKM.out.below hbw).more hbw.size)
              rw [hnx] at hcall
              have HCALL := Lib.hid hcall
              have HBW := Lib.hid hbw
              have HF := Lib.hid hf
              clear hf hsub hnx hcall hr hbw hmn
              go_wp2_with fail
              refine HCALL.out.mono ?_
              rintro e w5 ⟨g2, rfl, hr2, hb2⟩
              have hb3 := below_seq HBW.out hb2
              go_wp2_with fail
              have hf := HF.out
              exact ⟨⟨j + 1, g2, by omega, by rw [show (64 * (j + 1) : Nat) = f + 64 from by omega]; rfl, rfl, hr2, hb3⟩, by simp [intOf] <;> omega⟩
            · obtain rfl : j = NB := by omega
              obtain rfl : f = m := by omega
              have t1 : decide ((f : Int) < (f : Int)) = false := by simp
              obtain ⟨V, hV⟩ : ∃ V, V = blocksS H0 j M := ⟨_, rfl⟩
              have hdig := HDIG.out
              rw [← hV] at hdig hr
              rename World => w4
              obtain ⟨b4, o4, e4, hb4, hc4⟩ := hr.2.2.2 (by omega)
              obtain ⟨rfl, rfl⟩ : g = b4 ∧ 0 = o4 := by injection e4 with e4; injection e4 with e5 e6; exact ⟨e5, e6⟩
              have HC4 := Lib.hid (show ∀ W, Below w4.heap.size w4 W → ∀ j, j < 8 → W.cell? ⟨g, j, none⟩ = some (.int .u32 (wi (wd V.list j))) from fun W h j hj => by
                have h1 := (h.cell (p := ⟨g, 0 + j, none⟩) hb4).trans (hc4 j _ (wv_at (show j < 8 by omega)))
                rw [Nat.zero_add] at h1
                exact h1)
              have HB4 := Lib.hid (below_seq HBM.out hbw)
              have HD4 := Lib.hid hdig
              clear hmn hf hV hdig hr hbw e4 hb4 hc4
              go_wp2_with fail
              go_loopw [10, 11] (fun s i wx => ∃ (k : Nat) (A : Option Addr) (co : Nat), k ≤ 8 ∧ i = .int .i64 (k : Int) ∧ s = .slice A (4 * k) co ∧ wx.ownsRow w4.heap.size 5 1 (.slice A (4 * k) co) (4 * k) (((outB V).take (4 * k)).map bv) ∧ Below w4.heap.size w4 wx) (fun _ i _ => 8 - (intOf i).toNat)
              case atStart => exact ⟨0, _, _, by omega, rfl, rfl, own_new w4 (Nat.le_refl _) rfl (by omega), below_of_new w4 _⟩
              case round =>
                obtain ⟨k, A, co, hk, rfl, rfl, hown, hbw⟩ := hrel
                by_cases hltk : k < 8
                · have t2 : decide ((k : Int) < 8) = true := by rw [decide_eq_true_iff]; omega
                  have lk : (k : Int) < 8 := by omega
                  obtain ⟨q, hq⟩ : ∃ q, q = 4 * k := ⟨_, rfl⟩
                  have hrow := out_next V k hltk
                  obtain ⟨x, hx⟩ : ∃ x, x = wd V.list k := ⟨_, rfl⟩
                  obtain ⟨y0, hy0⟩ : ∃ z, z = UInt8.ofNat (x.toNat / 16777216) := ⟨_, rfl⟩
                  obtain ⟨y1, hy1⟩ : ∃ z, z = UInt8.ofNat (x.toNat / 65536) := ⟨_, rfl⟩
                  obtain ⟨y2, hy2⟩ : ∃ z, z = UInt8.ofNat (x.toNat / 256) := ⟨_, rfl⟩
                  obtain ⟨y3, hy3⟩ : ∃ z, z = UInt8.ofNat x.toNat := ⟨_, rfl⟩
                  have f0 : IntKind.u8.wrap (wi x / (16777216 : Int)) = (y0.toNat : Int) := by rw [← byte_of hy0]; rfl
                  have f1 : IntKind.u8.wrap (wi x / (65536 : Int)) = (y1.toNat : Int) := by rw [← byte_of hy1]; rfl
                  have f2 : IntKind.u8.wrap (wi x / (256 : Int)) = (y2.toNat : Int) := by rw [← byte_of hy2]; rfl
                  have f3 : IntKind.u8.wrap (wi x) = (y3.toNat : Int) := byte_of hy3
                  rw [← hx, be4, ← hy0, ← hy1, ← hy2, ← hy3, ← hq] at hrow
                  rw [← hq] at hown ⊢
                  have HS := Lib.hid (show ∀ W, Below w4.heap.size w4 W → W.cell? ⟨g, k, none⟩ = some (.int .u32 (wi x)) from fun W h => by rw [hx]; exact HC4.out W h k hltk)
                  have HROW := Lib.hid hrow
                  have HOWN := Lib.hid hown
                  have HBW := Lib.hid hbw
                  have HQ := Lib.hid hq
                  have hbd : Below w4.heap.size w4 wr.drew := below_drew' hbw
                  have hq32 : q ≤ 32 := by omega
                  clear hx hy0 hy1 hy2 hy3 hrow hown hbw hq
                  go_wp2_with fail
                  go_region_held_law (fun W => W.cell? ⟨g, k, none⟩ = some (.int .u32 (wi x)))
                    (first | exact HS.out _ (by assumption) | exact HS.out _ (below_alloc (by assumption) _))
                    ((refine wp_app _ (.tmp 61) (.tmp 85) 22 rfl w4.heap.size 5 i0 _ 1 Tryd.underlying22 hi hz0 hz1 hz2 rfl _ q _ rfl (own_on HOWN.out (below_drew' (below_of_new _ _))) _ (some ⟨wr.heap.size, 0, none⟩) 4 4 ([y0, y1, y2, y3].map bv) rfl (Rd.below (rd_cells wr rfl rfl rfl (by omega)) (below_of_drew ⟨1, rfl⟩ _)) (bv_one [y0, y1, y2, y3]) (by omega) (by omega) (by have := HBW.out.size; simp; omega) ?_; intro v3 w3 hown3 hg3 hat3; obtain ⟨A2, c2, rfl⟩ := own_form hown3; have hb3 : Below w4.heap.size w4 w3 := (below_drew' (below_alloc HBW.out _)).grown hg3 (by have := HBW.out.size; simp; omega) (fun j hj => by have := (HOWN.out.lt j hj).1; omega)))
                  have hown3' := hown3
                  rw [HROW.out] at hown3'
                  clear hown3 hg3 hat3
                  go_wp2_with fail
                  have hq := HQ.out
                  have hq4 : q + 4 = 4 * (k + 1) := by omega
                  exact ⟨⟨k + 1, A2, c2, by omega, by go_num, by rw [← hq4], by rw [← hq4] at hown3' ⊢; exact hown3', hb3⟩, by simp [intOf] <;> omega⟩
                · obtain rfl : k = 8 := by omega
                  have e : (outB V).take (4 * 8) = outB V := List.take_of_length_le (by rw [outB_len]; omega)
                  rw [e, ← HD4.out] at hown
                  have hown' := World.ownsRow.mono hown HB4.out.size
                  have HOWN := Lib.hid hown'
                  have HBW := Lib.hid (below_seq HB4.out hbw)
                  rw [show ((8 : Nat) : Int) = 8 from rfl]
                  clear hown hbw hown' e
                  go_wp2_with fail
                  go_ret
                  exact ⟨_, _, rfl, HOWN.out, HBW.out⟩
        | succ k =>
          rw [show ((k + 1 : Nat) : Int) - 1 = (k : Int) from by omega]
          obtain ⟨p, hp⟩ : ∃ p, p = 8 * k := ⟨_, rfl⟩
          obtain ⟨y, hy⟩ : ∃ y, y = X / 2 ^ p := ⟨_, rfl⟩
          obtain ⟨v, hv⟩ : ∃ v, v = UInt8.ofNat y := ⟨_, rfl⟩
          have e1 : 8 * (k : Int) = (p : Int) := by omega
          have e2 : (X : Int) / 2 ^ p = (y : Int) := by rw [hy]; norm_cast
          have e3 := byte_of hv
          have hp56 : p ≤ 56 := by omega
          have hy7 : y ≤ 8000000 := by rw [hy]; exact Nat.le_trans (Nat.div_le_self _ _) hX7
          have hrow := be_next X k (8 - (k + 1)) (by omega) M1
          rw [← hp, ← hy, ← hv, show 8 - (k + 1) + 1 = 8 - k from by omega] at hrow
          have HROW := Lib.hid hrow
          clear hown hbw hm hp hy hv hrow
          go_wp2_with (at_builtin; refine wpList_app _ rfl (.tmp 32) (.tmp 39) 22 rfl w.heap.size 5 i0 _ 1 Tryd.underlying22 hi hz0 hz1 hz2 rfl _ m _ rfl (HOWN.out.alloc _) _ (some ⟨wr.heap.size, 0, none⟩) 1 1 [bv v] rfl (rd_cells wr rfl rfl rfl (by omega)) (bv_one [v]) (by omega) (by omega) (by have := HBW.out.size; simp; omega) ?_; intro A2 c2 w3 hown3 hg3 hat3)
          have hown3' := hown3
          rw [HROW.out] at hown3'
          have hb3 := below_own HBW.out HOWN.out (Nat.le_refl _) hg3
          clear hown3 hg3 hat3
          go_wp2_with fail
          have hm := HM.out
          have hmk : m + 1 = l + (8 - k) := by omega
          exact ⟨⟨k, A2, c2, by omega, by go_num, by rw [hmk], by rw [← hmk]; exact hown3', hb3⟩, by simp [intOf] <;> omega⟩
end Go.Proofs.YtgebdkbbdabomaaDoor.Sha
