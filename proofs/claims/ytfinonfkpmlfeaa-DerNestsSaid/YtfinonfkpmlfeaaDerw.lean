/-
  THE CONTRACTS of der's functions that write.
-/
import Derived.Test.YtfinonfkpmlfeaaOctn
import Derived.Test.YtfinonfkpmlfeaaValm
namespace Go.Proofs.Ytfinonfkpmlfeaa.Der
open Go.RowKit
open Go.Proofs.Ytfinonfkpmlfeaa.Kit
open Go.Proofs.Ytfinonfkpmlfeaa.Oct
set_option linter.unusedVariables false

set_option maxRecDepth 100000 in
theorem length_new (n : Nat) (w : World) (hn : n ≤ 5000) :
    Calls Try.prog 44 #[.int .i64 n] w fun e w' => ∃ A c, e = .returned (.slice A (lenB n).length c) ∧ New w w' A (lenB n).length c (lenB n) := by
  have hbd := nb_bd n
  by_cases h : n < 128
  · have e : lenB n = short n := by rw [lenB, if_pos h, short_small (by omega)]
    rw [e, short_len]
    go_enter Try.func44, Try.ntmps44
    go_wp2_with fail
    refine (short_new n _ (by omega)).mono ?_
    rintro e w1 ⟨A, c, rfl, hn1⟩
    go_wp2
    go_ret
    exact ⟨A, c, rfl, hn1⟩
  · have e : lenB n = UInt8.ofNat (128 + nb n) :: short n := by rw [lenB, if_neg h]
    rw [e]
    have he : (UInt8.ofNat (128 + nb n)).toNat = 128 + nb n := by simp; omega
    go_enter Try.func44, Try.ntmps44
    go_wp2_with fail
    refine (short_new n _ (by omega)).mono ?_
    rintro e w1 ⟨A, c, rfl, hn1⟩
    have hb1 := hn1.bl
    go_wp2_with fail
    refine (joined_new _ _ _ _ [⟨some ⟨w1.heap.size, 0, none⟩, 1, 1, [UInt8.ofNat (128 + nb n)]⟩, ⟨A, nb n, c, short n⟩] _ ?h1 ?h2 (Nat.le_refl _) ?h3).mono ?_
    case h1 => exact rd_cells _ (by simp) rfl rfl (by simp)
    case h2 =>
      intro r hr
      simp only [List.mem_cons, List.not_mem_nil, or_false] at hr
      rcases hr with rfl | rfl
      · refine (rd_lit' w1 (n := 1) rfl ?_ rfl (by omega)).lit _
        rw [List.map_cons, List.map_nil, bv, he]
        simp
      · exact (hn1.rd.lit _).lit _
    case h3 => rw [joinL_two, List.length_append, short_len]; simp; omega
    rintro e w2 ⟨A2, c2, rfl, hn2⟩
    rw [joinL_two] at hn2 ⊢
    have hB2 := below_seq (below_alloc (below_alloc hb1 _) _) hn2.bl
    go_wp2
    go_ret
    exact ⟨A2, c2, rfl, hn2.rd, hB2⟩

def EncC (N : Nat) : Prop := ∀ (x : V) (d : Nat) (A : Option Addr) (m c : Nat) (A' : Option Addr) (m' c' : Nat) (w : World), x.size ≤ N → x.fit → x.right d = true → RdV w w.heap.size x A m c A' m' c' →
  Calls Try.prog 32 #[.agg #[.int .i64 x.k, .int .i64 x.t, .int .u64 x.n, .slice A m c, .slice A' m' c']] w fun e w' => Below w.heap.size w w' ∧
    (x.enc.length ≤ 4096 → ∃ B c, e = .returned (.tuple #[.slice B x.enc.length c, .bool true]) ∧ New w w' B x.enc.length c x.enc) ∧ (4096 < x.enc.length → ∃ B n c, e = .returned (.tuple #[.slice B n c, .bool false]))
def ContC (N : Nat) : Prop := ∀ (x : V) (d : Nat) (A : Option Addr) (m c : Nat) (A' : Option Addr) (m' c' : Nat) (w : World), x.size ≤ N → x.fit → x.right d = true → RdV w w.heap.size x A m c A' m' c' →
  Calls Try.prog 43 #[.agg #[.int .i64 x.k, .int .i64 x.t, .int .u64 x.n, .slice A m c, .slice A' m' c']] w fun e w' => Below w.heap.size w w' ∧
    (x.k ≠ 2 ∨ x.body.length ≤ 4096 → ∃ B c, e = .returned (.tuple #[.slice B x.body.length c, .bool true]) ∧ RdB w' w'.heap.size B x.body.length c x.body) ∧ (x.k = 2 ∧ 4096 < x.body.length → ∃ B n c, e = .returned (.tuple #[.slice B n c, .bool false]))

set_option maxHeartbeats 1000000 in
theorem cont_of {N : Nat} (hE : EncC N) : ContC (N + 1) := by
  intro x d A m c A' m' c' w hs hf hr h
  obtain ⟨hb, hl⟩ := h.split
  have hlb := hb.len
  have hll := hl.1
  obtain ⟨hd, ht0, ht1, hc⟩ := right_cases hr
  cases x with
  | mk k t n b l =>
    simp only [V.k, V.t, V.n, V.b, V.l] at *
    have hsl : ∀ y ∈ l, y.size ≤ N := fun y hy => by have := V.size_l (x := .mk k t n b l) hy; omega
    have hfl : V.fit.fits l := hf.2.2.2
    have hn64 : n < 18446744073709551616 := hf.2.2.1
    have HN := Lib.hid hn64
    have HSL := Lib.hid hsl
    have HFL := Lib.hid hfl
    have HE := Lib.hid hE
    have hm : m ≤ 9223372036854775807 := by have := hb.room; omega
    have hm' : m' ≤ 9223372036854775807 := by have := hl.2; omega
    obtain ⟨body, hbd⟩ : ∃ q, q = V.body (.mk k t n b l) := ⟨_, rfl⟩
    rw [← hbd]
    clear hE hsl hfl hs hf hn64 hr
    rcases hc with ⟨rfl, rfl, rfl⟩ | ⟨rfl, rfl, rfl⟩ | ⟨rfl, rfl, rfl, hrs⟩
    · have hb2 : body = short n := hbd
      clear hbd
      subst hb2
      rw [short_len]
      clear hlb hll
      go_enter Try.func43, Try.ntmps43
      go_wp2_with fail
      refine (short_new n _ HN.out).mono ?_
      rintro e w1 ⟨B, c1, rfl, hn1⟩
      have hB1 := below_seq (below_of_new _ _) hn1.bl
      go_wp2
      go_ret2
      exact ⟨hB1, fun _ => ⟨B, c1, rfl, hn1.rd⟩, fun hh => absurd hh.1 (by omega)⟩
    · have hb2 : body = b := hbd
      clear hbd
      subst hb2
      have HLB := Lib.hid hlb
      clear hlb hll
      go_enter Try.func43, Try.ntmps43
      go_wp2
      go_ret2
      exact ⟨below_of_new _ _, fun _ => ⟨A, c, by rw [HLB.out]; rfl, by rw [HLB.out]; exact RdB.lit hb _⟩, fun hh => absurd hh.1 (by omega)⟩
    · have hb2 : body = V.enc.encs l := hbd
      clear hbd
      subst hb2
      have HRS := Lib.hid hrs
      have hle : m' ≤ l.length ∧ l.length ≤ m' := by omega
      obtain ⟨i0, hi, hz0, hz1, hz2⟩ := info_parts info5
      clear hrs hlb hll
      rw [show ((0 : Nat) : Int) = 0 from rfl]
      go_enter Try.func43, Try.ntmps43
      go_wp2
      go_loopw [4, 23] (fun v i wr => ∃ (q : Nat) (B : Option Addr) (c1 : Nat), q ≤ m' ∧ i = .int .i64 q ∧ v = .slice B (V.enc.encs (l.take q)).length c1 ∧ (V.enc.encs (l.take q)).length ≤ 4096 ∧ wr.ownsRow w.heap.size 5 1 (.slice B (V.enc.encs (l.take q)).length c1) (V.enc.encs (l.take q)).length ((V.enc.encs (l.take q)).map bv) ∧ Below w.heap.size w wr) (fun _ i _ => m' - (intOf i).toNat)
      case atStart => exact ⟨0, none, 0, Nat.zero_le _, rfl, rfl, Nat.zero_le _, World.ownsRow_nil _ _ _ _, below_of_new _ _⟩
      case round =>
        obtain ⟨q, B, c1, hq, rfl, rfl, hle4, hown, hbw⟩ := hrel
        obtain ⟨p, hp⟩ : ∃ p, p = V.enc.encs (l.take q) := ⟨_, rfl⟩
        rw [← hp] at hown hle4 ⊢
        have HP := Lib.hid hp
        clear hp
        by_cases hlt : q < m'
        · have hlk : q < l.length := by omega
          have h' := hl.on hbw
          obtain ⟨bb, o, rfl, hbb, hl2⟩ := h'.2.2.2.2 (by omega)
          obtain ⟨C, m2, c3, C', m2', c2, e0, e1, e2, e3, e4, hrd⟩ := RdVl.at_ l hl2 q hlk
          have hsz := Lib.hid (HSL.out _ (List.getElem_mem (l := l) (n := q) hlk))
          have hft := Lib.hid (V.fits_mem HFL.out (List.getElem_mem (l := l) (n := q) hlk))
          have hrt := Lib.hid (rights_mem HRS.out (List.getElem_mem (l := l) (n := q) hlk))
          have hsucc := Lib.hid (encs_take_succ l q hlk)
          have hmem := Lib.hid (enc_mem_len (List.getElem_mem (l := l) (n := q) hlk))
          have htk := Lib.hid (encs_take_le l (q + 1))
          obtain ⟨x, hx⟩ : ∃ x, x = l[q] := ⟨_, rfl⟩
          rw [← hx] at e0 e1 e2 hrd hsz hft hrt hsucc hmem
          clear hx hl2 h'
          go_wp2_with fail
          refine (HE.out x (d + 1) _ _ _ _ _ _ _ hsz.out hft.out hrt.out (hrd.on (below_of_new _ _))).mono ?_
          rintro e w1 ⟨hb1, hyes, hno⟩
          clear e0 e1 e2 e3 e4 hrd
          have hB1 := below_seq (below_alloc hbw _) hb1
          rcases Nat.lt_or_ge 4096 x.enc.length with hbig | hsm
          · obtain ⟨D, nn, cc, rfl⟩ := hno hbig
            have hbig2 : 4096 < (V.enc.encs l).length := by have := hmem.out; omega
            clear hyes hno hb1
            go_wp2
            go_ret2
            exact ⟨hB1, fun hh => absurd hh (by omega), fun _ => ⟨_, _, _, rfl⟩⟩
          · obtain ⟨D, cc, rfl, hnew⟩ := hyes hsm
            clear hyes hno hb1
            have hs2 := hsucc.out
            rw [← HP.out] at hs2
            have hlen2 : (V.enc.encs (l.take (q + 1))).length = p.length + x.enc.length := by rw [hs2, List.length_append]
            by_cases htot : 4096 < p.length + x.enc.length
            · have g1 : decide ((4096 : Int) < (p.length : Int) + x.enc.length) = true := by simp; omega
              have hbig2 : 4096 < (V.enc.encs l).length := by have := htk.out; omega
              have HS2 := Lib.hid hs2
              have HL2 := Lib.hid hlen2
              clear hs2 hlen2
              go_wp2
              go_ret2
              exact ⟨hB1, fun hh => absurd hh (by omega), fun _ => ⟨_, _, _, rfl⟩⟩
            · have g1 : decide ((4096 : Int) < (p.length : Int) + x.enc.length) = false := by simp; omega
              have hsm2 : p.length + x.enc.length ≤ 4096 := by omega
              have HS2 := Lib.hid hs2
              have HL2 := Lib.hid hlen2
              have hown1 := own_on (own_on hown (below_of_new wr (.cells #[.int .i64 x.k, .int .i64 x.t, .int .u64 x.n, .slice C m2 c3, .slice C' m2' c2] 26))) hnew.bl
              have hrd1 := hnew.rd
              clear hs2 hlen2 htot hown hnew
              go_wp2_with (at_builtin; refine wpList_app _ rfl (.tmp 42) (.tmp 43) 23 rfl w.heap.size 5 i0 _ 1 Try.underlying23 hi hz0 hz1 hz2 rfl _ p.length _ rfl hown1 _ D x.enc.length cc _ rfl hrd1 (bv_one _) (by omega) (by omega) hB1.size ?_; intro A2 c4 w2 hown2 hg hat)
              have hb2 := hB1.grown hg hB1.size (fun g hg => (hown1.lt g hg).1)
              rw [← List.map_append, ← HS2.out, ← HL2.out] at hown2
              clear hg hat hown1 hrd1
              go_wp2
              go_roundw
              case rel => exact ⟨q + 1, A2, c4, by omega, by go_num, by rw [HL2.out], by rw [HL2.out]; exact hsm2, hown2, hb2⟩
              case measure => simp [intOf]; omega
        · obtain rfl : q = m' := by omega
          have e := HP.out
          rw [List.take_of_length_le hle.2] at e
          have E := Lib.hid e
          clear e
          go_wp2
          go_ret2
          exact ⟨hbw, fun _ => ⟨B, c1, by rw [← E.out]; rfl, by rw [← E.out]; exact Rd.of_own hown⟩, fun hh => absurd hh.2 (by rw [← E.out]; omega)⟩
end Go.Proofs.Ytfinonfkpmlfeaa.Der
