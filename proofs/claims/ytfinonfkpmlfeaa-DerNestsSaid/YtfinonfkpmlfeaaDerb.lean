/-
  THE CONTRACT of the document's Bytes.
-/
import Derived.Test.YtfinonfkpmlfeaaOctn
import Derived.Test.YtfinonfkpmlfeaaValm
import Derived.Deep.DeepCutAuto
namespace Go.Proofs.Ytfinonfkpmlfeaa.Der
open Go.RowKit
open Go.Proofs.Ytfinonfkpmlfeaa.Kit
open Go.Proofs.Ytfinonfkpmlfeaa.Oct
set_option linter.unusedVariables false

def RBytC (N : Nat) : Prop := ∀ (x : V) (d : Nat) (A : Option Addr) (m c : Nat) (A' : Option Addr) (m' c' : Nat) (w : World), x.size ≤ N → x.fit → x.right d = true → RdV w w.heap.size x A m c A' m' c' → x.enc.length ≤ 1000000 →
  Calls Try.prog 33 #[.agg #[.int .i64 x.k, .int .i64 x.t, .int .u64 x.n, .slice A m c, .slice A' m' c']] w fun e w' => ∃ B cc, e = .returned (.slice B x.enc.length cc) ∧ New w w' B x.enc.length cc x.enc

set_option maxRecDepth 100000 in
set_option maxHeartbeats 2000000 in
theorem rbytes_of {N : Nat} (hR : RBytC N) : RBytC (N + 1) := by
  intro x d A m c A' m' c' w hs hf hr h hlen
  obtain ⟨hbs, hl⟩ := h.split
  have hlb := Lib.hid hbs.len
  have hll := hl.1
  obtain ⟨hd, ht0, ht1, hc⟩ := right_cases hr
  have htwo := x.enc_two
  have hee := Lib.hid x.enc_eq
  have hsl : ∀ y ∈ x.l, y.size ≤ N := fun y hy => by have := V.size_l hy; omega
  have HSL := Lib.hid hsl
  have HFL : Hid (V.fit.fits x.l) := by cases x; exact hf.2.2.2
  have HN : Hid (x.n < 18446744073709551616) := by cases x; exact hf.2.2.1
  have HA := Lib.hid hR
  have HBD := Lib.hid (show x.body = if x.k = 0 then short x.n else if x.k = 2 then V.enc.encs x.l else x.b from rfl)
  have hk3 : x.k = 0 ∨ x.k = 1 ∨ x.k = 2 := by rcases hc with h | h | h <;> omega
  have HRS : Hid (x.k = 2 → V.right.rights x.l (d + 1) = true) := by
    intro h2
    rcases hc with h | h | h
    · omega
    · omega
    · exact h.2.2.2
  obtain ⟨k, hk⟩ : ∃ k, k = x.k := ⟨_, rfl⟩
  obtain ⟨t, ht⟩ : ∃ t, t = x.t := ⟨_, rfl⟩
  obtain ⟨body, hbody⟩ : ∃ q, q = x.body := ⟨_, rfl⟩
  obtain ⟨enc, henc⟩ : ∃ q, q = x.enc := ⟨_, rfl⟩
  obtain ⟨l, hl0⟩ : ∃ q, q = x.l := ⟨_, rfl⟩
  rw [← hk] at hee hk3 HBD HRS
  rw [← ht] at hee ht0 ht1
  rw [← hbody] at htwo hee HBD
  rw [← henc] at htwo hee hlen
  rw [← hl0] at HSL HFL HBD hl hll HRS
  rw [← hk, ← ht, ← henc]
  have hH : ∀ X : Int, X = k * 64 + t → #[Value.int .u8 X].toList = [headB k t].map bv := fun X hX => head_bv hk3 ht0 ht1 hX
  obtain ⟨hb, hhb⟩ : ∃ q, q = headB k t := ⟨_, rfl⟩
  rw [← hhb] at hH hee
  have HH := Lib.hid hH
  obtain ⟨i0, hi, hz0, hz1, hz2⟩ := info_parts info5
  have hle : m' ≤ l.length ∧ l.length ≤ m' := by omega
  have hmax : m' ≤ 9223372036854775807 := Nat.le_trans hl.2.1 hl.2.2.1
  clear hc hk ht hbody henc hs hf hr h hR hH hhb hsl hl0 hll
  rcases hk3 with rfl | rfl | rfl
  · have e1 := HBD.out
    rw [if_pos rfl] at e1
    have E1 := Lib.hid e1
    clear e1
    go_enter Try.func33, Try.ntmps33
    go_wp2_with fail
    refine (rshort_new x.n _ HN.out).mono ?_
    rintro e w1 ⟨B, cB, rfl, hn1⟩
    have hbx := hn1.bl
    rw [World.size_alloc] at hbx
    have hB1 := below_seq (below_of_new _ _) hn1.bl
    have hin : RdB w1 w1.heap.size B body.length cB body := by rw [E1.out, short_len]; exact hn1.rd
    have hnlen : nb x.n = body.length := by rw [E1.out, short_len]
    rw [hnlen]
    clear hn1 hnlen
    have hc0 := (hbx.cell (p := ⟨w.heap.size, 0, none⟩) (by simp)).trans (World.cell?_alloc_new w _ _ 0)
    have hc1 := (hbx.cell (p := ⟨w.heap.size, 1, none⟩) (by simp)).trans (World.cell?_alloc_new w _ _ 1)
    simp at hc0 hc1
    have hzb : w.heap.size + 1 ≤ w1.heap.size := by have := hbx.size; simpa using this
    have hri := hin.room
    rcases Nat.lt_or_ge body.length 128 with hsmall | hlarge
    · have hlb2 : lenB body.length = [UInt8.ofNat body.length] := by rw [lenB, if_pos hsmall]
      have HLB := Lib.hid hlb2
      have g1 : decide ((body.length : Int) < 128) = true := by simp; omega
      clear hlb2
      go_wp2_with (first
        | (at_builtin
           refine wpList_app _ rfl (.tmp 47) (.tmp 50) 23 rfl w.heap.size 5 i0 _ 1 Try.underlying23 hi hz0 hz1 hz2 rfl _ 1 ([hb].map bv) rfl (own_on (own_lit w1 (n := 1) (HH.out _ (by omega)) hB1.size rfl (by omega)) (below_of_new _ _)) _ (some ⟨w1.heap.size + 1, 0, none⟩) 1 1 ([UInt8.ofNat body.length].map bv) rfl (rd_lit' _ (by simp) (one_bv hsmall) rfl (by omega)) (bv_one _) (by omega) (by omega) (by simp; omega) ?_
           intro A2 c2 w2 hown2 hg2 hat2
           have hb12 := grown_from (below_alloc (below_of_new w1 _) _) (by simp; omega) hg2 (Nat.le_refl _)
           have hB2 := below_seq hB1 hb12
           have hin2 := hin.on hb12
           clear hg2 hat2)
        | (at_builtin
           refine wpList_app _ rfl (.tmp 64) (.tmp 65) 23 rfl w.heap.size 5 i0 _ 1 Try.underlying23 hi hz0 hz1 hz2 rfl _ (1 + 1) ([hb].map bv ++ [UInt8.ofNat body.length].map bv) rfl hown2 _ B body.length cB (body.map bv) rfl hin2 (bv_one _) (by omega) (by omega) hB2.size ?_
           intro A3 c3 w3 hown3 hg3 hat3))
      have hB3 := hB2.grown hg3 hB2.size (fun g hg => (hown2.lt g hg).1)
      rw [← List.map_append, ← List.map_append] at hown3
      have e : ([hb] ++ [UInt8.ofNat body.length]) ++ body = enc := by rw [hee.out, HLB.out]; rfl
      have e2 : 1 + 1 + body.length = enc.length := by rw [← e]; simp; omega
      rw [e, e2] at hown3
      have E2 := Lib.hid e2
      clear hg3 hat3 hin2 hown2 e e2
      go_ret
      exact ⟨A3, c3, by rw [← E2.out]; rfl, .of_own hown3 hB3⟩
    · have hbig : ¬ body.length < 128 := by omega
      have hnb := nb_bd body.length
      have hlb2 : lenB body.length = UInt8.ofNat (128 + nb body.length) :: short body.length := by rw [lenB, if_neg hbig]
      have HLB := Lib.hid hlb2
      have g1 : decide ((body.length : Int) < 128) = false := by simp; omega
      clear hlb2 hbig
      go_wp2_with fail
      refine (rshort_any body.length _ (by omega)).mono ?_
      rintro e w2 ⟨S, cs, rfl, hownS, hbS⟩
      have hB2 := below_seq (below_alloc hB1 _) hbS
      have hb12 := below_seq (below_of_new w1 _) hbS
      have hout2 := own_on (own_lit w1 (n := 1) (base := w.heap.size) (e := 5) (HH.out _ (by omega)) hB1.size rfl (by omega)) hbS
      rw [World.size_alloc] at hownS
      clear hc0 hc1 hbS
      have hlt2 := hownS.lt
      go_wp2_with (first
        | (at_builtin
           refine wpList_app _ rfl (.tmp 55) (.tmp 60) 23 rfl w.heap.size 5 i0 _ 1 Try.underlying23 hi hz0 hz1 hz2 rfl _ 1 ([hb].map bv) rfl (own_on hout2 (below_of_new _ _)) _ (some ⟨w2.heap.size, 0, none⟩) 1 1 ([UInt8.ofNat (128 + nb body.length)].map bv) rfl (rd_lit' _ rfl (one_bv2 hnb.2) rfl (by omega)) (bv_one _) (by omega) (by omega) (by have := hB2.size; simp; omega) ?_
           intro A3 c3 w3 hown3 hg3 hat3
           have hb13 := grown_from (hb12.alloc hb12.size _) (by have := hb12.size; simp; omega) hg3 (Nat.le_refl _)
           have hB3 := below_seq hB1 hb13
           have hS3 := (own_on hownS (below_of_new w2 _)).kept hg3 (.inr (by intro hh; have h1 := (hlt2 w1.heap.size hh).1; omega))
           have hlo := own_past hat3 (B := w1.heap.size) ⟨(by have := hb12.size; simp; omega), Nat.le_refl _⟩
           clear hg3 hat3)
        | (at_builtin
           refine wpList_app _ rfl (.tmp 61) (.tmp 62) 23 rfl w.heap.size 5 i0 _ 1 Try.underlying23 hi hz0 hz1 hz2 rfl _ (1 + 1) ([hb].map bv ++ [UInt8.ofNat (128 + nb body.length)].map bv) rfl hown3 _ S (nb body.length) cs ((short body.length).map bv) rfl (Rd.of_own hS3) (bv_one _) (by omega) (by omega) hB3.size ?_
           intro A4 c4 w4 hown4 hg4 hat4
           have hb14 := hb13.grown hg4 hb13.size hlo
           have hB4 := below_seq hB1 hb14
           have hin4 := hin.on hb14
           clear hg4 hat4)
        | (at_builtin
           refine wpList_app _ rfl (.tmp 64) (.tmp 65) 23 rfl w.heap.size 5 i0 _ 1 Try.underlying23 hi hz0 hz1 hz2 rfl _ (1 + 1 + nb body.length) (([hb].map bv ++ [UInt8.ofNat (128 + nb body.length)].map bv) ++ (short body.length).map bv) rfl hown4 _ B body.length cB (body.map bv) rfl hin4 (bv_one _) (by omega) (by omega) hB4.size ?_
           intro A5 c5 w5 hown5 hg5 hat5))
      have hB5 := hB4.grown hg5 hB4.size (fun g hg => (hown4.lt g hg).1)
      rw [← List.map_append, ← List.map_append, ← List.map_append] at hown5
      have e : (([hb] ++ [UInt8.ofNat (128 + nb body.length)]) ++ short body.length) ++ body = enc := by rw [hee.out, HLB.out]; simp
      have e2 : 1 + 1 + nb body.length + body.length = enc.length := by rw [← e]; simp [short_len]; omega
      rw [e, e2] at hown5
      have E2 := Lib.hid e2
      clear e e2
      go_ret
      exact ⟨A5, c5, by rw [← E2.out]; rfl, .of_own hown5 hB5⟩

  · have e1 := HBD.out
    rw [if_neg (by omega), if_neg (by omega)] at e1
    have E1 := Lib.hid e1
    clear e1
    have hmm : m = body.length := by rw [← hlb.out, E1.out]
    subst hmm
    have hbs2 : RdB w w.heap.size A body.length c body := by
      have h1 := hbs
      rw [← E1.out] at h1
      exact h1
    go_enter Try.func33, Try.ntmps33
    go_upto_if 18 with fail
    go_cut [3] (fun s3 wx => ∃ B cB, s3 = .slice B body.length cB ∧ RdB wx wx.heap.size B body.length cB body ∧ Below w.heap.size w wx ∧ Below (w.heap.size + 1) (w.alloc (.cells #[.int .i64 1, .int .i64 t, .int .u64 x.n, .slice A body.length c, .slice A' m' c'] 30)) wx)
    case first =>
      go_wp2
      go_meet
      exact ⟨A, c, rfl, hbs2.lit _, below_of_new _ _, Below.refl _ _⟩
    case rest =>
      obtain ⟨B, cB, rfl, hin, hB1, hbx⟩ := hcut
      obtain ⟨w1, hw1⟩ : ∃ w1, w1 = wc := ⟨_, rfl⟩
      subst hw1
      have hc0 := (hbx.cell (p := ⟨w.heap.size, 0, none⟩) (by simp)).trans (World.cell?_alloc_new w _ _ 0)
      have hc1 := (hbx.cell (p := ⟨w.heap.size, 1, none⟩) (by simp)).trans (World.cell?_alloc_new w _ _ 1)
      simp at hc0 hc1
      have hzb : w.heap.size + 1 ≤ w1.heap.size := by have := hbx.size; simpa using this
      have hri := hin.room
      rcases Nat.lt_or_ge body.length 128 with hsmall | hlarge
      · have hlb2 : lenB body.length = [UInt8.ofNat body.length] := by rw [lenB, if_pos hsmall]
        have HLB := Lib.hid hlb2
        have g1 : decide ((body.length : Int) < 128) = true := by simp; omega
        clear hlb2
        go_wp2_with (first
          | (at_builtin
             refine wpList_app _ rfl (.tmp 47) (.tmp 50) 23 rfl w.heap.size 5 i0 _ 1 Try.underlying23 hi hz0 hz1 hz2 rfl _ 1 ([hb].map bv) rfl (own_on (own_lit w1 (n := 1) (HH.out _ (by omega)) hB1.size rfl (by omega)) (below_of_new _ _)) _ (some ⟨w1.heap.size + 1, 0, none⟩) 1 1 ([UInt8.ofNat body.length].map bv) rfl (rd_lit' _ (by simp) (one_bv hsmall) rfl (by omega)) (bv_one _) (by omega) (by omega) (by simp; omega) ?_
             intro A2 c2 w2 hown2 hg2 hat2
             have hb12 := grown_from (below_alloc (below_of_new w1 _) _) (by simp; omega) hg2 (Nat.le_refl _)
             have hB2 := below_seq hB1 hb12
             have hin2 := hin.on hb12
             clear hg2 hat2)
          | (at_builtin
             refine wpList_app _ rfl (.tmp 64) (.tmp 65) 23 rfl w.heap.size 5 i0 _ 1 Try.underlying23 hi hz0 hz1 hz2 rfl _ (1 + 1) ([hb].map bv ++ [UInt8.ofNat body.length].map bv) rfl hown2 _ B body.length cB (body.map bv) rfl hin2 (bv_one _) (by omega) (by omega) hB2.size ?_
             intro A3 c3 w3 hown3 hg3 hat3))
        have hB3 := hB2.grown hg3 hB2.size (fun g hg => (hown2.lt g hg).1)
        rw [← List.map_append, ← List.map_append] at hown3
        have e : ([hb] ++ [UInt8.ofNat body.length]) ++ body = enc := by rw [hee.out, HLB.out]; rfl
        have e2 : 1 + 1 + body.length = enc.length := by rw [← e]; simp; omega
        rw [e, e2] at hown3
        have E2 := Lib.hid e2
        clear hg3 hat3 hin2 hown2 e e2
        go_ret
        exact ⟨A3, c3, by rw [← E2.out]; rfl, .of_own hown3 hB3⟩
      · have hbig : ¬ body.length < 128 := by omega
        have hnb := nb_bd body.length
        have hlb2 : lenB body.length = UInt8.ofNat (128 + nb body.length) :: short body.length := by rw [lenB, if_neg hbig]
        have HLB := Lib.hid hlb2
        have g1 : decide ((body.length : Int) < 128) = false := by simp; omega
        clear hlb2 hbig
        go_wp2_with fail
        refine (rshort_any body.length _ (by omega)).mono ?_
        rintro e w2 ⟨S, cs, rfl, hownS, hbS⟩
        have hB2 := below_seq (below_alloc hB1 _) hbS
        have hb12 := below_seq (below_of_new w1 _) hbS
        have hout2 := own_on (own_lit w1 (n := 1) (base := w.heap.size) (e := 5) (HH.out _ (by omega)) hB1.size rfl (by omega)) hbS
        rw [World.size_alloc] at hownS
        clear hc0 hc1 hbS
        have hlt2 := hownS.lt
        go_wp2_with (first
          | (at_builtin
             refine wpList_app _ rfl (.tmp 55) (.tmp 60) 23 rfl w.heap.size 5 i0 _ 1 Try.underlying23 hi hz0 hz1 hz2 rfl _ 1 ([hb].map bv) rfl (own_on hout2 (below_of_new _ _)) _ (some ⟨w2.heap.size, 0, none⟩) 1 1 ([UInt8.ofNat (128 + nb body.length)].map bv) rfl (rd_lit' _ rfl (one_bv2 hnb.2) rfl (by omega)) (bv_one _) (by omega) (by omega) (by have := hB2.size; simp; omega) ?_
             intro A3 c3 w3 hown3 hg3 hat3
             have hb13 := grown_from (hb12.alloc hb12.size _) (by have := hb12.size; simp; omega) hg3 (Nat.le_refl _)
             have hB3 := below_seq hB1 hb13
             have hS3 := (own_on hownS (below_of_new w2 _)).kept hg3 (.inr (by intro hh; have h1 := (hlt2 w1.heap.size hh).1; omega))
             have hlo := own_past hat3 (B := w1.heap.size) ⟨(by have := hb12.size; simp; omega), Nat.le_refl _⟩
             clear hg3 hat3)
          | (at_builtin
             refine wpList_app _ rfl (.tmp 61) (.tmp 62) 23 rfl w.heap.size 5 i0 _ 1 Try.underlying23 hi hz0 hz1 hz2 rfl _ (1 + 1) ([hb].map bv ++ [UInt8.ofNat (128 + nb body.length)].map bv) rfl hown3 _ S (nb body.length) cs ((short body.length).map bv) rfl (Rd.of_own hS3) (bv_one _) (by omega) (by omega) hB3.size ?_
             intro A4 c4 w4 hown4 hg4 hat4
             have hb14 := hb13.grown hg4 hb13.size hlo
             have hB4 := below_seq hB1 hb14
             have hin4 := hin.on hb14
             clear hg4 hat4)
          | (at_builtin
             refine wpList_app _ rfl (.tmp 64) (.tmp 65) 23 rfl w.heap.size 5 i0 _ 1 Try.underlying23 hi hz0 hz1 hz2 rfl _ (1 + 1 + nb body.length) (([hb].map bv ++ [UInt8.ofNat (128 + nb body.length)].map bv) ++ (short body.length).map bv) rfl hown4 _ B body.length cB (body.map bv) rfl hin4 (bv_one _) (by omega) (by omega) hB4.size ?_
             intro A5 c5 w5 hown5 hg5 hat5))
        have hB5 := hB4.grown hg5 hB4.size (fun g hg => (hown4.lt g hg).1)
        rw [← List.map_append, ← List.map_append, ← List.map_append] at hown5
        have e : (([hb] ++ [UInt8.ofNat (128 + nb body.length)]) ++ short body.length) ++ body = enc := by rw [hee.out, HLB.out]; simp
        have e2 : 1 + 1 + nb body.length + body.length = enc.length := by rw [← e]; simp [short_len]; omega
        rw [e, e2] at hown5
        have E2 := Lib.hid e2
        clear e e2
        go_ret
        exact ⟨A5, c5, by rw [← E2.out]; rfl, .of_own hown5 hB5⟩

  · have e1 := HBD.out
    rw [if_neg (by omega), if_pos rfl] at e1
    have hrs := Lib.hid (HRS.out rfl)
    have E1 := Lib.hid e1
    have hlim : (V.enc.encs l).length ≤ 1000000 := by rw [← e1]; omega
    have HLIM := Lib.hid hlim
    clear e1 hlim
    go_enter Try.func33, Try.ntmps33
    go_wp2_with fail
    go_loopw [3, 4] (fun v i wr => ∃ (q : Nat) (B : Option Addr) (c1 : Nat), q ≤ m' ∧ i = .int .i64 q ∧ v = .slice B (V.enc.encs (l.take q)).length c1 ∧ wr.ownsRow w.heap.size 5 1 (.slice B (V.enc.encs (l.take q)).length c1) (V.enc.encs (l.take q)).length ((V.enc.encs (l.take q)).map bv) ∧ Below w.heap.size w wr ∧ Below (w.heap.size + 1) (w.alloc (.cells #[.int .i64 2, .int .i64 t, .int .u64 x.n, .slice A m c, .slice A' m' c'] 30)) wr ∧ (∀ g, (Value.slice B (V.enc.encs (l.take q)).length c1).ownBlock = some g → w.heap.size + 1 ≤ g)) (fun _ i _ => m' - (intOf i).toNat)
    case atStart =>
      have ho := own_new (w.alloc (.cells #[.int .i64 2, .int .i64 t, .int .u64 x.n, .slice A m c, .slice A' m' c'] 30)) (base := w.heap.size) (n := 0) (e := 5) (arr := #[]) (by simp) rfl (by omega)
      rw [World.size_alloc] at ho
      exact ⟨0, _, _, Nat.zero_le _, rfl, rfl, ho, (below_of_new _ _).alloc (by simp) _, (Below.refl _ _).alloc (by simp) _, fun g hg => by
        simp only [Value.ownBlock, Option.some.injEq] at hg
        omega⟩
    case round =>
      obtain ⟨q, B, cB, hq, rfl, rfl, hown, hB1, hbx, hpast⟩ := hrel
      have hc4 : wr.cell? ⟨w.heap.size, 4, none⟩ = some (.slice A' m' c') := (hbx.cell (by simp)).trans (World.cell?_alloc_new w _ _ 4)
      by_cases hlt : q < m'
      · have hlk : q < l.length := by omega
        have h' := hl.on hB1
        obtain ⟨bb, o, rfl, hbb, hl2⟩ := h'.2.2.2.2 (by omega)
        obtain ⟨C, m2, c3, C', m2', c2, e0, e1, e2, e3, e4, hrd⟩ := RdVl.at_ l hl2 q hlk
        have hsz := Lib.hid (HSL.out _ (List.getElem_mem (l := l) (n := q) hlk))
        have hft := Lib.hid (V.fits_mem HFL.out (List.getElem_mem (l := l) (n := q) hlk))
        have hrt := Lib.hid (rights_mem hrs.out (List.getElem_mem (l := l) (n := q) hlk))
        have hsucc := Lib.hid (encs_take_succ l q hlk)
        have hmem := enc_mem_len (List.getElem_mem (l := l) (n := q) hlk)
        have htk := encs_take_le l (q + 1)
        have htk0 := encs_take_le l q
        obtain ⟨y, hy⟩ : ∃ y, y = l[q] := ⟨_, rfl⟩
        obtain ⟨p, hp⟩ : ∃ p, p = V.enc.encs (l.take q) := ⟨_, rfl⟩
        rw [← hy] at e0 e1 e2 hrd hsz hft hrt hsucc hmem
        rw [← hp] at hown hpast hsucc htk0 ⊢
        have HP := Lib.hid hp
        have hlp : p.length ≤ 1000000 := Nat.le_trans htk0 HLIM.out
        have hly : y.enc.length ≤ 1000000 := Nat.le_trans hmem HLIM.out
        clear hy hl2 h' hp hmem htk htk0
        go_wp2_with fail
        refine (HA.out y (d + 1) _ _ _ _ _ _ _ hsz.out hft.out hrt.out hrd hly).mono ?_
        rintro e w2 ⟨D, cc, rfl, hnew⟩
        have hB2 := below_seq hB1 hnew.bl
        have hbx2 := hbx.trans (hnew.bl.mono (by have := hbx.size; simpa using this))
        have hown2 := own_on hown hnew.bl
        have hrd2 := hnew.rd
        clear e0 e1 e2 e3 e4 hrd hnew hown hc4
        go_wp2_with (at_builtin; refine wpList_app _ rfl (.tmp 27) (.tmp 33) 23 rfl w.heap.size 5 i0 _ 1 Try.underlying23 hi hz0 hz1 hz2 rfl _ p.length _ rfl hown2 _ D y.enc.length cc _ rfl hrd2 (bv_one _) (by omega) (by omega) hB2.size ?_; intro A2 c4 w3 hown3 hg3 hat3)
        have hsz2 : w.heap.size + 1 ≤ w2.heap.size := by have := hbx2.size; simpa using this
        have hB3 := hB2.grown hg3 hB2.size (fun g hg => (hown2.lt g hg).1)
        have hbx3 := hbx2.grown hg3 hsz2 hpast
        have hpast3 : ∀ g, (Value.slice A2 (p.length + y.enc.length) c4).ownBlock = some g → w.heap.size + 1 ≤ g := by
          intro g hg
          rcases hat3 with e | e
          · rw [hg] at e; exact hpast g e.symm
          · rw [hg] at e; injection e with e; omega
        have hs2 := hsucc.out
        have hl3 : (V.enc.encs (l.take (q + 1))).length = p.length + y.enc.length := by rw [hs2, List.length_append]
        rw [← List.map_append, ← hs2, ← hl3] at hown3
        rw [← hl3] at hpast3
        have HL3 := Lib.hid hl3
        clear hg3 hat3 hown2 hrd2 hs2 hl3 hpast
        go_wp2
        go_roundw
        case rel => exact ⟨q + 1, A2, c4, by omega, by go_num, by rw [HL3.out], hown3, hB3, hbx3, hpast3⟩
        case measure => simp [intOf]; omega
      · obtain rfl : q = m' := by omega
        rw [List.take_of_length_le hle.2, ← E1.out] at hown ⊢
        obtain ⟨w1, hw1⟩ : ∃ w1, w1 = wr := ⟨_, rfl⟩
        subst hw1
        have hin : RdB w1 w1.heap.size B body.length cB body := Rd.of_own hown
        clear hown hpast
        have hc0 := (hbx.cell (p := ⟨w.heap.size, 0, none⟩) (by simp)).trans (World.cell?_alloc_new w _ _ 0)
        have hc1 := (hbx.cell (p := ⟨w.heap.size, 1, none⟩) (by simp)).trans (World.cell?_alloc_new w _ _ 1)
        simp at hc0 hc1
        have hzb : w.heap.size + 1 ≤ w1.heap.size := by have := hbx.size; simpa using this
        have hri := hin.room
        rcases Nat.lt_or_ge body.length 128 with hsmall | hlarge
        · have hlb2 : lenB body.length = [UInt8.ofNat body.length] := by rw [lenB, if_pos hsmall]
          have HLB := Lib.hid hlb2
          have g1 : decide ((body.length : Int) < 128) = true := by simp; omega
          clear hlb2
          go_wp2_with (first
            | (at_builtin
               refine wpList_app _ rfl (.tmp 47) (.tmp 50) 23 rfl w.heap.size 5 i0 _ 1 Try.underlying23 hi hz0 hz1 hz2 rfl _ 1 ([hb].map bv) rfl (own_on (own_lit w1 (n := 1) (HH.out _ (by omega)) hB1.size rfl (by omega)) (below_of_new _ _)) _ (some ⟨w1.heap.size + 1, 0, none⟩) 1 1 ([UInt8.ofNat body.length].map bv) rfl (rd_lit' _ (by simp) (one_bv hsmall) rfl (by omega)) (bv_one _) (by omega) (by omega) (by simp; omega) ?_
               intro A2 c2 w2 hown2 hg2 hat2
               have hb12 := grown_from (below_alloc (below_of_new w1 _) _) (by simp; omega) hg2 (Nat.le_refl _)
               have hB2 := below_seq hB1 hb12
               have hin2 := hin.on hb12
               clear hg2 hat2)
            | (at_builtin
               refine wpList_app _ rfl (.tmp 64) (.tmp 65) 23 rfl w.heap.size 5 i0 _ 1 Try.underlying23 hi hz0 hz1 hz2 rfl _ (1 + 1) ([hb].map bv ++ [UInt8.ofNat body.length].map bv) rfl hown2 _ B body.length cB (body.map bv) rfl hin2 (bv_one _) (by omega) (by omega) hB2.size ?_
               intro A3 c3 w3 hown3 hg3 hat3))
          have hB3 := hB2.grown hg3 hB2.size (fun g hg => (hown2.lt g hg).1)
          rw [← List.map_append, ← List.map_append] at hown3
          have e : ([hb] ++ [UInt8.ofNat body.length]) ++ body = enc := by rw [hee.out, HLB.out]; rfl
          have e2 : 1 + 1 + body.length = enc.length := by rw [← e]; simp; omega
          rw [e, e2] at hown3
          have E2 := Lib.hid e2
          clear hg3 hat3 hin2 hown2 e e2
          go_ret
          exact ⟨A3, c3, by rw [← E2.out]; rfl, .of_own hown3 hB3⟩
        · have hbig : ¬ body.length < 128 := by omega
          have hnb := nb_bd body.length
          have hlb2 : lenB body.length = UInt8.ofNat (128 + nb body.length) :: short body.length := by rw [lenB, if_neg hbig]
          have HLB := Lib.hid hlb2
          have g1 : decide ((body.length : Int) < 128) = false := by simp; omega
          clear hlb2 hbig
          go_wp2_with fail
          refine (rshort_any body.length _ (by omega)).mono ?_
          rintro e w2 ⟨S, cs, rfl, hownS, hbS⟩
          have hB2 := below_seq (below_alloc hB1 _) hbS
          have hb12 := below_seq (below_of_new w1 _) hbS
          have hout2 := own_on (own_lit w1 (n := 1) (base := w.heap.size) (e := 5) (HH.out _ (by omega)) hB1.size rfl (by omega)) hbS
          rw [World.size_alloc] at hownS
          clear hc0 hc1 hbS
          have hlt2 := hownS.lt
          go_wp2_with (first
            | (at_builtin
               refine wpList_app _ rfl (.tmp 55) (.tmp 60) 23 rfl w.heap.size 5 i0 _ 1 Try.underlying23 hi hz0 hz1 hz2 rfl _ 1 ([hb].map bv) rfl (own_on hout2 (below_of_new _ _)) _ (some ⟨w2.heap.size, 0, none⟩) 1 1 ([UInt8.ofNat (128 + nb body.length)].map bv) rfl (rd_lit' _ rfl (one_bv2 hnb.2) rfl (by omega)) (bv_one _) (by omega) (by omega) (by have := hB2.size; simp; omega) ?_
               intro A3 c3 w3 hown3 hg3 hat3
               have hb13 := grown_from (hb12.alloc hb12.size _) (by have := hb12.size; simp; omega) hg3 (Nat.le_refl _)
               have hB3 := below_seq hB1 hb13
               have hS3 := (own_on hownS (below_of_new w2 _)).kept hg3 (.inr (by intro hh; have h1 := (hlt2 w1.heap.size hh).1; omega))
               have hlo := own_past hat3 (B := w1.heap.size) ⟨(by have := hb12.size; simp; omega), Nat.le_refl _⟩
               clear hg3 hat3)
            | (at_builtin
               refine wpList_app _ rfl (.tmp 61) (.tmp 62) 23 rfl w.heap.size 5 i0 _ 1 Try.underlying23 hi hz0 hz1 hz2 rfl _ (1 + 1) ([hb].map bv ++ [UInt8.ofNat (128 + nb body.length)].map bv) rfl hown3 _ S (nb body.length) cs ((short body.length).map bv) rfl (Rd.of_own hS3) (bv_one _) (by omega) (by omega) hB3.size ?_
               intro A4 c4 w4 hown4 hg4 hat4
               have hb14 := hb13.grown hg4 hb13.size hlo
               have hB4 := below_seq hB1 hb14
               have hin4 := hin.on hb14
               clear hg4 hat4)
            | (at_builtin
               refine wpList_app _ rfl (.tmp 64) (.tmp 65) 23 rfl w.heap.size 5 i0 _ 1 Try.underlying23 hi hz0 hz1 hz2 rfl _ (1 + 1 + nb body.length) (([hb].map bv ++ [UInt8.ofNat (128 + nb body.length)].map bv) ++ (short body.length).map bv) rfl hown4 _ B body.length cB (body.map bv) rfl hin4 (bv_one _) (by omega) (by omega) hB4.size ?_
               intro A5 c5 w5 hown5 hg5 hat5))
          have hB5 := hB4.grown hg5 hB4.size (fun g hg => (hown4.lt g hg).1)
          rw [← List.map_append, ← List.map_append, ← List.map_append] at hown5
          have e : (([hb] ++ [UInt8.ofNat (128 + nb body.length)]) ++ short body.length) ++ body = enc := by rw [hee.out, HLB.out]; simp
          have e2 : 1 + 1 + nb body.length + body.length = enc.length := by rw [← e]; simp [short_len]; omega
          rw [e, e2] at hown5
          have E2 := Lib.hid e2
          clear e e2
          go_ret
          exact ⟨A5, c5, by rw [← E2.out]; rfl, .of_own hown5 hB5⟩

end Go.Proofs.Ytfinonfkpmlfeaa.Der
