/-
  THE CONTRACT of the document's Read.
-/
import Derived.Test.YtfinonfkpmlfeaaDerx
import Derived.Test.YtfinonfkpmlfeaaCuts
import Derived.RegionTactic
import Derived.BigRegion
import Derived.Outline
namespace Go.Proofs.Ytfinonfkpmlfeaa.Der
open Go.RowKit
open Go.Proofs.Ytfinonfkpmlfeaa.Kit
open Go.Proofs.Ytfinonfkpmlfeaa.Oct
set_option linter.unusedVariables false

theorem rdLen_bad (x y : UInt8) (r : List UInt8) (h : y.toNat = 128 ∨ 130 < y.toNat) : rdLen (x :: y :: r) = .err 3 := by
  have e : lgE (y.toNat - 128) r = 3 := by rw [lgE, if_pos (by omega)]
  rw [rdLen_long x y r (by omega), e]
  rfl

theorem und23 : Try.prog.underlying 23 = some (.slice (Try.prog.elem 23)) := by kernel_rfl
theorem el23 (w : World) : (sizeOf (Try.prog.elem 23)).run Try.prog w = .ok 1 w := by kernel_rfl
set_option maxRecDepth 100000 in
theorem rr_zero : RrC 0 := by
  intro deep A n c bs w hd hn hbs
  obtain rfl : deep = 9 := by omega
  clear hbs
  rw [show ((9 : Nat) : Int) = 9 from rfl]
  go_enter Try.func37, Try.ntmps37
  go_wp2
  refine bodyPost_ret (v := .tuple #[zeroV, .int .i64 0, .int .i64 4]) ?_ rfl (RrPost.err rfl (below_of_new _ _) (by omega) rfl)
  simp [results, Try.results37, go_sem, zeroV]

/-- the cut behind the length -/
def LnRel (bs : List UInt8) (n : Nat) (w : World) (s7 s8 : Value) (wx : World) : Prop :=
  ∃ a S : Nat, s7 = .int .i64 (S : Int) ∧ s8 = .int .i64 (a : Int) ∧ rdLen bs = .ok a S ∧ a ≤ n ∧ S < 65536 ∧ wx = w.alloc (.cells #[.int .i64 0, .int .i64 0, .int .u64 0, .slice none 0 0, .slice none 0 0] 30)

/-- the cut behind the value's box -/
def BxRel (K T : Nat) (w : World) (s11 : Value) (wx : World) : Prop :=
  s11 = .pointer (some ⟨w.heap.size + 1, 0, none⟩) ∧ wx.heap[w.heap.size]? = some (.cells #[.int .i64 0, .int .i64 0, .int .u64 0, .slice none 0 0, .slice none 0 0] 30 (0, 0)) ∧
    wx.heap[w.heap.size + 1]? = some (.cells #[.int .i64 K, .int .i64 T, .int .u64 0, .slice none 0 0, .slice none 0 0] 30 (0, 0)) ∧ Below w.heap.size w wx ∧ wx.heap.size = w.heap.size + 2
theorem BxRel.mk (K T k : Nat) (w : World) : BxRel K T w (.pointer (some ⟨w.heap.size + 1, 0, none⟩)) (((w.alloc (.cells #[.int .i64 0, .int .i64 0, .int .u64 0, .slice none 0 0, .slice none 0 0] 30)).alloc (.cells #[.int .i64 K, .int .i64 T, .int .u64 0, .slice none 0 0, .slice none 0 0] 30)).drewN k) := by
  refine ⟨rfl, ?_, ?_, below_seq ((below_of_new w _).alloc (by simp) _) (below_of_drew ⟨k, rfl⟩ _), by simp⟩
  · show ((w.alloc _).alloc _).heap[w.heap.size]? = _
    rw [heap_alloc_old _ _ (by simp)]; exact heap_alloc_new w _
  · show ((w.alloc _).alloc _).heap[w.heap.size + 1]? = _
    exact heap_new' _ _ (by simp)
def InRel (S : Nat) (body : List UInt8) (w wx : World) (s12 : Value) (wy : World) : Prop := ∃ A2 c2, s12 = .slice A2 S c2 ∧ RdB wx w.heap.size A2 S c2 body ∧ wy = wx

def RrL (d T : Nat) (body : List UInt8) (w : World) (s12 : Value) (wr : World) : Prop :=
  ∃ (q m cr c1 : Nat) (A B : Option Addr) (vs : List V) (rest : List UInt8) (xs : List Value), s12 = .slice A m cr ∧ q = vs.length ∧ wr.ownsRow (w.heap.size + 2) 30 5 (.slice B q c1) q xs ∧
    wr.heap[w.heap.size + 1]? = some (.cells #[.int .i64 2, .int .i64 T, .int .u64 0, .slice none 0 0, .slice B q c1] 30 (0, 0)) ∧
    wr.heap[w.heap.size]? = some (.cells #[.int .i64 0, .int .i64 0, .int .u64 0, .slice none 0 0, .slice none 0 0] 30 (0, 0)) ∧
    Rows5 wr (fun b => w.heap.size + 2 ≤ b ∧ b < wr.heap.size ∧ (Value.slice B q c1).ownBlock ≠ some b) vs xs ∧ RdB wr w.heap.size A m cr rest ∧ AllRel d body vs rest ∧ Below w.heap.size w wr ∧ w.heap.size + 2 ≤ wr.heap.size

set_option maxRecDepth 100000 in
set_option maxHeartbeats 8000000 in
theorem rr_of {d : Nat} (hd8 : d ≤ 8) (hF : RrC d) : RrC (d + 1) := by
  intro deep A n c bs w hd hn hbs
  have HF := Lib.hid hF
  have HB := Lib.hid hbs
  have hl := hbs.len
  have HL := Lib.hid hl
  have hr := hbs.room
  have hRD := Lib.hid (rd_fl d bs)
  have p0 : ¬ ((8 : Int) < (deep : Int)) := by omega
  have g0 : decide ((8 : Int) < (deep : Int)) = false := by simp; omega
  have HX := Lib.hid (below_of_new w (.cells #[.int .i64 0, .int .i64 0, .int .u64 0, .slice none 0 0, .slice none 0 0] 30))
  have hW := hbs.lit (.cells #[.int .i64 0, .int .i64 0, .int .u64 0, .slice none 0 0, .slice none 0 0] 30)
  by_cases hn2 : n < 2
  · have HE := Lib.hid (show rd (d + 1) bs = .err 1 by
      rw [hRD.out]
      match bs, hl with
      | [], _ => rfl
      | [_], _ => rfl
      | _ :: _ :: _, hl => simp at hl; omega)
    have g1 : decide ((n : Int) < 2) = true := by simp; omega
    clear hbs hF hl hW
    go_enter Try.func37, Try.ntmps37
    go_wp2
    refine bodyPost_ret (v := .tuple #[zeroV, .int .i64 0, .int .i64 1]) ?_ rfl (RrPost.err HE.out HX.out (by omega) rfl)
    simp [results, Try.results37, go_sem, zeroV]
  · obtain ⟨b, o, rfl⟩ := hbs.addr (by omega)
    obtain ⟨h, y, r, rfl⟩ : ∃ h y r, bs = h :: y :: r := by
      match bs, hl with
      | [], hl => simp at hl; omega
      | [_], hl => simp at hl; omega
      | h :: y :: r, _ => exact ⟨h, y, r, rfl⟩
    have hcy := hW.cell0 (j := 1) (by simp)
    have hch := hW.cell0 (j := 0) (by simp)
    simp only [List.getElem_cons_zero, List.getElem_cons_succ, Nat.add_zero] at hcy hch
    have hy := y.toNat_lt
    have hh := h.toNat_lt
    have g1 : decide ((n : Int) < 2) = false := by simp; omega
    have i1 : (1 : Int) < (n : Int) := by omega
    have i0 : (0 : Int) < (n : Int) := by omega
    clear hbs hF hl
    by_cases hbad : y.toNat = 128 ∨ 130 < y.toNat
    · have HE := Lib.hid (show rd (d + 1) (h :: y :: r) = .err 3 by rw [hRD.out, rdLen_bad h y r hbad])
      rcases hbad with hb | hb
      · have hb' : (y.toNat : Int) = 128 := by omega
        rw [hb'] at hcy
        clear hb hb'
        go_enter Try.func37, Try.ntmps37
        go_wp2
        refine bodyPost_ret (v := .tuple #[zeroV, .int .i64 0, .int .i64 3]) ?_ rfl (RrPost.err HE.out HX.out (by omega) rfl)
        simp [results, Try.results37, go_sem, zeroV]
      · have g2 : ((y.toNat : Int) == 128) = false := by rw [beq_eq_false_iff_ne]; omega
        have g3 : decide ((130 : Int) < (y.toNat : Int)) = true := by simp; omega
        go_enter Try.func37, Try.ntmps37
        go_wp2
        refine bodyPost_ret (v := .tuple #[zeroV, .int .i64 0, .int .i64 3]) ?_ rfl (RrPost.err HE.out HX.out (by omega) rfl)
        simp [results, Try.results37, go_sem, zeroV]
    · obtain ⟨Y, hY⟩ : ∃ Y, Y = y.toNat := ⟨_, rfl⟩
      rw [← hY] at hcy hy hbad
      have hy2 : Y < 256 := by omega
      have g2 : ((Y : Int) == 128) = false := by rw [beq_eq_false_iff_ne]; omega
      have g3 : decide ((130 : Int) < (Y : Int)) = false := by simp; omega
      have hLS := Lib.hid (fun h1 : Y < 128 => show rdLen (h :: y :: r) = .ok 2 Y by rw [hY]; exact rdLen_small h y r (by omega))
      have hLL := Lib.hid (fun h1 : ¬ Y < 128 => show rdLen (h :: y :: r) = if lgE (Y - 128) r = 0 then .ok (2 + (Y - 128)) (num (r.take (Y - 128))) else .err (lgE (Y - 128) r).toNat by rw [hY]; exact rdLen_long h y r (by omega))
      have hlr : r.length + 2 = n := by have := HL.out; simp at this; omega
      have HLR := Lib.hid hlr
      have HRW := Lib.hid hW
      clear hY hlr hW hy
      have hb3 : Y < 128 ∨ Y = 129 ∨ Y = 130 := by omega
      clear hbad
      go_enter Try.func37, Try.ntmps37
      go_upto_if 37 with fail
      go_cut [7, 8] (fun s7 s8 wx => LnRel (h :: y :: r) n w s7 s8 wx)
      case first =>
        rcases hb3 with hb | hb | hb
        · have g4 : decide ((128 : Int) < (Y : Int)) = false := by simp; omega
          go_wp2
          go_meet
          exact ⟨2, Y, rfl, rfl, hLS.out hb, by omega, by omega, rfl⟩
        · subst hb
          have hL := hLL.out (by omega)
          rw [show 129 - 128 = 1 from rfl] at hL
          have HL2 := Lib.hid hL
          clear hL hLS hLL
          by_cases hsh : n < 3
          · have e1 : lgE 1 r = 1 := by rw [lgE, if_neg (by omega), if_pos (by have := HLR.out; omega)]
            have HE := Lib.hid (show rd (d + 1) (h :: y :: r) = .err 1 by rw [hRD.out, HL2.out, e1]; rfl)
            have g5 : decide ((n : Int) < 3) = true := by simp; omega
            clear e1
            go_wp2
            refine bodyPost_ret (v := .tuple #[zeroV, .int .i64 0, .int .i64 1]) ?_ rfl (RrPost.err HE.out HX.out (by omega) rfl)
            simp [results, Try.results37, go_sem, zeroV]
          · have hfr0 := Rd.front (k := 1) (Rd.cut (k := 2) HRW.out (by omega)) (by omega)
            rw [if_neg (by omega), ← List.map_drop, ← List.map_take] at hfr0
            simp only [Option.map_some, add_off, List.drop_succ_cons, List.drop_zero] at hfr0
            have hfr : RdB _ _ _ _ _ (r.take 1) := hfr0
            have g5 : decide ((n : Int) < 3) = false := by simp; omega
            obtain ⟨N, hN⟩ : ∃ N, N = num (r.take 1) := ⟨_, rfl⟩
            have hN5 : N < 65536 := by
              have h3 := num_lt (r.take 1)
              have h4 : 256 ^ (r.take 1).length ≤ 256 ^ 2 := Nat.pow_le_pow_right (by omega) (by rw [List.length_take]; omega)
              omega
            have hlg : lgE 1 r = if N < 128 ∨ nb N < 1 then 3 else 0 := by rw [lgE, if_neg (by omega), if_neg (by have := HLR.out; omega), hN]
            have HLG := Lib.hid hlg
            have HN := Lib.hid hN
            clear hfr0 hlg hN
            go_wp2_with fail
            refine (rget_yes _ _ _ _ _ _ hfr (by omega) (by omega)).mono ?_
            rintro e w1 ⟨rfl, rfl⟩
            rw [← HN.out]
            clear hfr
            by_cases h1 : N < 128
            · have HE := Lib.hid (show rd (d + 1) (h :: y :: r) = .err 3 by rw [hRD.out, HL2.out, show lgE 1 r = 3 by rw [HLG.out, if_pos (Or.inl h1)]]; rfl)
              have g6 : decide ((N : Int) < 128) = true := by simp; omega
              go_wp2
              refine bodyPost_ret (v := .tuple #[zeroV, .int .i64 0, .int .i64 3]) ?_ rfl (RrPost.err HE.out HX.out (by omega) rfl)
              simp [results, Try.results37, go_sem, zeroV]
            · have g6 : decide ((N : Int) < 128) = false := by simp; omega
              have hnb : ¬ nb N < 1 := by have := nb_bd N; omega
              have HR2 := Lib.hid (show rdLen (h :: y :: r) = .ok 3 N by rw [HL2.out, show lgE 1 r = 0 by rw [HLG.out, if_neg (by omega)], if_pos rfl, ← HN.out])
              clear hnb
              go_wp2
              go_meet
              exact ⟨3, N, rfl, rfl, HR2.out, by omega, hN5, rfl⟩
        · subst hb
          have hL := hLL.out (by omega)
          rw [show 130 - 128 = 2 from rfl] at hL
          have HL2 := Lib.hid hL
          clear hL hLS hLL
          by_cases hsh : n < 4
          · have e1 : lgE 2 r = 1 := by rw [lgE, if_neg (by omega), if_pos (by have := HLR.out; omega)]
            have HE := Lib.hid (show rd (d + 1) (h :: y :: r) = .err 1 by rw [hRD.out, HL2.out, e1]; rfl)
            have g5 : decide ((n : Int) < 4) = true := by simp; omega
            clear e1
            go_wp2
            refine bodyPost_ret (v := .tuple #[zeroV, .int .i64 0, .int .i64 1]) ?_ rfl (RrPost.err HE.out HX.out (by omega) rfl)
            simp [results, Try.results37, go_sem, zeroV]
          · have hfr0 := Rd.front (k := 2) (Rd.cut (k := 2) HRW.out (by omega)) (by omega)
            rw [if_neg (by omega), ← List.map_drop, ← List.map_take] at hfr0
            simp only [Option.map_some, add_off, List.drop_succ_cons, List.drop_zero] at hfr0
            have hfr : RdB _ _ _ _ _ (r.take 2) := hfr0
            have g5 : decide ((n : Int) < 4) = false := by simp; omega
            obtain ⟨N, hN⟩ : ∃ N, N = num (r.take 2) := ⟨_, rfl⟩
            have hN5 : N < 65536 := by
              have h3 := num_lt (r.take 2)
              have h4 : 256 ^ (r.take 2).length ≤ 256 ^ 2 := Nat.pow_le_pow_right (by omega) (by rw [List.length_take]; omega)
              omega
            have hlg : lgE 2 r = if N < 128 ∨ nb N < 2 then 3 else 0 := by rw [lgE, if_neg (by omega), if_neg (by have := HLR.out; omega), hN]
            have HLG := Lib.hid hlg
            have HN := Lib.hid hN
            clear hfr0 hlg hN
            go_wp2_with fail
            refine (rget_yes _ _ _ _ _ _ hfr (by omega) (by omega)).mono ?_
            rintro e w1 ⟨rfl, rfl⟩
            rw [← HN.out]
            clear hfr
            by_cases h1 : N < 128
            · have HE := Lib.hid (show rd (d + 1) (h :: y :: r) = .err 3 by rw [hRD.out, HL2.out, show lgE 2 r = 3 by rw [HLG.out, if_pos (Or.inl h1)]]; rfl)
              have g6 : decide ((N : Int) < 128) = true := by simp; omega
              go_wp2
              refine bodyPost_ret (v := .tuple #[zeroV, .int .i64 0, .int .i64 3]) ?_ rfl (RrPost.err HE.out HX.out (by omega) rfl)
              simp [results, Try.results37, go_sem, zeroV]
            · have g6 : decide ((N : Int) < 128) = false := by simp; omega
              by_cases h2 : N < 256
              · have g7 : decide ((N : Int) < 256) = true := by simp; omega
                have HE := Lib.hid (show rd (d + 1) (h :: y :: r) = .err 3 by rw [hRD.out, HL2.out, show lgE 2 r = 3 by rw [HLG.out, if_pos (Or.inr (by rw [nb_small1 h2]; omega))]]; rfl)
                go_wp2
                refine bodyPost_ret (v := .tuple #[zeroV, .int .i64 0, .int .i64 3]) ?_ rfl (RrPost.err HE.out HX.out (by omega) rfl)
                simp [results, Try.results37, go_sem, zeroV]
              · have g7 : decide ((N : Int) < 256) = false := by simp; omega
                have HR2 := Lib.hid (show rdLen (h :: y :: r) = .ok 4 N by rw [HL2.out, show lgE 2 r = 0 by rw [HLG.out, if_neg (by rw [nb_small2 (by omega) hN5]; omega)], if_pos rfl, ← HN.out])
                go_wp2
                go_meet
                exact ⟨4, N, rfl, rfl, HR2.out, by omega, hN5, rfl⟩
      case rest =>
        obtain ⟨a, S, rfl, rfl, hln, han, hS, rfl⟩ := hcut
        have ha2 := (rdLen_two hln).1
        clear g1 g2 g3 hLS hLL HLR hy2 hb3 hcy i1
        by_cases hs : n - a < S
        · have HE := Lib.hid (show rd (d + 1) (h :: y :: r) = .err 1 by rw [hRD.out, hln]; simp only []; rw [if_pos (by rw [HL.out]; exact hs)])
          have g5 : decide ((n : Int) - (a : Int) < (S : Int)) = true := by simp; omega
          clear hln hRD
          go_wp2
          refine bodyPost_ret (v := .tuple #[zeroV, .int .i64 0, .int .i64 1]) ?_ rfl (RrPost.err HE.out HX.out (by omega) rfl)
          simp [results, Try.results37, go_sem, zeroV]
        · have HE := Lib.hid (show rd (d + 1) (h :: y :: r) = match fl d h.toNat (((h :: y :: r).drop a).take S) with
            | .err e => .err e
            | .ok x _ => .ok x (a + S) by rw [hRD.out, hln]; simp only []; rw [if_neg (by rw [HL.out]; exact hs)]; rfl)
          have g5 : decide ((n : Int) - (a : Int) < (S : Int)) = false := by simp; omega
          clear hln hRD
          obtain ⟨T, hT⟩ : ∃ T, T = h.toNat % 64 := ⟨_, rfl⟩
          obtain ⟨K, hK⟩ : ∃ K, K = h.toNat / 64 := ⟨_, rfl⟩
          have hK3 : K ≤ 3 := by omega
          have eT : (h.toNat : Int) % 64 = (T : Int) := by omega
          have eK : (h.toNat : Int) / 64 = (K : Int) := by omega
          have HT := Lib.hid hT
          have HK := Lib.hid hK
          clear hT hK
          have hch2 := ((HRW.out.lit (.cells #[.int .i64 0, .int .i64 0, .int .u64 0, .slice none 0 0, .slice none 0 0] 30)).cell0 (j := 0) (by simp))
          simp only [List.getElem_cons_zero, Nat.add_zero] at hch2
          have j0 : 0 < n := by omega
          have hbx : BxRel K T w (.pointer (some ⟨w.heap.size + 1, 0, none⟩)) ((w.alloc (.cells #[.int .i64 0, .int .i64 0, .int .u64 0, .slice none 0 0, .slice none 0 0] 30)).alloc (.cells #[.int .i64 K, .int .i64 T, .int .u64 0, .slice none 0 0, .slice none 0 0] 30)).drew := BxRel.mk K T 1 w
          have HBX := Lib.hid hbx
          clear hbx
          go_wp2_with fail
          go_region
          · have hbx := HBX.out
            obtain ⟨wx, hwx⟩ : ∃ q, q = ((w.alloc (.cells #[.int .i64 0, .int .i64 0, .int .u64 0, .slice none 0 0, .slice none 0 0] 30)).alloc (.cells #[.int .i64 K, .int .i64 T, .int .u64 0, .slice none 0 0, .slice none 0 0] 30)).drew := ⟨_, rfl⟩
            rw [← hwx] at hbx ⊢
            obtain ⟨_, hx0, hx1, hbl, hsz⟩ := hbx
            clear hwx
            obtain ⟨⟨r0, r1, r2, r3, r4⟩, ⟨z0, z1, z2, z3, z4⟩⟩ := cells5 hx0
            obtain ⟨⟨d0, d1, d2, d3, d4⟩, ⟨y0, y1, y2, y3, y4⟩⟩ := cells5 hx1
            have hF : fl d h.toNat (((h :: y :: r).drop a).take S) = if K > 2 ∨ T > 30 then .err 2
              else if K = 0 then (if numOk (((h :: y :: r).drop a).take S) = true then .ok (.mk 0 (T : Nat) (num (((h :: y :: r).drop a).take S)) [] []) 0 else .err 4)
              else if K = 1 then .ok (.mk 1 (T : Nat) 0 (((h :: y :: r).drop a).take S) []) 0
              else match rdAll (rd d) (((h :: y :: r).drop a).take S).length (((h :: y :: r).drop a).take S) with
                | .err e => .err e
                | .ok l => .ok (.mk 2 (T : Nat) 0 [] l) 0 := by rw [fl, ← HT.out, ← HK.out]; rfl
            have HFL := Lib.hid hF
            have HX0 := Lib.hid hx0
            have HX1 := Lib.hid hx1
            have HSZ := Lib.hid hsz
            clear hch2 hch eT eK hF hx0 hx1 hsz g5 j0 i0 g0
            by_cases hb : K > 2 ∨ T > 30
            · have HE2 := Lib.hid (show rd (d + 1) (h :: y :: r) = .err 2 by rw [HE.out, HFL.out, if_pos hb])
              by_cases hK2 : K > 2
              · have q1 : decide ((2 : Int) < (K : Int)) = true := by simp; omega
                go_wp2
                have HFIN := RrPost.err (n := n) HE2.out (five hbl (.int .i64 0) (.int .i64 0) (.int .u64 0) (.slice none 0 0) (.slice none 0 0)) (by omega) rfl
                refine bodyPost_ret (v := .tuple #[zeroV, .int .i64 0, .int .i64 2]) ?_ rfl ?_
                · simp [results, Try.results37, go_sem, zeroV, r0, r1, r2, r3, r4]
                · exact HFIN
              · have q1 : decide ((2 : Int) < (K : Int)) = false := by simp; omega
                have q2 : decide ((30 : Int) < (T : Int)) = true := by simp; omega
                go_wp2
                have HFIN := RrPost.err (n := n) HE2.out (five hbl (.int .i64 0) (.int .i64 0) (.int .u64 0) (.slice none 0 0) (.slice none 0 0)) (by omega) rfl
                refine bodyPost_ret (v := .tuple #[zeroV, .int .i64 0, .int .i64 2]) ?_ rfl ?_
                · simp [results, Try.results37, go_sem, zeroV, r0, r1, r2, r3, r4]
                · exact HFIN
            · have q1 : decide ((2 : Int) < (K : Int)) = false := by simp; omega
              have q2 : decide ((30 : Int) < (T : Int)) = false := by simp; omega
              have hcut0 := Rd.front (k := S) (Rd.cut (k := a) (HB.out.below hbl) han) (by omega)
              rw [← List.map_drop, ← List.map_take] at hcut0
              obtain ⟨body, hbody⟩ : ∃ body, body = (((h :: y :: r).drop a).take S) := ⟨_, rfl⟩
              rw [← hbody] at hcut0
              have hbl0 : body.length = S := by rw [hbody, List.length_take, List.length_drop, HL.out]; omega
              have HE3 := Lib.hid (show rd (d + 1) (h :: y :: r) = match (if K = 0 then (if numOk body = true then Rs.ok (.mk 0 (T : Nat) (num body) [] []) 0 else .err 4)
                  else if K = 1 then .ok (.mk 1 (T : Nat) 0 body []) 0
                  else match rdAll (rd d) body.length body with
                    | .err e => .err e
                    | .ok l => .ok (.mk 2 (T : Nat) 0 [] l) 0) with
                | .err e => .err e
                | .ok x _ => .ok x (a + S) by rw [HE.out, ← hbody]; rw [← hbody] at HFL; rw [HFL.out, if_neg hb])
              have HBL := Lib.hid hbl0
              have HCUT := Lib.hid hcut0
              clear hcut0 hbody HFL HE hbl0
              have hsl := run_cut2 (P := Try.prog) und23 el23 (some ⟨b, o, none⟩) n c a (a + S) (by omega) (by omega) (IntWalk.i64_in _ (by omega)) wx ((a : Int) + (S : Int)) (by omega)
              rw [Nat.add_sub_cancel_left] at hsl
              have hin0 := HCUT.out
              obtain ⟨A2, hA2⟩ : ∃ q, q = (if c = a then some (⟨b, o, none⟩ : Addr) else (some (⟨b, o, none⟩ : Addr)).map (·.add a)) := ⟨_, rfl⟩
              obtain ⟨c2, hc2⟩ : ∃ q, q = c - a := ⟨_, rfl⟩
              rw [← hA2, ← hc2] at hsl hin0
              have hin : RdB wx w.heap.size A2 S c2 body := hin0
              clear hA2 hin0 hc2 HCUT
              · have hS4 : S ≤ 4096 := by omega
                have haS : a + S ≤ n := by omega
                have hK2m : K ≤ 2 := by omega
                clear hb
                by_cases hK0 : K = 0
                · subst hK0
                  have HE4 := Lib.hid (show rd (d + 1) (h :: y :: r) = if numOk body = true then .ok (.mk 0 (T : Nat) (num body) [] []) (a + S) else .err 4 by
                    rw [HE3.out, if_pos rfl]; cases numOk body <;> rfl)
                  rw [show ((0 : Nat) : Int) = 0 from rfl] at d0
                  clear HE3 hK3
                  by_cases hs8 : 1 ≤ S ∧ S ≤ 8
                  · by_cases hs1 : S = 1
                    · have hok : numOk body = true := by rw [numOk, decide_eq_true_iff]; have := HBL.out; omega
                      have HE5 := Lib.hid (show rd (d + 1) (h :: y :: r) = .ok (.mk 0 (T : Nat) (num body) [] []) (a + S) by rw [HE4.out, if_pos hok])
                      have g7 : decide ((1 : Int) < (S : Int)) = false := by simp; omega
                      have HS1 := Lib.hid hs1
                      have HFIN := RrPost.ok (n := n) HE5.out (six hbl 2 (.int .u64 (num body)) (.int .i64 0) (.int .i64 T) (.int .u64 (num body)) (.slice none 0 0) (.slice none 0 0)) haS ⟨none, 0, 0, none, 0, 0, rfl, RdVS.join (RdS.nil _ _) (RdVsS.nil _ _)⟩
                      clear hok hs1 HE4
                      go_wp2_with fail
                      refine (rget_yes _ _ _ _ _ _ (hin.more hbl.size) hs8.1 hs8.2).mono ?_
                      rintro e w1 ⟨rfl, rfl⟩
                      go_wp2
                      refine wp_loop_rounds 1 ?_
                      rw [rounds_succ]
                      go_wp2
                      refine bodyPost_ret (v := .tuple #[.agg #[.int .i64 0, .int .i64 T, .int .u64 (num body), .slice none 0 0, .slice none 0 0], .int .i64 ((a : Int) + (S : Int)), .int .i64 0]) ?_ rfl ?_
                      · simp [results, Try.results37, go_sem, r0, r1, r2, r3, r4]
                      · rw [← Int.natCast_add]; exact HFIN
                    · obtain ⟨b2, o2, rfl⟩ := hin.addr (by omega)
                      obtain ⟨hd0, tl, hcons⟩ : ∃ x r, body = x :: r := by
                        have := HBL.out
                        match body, this with
                        | x :: r, _ => exact ⟨x, r, rfl⟩
                        | [], h => simp at h; omega
                      have hc0 := hin.cell0 (j := 0) (by rw [hcons]; simp)
                      simp only [hcons, List.getElem_cons_zero, Nat.add_zero] at hc0
                      have g7 : decide ((1 : Int) < (S : Int)) = true := by simp; omega
                      have i0 : (0 : Int) < (S : Int) := by omega
                      have HIN := Lib.hid hin
                      clear hin
                      by_cases hz : hd0.toNat = 0
                      · have hok : ¬ numOk body = true := by
                          intro hh
                          rw [numOk, decide_eq_true_iff, hcons] at hh
                          have := HBL.out
                          rw [hcons] at this
                          simp only [List.length_cons, List.headD_cons] at hh this
                          omega
                        have g8 : ((hd0.toNat : Int) == 0) = true := by simp; omega
                        have HE5 := Lib.hid (show rd (d + 1) (h :: y :: r) = .err 4 by rw [HE4.out, if_neg hok])
                        have HFIN := RrPost.err (n := n) HE5.out (five hbl (.int .i64 0) (.int .i64 0) (.int .u64 0) (.slice none 0 0) (.slice none 0 0)) (by omega) rfl
                        clear hok HE4 hz hcons
                        go_wp2_with fail
                        refine (rget_yes _ _ _ _ _ _ (HIN.out.more hbl.size) hs8.1 hs8.2).mono ?_
                        rintro e w1 ⟨rfl, rfl⟩
                        go_wp2
                        refine bodyPost_ret (v := .tuple #[zeroV, .int .i64 0, .int .i64 4]) ?_ rfl ?_
                        · simp [results, Try.results37, go_sem, zeroV, r0, r1, r2, r3, r4]
                        · exact HFIN
                      · have hok : numOk body = true := by
                          rw [numOk, decide_eq_true_iff, hcons]
                          have := HBL.out
                          rw [hcons] at this
                          simp only [List.length_cons, List.headD_cons] at this ⊢
                          omega
                        have g8 : ((hd0.toNat : Int) == 0) = false := by rw [beq_eq_false_iff_ne]; omega
                        have HE5 := Lib.hid (show rd (d + 1) (h :: y :: r) = .ok (.mk 0 (T : Nat) (num body) [] []) (a + S) by rw [HE4.out, if_pos hok])
                        have HFIN := RrPost.ok (n := n) HE5.out (six hbl 2 (.int .u64 (num body)) (.int .i64 0) (.int .i64 T) (.int .u64 (num body)) (.slice none 0 0) (.slice none 0 0)) haS ⟨none, 0, 0, none, 0, 0, rfl, RdVS.join (RdS.nil _ _) (RdVsS.nil _ _)⟩
                        clear hok HE4 hz hcons
                        go_wp2_with fail
                        refine (rget_yes _ _ _ _ _ _ (HIN.out.more hbl.size) hs8.1 hs8.2).mono ?_
                        rintro e w1 ⟨rfl, rfl⟩
                        go_wp2
                        refine wp_loop_rounds 1 ?_
                        rw [rounds_succ]
                        go_wp2
                        refine bodyPost_ret (v := .tuple #[.agg #[.int .i64 0, .int .i64 T, .int .u64 (num body), .slice none 0 0, .slice none 0 0], .int .i64 ((a : Int) + (S : Int)), .int .i64 0]) ?_ rfl ?_
                        · simp [results, Try.results37, go_sem, r0, r1, r2, r3, r4]
                        · rw [← Int.natCast_add]; exact HFIN
                  · have hok : ¬ numOk body = true := by rw [numOk, decide_eq_true_iff]; have := HBL.out; omega
                    have hrm := hin.room
                    have HE5 := Lib.hid (show rd (d + 1) (h :: y :: r) = .err 4 by rw [HE4.out, if_neg hok])
                    have HFIN := RrPost.err (n := n) HE5.out (five hbl (.int .i64 0) (.int .i64 0) (.int .u64 0) (.slice none 0 0) (.slice none 0 0)) (by omega) rfl
                    clear hok HE4
                    go_wp2_with fail
                    refine (rget_no _ _ _ _ (by omega) (by omega)).mono ?_
                    rintro e w1 ⟨rfl, rfl⟩
                    go_wp2
                    refine bodyPost_ret (v := .tuple #[zeroV, .int .i64 0, .int .i64 4]) ?_ rfl ?_
                    · simp [results, Try.results37, go_sem, zeroV, r0, r1, r2, r3, r4]
                    · exact HFIN
                · by_cases hK1 : K = 1
                  · subst hK1
                    have HE4 := Lib.hid (show rd (d + 1) (h :: y :: r) = .ok (.mk 1 (T : Nat) 0 body []) (a + S) by rw [HE3.out, if_neg hK0, if_pos rfl])
                    rw [show ((1 : Nat) : Int) = 1 from rfl] at d0
                    obtain ⟨i0, hi, hz0, hz1, hz2⟩ := info_parts info5
                    have hltV : w.heap.size + 1 < wx.heap.size := by have := HSZ.out; omega
                    have hltR : w.heap.size < wx.heap.size := by have := HSZ.out; omega
                    have hown := own_lit wx (base := wx.heap.size) (e := 5) (arr := #[]) (bs := []) (n := 0) rfl (Nat.le_refl _) rfl (by omega)
                    have hin2 := (show RdB wx wx.heap.size A2 S c2 body from hin.more hbl.size).lit (.cells #[] 5)
                    have HOWN := Lib.hid hown
                    have HIN2 := Lib.hid hin2
                    clear HE3 hK3 hK0 hown hin2
                    go_wp2_with (at_builtin; refine wpList_app _ rfl (.tmp 125) (.tmp 126) 23 rfl wx.heap.size 5 i0 _ 1 Try.underlying23 hi hz0 hz1 hz2 rfl _ 0 _ rfl HOWN.out _ A2 S c2 _ rfl HIN2.out (bv_one _) (by omega) (by omega) (by simp) ?_; intro A3 c3 w3 hown3 hg3 hat3; have hb3 := below_lit (Below.refl wx.heap.size wx) hg3; obtain ⟨⟨e0, e1, e2, e3, e4⟩, ⟨f0, f1, f2, f3, f4⟩⟩ := cells5 ((hb3.block _ hltV).trans HX1.out); obtain ⟨⟨s0, s1, s2, s3, s4⟩, ⟨t0, t1, t2, t3, t4⟩⟩ := cells5 ((hb3.block _ hltR).trans HX0.out); clear hg3 hat3)
                    refine wp_loop_rounds 1 ?_
                    rw [rounds_succ]
                    go_wp2
                    rw [Nat.zero_add] at hown3
                    have hbl3 := below_seq hbl hb3
                    have hrs := RdS.of_own (base := wx.heap.size) (bs := body) (by simpa using hown3)
                    have HFIN := RrPost.ok (n := n) HE4.out (six hbl3 3 (.slice A3 S c3) (.int .i64 1) (.int .i64 T) (.int .u64 0) (.slice A3 S c3) (.slice none 0 0)) haS ⟨A3, S, c3, none, 0, 0, rfl, RdVS.join (hrs.keep (fun p hp => six_cell _ _ _ _ _ _ _ p (by have := hp.1; have := HSZ.out; omega)) (fun b hb => ⟨by have := hb.1; omega, by rw [six_size]; exact hb.2⟩)) (RdVsS.nil _ _)⟩
                    refine bodyPost_ret (v := .tuple #[.agg #[.int .i64 1, .int .i64 T, .int .u64 0, .slice A3 S c3, .slice none 0 0], .int .i64 ((a : Int) + (S : Int)), .int .i64 0]) ?_ rfl ?_
                    · simp [results, Try.results37, go_sem, s0, s1, s2, s3, s4]
                    · rw [← Int.natCast_add]; exact HFIN
                  · obtain rfl : K = 2 := by omega
                    have HE4 := Lib.hid (show rd (d + 1) (h :: y :: r) = match rdAll (rd d) body.length body with
                      | .err e => .err e
                      | .ok l => .ok (.mk 2 (T : Nat) 0 [] l) (a + S) by rw [HE3.out, if_neg hK0, if_neg hK1]; cases rdAll (rd d) body.length body <;> rfl)
                    rw [show ((2 : Nat) : Int) = 2 from rfl] at d0
                    have hstart : RrL d T body w (.slice A2 S c2) wx := ⟨0, S, c2, 0, A2, none, [], body, [], rfl, rfl, World.ownsRow_nil _ _ _ _, HX1.out, HX0.out, ⟨rfl, fun i hi => absurd hi (by simp)⟩, hin, AllRel.start _ _, hbl, by have := HSZ.out; omega⟩
                    have HST := Lib.hid hstart
                    obtain ⟨i0, hi, hz0, hz1, hz2⟩ := info_parts info44
                    clear HE3 hK3 hK0 hK1 hstart
                    go_wp2_with fail
                    go_loopw [12, 15, 16, 17] (fun s12 _ _ _ wr => RrL d T body w s12 wr) (fun s12 _ _ _ _ => lenOf s12)
                    case atStart => exact HST.out
                    case round =>
                      obtain ⟨q, m, cr, c1, A, B, vs, rest, xs, rfl, hq, hown, hbox, hres, hrows, hrd, hrel, hbw, hsz⟩ := hrel
                      have hml := hrd.len
                      have hgl : vs.length * 2 + rest.length ≤ body.length := by obtain ⟨g, _, _, h⟩ := hrel; exact h
                      have hq2 : q ≤ 2048 := by have := HBL.out; omega
                      have hm2 : m ≤ 4096 := by have := HBL.out; omega
                      obtain ⟨⟨p0', p1, p2, p3, p4⟩, ⟨m0, m1, m2', m3', m4'⟩⟩ := cells5 hbox
                      obtain ⟨⟨s0, s1, s2, s3, s4⟩, ⟨t0, t1, t2, t3, t4⟩⟩ := cells5 hres
                      by_cases hm0 : m = 0
                      · subst hm0
                        have hre : rest = [] := List.length_eq_zero_iff.1 hml
                        rw [hre] at hrel
                        have HDONE := Lib.hid hrel.done
                        have HE5 := Lib.hid (show rd (d + 1) (h :: y :: r) = .ok (.mk 2 (T : Nat) 0 [] vs) (a + S) by rw [HE4.out, HDONE.out])
                        have HOWN := Lib.hid hown
                        have HROWS := Lib.hid hrows
                        have HQ := Lib.hid hq
                        clear hown hrows hrel hml hgl hq hre hbox hres
                        go_wp2
                        have hfin := rr_fin (W := ((((wr.setCell ⟨w.heap.size, 0, none⟩ (.int .i64 2)).setCell ⟨w.heap.size, 1, none⟩ (.int .i64 T)).setCell ⟨w.heap.size, 2, none⟩ (.int .u64 0)).setCell ⟨w.heap.size, 3, none⟩ (.slice none 0 0)).setCell ⟨w.heap.size, 4, none⟩ (.slice B q c1)) HOWN.out HROWS.out HQ.out (by omega) (fun b hb => by rw [heap_setCell_other _ _ _ _ hb, heap_setCell_other _ _ _ _ hb, heap_setCell_other _ _ _ _ hb, heap_setCell_other _ _ _ _ hb, heap_setCell_other _ _ _ _ hb]) (five_size _ _ _ _ _)
                        have HFIN := RrPost.ok (n := n) HE5.out (five hbw (.int .i64 2) (.int .i64 T) (.int .u64 0) (.slice none 0 0) (.slice B q c1)) haS ⟨none, 0, 0, B, q, c1, rfl, RdVS.join (RdS.nil _ _) hfin⟩
                        refine bodyPost_ret (v := .tuple #[.agg #[.int .i64 2, .int .i64 T, .int .u64 0, .slice none 0 0, .slice B q c1], .int .i64 ((a : Int) + (S : Int)), .int .i64 0]) ?_ rfl ?_
                        · simp [results, Try.results37, go_sem, s0, s1, s2, s3, s4]
                        · rw [← Int.natCast_add]; exact HFIN
                      · have hne : rest ≠ [] := fun e => hm0 (by rw [← hml, e]; rfl)
                        have hcall := HF.out (deep + 1) A m cr rest wr (by omega) hm2 (hrd.more hbw.size)
                        have HCALL := Lib.hid hcall
                        have HREL := Lib.hid hrel
                        have HNE := Lib.hid hne
                        have HQ := Lib.hid hq
                        have HOWN := Lib.hid hown
                        have HROWS := Lib.hid hrows
                        have HBOX := Lib.hid hbox
                        have HRES := Lib.hid hres
                        have HRD := Lib.hid hrd
                        have hlw : IntKind.i64.wrap ((deep : Int) + 1) = ((deep + 1 : Nat) : Int) := by
                          rw [IntWalk.i64_in _ (by omega)]; omega
                        have g0 : decide ((0 : Int) < (m : Int)) = true := by simp; omega
                        have g0n : decide (0 < m) = true := by simp; omega
                        have p0n : (0 : Int) < (m : Int) := by omega
                        have hrm := hrd.room
                        clear hrel hne hcall hml hgl hm0 hq hown hrows hbox hres hrd p0
                        go_wp2_with fail
                        rw [show ((deep : Int) + 1) = ((deep + 1 : Nat) : Int) from by omega]
                        refine HCALL.out.mono ?_
                        rintro e w2 ⟨hb2, hres⟩
                        have hbw2 := below_seq hbw hb2
                        have hG0 : w.heap.size < wr.heap.size := by omega
                        have hG1 : w.heap.size + 1 < wr.heap.size := by omega
                        have hx2 := (hb2.block w.heap.size hG0).trans HRES.out
                        have hy2 := (hb2.block (w.heap.size + 1) hG1).trans HBOX.out
                        have hlt2 : w.heap.size < w2.heap.size := Nat.lt_of_lt_of_le hG0 hb2.size
                        have hlt21 : w.heap.size + 1 < w2.heap.size := Nat.lt_of_lt_of_le hG1 hb2.size
                        clear p0' p1 p2 p3 p4 m0 m1 m2' m3' m4' s0 s1 s2 s3 s4 t0 t1 t2 t3 t4 HCALL
                        cases hx : rd d rest with
                        | err z =>
                          rw [hx] at hres
                          obtain ⟨hz, rfl⟩ := hres
                          have HE5 := Lib.hid (show rd (d + 1) (h :: y :: r) = .err z by rw [HE4.out, HREL.out.err HNE.out hx])
                          have g3 : ((z : Int) != 0) = true := by simp; omega
                          have hz' : (z : Int) ≠ 0 := by omega
                          obtain ⟨⟨q0, q1, q2, q3, q4⟩, ⟨s0, s1, s2, s3, s4⟩⟩ := cells5 hx2
                          have HFIN := RrPost.err (n := n) HE5.out (below_alloc (five hbw2 (.int .i64 0) (.int .i64 0) (.int .u64 0) (.slice none 0 0) (.slice none 0 0)) (.cells #[.int .i64 0, .int .i64 0, .int .u64 0, .slice none 0 0, .slice none 0 0] 30)) hz rfl
                          obtain ⟨t0, t1, t2, t3, t4⟩ := five_read (o := (.cells #[.int .i64 0, .int .i64 0, .int .u64 0, .slice none 0 0, .slice none 0 0] 30)) (a := .int .i64 0) (b := .int .i64 0) (c := .int .u64 0) (d := .slice none 0 0) (e := .slice none 0 0) hlt2 q0 q1 q2 q3 q4
                          have HT0 := Lib.hid t0
                          have HT1 := Lib.hid t1
                          have HT2 := Lib.hid t2
                          have HT3 := Lib.hid t3
                          have HT4 := Lib.hid t4
                          clear hx hx2 hy2 t0 t1 t2 t3 t4
                          unfold zeroV
                          go_wp2
                          refine bodyPost_ret (v := .tuple #[zeroV, .int .i64 0, .int .i64 z]) ?_ rfl ?_
                          · simp [results, Try.results37, go_sem, zeroV, HT0.out, HT1.out, HT2.out, HT3.out, HT4.out]
                          · exact HFIN
                        | ok x k =>
                          rw [hx] at hres
                          obtain ⟨hkm, A3, m3, c3, A4, m4, c4, rfl, hrv⟩ := hres
                          have HSTEP := Lib.hid (HREL.out.step hd8 HNE.out hx)
                          have hk2 := rd_two hd8 hx
                          have hy5 : (w2.alloc (.cells #[.int .i64 x.k, .int .i64 x.t, .int .u64 x.n, .slice A3 m3 c3, .slice A4 m4 c4] 30)).heap[w.heap.size + 1]? = _ := (heap_alloc_old w2 _ hlt21).trans hy2
                          have v4 := cell_of_row _ _ 4 _ _ (0, 0) hy5
                          have hown2 : ((w2.alloc (.cells #[.int .i64 x.k, .int .i64 x.t, .int .u64 x.n, .slice A3 m3 c3, .slice A4 m4 c4] 30)).alloc (.cells #[.int .i64 x.k, .int .i64 x.t, .int .u64 x.n, .slice A3 m3 c3, .slice A4 m4 c4] 30)).ownsRow (w.heap.size + 2) 30 5 (.slice B q c1) q xs := ((own_onN HOWN.out hb2).alloc _).alloc _
                          have hnew2 : ((w2.alloc (.cells #[.int .i64 x.k, .int .i64 x.t, .int .u64 x.n, .slice A3 m3 c3, .slice A4 m4 c4] 30)).alloc (.cells #[.int .i64 x.k, .int .i64 x.t, .int .u64 x.n, .slice A3 m3 c3, .slice A4 m4 c4] 30)).heap[w2.heap.size + 1]? = some (.cells #[.int .i64 x.k, .int .i64 x.t, .int .u64 x.n, .slice A3 m3 c3, .slice A4 m4 c4] 30 (0, 0)) := by
                            have := heap_alloc_new (w2.alloc (.cells #[.int .i64 x.k, .int .i64 x.t, .int .u64 x.n, .slice A3 m3 c3, .slice A4 m4 c4] 30)) (.cells #[.int .i64 x.k, .int .i64 x.t, .int .u64 x.n, .slice A3 m3 c3, .slice A4 m4 c4] 30)
                            rw [World.size_alloc] at this
                            exact this
                          have hy6 : ((w2.alloc (.cells #[.int .i64 x.k, .int .i64 x.t, .int .u64 x.n, .slice A3 m3 c3, .slice A4 m4 c4] 30)).alloc (.cells #[.int .i64 x.k, .int .i64 x.t, .int .u64 x.n, .slice A3 m3 c3, .slice A4 m4 c4] 30)).heap[w.heap.size + 1]? = _ := (heap_alloc_old _ _ (by simp; omega)).trans hy5
                          have hne : (Value.slice B q c1).ownBlock ≠ some (w.heap.size + 1) := fun e => by have := (HOWN.out.lt _ e).1; omega
                          have hsl2 := run_cut (P := Try.prog) und23 el23 A m cr k hkm hrm.1
                          obtain ⟨A5, hA5⟩ : ∃ q, q = (if cr = k then A else A.map (·.add k)) := ⟨_, rfl⟩
                          obtain ⟨c5, hc5⟩ : ∃ q, q = cr - k := ⟨_, rfl⟩
                          have hcut5 : ∀ W, RdB W w.heap.size A m cr rest → RdB W w.heap.size A5 (m - k) c5 (rest.drop k) := fun W hW => by
                            have h1 := Rd.cut hW hkm
                            rw [← List.map_drop, ← hA5, ← hc5] at h1
                            exact h1
                          rw [← hA5, ← hc5] at hsl2
                          have HC5 := Lib.hid hcut5
                          have HOWN2 := Lib.hid hown2
                          have HNEW2 := Lib.hid hnew2
                          have HY6 := Lib.hid hy6
                          have HRV := Lib.hid hrv
                          have hs2 := hbw2.size
                          have hsb2 := hb2.size
                          simp only [List.getElem?_toArray, List.getElem?_cons_zero, List.getElem?_cons_succ] at v4
                          clear hx hx2 hy2 hy5 hown2 hnew2 hy6 hA5 hc5 hcut5 hrv
                          go_wp2_with (at_builtin; go_loud (refine wpList_append_lies _ rfl (.tmp 150) (.tmp 152) 28 rfl (w.heap.size + 2) 30 i0 _ 5 72 Try.underlying28 hi hz0 hz1 hz2 rfl (by omega) (.slice B q c1) q xs (by rfl) HOWN2.out ⟨w2.heap.size + 1, 0, none⟩ 1 1 [.int .i64 x.k, .int .i64 x.t, .int .u64 x.n, .slice A3 m3 c3, .slice A4 m4 c4] (by rfl) (by rfl) (World.news_of_block HNEW2.out) (by simp [Value.oneCell']) (by omega) (by unfold maxLen; omega) (by omega) (by simp; omega) (w2.heap.size + 2) (by simp) ?_); intro gg cap w3 hown3 hgrow hat hlt3; have hy7 := (hgrow.block (w.heap.size + 1) (by simp; omega) (Ne.symm hne)).trans HY6.out; have v43 := cell_of_row w3 (w.heap.size + 1) 4 _ _ (0, 0) hy7; have f43 := frozen_of_row w3 (w.heap.size + 1) 4 _ _ hy7; simp only [List.getElem?_toArray, List.getElem?_cons_zero, List.getElem?_cons_succ] at v43; clear hy7)
                          have hR := rr_rel (cap := cap) HOWN.out HBOX.out HRES.out HROWS.out hbw hsz hb2 HRV.out HRD.out hown3 hgrow hat hlt3
                          go_roundw
                          case rel =>
                            repeat apply Exists.intro
                            refine ⟨?_, ?_⟩
                            · first | rfl | exact ⟨q + 1, m - k, c5, cap, A5, some ⟨gg, 0, none⟩, vs ++ [x], rest.drop k, _, rfl, by rw [HQ.out]; simp, hR.1, hR.2.1, hR.2.2.1, hR.2.2.2.1, HC5.out _ hR.2.2.2.2.1, HSTEP.out, hR.2.2.2.2.2.1, hR.2.2.2.2.2.2⟩
                            · first | exact ⟨q + 1, m - k, c5, cap, A5, some ⟨gg, 0, none⟩, vs ++ [x], rest.drop k, _, rfl, by rw [HQ.out]; simp, hR.1, hR.2.1, hR.2.2.1, hR.2.2.2.1, HC5.out _ hR.2.2.2.2.1, HSTEP.out, hR.2.2.2.2.2.1, hR.2.2.2.2.2.2⟩ | rfl
                          case measure => change m - k < m; omega
theorem rr_all : ∀ d, d ≤ 8 → RrC d
  | 0, _ => rr_zero
  | d + 1, h => rr_of (by omega) (rr_all d (by omega))
end Go.Proofs.Ytfinonfkpmlfeaa.Der
