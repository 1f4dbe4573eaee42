/-
  The walk of SymAgain.
-/
import Derived.Test.YtcgkjcfckbplmaaSagq
import Derived.Test.YtcgkjcfckbplmaaSyam
import Derived.Test.YtcgkjcfckbplmaaCuts
import Derived.Deep.Onto
namespace Go.Proofs.Ytcgkjcfckbplmaa.Sym
open Go.RowKit
open Go.Proofs.Ytcgkjcfckbplmaa.Kit
open Go.Proofs.Ytcgkjcfckbplmaa.Oct
set_option linter.unusedVariables false

theorem and15 (a : Int) : ∃ t : Nat, t ≤ 15 ∧ bits .and .i64 a 15 = t := by
  have hle : (BitVec.ofInt 64 a &&& BitVec.ofInt 64 15).toNat ≤ 15 := by
    rw [BitVec.toNat_and]
    exact Nat.le_trans Nat.and_le_right (by decide)
  refine ⟨(BitVec.ofInt 64 a &&& BitVec.ofInt 64 15).toNat, hle, ?_⟩
  show IntKind.i64.wrap ((BitVec.ofInt 64 a &&& BitVec.ofInt 64 15).toNat : Int) = _
  rw [IntKind.wrap_i64]
  omega
theorem add1_u8 (x : UInt8) : IntKind.u8.wrap ((x.toNat : Int) + 1) = ((x + 1).toNat : Int) := by
  rw [IntKind.wrap_u8, UInt8.toNat_add]
  simp
theorem seal_z : (Try.prog.info? 41).map (·.size) = some 18 := infoSl'

set_option maxRecDepth 100000 in
set_option maxHeartbeats 8000000 in
theorem again_walk (p s lab : ByteArray) (A : Option Addr) (n c : Nat) (body : List UInt8) (x : Int) (w : World) (hx : RdB w w.heap.size A n c body) : Calls Try.prog 5 #[.string p, .string s, .string lab, .slice A n c, .int .i64 x] w fun e w' => e = .returned (.bool true) ∧ Below w.heap.size w w' := by
  have hln := hx.len
  have hrm := hx.room
  by_cases hbig : 40 < p.size ∨ 40 < s.size ∨ 40 < lab.size ∨ 40 < n
  · go_enter Try.func5, Try.ntmps5
    go_wp2_with fail
    refine (alive7_any w).mono ?_
    rintro e w1 ⟨rfl, hb1⟩
    by_cases h1 : 40 < p.size
    · have t1 : decide ((40 : Int) < (p.size : Int)) = true := decide_eq_true (by omega)
      go_wp2
      go_ret
      exact ⟨rfl, hb1⟩
    · have t1 : decide ((40 : Int) < (p.size : Int)) = false := decide_eq_false (by omega)
      by_cases h2 : 40 < s.size
      · have t2 : decide ((40 : Int) < (s.size : Int)) = true := decide_eq_true (by omega)
        go_wp2
        go_ret
        exact ⟨rfl, hb1⟩
      · have t2 : decide ((40 : Int) < (s.size : Int)) = false := decide_eq_false (by omega)
        by_cases h3 : 40 < lab.size
        · have t3 : decide ((40 : Int) < (lab.size : Int)) = true := decide_eq_true (by omega)
          go_wp2
          go_ret
          exact ⟨rfl, hb1⟩
        · have t3 : decide ((40 : Int) < (lab.size : Int)) = false := decide_eq_false (by omega)
          have t4 : decide ((40 : Int) < (n : Int)) = true := decide_eq_true (by omega)
          go_wp2
          go_ret
          exact ⟨rfl, hb1⟩
  · have t1 : decide ((40 : Int) < (p.size : Int)) = false := decide_eq_false (by omega)
    have t2 : decide ((40 : Int) < (s.size : Int)) = false := decide_eq_false (by omega)
    have t3 : decide ((40 : Int) < (lab.size : Int)) = false := decide_eq_false (by omega)
    have t4 : decide ((40 : Int) < (n : Int)) = false := decide_eq_false (by omega)
    obtain ⟨q, hq, hqa⟩ := and15 x
    obtain ⟨ZV, hZ⟩ : ∃ q : Array Value, q = #[.int .u8 0, .int .u8 0, .int .u8 0, .int .u8 0, .int .u8 0, .int .u8 0, .int .u8 0, .int .u8 0, .int .u8 0, .int .u8 0, .int .u8 0, .int .u8 0, .int .u8 0, .int .u8 0, .int .u8 0, .int .u8 0] := ⟨_, rfl⟩
    have hz : ∀ w, (zeroValue 36).run Try.prog w = .ok (.agg ZV) w := fun w => by rw [hZ]; kernel_rfl
    have hzl : ZV.size = 16 := by rw [hZ]; rfl
    obtain ⟨KV, hKV⟩ : ∃ z, z = kv (mk 107 1) := ⟨_, rfl⟩
    obtain ⟨DV, hDV⟩ : ∃ z, z = kv (mk 107 2) := ⟨_, rfl⟩
    have hKs : KV.size = 16 := by rw [hKV, kv_size, mk_len]
    have hDs : DV.size = 16 := by rw [hDV, kv_size, mk_len]
    have HIK := Lib.hid (show (Try.prog.info? 36).map (·.size) = some KV.size from by rw [hKs]; exact info16K)
    have HID := Lib.hid (show (Try.prog.info? 36).map (·.size) = some DV.size from by rw [hDs]; exact info16K)
    have HPK := Lib.hid (show KV.all (·.oneCell') = true from by rw [hKV]; exact all_oneCell_toArray (bv_one _))
    have HPD := Lib.hid (show DV.all (·.oneCell') = true from by rw [hDV]; exact all_oneCell_toArray (bv_one _))
    have HZK := Lib.hid (show ZV.size = KV.size by rw [hzl, hKs])
    have HZD := Lib.hid (show ZV.size = DV.size by rw [hzl, hDs])
    have HX := Lib.hid hx
    have HKV := Lib.hid hKV
    have HDV := Lib.hid hDV
    have hps : p.size ≤ 1000000 := by omega
    have hss : s.size ≤ 1000000 := by omega
    have hls : lab.size ≤ 1000000 := by omega
    have hn40 : n ≤ 40 := by omega
    have hl40 : lab.size ≤ 40 := by omega
    clear hx hZ hKV hDV hzl hKs hDs hbig
    go_enter Try.func5, Try.ntmps5
    go_wp2_with fail
    refine (alive7_any w).mono ?_
    rintro e w1 ⟨rfl, hb1⟩
    have HB1 := Lib.hid hb1
    clear hb1
    go_wp2_with fail
    refine (new_any w1).mono ?_
    rintro e w2 ⟨tb, L, O, S, rfl, ht2, hos2, hb2⟩
    have HT2 := Lib.hid (show Tb w1 w2 tb Tab.none (fun _ => False) from Tb.new ht2 hos2 hb2)
    clear ht2 hos2 hb2
    go_wp2_with fail
    have htx := HT2.out.text (p := p) (s := s) hps hss (by decide)
    rw [show onceT Tab.none ⟨Fr.text, p, s⟩ = (1, A1 p s) from (a1_eq p s).1, ← HKV.out] at htx
    refine htx.mono ?_
    rintro e w3 ⟨rfl, ht3, _⟩
    obtain ⟨W4, hW4⟩ : ∃ q, q = (w3.alloc (.cells ZV 36)).setRow w3.heap.size KV := ⟨_, rfl⟩
    have HGN := Lib.hid (heap_alloc_new w3 (.cells ZV 36))
    have hg4 : W4.heap[w3.heap.size]? = some (.cells KV 36 (0, 0)) := by rw [hW4]; exact setRow_heap _ w3.heap.size _ KV _ _ (heap_alloc_new w3 _)
    have hb4 : Below w3.heap.size w3 W4 := by rw [hW4]; exact below_setRow (below_of_new w3 _) (Nat.le_refl _) _
    obtain ⟨K, hK⟩ : ∃ q, q = w3.heap.size := ⟨_, rfl⟩
    have HT4 := Lib.hid (show Tb w1 W4 tb (A1 p s) (fun b => False ∨ b = K) from by rw [hK]; exact ht3.add hb4 (Nat.le_refl _) (Array.getElem?_eq_some_iff.1 hg4).1)
    have HK4 := Lib.hid (show W4.heap[K]? = some (.cells KV 36 (0, 0)) from by rw [hK]; exact hg4)
    clear htx ht3 hg4 hb4 HT2
    go_wp2_with (refine wpList_store_row (o := ⟨none, _, _, _, _, _⟩) rfl 36 (.tmp 12) (.tmp 49) rfl w3.heap.size KV rfl rfl 36 _ HGN.out HIK.out HZK.out HPK.out ?_; apply Hid.out)
    refine Lib.hid ?_
    rw [← hW4, ← hK]
    clear hW4 HGN hK
    go_wp2_with (first
      | (refine wpList_load_row (o := ⟨some 51, _, _, _, _, _⟩) rfl 36 (.tmp 12) rfl K rfl 36 KV (0, 0) _ HK4.out Try.underlying36 rfl HIK.out ?_)
      | fail)
    have htx := HT4.out.derive (k := mk 107 1) (lab := lab) (mk_len _ _) hls (by rw [(a1_eq p s).2]; show [Fr.text].length < 100000; decide)
    rw [show onceT (A1 p s) ⟨⟨mk 107 1, lab, false⟩, ⟨#[]⟩, ⟨#[]⟩⟩ = (2, A2 p s lab) from (a2_eq p s lab).1, ← HKV.out, ← HDV.out] at htx
    refine htx.mono ?_
    rintro e w5 ⟨rfl, ht5, hr5⟩
    obtain ⟨W6, hW6⟩ : ∃ q, q = (w5.alloc (.cells ZV 36)).setRow w5.heap.size DV := ⟨_, rfl⟩
    have HGN := Lib.hid (heap_alloc_new w5 (.cells ZV 36))
    have hg6 : W6.heap[w5.heap.size]? = some (.cells DV 36 (0, 0)) := by rw [hW6]; exact setRow_heap _ w5.heap.size _ DV _ _ (heap_alloc_new w5 _)
    have hb6 : Below w5.heap.size w5 W6 := by rw [hW6]; exact below_setRow (below_of_new w5 _) (Nat.le_refl _) _
    obtain ⟨D, hD⟩ : ∃ q, q = w5.heap.size := ⟨_, rfl⟩
    have HT6 := Lib.hid (show Tb w1 W6 tb (A2 p s lab) (fun b => (False ∨ b = K) ∨ b = D) from by rw [hD]; exact ht5.add hb6 (Nat.le_refl _) (Array.getElem?_eq_some_iff.1 hg6).1)
    have HD6 := Lib.hid (show W6.heap[D]? = some (.cells DV 36 (0, 0)) from by rw [hD]; exact hg6)
    have HK6 := Lib.hid (show W6.heap[K]? = some (.cells KV 36 (0, 0)) from by
      have e1 := (hr5 K (.inr rfl)).trans HK4.out
      exact (hb6.block K (Array.getElem?_eq_some_iff.1 e1).1).trans e1)
    clear htx ht5 hg6 hb6 hr5 HT4 HK4
    go_wp2_with (refine wpList_store_row (o := ⟨none, _, _, _, _, _⟩) rfl 36 (.tmp 13) (.tmp 53) rfl w5.heap.size DV rfl rfl 36 _ HGN.out HID.out HZD.out HPD.out ?_; apply Hid.out)
    refine Lib.hid ?_
    rw [← hW6, ← hD]
    clear hW6 HGN hD hz
    go_wp2_with (first
      | (refine wpList_load_row (o := ⟨some 55, _, _, _, _, _⟩) rfl 36 (.tmp 13) rfl D rfl 36 DV (0, 0) _ HD6.out Try.underlying36 rfl HID.out ?_)
      | fail)
    have hxw : ∀ W, Below w1.heap.size w1 W → RdB W W.heap.size A n c body := fun W h => HX.out.on (below_seq HB1.out h)
    have HXW := Lib.hid hxw
    clear hxw
    have htx := HT6.out.seal_ (k := mk 107 2) (u := 7) (mk_len _ _) (by omega) (HXW.out _ HT6.out.bel) (by omega) (by rw [(a4_ag p s lab body).2.2.2]; decide)
    rw [show (A2 p s lab).bs.length = 0 from by rw [(a4_ag p s lab body).2.2.2]; rfl, ← HDV.out] at htx
    refine htx.mono ?_
    rintro e w7 ⟨gb, rfl, hgb, hgb2, ht7, hr7⟩
    have HT7 := Lib.hid (show Tb w1 w7 tb (A3 p s lab body) (fun b => ((False ∨ b = K) ∨ b = D) ∨ b = gb) from ht7)
    have HD7 := Lib.hid ((hr7 D (.inr rfl)).trans HD6.out)
    have HK7 := Lib.hid ((hr7 K (.inl (.inr rfl))).trans HK6.out)
    have HGB := Lib.hid hgb
    clear htx ht7 hgb hgb2 hr7 HT6 HD6 HK6
    go_wp2_with fail
    have htx := HT7.out.digest (HXW.out _ HT7.out.bel) (by omega) (by rw [(a4_ag p s lab body).2.2.1]; decide)
    rw [(a4_ag p s lab body).2.1] at htx
    refine htx.mono ?_
    rintro e w8 ⟨gs, rfl, hgs, hgs2, ht8, hr8⟩
    have HA8 := Lib.hid (show AgW w1 w8 tb K D gb gs p s lab body 2 1 1 (A4 p s lab body) from
      ⟨Tb.weak ht8 (fun b hb => by
        rcases hb with rfl | rfl | rfl | rfl
        · exact .inl (.inl (.inl (.inr rfl)))
        · exact .inl (.inl (.inr rfl))
        · exact .inl (.inr rfl)
        · exact .inr rfl), (a4_ag p s lab body).1,
        by have h := (hr8 K (.inl (.inl (.inr rfl)))).trans HK7.out; rw [HKV.out] at h; exact h,
        by have h := (hr8 D (.inl (.inr rfl))).trans HD7.out; rw [HDV.out] at h; exact h,
        (hr8 gb (.inr rfl)).trans HGB.out, hgs⟩)
    clear htx ht8 hgs hgs2 hr8 HT7 HD7 HK7 HGB
    go_wp2_with fail
    go_loopw [63] (fun i wr => ∃ (k : Nat) (T : Tab), k ≤ q ∧ i = .int .i64 k ∧ AgW w1 wr tb K D gb gs p s lab body (2 + 2 * k) (1 + k) (1 + k) T) (fun i _ => q - (intOf i).toNat)
    case atStart => exact ⟨0, _, by omega, rfl, HA8.out⟩
    case round =>
      clear HA8
      obtain ⟨k, T, hk, rfl, ha⟩ := hrel
      have HA := Lib.hid ha
      clear ha
      by_cases hlt : k < q
      · have l1 : decide ((k : Int) < (q : Int)) = true := decide_eq_true (by omega)
        go_wp2_with fail
        refine (agw_fresh HA.out (by omega)).mono ?_
        rintro e wa ⟨va, Ta, rfl, h1⟩
        have HK1 := Lib.hid (show wa.heap[K]? = some (.cells KV 36 (0, 0)) from by rw [HKV.out]; exact h1.rk)
        have HA1 := Lib.hid h1
        clear h1 HA
        go_wp2_with (first
          | (refine wpList_load_row (o := ⟨some 69, _, _, _, _, _⟩) rfl 36 (.tmp 12) rfl K rfl 36 KV (0, 0) _ HK1.out Try.underlying36 rfl HIK.out ?_)
          | fail)
        go_wp2_with fail
        have htx := agw_derive HA1.out (by omega) (k := mk 107 1) (mk_len _ _) (x := lab ++ ⟨#[120]⟩) (by rw [ByteArray.size_append]; show lab.size + 1 ≤ 1000000; omega)
        rw [← HKV.out] at htx
        refine htx.mono ?_
        rintro e wb ⟨vb, Tb1, rfl, h1⟩
        have HK2 := Lib.hid (show wb.heap[K]? = some (.cells KV 36 (0, 0)) from by rw [HKV.out]; exact h1.rk)
        have HA2 := Lib.hid h1
        clear h1 htx HA1 HK1
        go_wp2_with (first
          | (refine wpList_load_row (o := ⟨some 74, _, _, _, _, _⟩) rfl 36 (.tmp 12) rfl K rfl 36 KV (0, 0) _ HK2.out Try.underlying36 rfl HIK.out ?_)
          | fail)
        have htx := agw_seal HA2.out (by omega) (k := mk 107 1) (u := (k : Int)) (mk_len _ _) (by omega) (HXW.out _ HA2.out.tb.bel) (by omega)
        rw [← HKV.out] at htx
        refine htx.mono ?_
        rintro e wc ⟨vc, Tc1, rfl, h1⟩
        have HA3 := Lib.hid h1
        clear h1 htx HA2 HK2
        have ew8 : IntKind.u8.wrap (k : Int) = (k : Int) := by rw [IntKind.wrap_u8]; omega
        go_wp2_with fail
        have hkb : ((UInt8.ofNat k).toNat : Int) = (k : Int) := by rw [UInt8.toNat_ofNat']; omega
        have hb9 : Below wc.heap.size wc (wc.alloc (.cells #[.int .u8 (k : Int), .int .u8 200] 5)) := below_of_new wc _
        have hrd : RdB (wc.alloc (.cells #[.int .u8 (k : Int), .int .u8 200] 5)) (wc.alloc (.cells #[.int .u8 (k : Int), .int .u8 200] 5)).heap.size (some ⟨wc.heap.size, 0, none⟩) 2 2 [UInt8.ofNat k, 200] :=
          rd_const wc (fr := (0, 0)) rfl (by show [_, _] = [bv _, bv 200]; unfold bv; rw [hkb]; rfl) rfl (by omega)
        refine (agw_sum (agw_below HA3.out hb9) (by omega) hrd (by omega)).mono ?_
        rintro e wd ⟨vd, Td, rfl, h1⟩
        have HA4 := Lib.hid h1
        clear h1 hrd hb9 hkb HA3 ew8
        go_wp2_with fail
        go_roundw
        case rel => exact ⟨k + 1, Td, by omega, by go_num, by rw [show 2 + 2 * (k + 1) = 2 + 2 * k + 1 + 1 from by omega, show 1 + (k + 1) = 1 + k + 1 from by omega]; exact HA4.out⟩
        case measure => simp [intOf]; omega
      · obtain rfl : k = q := by omega
        obtain ⟨wo, rfl⟩ : ∃ z, z = wr := ⟨wr, rfl⟩
        have l1 : decide ((k : Int) < (k : Int)) = false := decide_eq_false (by omega)
        have HD1 := Lib.hid (show wo.heap[D]? = some (.cells DV 36 (0, 0)) from by rw [HDV.out]; exact HA.out.rd)
        go_wp2_with (first
          | (refine wpList_load_row (o := ⟨some 86, _, _, _, _, _⟩) rfl 36 (.tmp 13) rfl D rfl 36 DV (0, 0) _ HD1.out Try.underlying36 rfl HID.out ?_)
          | fail)
        have htx := agw_open2 HA.out
        rw [← HDV.out] at htx
        refine htx.mono ?_
        rintro e wa ⟨A1, c1, rfl, hown, hb⟩
        have HOW := Lib.hid hown
        have HBA := Lib.hid hb
        clear htx hown hb HD1
        go_wp2_with fail
        go_loopw [93] (fun i wx => ∃ (j : Nat) (bs : List UInt8), j ≤ body.length ∧ i = .int .i64 j ∧ bs.length = body.length ∧ wx.ownsRow wo.heap.size 5 1 (.slice A1 body.length c1) body.length (bs.map bv) ∧ Below wo.heap.size wo wx) (fun i _ => body.length - (intOf i).toNat)
        case atStart => exact ⟨0, body, by omega, rfl, rfl, HOW.out, HBA.out⟩
        case round =>
          clear HOW HBA
          obtain ⟨j, bs, hj, rfl, hbl, hown, hbw⟩ := hrel
          by_cases hlj : j < body.length
          · rcases own_cases hown with ⟨_, _, h0⟩ | ⟨g, rfl⟩
            · omega
            have l1 : decide ((j : Int) < (body.length : Int)) = true := decide_eq_true (by omega)
            have l2 : (j : Int) < (body.length : Int) := by omega
            obtain ⟨y, hy⟩ : ∃ y, y = bs[j]'(by omega) := ⟨_, rfl⟩
            have ev := add1_u8 y
            have c1c := (own_cells hown).1 j (bv y) (by rw [List.getElem?_map, List.getElem?_eq_getElem (by omega), ← hy]; rfl)
            unfold bv at c1c
            have f1 := hown.frozenAt j
            have hst := (hown.stored j (.int .u8 ((y + 1).toNat : Int))).1
            rw [show (bs.map bv).set j (.int .u8 ((y + 1).toNat : Int)) = (bs.set j (y + 1)).map bv from by rw [List.map_set]; rfl] at hst
            have hbs : Below wo.heap.size wo (wr.setCell ⟨g, j, none⟩ (.int .u8 ((y + 1).toNat : Int))) := hbw.setCell (hown.lt g rfl).1 _
            have HST := Lib.hid hst
            have HBS := Lib.hid hbs
            clear hy hst hbs hown hbw
            go_wp2_with fail
            go_roundw
            case rel => exact ⟨j + 1, bs.set j (y + 1), by omega, by go_num, by rw [List.length_set]; exact hbl, HST.out, HBS.out⟩
            case measure => simp [intOf]; omega
          · obtain rfl : j = body.length := by omega
            have l1 : decide ((body.length : Int) < (body.length : Int)) = false := decide_eq_false (by omega)
            have HA2 := Lib.hid (agw_below HA.out hbw)
            clear hown hbw HA
            go_wp2_with fail
            have htx := agw_box2 HA2.out
            refine htx.mono ?_
            rintro e wb ⟨A2, c2, rfl, hown, hb⟩
            have HOW := Lib.hid hown
            have HBB := Lib.hid hb
            obtain ⟨NV, hNe⟩ : ∃ q : Array Value, q = #[.int .u8 0, .int .u8 0, .int .u8 0, .int .u8 0, .int .u8 0, .int .u8 0, .int .u8 0, .int .u8 0, .int .u8 0, .int .u8 0, .int .u8 0, .int .u8 0, .int .u8 0, .int .u8 0, .int .u8 0, .int .u8 0, .int .i64 0, .slice none 0 0] := ⟨_, rfl⟩
            have hNs : NV.size = 18 := by rw [hNe]; rfl
            have hz2 : ∀ w, (zeroValue 41).run Try.prog w = .ok (.agg NV) w := fun w => by rw [hNe]; kernel_rfl
            obtain ⟨SV, hSV⟩ : ∃ q, q = ((mk 107 2).map bv ++ ([.int .i64 7, .slice A2 body.length c2] : List Value)).toArray := ⟨_, rfl⟩
            have hSs : SV.size = 18 := by rw [hSV]; simp [mk_len]
            have hS17 : SV[17]? = some (.slice A2 body.length c2) := by rw [hSV, List.getElem?_toArray, List.getElem?_append_right (by rw [List.length_map, mk_len]; omega), List.length_map, mk_len]; rfl
            have HIS := Lib.hid (show (Try.prog.info? 41).map (·.size) = some SV.size from by rw [hSs]; exact infoSl')
            have HPS := Lib.hid (show SV.all (·.oneCell') = true from by
              rw [hSV]
              refine all_oneCell_toArray fun u hu => ?_
              rcases List.mem_append.1 hu with h | h
              · exact bv_one _ u h
              · simp only [List.mem_cons, List.not_mem_nil, or_false] at h
                rcases h with rfl | rfl <;> rfl)
            have HZS := Lib.hid (show NV.size = SV.size by rw [hNs, hSs])
            have HS17 := Lib.hid hS17
            rw [← hSV]
            obtain ⟨W9, hW9⟩ : ∃ q, q = (wb.alloc (.cells NV 41)).setRow wb.heap.size SV := ⟨_, rfl⟩
            have HGN := Lib.hid (heap_alloc_new wb (.cells NV 41))
            have hg9 : W9.heap[wb.heap.size]? = some (.cells SV 41 (0, 0)) := by rw [hW9]; exact setRow_heap _ wb.heap.size _ SV _ _ (heap_alloc_new wb _)
            have hb9 : Below wb.heap.size wb W9 := by rw [hW9]; exact below_setRow (below_of_new wb _) (Nat.le_refl _) _
            obtain ⟨gS, hgS⟩ : ∃ q, q = wb.heap.size := ⟨_, rfl⟩
            rw [← hgS] at hg9
            have HO9 := Lib.hid (own_on HOW.out hb9)
            have HG9 := Lib.hid hg9
            have HB9 := Lib.hid (below_seq HBB.out hb9)
            have HLT := Lib.hid (show ∀ g, A2 = some ⟨g, 0, none⟩ → g < gS from fun g hg => by rw [hgS]; exact (HOW.out.lt g (by rw [hg]; rfl)).2)
            clear hown hb hNe hNs hSV hSs hS17 hg9 hb9 htx HOW HBB
            go_wp2_with (refine wpList_store_row (o := ⟨none, _, _, _, _, _⟩) rfl 41 (.tmp 20) (.tmp 107) rfl wb.heap.size SV rfl rfl 41 _ HGN.out HIS.out HZS.out HPS.out ?_; apply Hid.out)
            refine Lib.hid ?_
            rw [← hW9, ← hgS]
            have hc17 : W9.cell? ⟨gS, 17, none⟩ = some (.slice A2 body.length c2) := by rw [cell_of_row _ _ 17 _ _ _ HG9.out]; exact HS17.out
            clear hW9 HGN hgS hz2
            go_wp2_with fail
            obtain ⟨wp, rfl⟩ : ∃ z, z = wr := ⟨wr, rfl⟩
            go_loopw [112] (fun i wx => ∃ (j : Nat) (bs : List UInt8), j ≤ body.length ∧ i = .int .i64 j ∧ bs.length = body.length ∧ wx.ownsRow wp.heap.size 5 1 (.slice A2 body.length c2) body.length (bs.map bv) ∧ wx.heap[gS]? = some (.cells SV 41 (0, 0)) ∧ Below wp.heap.size wp wx) (fun i _ => body.length - (intOf i).toNat)
            case atStart => exact ⟨0, body, by omega, rfl, rfl, HO9.out, HG9.out, HB9.out⟩
            case round =>
              clear HO9 HG9 HB9 hc17
              obtain ⟨j, bs, hj, rfl, hbl, hown, hg, hbw⟩ := hrel
              by_cases hlj : j < body.length
              · rcases own_cases hown with ⟨_, _, h0⟩ | ⟨g, rfl⟩
                · omega
                have l1 : decide ((j : Int) < (body.length : Int)) = true := decide_eq_true (by omega)
                have l2 : (j : Int) < (body.length : Int) := by omega
                obtain ⟨y, hy⟩ : ∃ y, y = bs[j]'(by omega) := ⟨_, rfl⟩
                have ev := add1_u8 y
                have c1c := (own_cells hown).1 j (bv y) (by rw [List.getElem?_map, List.getElem?_eq_getElem (by omega), ← hy]; rfl)
                unfold bv at c1c
                have hc17 : wr.cell? ⟨gS, 17, none⟩ = some (.slice (some ⟨g, 0, none⟩) body.length c2) := by rw [cell_of_row _ _ 17 _ _ _ hg]; exact HS17.out
                have f1 := hown.frozenAt j
                have hst := (hown.stored j (.int .u8 ((y + 1).toNat : Int))).1
                rw [show (bs.map bv).set j (.int .u8 ((y + 1).toNat : Int)) = (bs.set j (y + 1)).map bv from by rw [List.map_set]; rfl] at hst
                have hbs : Below wp.heap.size wp (wr.setCell ⟨g, j, none⟩ (.int .u8 ((y + 1).toNat : Int))) := hbw.setCell (hown.lt g rfl).1 _
                have hlg := HLT.out g rfl
                have hgg := (heap_setCell_other wr ⟨g, j, none⟩ gS (.int .u8 ((y + 1).toNat : Int)) (by show gS ≠ g; omega)).trans hg
                have HST := Lib.hid hst
                have HBS := Lib.hid hbs
                have HGG := Lib.hid hgg
                clear hy hst hbs hown hbw hg hgg hlg
                go_wp2_with fail
                go_roundw
                case rel => exact ⟨j + 1, bs.set j (y + 1), by omega, by go_num, by rw [List.length_set]; exact hbl, HST.out, HGG.out, HBS.out⟩
                case measure => simp [intOf]; omega
              · obtain rfl : j = body.length := by omega
                have l1 : decide ((body.length : Int) < (body.length : Int)) = false := decide_eq_false (by omega)
                obtain ⟨wq, rfl⟩ : ∃ z, z = wr := ⟨wr, rfl⟩
                have HA3 := Lib.hid (agw_below HA2.out hbw)
                have HD3 := Lib.hid (show wq.heap[D]? = some (.cells DV 36 (0, 0)) from by rw [HDV.out]; exact HA3.out.rd)
                clear hown hg hbw HA2 HLT HS17 HIS HPS HZS
                go_wp2_with (first
                  | (refine wpList_load_row (o := ⟨some 125, _, _, _, _, _⟩) rfl 36 (.tmp 13) rfl D rfl 36 DV (0, 0) _ HD3.out Try.underlying36 rfl HID.out ?_)
                  | fail)
                have htx := agw_open2 HA3.out
                rw [← HDV.out] at htx
                refine htx.mono ?_
                rintro e wc ⟨A3, c3, rfl, hown, hb⟩
                have hd : Below wc.heap.size wc wc.drew := below_of_drew ⟨1, rfl⟩ _
                have HA4 := Lib.hid (agw_below HA3.out (below_seq hb hd))
                have HC := Lib.hid (show RdB wc.drew wc.drew.heap.size A3 body.length c3 body from Rd.of_own (own_on hown hd))
                obtain ⟨KL, hKL⟩ : ∃ z, z = (mk 107 1).map bv := ⟨_, rfl⟩
                obtain ⟨DL, hDL⟩ : ∃ z, z = (mk 107 2).map bv := ⟨_, rfl⟩
                have HKT := Lib.hid (show KV = KL.toArray from by rw [hKL]; exact HKV.out)
                have HDT := Lib.hid (show DV = DL.toArray from by rw [hDL]; exact HDV.out)
                have hiK := Lib.hid (show (Try.prog.info? 36).map (·.size) = some KL.length from by rw [hKL, List.length_map, mk_len]; exact info16K)
                have hiD := Lib.hid (show (Try.prog.info? 36).map (·.size) = some DL.length from by rw [hDL, List.length_map, mk_len]; exact info16K)
                have HH := Lib.hid (show ∀ W, AgW w1 W tb K D gb gs p s lab body (2 + 2 * k) (1 + k) (1 + k) T → W.rangeAt K 0 KL ∧ W.rangeAt D 0 DL from fun W h => ⟨row_heap h.rk (by rw [hKL]; rfl), row_heap h.rd (by rw [hDL]; rfl)⟩)
                have e18 : ∀ w, (Op.equalIn 10000 36 (.agg KV) (.agg KV)).run Try.prog w = .ok true w := fun w => by rw [HKV.out]; exact (eq_keyY _ _ (mk_len _ _) (mk_len _ _) w).trans (by simp)
                have e26 : ∀ w, (Op.equalIn 10000 36 (.agg DV) (.agg DV)).run Try.prog w = .ok true w := fun w => by rw [HDV.out]; exact (eq_keyY _ _ (mk_len _ _) (mk_len _ _) w).trans (by simp)
                have e38 : ∀ w, (Op.equalIn 10000 36 (.agg KV) (.agg DV)).run Try.prog w = .ok false w := fun w => by rw [HKV.out, HDV.out]; exact (eq_keyY _ _ (mk_len _ _) (mk_len _ _) w).trans (by rw [show (mk 107 1 == mk 107 2) = false from by decide])
                have HS10 := Lib.hid (show Calls Try.prog 15 #[.slice A3 n c3, .slice A n c] wc.drew fun e w' => e = .returned (.bool true) ∧ AgW w1 w' tb K D gb gs p s lab body (2 + 2 * k) (1 + k) (1 + k) T from
                  (same_newY _ _ _ _ _ _ body body _ (by have q := HC.out; rw [hln] at q; exact q) (HXW.out _ HA4.out.tb.bel)).mono fun e w' ⟨he, hb⟩ => ⟨he.trans (by simp), agw_below HA4.out hb⟩)
                have hm9 : 2 + 2 * k < 100000 := by omega
                have hl9 : 1 + k < 100000 := by omega
                have hbn : body.length ≤ 1000000 := by omega
                have hnM : n ≤ 1000000 := by omega
                clear hown hb hd htx HA3 HD3 hKL hDL
                go_wp2_with fail
                refine wp_region_held_drew (S := fun W => W.rangeAt K 0 KL ∧ W.rangeAt D 0 DL) (by kernel_rfl) (HH.out _ HA4.out) (fun hHeld => ?_)
                refine wpAnyH_take (i := 0) (v := .bool true) rfl (by kernel_rfl) (by kernel_rfl) (by kernel_rfl) (fun _ _ _ h => h) (Or.inl ⟨by rfl, fun w _ => by go_simp⟩) (by assumption) ?_
                go_simp
                refine wpAnyH_take (i := 1) (v := .bool true) rfl (by kernel_rfl) (by kernel_rfl) (by kernel_rfl) (fun _ _ _ h => h) (Or.inl ⟨by rfl, fun w _ => by go_simp⟩) (by assumption) ?_
                go_simp
                refine wpAnyH_take (i := 2) (v := .bool true) rfl (by kernel_rfl) (by kernel_rfl) (by kernel_rfl) (fun _ _ _ h => h) (Or.inl ⟨by rfl, fun w _ => by go_simp⟩) (by assumption) ?_
                go_simp
                refine wpAnyH_take (i := 3) (v := .bool true) rfl (by kernel_rfl) (by kernel_rfl) (by kernel_rfl) (fun _ _ _ h => h) (Or.inl ⟨by rfl, fun w _ => by go_simp⟩) (by assumption) ?_
                go_simp
                refine wpAnyH_take (i := 4) (v := .bool true) rfl (by kernel_rfl) (by kernel_rfl) (by kernel_rfl) (fun _ _ _ h => h) (Or.inl ⟨by rfl, fun w _ => by go_simp⟩) (by assumption) ?_
                go_simp
                refine wpAnyH_take (i := 5) (v := .bool true) rfl (by kernel_rfl) (by kernel_rfl) (by kernel_rfl) (fun _ _ _ h => h) (Or.inl ⟨by rfl, fun w _ => by go_simp⟩) (by assumption) ?_
                go_simp
                refine wpAnyH_take (i := 6) (v := .bool true) rfl (by kernel_rfl) (by kernel_rfl) (by kernel_rfl) (fun _ _ _ h => h) (Or.inl ⟨by rfl, fun w _ => by go_simp⟩) (by assumption) ?_
                go_simp
                refine wpAnyH_take (i := 7) (v := .bool true) rfl (by kernel_rfl) (by kernel_rfl) (by kernel_rfl) (fun _ _ _ h => h) (Or.inl ⟨by rfl, fun w _ => by go_simp⟩) (by assumption) ?_
                go_simp
                refine wpAnyH_take (i := 8) (v := .slice A3 body.length c3) rfl (by kernel_rfl) (by kernel_rfl) (by kernel_rfl) (fun _ _ _ h => h) (Or.inl ⟨by rfl, fun w _ => by go_simp⟩) (by assumption) ?_
                go_simp
                refine wpAnyH_take (i := 9) (v := .slice A n c) rfl (by kernel_rfl) (by kernel_rfl) (by kernel_rfl) (fun _ _ _ h => h) (Or.inl ⟨by rfl, fun w _ => by go_simp⟩) (by assumption) ?_
                go_simp
                refine wpAnyH_ready (rs := [10]) (by kernel_rfl) (by simp) ?_
                refine AllReadyH.cons rfl (fun K hK => ?_) AllReadyH.nil
                (go_simp; go_at_call 15; refine HS10.out.mono ?_; rintro e wd ⟨rfl, hA5⟩)
                try go_simp
                refine hK.out _ _ (HH.out _ hA5) (fun hHeld => ?_)
                clear hK K
                refine wpAnyH_take (i := 11) (v := .bool true) rfl (by kernel_rfl) (by kernel_rfl) (by kernel_rfl) (fun _ _ _ h => h) (Or.inl ⟨by rfl, fun w _ => by go_simp⟩) (by assumption) ?_
                go_simp
                refine wpAnyH_take (i := 12) (v := .bool true) rfl (by kernel_rfl) (by kernel_rfl) (by kernel_rfl) (fun _ _ _ h => h) (Or.inl ⟨by rfl, fun w _ => by go_simp⟩) (by assumption) ?_
                go_simp
                refine wpAnyH_take (i := 13) (v := .pointer (some ⟨tb, 0, none⟩)) rfl (by kernel_rfl) (by kernel_rfl) (by kernel_rfl) (fun _ _ _ h => h) (Or.inl ⟨by rfl, fun w _ => by go_simp⟩) (by assumption) ?_
                go_simp
                refine wpAnyH_take (i := 14) (v := .string p) rfl (by kernel_rfl) (by kernel_rfl) (by kernel_rfl) (fun _ _ _ h => h) (Or.inl ⟨by rfl, fun w _ => by go_simp⟩) (by assumption) ?_
                go_simp
                refine wpAnyH_take (i := 15) (v := .string s) rfl (by kernel_rfl) (by kernel_rfl) (by kernel_rfl) (fun _ _ _ h => h) (Or.inl ⟨by rfl, fun w _ => by go_simp⟩) (by assumption) ?_
                go_simp
                refine wpAnyH_take (i := 17) (v := .agg KV) rfl (by kernel_rfl) (by kernel_rfl) (by kernel_rfl) (fun _ _ _ h => h) (by rw [HKT.out]; exact yieldsIf_load_mid (by rfl) _ (.tmp 12) rfl K 0 rfl KL _ (fun _ h => h.1) Try.underlying36 rfl hiK.out) (by assumption) ?_
                go_simp
                refine wpAnyH_ready (rs := [16]) (by kernel_rfl) (by simp) ?_
                refine AllReadyH.cons rfl (fun K hK => ?_) AllReadyH.nil
                (go_simp; go_at_call 14; have htx := agw_text2 hA5 hm9 hps hss; rw [← HKV.out] at htx; refine htx.mono ?_; rintro e we ⟨rfl, hA6⟩; clear htx)
                try go_simp
                refine hK.out _ _ (HH.out _ hA6) (fun hHeld => ?_)
                clear hK K
                refine wpAnyH_take (i := 18) (v := .bool true) rfl (by kernel_rfl) (by kernel_rfl) (by kernel_rfl) (fun _ _ _ h => h) (Or.inl ⟨by rfl, fun w _ => by go_simp⟩) (by assumption) ?_
                go_simp
                refine wpAnyH_take (i := 19) (v := .bool true) rfl (by kernel_rfl) (by kernel_rfl) (by kernel_rfl) (fun _ _ _ h => h) (Or.inl ⟨by rfl, fun w _ => by go_simp⟩) (by assumption) ?_
                go_simp
                refine wpAnyH_take (i := 20) (v := .bool true) rfl (by kernel_rfl) (by kernel_rfl) (by kernel_rfl) (fun _ _ _ h => h) (Or.inl ⟨by rfl, fun w _ => by go_simp⟩) (by assumption) ?_
                go_simp
                refine wpAnyH_take (i := 21) (v := .pointer (some ⟨tb, 0, none⟩)) rfl (by kernel_rfl) (by kernel_rfl) (by kernel_rfl) (fun _ _ _ h => h) (Or.inl ⟨by rfl, fun w _ => by go_simp⟩) (by assumption) ?_
                go_simp
                refine wpAnyH_take (i := 22) (v := .agg KV) rfl (by kernel_rfl) (by kernel_rfl) (by kernel_rfl) (fun _ _ _ h => h) (by rw [HKT.out]; exact yieldsIf_load_mid (by rfl) _ (.tmp 12) rfl K 0 rfl KL _ (fun _ h => h.1) Try.underlying36 rfl hiK.out) (by assumption) ?_
                go_simp
                refine wpAnyH_take (i := 23) (v := .string lab) rfl (by kernel_rfl) (by kernel_rfl) (by kernel_rfl) (fun _ _ _ h => h) (Or.inl ⟨by rfl, fun w _ => by go_simp⟩) (by assumption) ?_
                go_simp
                refine wpAnyH_take (i := 25) (v := .agg DV) rfl (by kernel_rfl) (by kernel_rfl) (by kernel_rfl) (fun _ _ _ h => h) (by rw [HDT.out]; exact yieldsIf_load_mid (by rfl) _ (.tmp 13) rfl D 0 rfl DL _ (fun _ h => h.2) Try.underlying36 rfl hiD.out) (by assumption) ?_
                go_simp
                refine wpAnyH_ready (rs := [24]) (by kernel_rfl) (by simp) ?_
                refine AllReadyH.cons rfl (fun K hK => ?_) AllReadyH.nil
                (go_simp; go_at_call 13; have htx := agw_der2 hA6 hm9 hls; rw [← HKV.out, ← HDV.out] at htx; refine htx.mono ?_; rintro e wf ⟨rfl, hA7⟩; clear htx)
                try go_simp
                refine hK.out _ _ (HH.out _ hA7) (fun hHeld => ?_)
                clear hK K
                refine wpAnyH_take (i := 26) (v := .bool true) rfl (by kernel_rfl) (by kernel_rfl) (by kernel_rfl) (fun _ _ _ h => h) (Or.inl ⟨by rfl, fun w _ => by go_simp⟩) (by assumption) ?_
                go_simp
                refine wpAnyH_take (i := 27) (v := .bool true) rfl (by kernel_rfl) (by kernel_rfl) (by kernel_rfl) (fun _ _ _ h => h) (Or.inl ⟨by rfl, fun w _ => by go_simp⟩) (by assumption) ?_
                go_simp
                refine wpAnyH_take (i := 28) (v := .bool true) rfl (by kernel_rfl) (by kernel_rfl) (by kernel_rfl) (fun _ _ _ h => h) (Or.inl ⟨by rfl, fun w _ => by go_simp⟩) (by assumption) ?_
                go_simp
                refine wpAnyH_take (i := 29) (v := .pointer (some ⟨tb, 0, none⟩)) rfl (by kernel_rfl) (by kernel_rfl) (by kernel_rfl) (fun _ _ _ h => h) (Or.inl ⟨by rfl, fun w _ => by go_simp⟩) (by assumption) ?_
                go_simp
                refine wpAnyH_take (i := 30) (v := .slice A n c) rfl (by kernel_rfl) (by kernel_rfl) (by kernel_rfl) (fun _ _ _ h => h) (Or.inl ⟨by rfl, fun w _ => by go_simp⟩) (by assumption) ?_
                go_simp
                refine wpAnyH_take (i := 32) (v := .slice (some ⟨gs, 0, none⟩) 16 16) rfl (by kernel_rfl) (by kernel_rfl) (by kernel_rfl) (fun _ _ _ h => h) (Or.inl ⟨by rfl, fun w _ => by go_simp⟩) (by assumption) ?_
                go_simp
                refine wpAnyH_ready (rs := [31]) (by kernel_rfl) (by simp) ?_
                refine AllReadyH.cons rfl (fun K hK => ?_) AllReadyH.nil
                (go_simp; go_at_call 19; refine (agw_sum2 hA7 hl9 (HXW.out _ hA7.tb.bel) hnM).mono ?_; rintro e wg ⟨gd, rfl, hrd, hA8⟩)
                try go_simp
                refine hK.out _ _ (HH.out _ hA8) (fun hHeld => ?_)
                clear hK K
                refine wpAnyH_ready (rs := [33]) (by kernel_rfl) (by simp) ?_
                refine AllReadyH.cons rfl (fun K hK => ?_) AllReadyH.nil
                (go_simp; go_at_call 15; refine (same_newY _ _ _ _ _ _ (mk 100 1) (mk 100 1) _ hrd (rd_key hA8.rs (mk_len _ _))).mono ?_; rintro e wh ⟨rfl, hb⟩; rw [show decide (mk 100 1 = mk 100 1) = true from by simp]; have hA9 := agw_below hA8 hb; clear hb)
                try go_simp
                refine hK.out _ _ (HH.out _ hA9) (fun hHeld => ?_)
                clear hK K
                refine wpAnyH_take (i := 34) (v := .bool true) rfl (by kernel_rfl) (by kernel_rfl) (by kernel_rfl) (fun _ _ _ h => h) (Or.inl ⟨by rfl, fun w _ => by go_simp⟩) (by assumption) ?_
                go_simp
                refine wpAnyH_take (i := 35) (v := .bool true) rfl (by kernel_rfl) (by kernel_rfl) (by kernel_rfl) (fun _ _ _ h => h) (Or.inl ⟨by rfl, fun w _ => by go_simp⟩) (by assumption) ?_
                go_simp
                refine wpAnyH_take (i := 36) (v := .agg KV) rfl (by kernel_rfl) (by kernel_rfl) (by kernel_rfl) (fun _ _ _ h => h) (by rw [HKT.out]; exact yieldsIf_load_mid (by rfl) _ (.tmp 12) rfl K 0 rfl KL _ (fun _ h => h.1) Try.underlying36 rfl hiK.out) (by assumption) ?_
                go_simp
                refine wpAnyH_take (i := 37) (v := .agg DV) rfl (by kernel_rfl) (by kernel_rfl) (by kernel_rfl) (fun _ _ _ h => h) (by rw [HDT.out]; exact yieldsIf_load_mid (by rfl) _ (.tmp 13) rfl D 0 rfl DL _ (fun _ h => h.2) Try.underlying36 rfl hiD.out) (by assumption) ?_
                go_simp
                refine wpAnyH_take (i := 38) (v := .bool true) rfl (by kernel_rfl) (by kernel_rfl) (by kernel_rfl) (fun _ _ _ h => h) (Or.inl ⟨by rfl, fun w _ => by go_simp⟩) (by assumption) ?_
                go_simp
                refine wpAnyH_take (i := 39) (v := .bool true) rfl (by kernel_rfl) (by kernel_rfl) (by kernel_rfl) (fun _ _ _ h => h) (Or.inl ⟨by rfl, fun w _ => by go_simp⟩) (by assumption) ?_
                go_simp
                refine wpAnyH_take (i := 40) (v := .bool true) rfl (by kernel_rfl) (by kernel_rfl) (by kernel_rfl) (fun _ _ _ h => h) (Or.inl ⟨by rfl, fun w _ => by go_simp⟩) (by assumption) ?_
                go_simp
                refine wpAnyH_done (by kernel_rfl) ?_ _
                have HBE := Lib.hid (below_seq HB1.out hA9.tb.bel)
                go_wp2
                go_ret
                exact ⟨rfl, HBE.out⟩
end Go.Proofs.Ytcgkjcfckbplmaa.Sym
