/-
  THE CONTRACTS of the document's Fresh and Seal.
-/
import Derived.Test.YtgebdkbbdabomaaDoorSealk
namespace Go.Proofs.YtgebdkbbdabomaaDoor.Seal
open Go.RowKit
open Go.Proofs.YtgebdkbbdabomaaDoor.Kit
open Go.Proofs.YtgebdkbbdabomaaDoor.Oct
open Go.Proofs.YtgebdkbbdabomaaDoor.Sha
open Go.Proofs.YtgebdkbbdabomaaDoor.Aes (row row_len row_at row_of at_ strF sbN boxes_own refstream_new)
open Go.Proofs.YtgebdkbbdabomaaDoor.Mac (derS derS_len macS macS_len strL strL_len)
set_option linter.unusedVariables false

set_option maxRecDepth 100000 in
theorem reffresh_new (A : Option Addr) (n c : Nat) (seed : List UInt8) (j : Nat) (w : World) (hs : RdB w w.heap.size A n c seed) (hn : n ≤ 1000000) (hj : j < 18446744073709551616) :
    Calls Tryd.prog 23 #[.slice A n c, .int .u64 (j : Int)] w fun e w' => ∃ A' c', e = .returned (.slice A' 16 c') ∧ RdB w' w'.heap.size A' 16 c' (freS seed j) ∧ Below w.heap.size w w' := by
  have HS := Lib.hid (show ∀ W, Below w.heap.size w W → RdB W W.heap.size A n c seed from fun W h => hs.on h)
  clear hs
  go_enter Tryd.func23, Tryd.ntmps23
  go_wp2_with fail
  refine (ks_own w).mono ?_
  rintro e w1 ⟨A1, c1, rfl, ho1, hb1⟩
  have HO1 := Lib.hid (Rd.of_own ho1)
  have HB1 := Lib.hid hb1
  have HC1 := Lib.hid (show ∀ W, Below w1.heap.size w1 W → Rd W W.heap.size A1 64 c1 (shaK.map wv) from fun W h => (HO1.out.below h).more h.size)
  clear ho1 hb1
  go_wp2_with fail
  refine (rput_new j _ hj).mono ?_
  rintro e w2 ⟨A2, c2, rfl, hn2⟩
  have HN2 := Lib.hid hn2.rd
  have HB2 := Lib.hid hn2.bl
  clear hn2
  go_wp2_with fail
  refine (refsum_own A1 A A2 c1 n c 8 c2 seed (be 8 j) w2 (HC1.out _ HB2.out) (HS.out _ (below_seq HB1.out HB2.out)) HN2.out hn (by omega)).mono ?_
  rintro e w3 ⟨A3, c3, rfl, ho3, hb3⟩
  have hr3 := Rd.of_own ho3
  have hrm3 := hr3.room
  have hfr := Rd.front (k := 16) hr3 (by omega)
  rw [← List.map_take, show (macS seed (be 8 j)).take 16 = freS seed j from rfl] at hfr
  have hcut := front16 A3 32 c3 (by omega)
  have HFR := Lib.hid hfr
  have HBE := Lib.hid (below_seq HB1.out (below_seq HB2.out hb3))
  clear ho3 hb3 hr3 hfr
  go_wp2_with fail
  go_ret
  exact ⟨_, _, rfl, HFR.out, HBE.out⟩

set_option maxRecDepth 100000 in
set_option maxHeartbeats 4000000 in
theorem refseal_new (j : Nat) (Ak Ab : Option Addr) (ck n c : Nat) (k body : List UInt8) (u : Int) (h0 : -9223372036854775808 ≤ u) (h1 : u ≤ 9223372036854775807) (D : ByteArray) (hD : D = ⟨(Lib.itoa u).toArray⟩) (w : World)
    (hk : RdB w w.heap.size Ak 16 ck k) (hb : RdB w w.heap.size Ab n c body) (hml : n ≤ 800000) (hj : j < 18446744073709551616) :
    Calls Tryd.prog 22 #[.int .u64 (j : Int), .slice Ak 16 ck, .int .i64 u, .slice Ab n c] w fun e w' => ∃ A' c', e = .returned (.slice A' (8 + n + 16) c') ∧ RdB w' w'.heap.size A' (8 + n + 16) c' (boxS k D (be 8 j) body) ∧ Below w.heap.size w w' := by
  obtain ⟨i0, hi, hz0, hz1, hz2⟩ := info_parts info8d
  have hDs : D.size ≤ 21 := by rw [hD]; exact itoa_len u h0 h1
  have HDIG := Lib.hid (show ∀ W, Calls Tryd.prog 45 #[.int .i64 u] W fun e w' => e = .returned (.string D) ∧ Below W.heap.size W w' from fun W => by rw [hD]; exact refdigits_any u h0 h1 W)
  have hlb := hb.len
  obtain ⟨N8, hN8⟩ : ∃ q, q = be 8 j := ⟨_, rfl⟩
  have hNl : N8.length = 8 := by rw [hN8, be_len]
  obtain ⟨S, hS⟩ : ∃ S, S = subS k lE D := ⟨_, rfl⟩
  have hSl : S.length = 16 := by rw [hS, subS_len]
  obtain ⟨M, hM⟩ : ∃ S, S = subS k lM D := ⟨_, rfl⟩
  obtain ⟨H, hH⟩ : ∃ H, H = hidS k D N8 body := ⟨_, rfl⟩
  have hHl : H.length = n := by rw [hH, hidS_len, hlb]
  obtain ⟨C, hC⟩ : ∃ C, C = codS k D (N8 ++ H) := ⟨_, rfl⟩
  have hres : boxS k D N8 body = (N8 ++ H) ++ C := by rw [boxS, txtS, ← hH, ← hC]
  have HBODY := Lib.hid (show ∀ W, Below w.heap.size w W → RdB W W.heap.size Ab n c body from fun W h => hb.on h)
  have HDER := Lib.hid (show ∀ (l : ByteArray) (A1 : Option Addr) (c1 : Nat) (W : World), l.size ≤ 100 → Below w.heap.size w W → Rd W W.heap.size A1 64 c1 (shaK.map wv) → Calls Tryd.prog 15 #[.slice A1 64 c1, .slice Ak 16 ck, .string (l ++ D)] W fun e w' => ∃ A' c', e = .returned (.slice A' 16 c') ∧ RdB w' w'.heap.size A' 16 c' (subS k l D) ∧ Below W.heap.size W w' from fun l A1 c1 W hl h hc => by
    have := refderive_new A1 Ak c1 16 ck k (l ++ D) W hc (hk.on h) (by omega) (by rw [ByteArray.size_append]; omega)
    rw [strL_app] at this
    exact this)
  have HSU := Lib.hid (show ∀ (A1 Am At : Option Addr) (c1 cm ct : Nat) (W : World), Rd W W.heap.size A1 64 c1 (shaK.map wv) → RdB W W.heap.size Am 16 cm M → RdB W W.heap.size At (8 + n) ct (N8 ++ H) → Calls Tryd.prog 11 #[.slice A1 64 c1, .slice Am 16 cm, .slice At (8 + n) ct] W fun e w' => ∃ A' c', e = .returned (.slice A' 32 c') ∧ 16 ≤ c' ∧ RdB w' w'.heap.size A' 16 c' C ∧ Below W.heap.size W w' from fun A1 Am At c1 cm ct W hc hm ht =>
    (refsum_own A1 Am At c1 16 cm (8 + n) ct M (N8 ++ H) W hc hm ht (by omega) (by omega)).mono fun e w' ⟨A', c', he, ho, hbl⟩ => by
      have hr := Rd.of_own ho
      have hrm := hr.room
      have hf := Rd.front (k := 16) hr (by omega)
      rw [← List.map_take] at hf
      exact ⟨A', c', he, by omega, by rw [hC, codS, ← hM]; exact hf, hbl⟩)
  have HSTR := Lib.hid (show ∀ (B A1 A2 : Option Addr) (cb c1 c2 : Nat) (W : World), Below w.heap.size w W → RdB W W.heap.size B 256 cb (row sbN 256) → RdB W W.heap.size A1 16 c1 S → RdB W W.heap.size A2 16 c2 (row (at_ N8) 16) → Calls Tryd.prog 46 #[.slice B 256 cb, .slice A1 16 c1, .slice A2 16 c2, .slice Ab n c] W fun e w' => ∃ A' c', e = .returned (.slice A' n c') ∧ RdB w' w'.heap.size A' n c' H ∧ Below W.heap.size W w' from fun B A1 A2 cb c1 c2 W h hB hA1 hA2 =>
    (refstream_new B A1 A2 Ab cb c1 c2 n c (at_ S) (at_ N8) body W hB (by rw [row_of S hSl]; exact hA1) hA2 (hb.on h) (by omega)).mono fun e w' ⟨A', c', he, hn⟩ => ⟨A', c', he, by rw [hH, hidS, ← hS]; exact hn.rd, hn.bl⟩)
  have hsM : (⟨#[109]⟩ : ByteArray).size = 1 := rfl
  have hsE : (⟨#[101]⟩ : ByteArray).size = 1 := rfl
  have HNL := Lib.hid hNl
  have HML := Lib.hid (And.intro hM hS)
  have HRES := Lib.hid hres
  have HN8 := Lib.hid hN8
  have hrb := hb.room
  rw [← hN8]
  clear hk hb hD hS hM hNl hSl hH hC hres hN8 hlb
  go_enter Tryd.func22, Tryd.ntmps22
  go_wp2_with fail
  refine (ks_own w).mono ?_
  rintro e w1 ⟨A1, c1, rfl, ho1, hb1⟩
  have HO1 := Lib.hid (Rd.of_own ho1)
  have HB1 := Lib.hid hb1
  have HC1 := Lib.hid (show ∀ W, Below w1.heap.size w1 W → Rd W W.heap.size A1 64 c1 (shaK.map wv) from fun W h => (HO1.out.below h).more h.size)
  clear ho1 hb1
  go_wp2_with fail
  refine (rput_new j _ hj).mono ?_
  rintro e w2 ⟨A2, c2, rfl, hn2⟩
  have hrd2 := hn2.rd
  rw [← HN8.out] at hrd2
  have HN2 := Lib.hid (show ∀ W, Below w2.heap.size w2 W → RdB W W.heap.size A2 8 c2 N8 from fun W h => hrd2.on h)
  have HB2 := Lib.hid hn2.bl
  clear hn2 hrd2
  go_wp2_with fail
  refine (HDIG.out _).mono ?_
  rintro e w3 ⟨rfl, hb3⟩
  have HB3' := Lib.hid (below_seq HB2.out hb3)
  have HB23 := Lib.hid hb3
  clear hb3
  go_wp2_with fail
  refine (HDER.out ⟨#[101]⟩ A1 c1 _ (by decide) (below_seq HB1.out HB3'.out) (HC1.out _ HB3'.out)).mono ?_
  rintro e w4 ⟨Ae, ce, rfl, he4, hb4⟩
  have hE4 : RdB w4 w4.heap.size Ae 16 ce S := by rw [HML.out.2]; exact he4
  have HE4 := Lib.hid (show ∀ W, Below w4.heap.size w4 W → RdB W W.heap.size Ae 16 ce S from fun W h => hE4.on h)
  have HB24 := Lib.hid (below_seq HB23.out hb4)
  have HB4' := Lib.hid (below_seq HB3'.out hb4)
  clear he4 hE4 hb4
  go_wp2_with fail
  refine (HDIG.out _).mono ?_
  rintro e w5 ⟨rfl, hb5⟩
  have HB45 := Lib.hid hb5
  have HB5' := Lib.hid (below_seq HB4'.out hb5)
  clear hb5
  go_wp2_with fail
  refine (HDER.out ⟨#[109]⟩ A1 c1 _ (by decide) (below_seq HB1.out HB5'.out) (HC1.out _ HB5'.out)).mono ?_
  rintro e w6 ⟨Am, cm, rfl, hm6, hb6⟩
  have hM6 : RdB w6 w6.heap.size Am 16 cm M := by rw [HML.out.1]; exact hm6
  have HM6 := Lib.hid (show ∀ W, Below w6.heap.size w6 W → RdB W W.heap.size Am 16 cm M from fun W h => hM6.on h)
  have HB46 := Lib.hid (below_seq HB45.out hb6)
  have HB26 := Lib.hid (below_seq HB24.out HB46.out)
  have HB16 := Lib.hid (below_seq HB5'.out hb6)
  have HB6 := Lib.hid (below_seq HB1.out HB16.out)
  have HN6 := Lib.hid (HN2.out _ HB26.out)
  clear hm6 hM6 hb6
  go_wp2_with (at_builtin; first
    | (refine wpList_app _ rfl (.tmp 30) (.tmp 31) 22 rfl w6.heap.size 5 i0 _ 1 Tryd.underlying22 hi hz0 hz1 hz2 rfl _ 0 _ rfl (own_new w6 (Nat.le_refl _) rfl (by omega)) _ A2 8 c2 _ rfl (RdB.lit HN6.out _) (bv_one _) (by omega) (by omega) (by simp) ?_; intro A3 c3 v2 hown2 hg2 hat2; have hbl2 := below_lit (Below.refl _ _) hg2; simp only [Nat.zero_add, List.nil_append] at hown2)
    | (refine wpList_app _ rfl (.tmp 32) (.tmp 33) 22 rfl w6.heap.size 5 i0 _ 1 Tryd.underlying22 hi hz0 hz1 hz2 rfl _ 8 _ rfl (hown2.alloc _) _ (some ⟨v2.heap.size, 0, none⟩) 8 8 ((List.replicate 8 (0 : UInt8)).map bv) rfl (rd_cells v2 rfl rfl rfl (by omega)) (bv_one _) (by omega) (by omega) (by have := hbl2.size; simp; omega) ?_; intro Af cf v3 hown3 hg3 hat3; have hbl3 := below_own hbl2 hown2 (Nat.le_refl _) hg3)
    | (refine wpList_app _ rfl (.tmp 35) (.tmp 36) 22 rfl v3.heap.size 5 i0 _ 1 Tryd.underlying22 hi hz0 hz1 hz2 rfl _ 0 _ rfl (own_new v3 (Nat.le_refl _) rfl (by omega)) _ A2 8 c2 _ rfl (RdB.lit (HN6.out.on hbl3) _) (bv_one _) (by omega) (by omega) (by simp) ?_; intro A4 c4 v4 hown4 hg4 hat4; have hbl4 := below_lit (Below.refl _ _) hg4; simp only [Nat.zero_add, List.nil_append] at hown4))
  rw [← List.map_append, first_row N8 HNL.out] at hown3
  have hf3 : RdB v3 v3.heap.size Af 16 cf (row (at_ N8) 16) := Rd.of_own hown3
  have HF3 := Lib.hid (show ∀ W, Below v3.heap.size v3 W → RdB W W.heap.size Af 16 cf (row (at_ N8) 16) from fun W h => hf3.on h)
  have HBL3 := Lib.hid hbl3
  have HBL4 := Lib.hid hbl4
  have HO4 := Lib.hid hown4
  clear hown3 hg3 hat3 hbl3 hown2 hg2 hat2 hbl2 hf3 hown4 hg4 hat4 hbl4
  refine (boxes_own _).mono ?_
  rintro e wx ⟨Ax, cx, rfl, hox, hbx⟩
  have HX := Lib.hid (Rd.of_own hox)
  have HO4x := Lib.hid (own_on HO4.out hbx)
  have HBX := Lib.hid (below_seq HBL4.out hbx)
  clear hox hbx
  go_wp2_with fail
  refine (HSTR.out _ _ _ _ _ _ _ (below_seq HB6.out (below_seq HBL3.out HBX.out)) HX.out (HE4.out _ (below_seq HB46.out (below_seq HBL3.out HBX.out))) (HF3.out _ HBX.out)).mono ?_
  rintro e wy ⟨Ay, cy, rfl, hry, hby⟩
  have HRY := Lib.hid hry
  have HO4y := Lib.hid (own_on HO4x.out hby)
  have HBY := Lib.hid (below_seq HBX.out hby)
  clear hry hby
  go_wp2_with (at_builtin; refine wpList_app _ rfl (.tmp 37) (.tmp 42) 22 rfl v3.heap.size 5 i0 _ 1 Tryd.underlying22 hi hz0 hz1 hz2 rfl _ 8 _ rfl HO4y.out _ Ay n cy (H.map bv) rfl HRY.out (bv_one H) (by omega) (by omega) HBY.out.size ?_; intro A5 c5 v5 hown5 hg5 hat5)
  have hbl5 := below_grow HBY.out HO4y.out (Nat.le_refl _) hg5
  rw [← List.map_append] at hown5
  have HO5 := Lib.hid hown5
  have HB5L := Lib.hid hbl5
  have HT5 := Lib.hid (show RdB v5 v5.heap.size A5 (8 + n) c5 (N8 ++ H) from Rd.of_own hown5)
  clear hown5 hg5 hat5 hbl5
  go_wp2_with fail
  refine (HSU.out A1 Am A5 c1 cm c5 v5 (HC1.out _ (below_seq HB16.out (below_seq HBL3.out HB5L.out))) (HM6.out _ (below_seq HBL3.out HB5L.out)) HT5.out).mono ?_
  rintro e wz ⟨Az, cz, rfl, hcz, hrz, hbz⟩
  have hcut16 := front16 Az 32 cz hcz
  have HRZ := Lib.hid hrz
  have HO5z := Lib.hid (own_on HO5.out hbz)
  have HBZ := Lib.hid (below_seq HB5L.out hbz)
  clear hrz hbz
  go_wp2_with (at_builtin; refine wpList_app _ rfl (.tmp 44) (.tmp 49) 22 rfl v3.heap.size 5 i0 _ 1 Tryd.underlying22 hi hz0 hz1 hz2 rfl _ (8 + n) _ rfl HO5z.out _ Az 16 cz (C.map bv) rfl HRZ.out (bv_one C) (by omega) (by omega) HBZ.out.size ?_; intro A6 c6 v6 hown6 hg6 hat6)
  have hbl6 := below_grow HBZ.out HO5z.out (Nat.le_refl _) hg6
  rw [← List.map_append, ← HRES.out] at hown6
  have HR6 := Lib.hid (show RdB v6 v6.heap.size A6 (8 + n + 16) c6 (boxS k D N8 body) from Rd.of_own hown6)
  have HBE := Lib.hid (below_seq HB6.out (below_seq HBL3.out hbl6))
  clear hown6 hg6 hat6 hbl6
  go_wp2_with fail
  go_ret
  exact ⟨A6, c6, rfl, HR6.out, HBE.out⟩
end Go.Proofs.YtgebdkbbdabomaaDoor.Seal
