/-
  THE CONTRACT of the document's block, of layer 3.
-/
import Derived.Test.YtgebdkbbdabomaaDoorShry
import Derived.Deep.RegionHeldLaw
import Derived.Deep.Onto
namespace Go.Proofs.YtgebdkbbdabomaaDoor.Sha
open Go.RowKit
open Go.Proofs.YtgebdkbbdabomaaDoor.Kit
set_option linter.unusedVariables false

theorem info32 : (Tryd.prog.info? 63).map (fun i => (i.zero, i.size, i.bytes)) = some (some (.int .u32 0), 1, 4) := by kernel_rfl
theorem wv_at {L : List UInt32} {p : Nat} (h : p < L.length) : (L.map wv)[p]? = some (wv (wd L p)) := by
  rw [List.getElem?_map, List.getElem?_eq_getElem h, wd, List.getD_eq_getElem?_getD, List.getElem?_eq_getElem h]; rfl
theorem wv_one (L : List UInt32) : ∀ u ∈ L.map wv, u.oneCell' = true := by
  intro u hu
  obtain ⟨b, _, rfl⟩ := List.mem_map.1 hu
  rfl
theorem bv_at {L : List UInt8} {p : Nat} (h : p < L.length) : (L.map bv)[p]? = some (.int .u8 (((L.getD p 0).toNat : Nat) : Int)) := by
  rw [List.getElem?_map, List.getElem?_eq_getElem h, List.getD_eq_getElem?_getD, List.getElem?_eq_getElem h]; rfl

theorem sh_nm {x : UInt8} {c : Nat} {y : UInt32} (h : y = UInt32.ofNat (x.toNat * c)) : IntKind.u32.wrap (IntKind.u32.wrap (x.toNat : Int) * (c : Int)) = wi y := by
  have hx := x.toNat_lt
  rw [h, wi, UInt32.toNat_ofNat', IntKind.wrap_u32', IntKind.wrap_u32', show (2 : Nat) ^ 32 = 4294967296 from rfl, Int.natCast_emod, Int.natCast_mul, Int.emod_eq_of_lt (show (0 : Int) ≤ (x.toNat : Int) by omega) (by omega)]
  rfl
theorem sh_nm0 {x : UInt8} {y : UInt32} (h : y = UInt32.ofNat x.toNat) : IntKind.u32.wrap (x.toNat : Int) = wi y := by
  rw [h, wi, UInt32.toNat_ofNat', IntKind.wrap_u32', show (2 : Nat) ^ 32 = 4294967296 from rfl, Int.natCast_emod]
  rfl
theorem take4 (b : List UInt8) (i : Nat) (h : i + 3 < b.length) : (b.drop i).take 4 = [b.getD i 0, b.getD (i + 1) 0, b.getD (i + 2) 0, b.getD (i + 3) 0] := by
  simp only [List.getD_eq_getElem?_getD, List.getElem?_eq_getElem (show i < b.length by omega), List.getElem?_eq_getElem (show i + 1 < b.length by omega), List.getElem?_eq_getElem (show i + 2 < b.length by omega), List.getElem?_eq_getElem (show i + 3 < b.length by omega), Option.getD_some]
  rw [List.drop_eq_getElem_cons (by omega), List.drop_eq_getElem_cons (show i + 1 < b.length by omega), List.drop_eq_getElem_cons (show i + 1 + 1 < b.length by omega), List.drop_eq_getElem_cons (show i + 1 + 1 + 1 < b.length by omega)]
  rfl
theorem or_sum (a b c d : Nat) (_ : a < 256) (hb : b < 256) (hc : c < 256) (hd : d < 256) : a * 16777216 ||| b * 65536 ||| c * 256 ||| d = ((a * 256 + b) * 256 + c) * 256 + d := by
  have h1 := Nat.two_pow_add_eq_or_of_lt (i := 24) (b := b * 65536) (by omega) a
  have h2 := Nat.two_pow_add_eq_or_of_lt (i := 16) (b := c * 256) (by omega) (a * 256 + b)
  have h3 := Nat.two_pow_add_eq_or_of_lt (i := 8) (b := d) (by omega) ((a * 256 + b) * 256 + c)
  have p24 : (2 : Nat) ^ 24 = 16777216 := by decide
  have p16 : (2 : Nat) ^ 16 = 65536 := by decide
  have p8 : (2 : Nat) ^ 8 = 256 := by decide
  have e1 : a * 16777216 = 2 ^ 24 * a := by omega
  have e2 : 2 ^ 24 * a + b * 65536 = 2 ^ 16 * (a * 256 + b) := by omega
  have e3 : 2 ^ 16 * (a * 256 + b) + c * 256 = 2 ^ 8 * ((a * 256 + b) * 256 + c) := by omega
  rw [e1, ← h1, e2, ← h2, e3, ← h3, p8, Nat.mul_comm]
theorem word_or (b : List UInt8) (k p0 p1 p2 p3 : Nat) (h0 : p0 = 4 * k) (h1 : p1 = p0 + 1) (h2 : p2 = p0 + 2) (h3 : p3 = p0 + 3) (hl : p3 < b.length) :
    word b k = UInt32.ofNat ((b.getD p0 0).toNat * 16777216) ||| UInt32.ofNat ((b.getD p1 0).toNat * 65536) ||| UInt32.ofNat ((b.getD p2 0).toNat * 256) ||| UInt32.ofNat (b.getD p3 0).toNat := by
  subst h0 h1 h2 h3
  rw [word, take4 b _ hl]
  generalize b.getD (4 * k) 0 = x0
  generalize b.getD (4 * k + 1) 0 = x1
  generalize b.getD (4 * k + 2) 0 = x2
  generalize b.getD (4 * k + 3) 0 = x3
  have l0 := x0.toNat_lt
  have l1 := x1.toNat_lt
  have l2 := x2.toNat_lt
  have l3 := x3.toNat_lt
  apply UInt32.toNat_inj.1
  rw [UInt32.toNat_or, UInt32.toNat_or, UInt32.toNat_or, UInt32.toNat_ofNat', UInt32.toNat_ofNat', UInt32.toNat_ofNat', UInt32.toNat_ofNat', UInt32.toNat_ofNat', show (2 : Nat) ^ 32 = 4294967296 from rfl]
  rw [Nat.mod_eq_of_lt (show x0.toNat * 16777216 < 4294967296 by omega), Nat.mod_eq_of_lt (show x1.toNat * 65536 < 4294967296 by omega), Nat.mod_eq_of_lt (show x2.toNat * 256 < 4294967296 by omega), Nat.mod_eq_of_lt (show x3.toNat < 4294967296 by omega), or_sum _ _ _ _ l0 l1 l2 l3]
  simp only [num, List.foldl_cons, List.foldl_nil]
  omega
theorem w_div8 (x : UInt32) : wi x / (8 : Int) = wi (x >>> 3) := w_shr x 3 8 (by decide) (by decide)
theorem w_div1024 (x : UInt32) : wi x / (1024 : Int) = wi (x >>> 10) := w_shr x 10 1024 (by decide) (by decide)
/-- the eight variables hold what the rounds have come to -/
def RunRel (ws : List UInt32) (v : S8) (m : Nat) (a b c d e f g h : Value) : Prop :=
  a = .int .u32 (wi (runS ws v m).a) ∧ b = .int .u32 (wi (runS ws v m).b) ∧ c = .int .u32 (wi (runS ws v m).c) ∧ d = .int .u32 (wi (runS ws v m).d) ∧ e = .int .u32 (wi (runS ws v m).e) ∧ f = .int .u32 (wi (runS ws v m).f) ∧ g = .int .u32 (wi (runS ws v m).g) ∧ h = .int .u32 (wi (runS ws v m).h)
theorem RunRel.zero (ws : List UInt32) (v : S8) : RunRel ws v 0 (.int .u32 (wi v.a)) (.int .u32 (wi v.b)) (.int .u32 (wi v.c)) (.int .u32 (wi v.d)) (.int .u32 (wi v.e)) (.int .u32 (wi v.f)) (.int .u32 (wi v.g)) (.int .u32 (wi v.h)) := by
  unfold RunRel; rw [runS_zero]; exact ⟨rfl, rfl, rfl, rfl, rfl, rfl, rfl, rfl⟩
theorem RunRel.of {ws : List UInt32} {v : S8} {m : Nat} {a b c d e f g h : UInt32} (hr : runS ws v m = ⟨a, b, c, d, e, f, g, h⟩) : RunRel ws v m (.int .u32 (wi a)) (.int .u32 (wi b)) (.int .u32 (wi c)) (.int .u32 (wi d)) (.int .u32 (wi e)) (.int .u32 (wi f)) (.int .u32 (wi g)) (.int .u32 (wi h)) := by
  unfold RunRel; rw [hr]; exact ⟨rfl, rfl, rfl, rfl, rfl, rfl, rfl, rfl⟩
attribute [local go_sem] w_xor w_and w_or w_add w_not w_div8 w_div1024
set_option maxRecDepth 100000 in
set_option maxHeartbeats 16000000 in
theorem block_own (Ah Ab Ak : Option Addr) (ch cb ck : Nat) (v : S8) (b : List UInt8) (w : World) (hh : Rd w w.heap.size Ah 8 ch (v.list.map wv)) (hb : RdB w w.heap.size Ab 64 cb b) (hk : Rd w w.heap.size Ak 64 ck (shaK.map wv)) :
    Calls Tryd.prog 48 #[.slice Ah 8 ch, .slice Ab 64 cb, .slice Ak 64 ck] w fun e w' => ∃ g, e = .returned (.slice (some ⟨g, 0, none⟩) 8 8) ∧ Rd w' w'.heap.size (some ⟨g, 0, none⟩) 8 8 ((comp v b).list.map wv) ∧ Below w.heap.size w w' := by
  obtain ⟨va, vb, vc, vd, ve, vf, vg, vh⟩ := v
  obtain ⟨i0, hi, hz0, hz1, hz2⟩ := info_parts info32
  have hbl := hb.len
  have hrb := hb.room
  have hrh := hh.room
  have hrk := hk.room
  obtain ⟨bb, ob, rfl, hbb, hcb⟩ := hb.2.2.2 (by omega)
  obtain ⟨bh, oh, rfl, hbh, hch⟩ := hh.2.2.2 (by omega)
  obtain ⟨bk, ok, rfl, hbk, hck⟩ := hk.2.2.2 (by omega)
  have HCB := Lib.hid (show ∀ W, Below w.heap.size w W → ∀ j, j < 64 → W.cell? ⟨bb, ob + j, none⟩ = some (.int .u8 (((b.getD j 0).toNat : Nat) : Int)) from fun W h j hj => (h.cell (p := ⟨bb, ob + j, none⟩) hbb).trans (hcb j _ (bv_at (by omega))))
  have HCH := Lib.hid (show ∀ W, Below w.heap.size w W → ∀ j, j < 8 → W.cell? ⟨bh, oh + j, none⟩ = some (.int .u32 (wi (wd [va, vb, vc, vd, ve, vf, vg, vh] j))) from fun W h j hj => (h.cell (p := ⟨bh, oh + j, none⟩) hbh).trans (hch j _ (wv_at (show j < 8 by omega))))
  have HCK := Lib.hid (show ∀ W, Below w.heap.size w W → ∀ j, j < 64 → W.cell? ⟨bk, ok + j, none⟩ = some (.int .u32 (wi (wd shaK j))) from fun W h j hj => (h.cell (p := ⟨bk, ok + j, none⟩) hbk).trans (hck j _ (wv_at (show j < 64 by omega))))
  clear hh hb hk hcb hch hck
  go_enter Tryd.func48, Tryd.ntmps48
  go_wp2_with fail
  go_loopw [7, 8, 9, 10] (fun s i _ _ wr => ∃ (k : Nat) (A : Option Addr) (c : Nat), k ≤ 64 ∧ i = .int .i64 (k : Int) ∧ s = .slice A k c ∧ wr.ownsRow w.heap.size 63 1 (.slice A k c) k ((sched b k).map wv) ∧ Below w.heap.size w wr) (fun _ i _ _ _ => 64 - (intOf i).toNat)
  case atStart => exact ⟨0, _, _, by omega, rfl, rfl, by rw [sched_zero]; exact own_new w (Nat.le_refl _) rfl (by omega), below_of_new w _⟩
  case round =>
    obtain ⟨k, A, c, hk, rfl, rfl, hown, hbw⟩ := hrel
    by_cases hlt : k < 64
    · have t1 : decide ((k : Int) < 64) = true := by rw [decide_eq_true_iff]; omega
      by_cases h16 : k < 16
      · have t2 : decide ((k : Int) < 16) = true := by rw [decide_eq_true_iff]; omega
        obtain ⟨p0, hp0⟩ : ∃ z, z = 4 * k := ⟨_, rfl⟩
        obtain ⟨p1, hp1⟩ : ∃ z, z = p0 + 1 := ⟨_, rfl⟩
        obtain ⟨p2, hp2⟩ : ∃ z, z = p0 + 2 := ⟨_, rfl⟩
        obtain ⟨p3, hp3⟩ : ∃ z, z = p0 + 3 := ⟨_, rfl⟩
        obtain ⟨x0, hx0⟩ : ∃ z, z = b.getD p0 0 := ⟨_, rfl⟩
        obtain ⟨x1, hx1⟩ : ∃ z, z = b.getD p1 0 := ⟨_, rfl⟩
        obtain ⟨x2, hx2⟩ : ∃ z, z = b.getD p2 0 := ⟨_, rfl⟩
        obtain ⟨x3, hx3⟩ : ∃ z, z = b.getD p3 0 := ⟨_, rfl⟩
        have e0 : IntKind.i64.wrap (4 * (k : Int)) = (p0 : Int) := by rw [IntKind.wrap_i64]; omega
        have e1 : IntKind.i64.wrap ((p0 : Int) + 1) = (p1 : Int) := by rw [IntKind.wrap_i64]; omega
        have e2 : IntKind.i64.wrap ((p0 : Int) + 2) = (p2 : Int) := by rw [IntKind.wrap_i64]; omega
        have e3 : IntKind.i64.wrap ((p0 : Int) + 3) = (p3 : Int) := by rw [IntKind.wrap_i64]; omega
        have l0 : (p0 : Int) < 64 := by omega
        have l1 : (p1 : Int) < 64 := by omega
        have l2 : (p2 : Int) < 64 := by omega
        have l3 : (p3 : Int) < 64 := by omega
        obtain ⟨y0, hy0⟩ : ∃ z, z = UInt32.ofNat (x0.toNat * 16777216) := ⟨_, rfl⟩
        obtain ⟨y1, hy1⟩ : ∃ z, z = UInt32.ofNat (x1.toNat * 65536) := ⟨_, rfl⟩
        obtain ⟨y2, hy2⟩ : ∃ z, z = UInt32.ofNat (x2.toNat * 256) := ⟨_, rfl⟩
        obtain ⟨y3, hy3⟩ : ∃ z, z = UInt32.ofNat x3.toNat := ⟨_, rfl⟩
        have f0 : IntKind.u32.wrap (IntKind.u32.wrap (x0.toNat : Int) * 16777216) = wi y0 := sh_nm (c := 16777216) hy0
        have f1 : IntKind.u32.wrap (IntKind.u32.wrap (x1.toNat : Int) * 65536) = wi y1 := sh_nm (c := 65536) hy1
        have f2 : IntKind.u32.wrap (IntKind.u32.wrap (x2.toNat : Int) * 256) = wi y2 := sh_nm (c := 256) hy2
        have f3 := sh_nm0 hy3
        have hword : word b k = y0 ||| y1 ||| y2 ||| y3 := by
          rw [hy0, hy1, hy2, hy3, hx0, hx1, hx2, hx3]; exact word_or b k p0 p1 p2 p3 hp0 hp1 hp2 hp3 (by omega)
        have HWD := Lib.hid hword
        have HS := Lib.hid (show ∀ W, Below w.heap.size w W → (W.cell? ⟨bb, ob + p0, none⟩ = some (.int .u8 ((x0.toNat : Nat) : Int)) ∧ W.cell? ⟨bb, ob + p1, none⟩ = some (.int .u8 ((x1.toNat : Nat) : Int)) ∧ W.cell? ⟨bb, ob + p2, none⟩ = some (.int .u8 ((x2.toNat : Nat) : Int)) ∧ W.cell? ⟨bb, ob + p3, none⟩ = some (.int .u8 ((x3.toNat : Nat) : Int))) from fun W h => by
          rw [hx0, hx1, hx2, hx3]
          exact ⟨HCB.out W h p0 (by omega), HCB.out W h p1 (by omega), HCB.out W h p2 (by omega), HCB.out W h p3 (by omega)⟩)
        have HOWN := Lib.hid hown
        have HBW := Lib.hid hbw
        have hbd : Below w.heap.size w wr.drew := below_drew' hbw
        have HX := Lib.hid (And.intro hx0 (And.intro hx1 (And.intro hx2 hx3)))
        have HP := Lib.hid (And.intro hp0 (And.intro hp1 (And.intro hp2 hp3)))
        clear hown hbw hx0 hx1 hx2 hx3 hp0 hp1 hp2 hp3 hy0 hy1 hy2 hy3 hword
        go_wp2_with fail
        go_region_held_law (fun W => W.cell? ⟨bb, ob + p0, none⟩ = some (.int .u8 ((x0.toNat : Nat) : Int)) ∧ W.cell? ⟨bb, ob + p1, none⟩ = some (.int .u8 ((x1.toNat : Nat) : Int)) ∧ W.cell? ⟨bb, ob + p2, none⟩ = some (.int .u8 ((x2.toNat : Nat) : Int)) ∧ W.cell? ⟨bb, ob + p3, none⟩ = some (.int .u8 ((x3.toNat : Nat) : Int)))
          (first | exact HS.out _ (by assumption) | exact HS.out _ (below_alloc (by assumption) _)) ((refine wp_app _ (.tmp 29) (.tmp 63) 27 rfl w.heap.size 63 i0 _ 4 Tryd.underlying27 hi hz0 hz1 hz2 rfl _ k _ rfl (own_on HOWN.out (below_drew' (below_of_new _ _))) _ (some ⟨wr.heap.size, 0, none⟩) 1 1 [wv (y0 ||| y1 ||| y2 ||| y3)] rfl (Rd.below (rd_cells wr rfl rfl rfl (by omega)) (below_of_drew ⟨1, rfl⟩ _)) (wv_one [y0 ||| y1 ||| y2 ||| y3]) (by omega) (by omega) (by have := HBW.out.size; simp; omega) ?_; intro v3 w3 hown3 hg3 hat3; obtain ⟨A2, c2, rfl⟩ := own_form hown3; have hb3 : Below w.heap.size w w3 := (below_drew' (below_alloc HBW.out _)).grown hg3 (by have := HBW.out.size; simp; omega) (fun j hj => by have := (HOWN.out.lt j hj).1; omega)))
        have hrow : (sched b k).map wv ++ [wv (y0 ||| y1 ||| y2 ||| y3)] = (sched b (k + 1)).map wv := by rw [sched_succ, if_pos h16, HWD.out, List.map_append]; rfl
        have hown3' := hown3
        rw [hrow] at hown3'
        clear hown3 hg3 hat3 hrow
        go_wp2_with fail
        exact ⟨⟨k + 1, A2, c2, by omega, by go_num, rfl, hown3', hb3⟩, by simp [intOf] <;> omega⟩
      · have t2 : decide ((k : Int) < 16) = false := by rw [decide_eq_false_iff_not]; omega
        obtain ⟨g, rfl⟩ : ∃ g, A = some ⟨g, 0, none⟩ := by
          rcases own_cases hown with ⟨_, _, h⟩ | h
          · omega
          · exact h
        obtain ⟨L, hL⟩ : ∃ L, L = sched b k := ⟨_, rfl⟩
        have hLl : L.length = k := by rw [hL, sched_len]
        obtain ⟨q15, hq15⟩ : ∃ z, z = k - 15 := ⟨_, rfl⟩
        obtain ⟨q2, hq2⟩ : ∃ z, z = k - 2 := ⟨_, rfl⟩
        obtain ⟨q16, hq16⟩ : ∃ z, z = k - 16 := ⟨_, rfl⟩
        obtain ⟨q7, hq7⟩ : ∃ z, z = k - 7 := ⟨_, rfl⟩
        have e15 : (k : Int) - 15 = (q15 : Int) := by omega
        have e2 : (k : Int) - 2 = (q2 : Int) := by omega
        have e16 : (k : Int) - 16 = (q16 : Int) := by omega
        have e7 : (k : Int) - 7 = (q7 : Int) := by omega
        have w16 : IntKind.i64.wrap (q16 : Int) = (q16 : Int) := by rw [IntKind.wrap_i64]; omega
        have w7 : IntKind.i64.wrap (q7 : Int) = (q7 : Int) := by rw [IntKind.wrap_i64]; omega
        have l16 : (q16 : Int) < (k : Int) := by omega
        have l7 : (q7 : Int) < (k : Int) := by omega
        have l15 : q15 < k := by omega
        have l2 : q2 < k := by omega
        rw [← hL] at hown
        have x15 := wv_at (L := L) (p := q15) (by omega)
        have x2 := wv_at (L := L) (p := q2) (by omega)
        have x16 := wv_at (L := L) (p := q16) (by omega)
        have x7 := wv_at (L := L) (p := q7) (by omega)
        obtain ⟨a15, ha15⟩ : ∃ z, z = wd L q15 := ⟨_, rfl⟩
        obtain ⟨a2, ha2⟩ : ∃ z, z = wd L q2 := ⟨_, rfl⟩
        obtain ⟨a16, ha16⟩ : ∃ z, z = wd L q16 := ⟨_, rfl⟩
        obtain ⟨a7, ha7⟩ : ∃ z, z = wd L q7 := ⟨_, rfl⟩
        rw [← ha15] at x15
        rw [← ha2] at x2
        rw [← ha16] at x16
        rw [← ha7] at x7
        have c15 := (own_cells hown).1 _ _ x15
        have c2 := (own_cells hown).1 _ _ x2
        have c16 := (own_cells hown).1 _ _ x16
        have c7 := (own_cells hown).1 _ _ x7
        unfold wv at c15 c2 c16 c7
        obtain ⟨V, hV⟩ : ∃ z, z = a16 + (rotr a15 7 ^^^ rotr a15 18 ^^^ (a15 >>> 3)) + a7 + (rotr a2 17 ^^^ rotr a2 19 ^^^ (a2 >>> 10)) := ⟨_, rfl⟩
        have hnx : nextW L k = V := by rw [nextW, ← hq16, ← hq15, ← hq7, ← hq2, ← ha16, ← ha15, ← ha7, ← ha2, hV]; rfl
        have hrow : (L.map wv) ++ [wv V] = (sched b (k + 1)).map wv := by rw [sched_succ, if_neg h16, ← hL, hnx, List.map_append]; rfl
        have HT7 := Lib.hid (show ∀ W : World, Calls Tryd.prog 61 #[.int .u32 (wi a15), .int .u64 7] W fun e w' => e = .returned (.int .u32 (wi (rotr a15 7))) ∧ W = w' from fun W => turn_any a15 7 7 rfl (by omega) (by omega) W)
        have HT18 := Lib.hid (show ∀ W : World, Calls Tryd.prog 61 #[.int .u32 (wi a15), .int .u64 18] W fun e w' => e = .returned (.int .u32 (wi (rotr a15 18))) ∧ W = w' from fun W => turn_any a15 18 18 rfl (by omega) (by omega) W)
        have HT17 := Lib.hid (show ∀ W : World, Calls Tryd.prog 61 #[.int .u32 (wi a2), .int .u64 17] W fun e w' => e = .returned (.int .u32 (wi (rotr a2 17))) ∧ W = w' from fun W => turn_any a2 17 17 rfl (by omega) (by omega) W)
        have HT19 := Lib.hid (show ∀ W : World, Calls Tryd.prog 61 #[.int .u32 (wi a2), .int .u64 19] W fun e w' => e = .returned (.int .u32 (wi (rotr a2 19))) ∧ W = w' from fun W => turn_any a2 19 19 rfl (by omega) (by omega) W)
        have p0 : True := trivial
        have p1 : True := trivial
        have p2 : True := trivial
        have p3 : True := trivial
        have HX := Lib.hid (And.intro x16 x7)
        have HC := Lib.hid (And.intro c16 c7)
        have HROW := Lib.hid hrow
        have HV := Lib.hid hV
        have HOWN := Lib.hid hown
        have HBW := Lib.hid hbw
        clear hown hbw hL hLl hq15 hq2 hq16 hq7 x15 x2 x16 x7 ha15 ha2 ha16 ha7 hV hnx hrow c16 c7
        go_wp2_with fail
        go_region_held_law (fun W => W.cell? ⟨g, q16, none⟩ = some (.int .u32 (wi a16)) ∧ W.cell? ⟨g, q7, none⟩ = some (.int .u32 (wi a7)))
          (first | exact HC.out | exact ⟨(World.cell?_alloc_some _ _ _ (by rw [HC.out.1]; rfl)).trans HC.out.1, (World.cell?_alloc_some _ _ _ (by rw [HC.out.2]; rfl)).trans HC.out.2⟩ | exact ⟨hkp _ _ HX.out.1, hkp _ _ HX.out.2⟩)
          (first
            | (clear p0; go_at_call 61; refine (HT7.out _).mono ?_; rintro e w' ⟨rfl, rfl⟩)
            | (clear p1; go_at_call 61; refine (HT18.out _).mono ?_; rintro e w' ⟨rfl, rfl⟩)
            | (clear p2; go_at_call 61; refine (HT17.out _).mono ?_; rintro e w' ⟨rfl, rfl⟩)
            | (clear p3; go_at_call 61; refine (HT19.out _).mono ?_; rintro e w' ⟨rfl, rfl⟩)
            | ((refine wp_app_keep (.tmp 75) (.tmp 105) 27 rfl w.heap.size 63 i0 _ 4 Tryd.underlying27 hi hz0 hz1 hz2 rfl g c k _ rfl (own_on HOWN.out (below_drew' (below_of_new _ _))) _ (some ⟨wr.heap.size, 0, none⟩) 1 1 [wv V] rfl (Rd.below (rd_cells wr rfl (by rw [HV.out]; rfl) rfl (by omega)) (below_of_drew ⟨1, rfl⟩ _)) (wv_one [V]) (by omega) (by omega) (by omega) (by have := HBW.out.size; simp; omega) ?_); intro v3 w3 hown3 hg3 hkp; obtain ⟨A2, c2, rfl⟩ := own_form hown3; have hb3 : Below w.heap.size w w3 := (below_drew' (below_alloc HBW.out _)).grown hg3 (by have := HBW.out.size; simp; omega) (fun j hj => by have := (HOWN.out.lt j hj).1; omega)))
        have hown3' := hown3
        rw [HROW.out] at hown3'
        clear hown3 hg3 hkp
        go_wp2_with fail
        exact ⟨⟨k + 1, A2, c2, by omega, by go_num, rfl, hown3', hb3⟩, by simp [intOf] <;> omega⟩
    · obtain rfl : k = 64 := by omega
      have t1 : decide (((64 : Nat) : Int) < 64) = false := by decide
      obtain ⟨g, rfl⟩ : ∃ g, A = some ⟨g, 0, none⟩ := by
        rcases own_cases hown with ⟨_, _, h⟩ | h
        · omega
        · exact h
      rw [show ((64 : Nat) : Int) = 64 from rfl]
      obtain ⟨ws, hws⟩ : ∃ z, z = sched b 64 := ⟨_, rfl⟩
      have hwl : ws.length = 64 := by rw [hws, sched_len]
      rw [← hws] at hown
      have HWS := Lib.hid (And.intro hws hwl)
      obtain ⟨W1, hW1⟩ : ∃ z, z = wr.drew := ⟨_, rfl⟩
      obtain ⟨W2, hW2⟩ : ∃ z, z = W1.drew := ⟨_, rfl⟩
      have hb1 : Below w.heap.size w W1 := by rw [hW1]; exact below_drew' hbw
      have hb2 : Below w.heap.size w W2 := by rw [hW2]; exact below_drew' hb1
      have ho2 : W2.ownsRow w.heap.size 63 1 (.slice (some ⟨g, 0, none⟩) 64 c) 64 (ws.map wv) := by rw [hW2, hW1]; exact hown
      have HB1 := Lib.hid hb1
      have HB2 := Lib.hid hb2
      have HO2 := Lib.hid ho2
      have HW1 := Lib.hid hW1
      have HW2 := Lib.hid hW2
      have HBW := Lib.hid hbw
      clear hws hwl hW1 hW2 hb1 hb2 ho2 hown hbw
      go_wp2_with fail
      have c0 : wr.cell? ⟨bh, oh, none⟩ = some (.int .u32 (wi va)) := HCH.out wr HBW.out 0 (by omega)
      have c1 : wr.cell? ⟨bh, oh + 1, none⟩ = some (.int .u32 (wi vb)) := HCH.out wr HBW.out 1 (by omega)
      have c2 : wr.cell? ⟨bh, oh + 2, none⟩ = some (.int .u32 (wi vc)) := HCH.out wr HBW.out 2 (by omega)
      have c3 : wr.cell? ⟨bh, oh + 3, none⟩ = some (.int .u32 (wi vd)) := HCH.out wr HBW.out 3 (by omega)
      refine wp_region_still_lit (by kernel_rfl) (by kernel_rfl) ?_
      repeat still_step
      refine wpStill_nil ?_
      go_wp2_with fail
      change Code.wp _ _ _ _ wr.drew
      rw [← HW1.out]
      clear c0 c1 c2 c3
      have c4 : W1.cell? ⟨bh, oh + 4, none⟩ = some (.int .u32 (wi ve)) := HCH.out W1 HB1.out 4 (by omega)
      have c5 : W1.cell? ⟨bh, oh + 5, none⟩ = some (.int .u32 (wi vf)) := HCH.out W1 HB1.out 5 (by omega)
      have c6 : W1.cell? ⟨bh, oh + 6, none⟩ = some (.int .u32 (wi vg)) := HCH.out W1 HB1.out 6 (by omega)
      have c7 : W1.cell? ⟨bh, oh + 7, none⟩ = some (.int .u32 (wi vh)) := HCH.out W1 HB1.out 7 (by omega)
      refine wp_region_still_lit (by kernel_rfl) (by kernel_rfl) ?_
      repeat still_step
      refine wpStill_nil ?_
      go_wp2_with fail
      clear c4 c5 c6 c7
      change Code.wp _ _ _ _ W1.drew
      rw [← HW2.out]
      go_loopw [11, 12, 13, 14, 15, 16, 17, 18, 19, 20, 21] (fun x11 x12 x13 x14 x15 x16 x17 x18 x19 _ _ wx => ∃ m : Nat, m ≤ 64 ∧ x19 = .int .i64 (m : Int) ∧ RunRel ws ⟨va, vb, vc, vd, ve, vf, vg, vh⟩ m x11 x12 x13 x14 x15 x16 x17 x18 ∧ wx.ownsRow w.heap.size 63 1 (.slice (some ⟨g, 0, none⟩) 64 c) 64 (ws.map wv) ∧ Below w.heap.size w wx) (fun _ _ _ _ _ _ _ _ x19 _ _ _ => 64 - (intOf x19).toNat)
      case atStart => exact ⟨0, by omega, rfl, RunRel.zero _ _, HO2.out, HB2.out⟩
      case round =>
        clear HO2 HB2 HB1 HBW
        rename World => wy
        obtain ⟨m, hm, rfl, hrun, hown, hbw⟩ := hrel
        obtain ⟨S, hS⟩ : ∃ z, z = runS ws ⟨va, vb, vc, vd, ve, vf, vg, vh⟩ m := ⟨_, rfl⟩
        obtain ⟨rfl, rfl, rfl, rfl, rfl, rfl, rfl, rfl⟩ := hrun
        rw [← hS]
        obtain ⟨sa, sb, sc, sd, se, sf, sg, sh⟩ := S
        have HS := Lib.hid hS
        have HOWN := Lib.hid hown
        have HBW := Lib.hid hbw
        clear hS
        by_cases hltm : m < 64
        · have t2 : decide ((m : Int) < 64) = true := by rw [decide_eq_true_iff]; omega
          have lm : (m : Int) < 64 := by omega
          obtain ⟨K, hK⟩ : ∃ z, z = wd shaK m := ⟨_, rfl⟩
          obtain ⟨X, hX⟩ : ∃ z, z = wd ws m := ⟨_, rfl⟩
          have ck1 := HCK.out wy hbw m hltm
          rw [← hK] at ck1
          have cx := (own_cells hown).1 m _ (wv_at (by rw [HWS.out.2]; exact hltm))
          rw [← hX] at cx
          unfold wv at cx
          obtain ⟨V1, hV1⟩ : ∃ z, z = t1of ⟨sa, sb, sc, sd, se, sf, sg, sh⟩ K X := ⟨_, rfl⟩
          obtain ⟨V2, hV2⟩ : ∃ z, z = t2of ⟨sa, sb, sc, sd, se, sf, sg, sh⟩ := ⟨_, rfl⟩
          have hnx : runS ws ⟨va, vb, vc, vd, ve, vf, vg, vh⟩ (m + 1) = ⟨V1 + V2, sa, sb, sc, sd + V1, se, sf, sg⟩ := by rw [runS_succ, ← HS.out, stepS, ← hK, ← hX, ← hV1, ← hV2]
          have HNX := Lib.hid hnx
          have HV := Lib.hid (And.intro hV1 hV2)
          have HO3 := Lib.hid (show wy.drew.ownsRow w.heap.size 63 1 (.slice (some ⟨g, 0, none⟩) 64 c) 64 (ws.map wv) from hown)
          have HB3 := Lib.hid (below_drew' hbw)
          have HT6 := Lib.hid (show ∀ W : World, Calls Tryd.prog 61 #[.int .u32 (wi se), .int .u64 6] W fun e w' => e = .returned (.int .u32 (wi (rotr se 6))) ∧ W = w' from fun W => turn_any se 6 6 rfl (by omega) (by omega) W)
          have HT11 := Lib.hid (show ∀ W : World, Calls Tryd.prog 61 #[.int .u32 (wi se), .int .u64 11] W fun e w' => e = .returned (.int .u32 (wi (rotr se 11))) ∧ W = w' from fun W => turn_any se 11 11 rfl (by omega) (by omega) W)
          have HT25 := Lib.hid (show ∀ W : World, Calls Tryd.prog 61 #[.int .u32 (wi se), .int .u64 25] W fun e w' => e = .returned (.int .u32 (wi (rotr se 25))) ∧ W = w' from fun W => turn_any se 25 25 rfl (by omega) (by omega) W)
          have HT2 := Lib.hid (show ∀ W : World, Calls Tryd.prog 61 #[.int .u32 (wi sa), .int .u64 2] W fun e w' => e = .returned (.int .u32 (wi (rotr sa 2))) ∧ W = w' from fun W => turn_any sa 2 2 rfl (by omega) (by omega) W)
          have HT13 := Lib.hid (show ∀ W : World, Calls Tryd.prog 61 #[.int .u32 (wi sa), .int .u64 13] W fun e w' => e = .returned (.int .u32 (wi (rotr sa 13))) ∧ W = w' from fun W => turn_any sa 13 13 rfl (by omega) (by omega) W)
          have HT22 := Lib.hid (show ∀ W : World, Calls Tryd.prog 61 #[.int .u32 (wi sa), .int .u64 22] W fun e w' => e = .returned (.int .u32 (wi (rotr sa 22))) ∧ W = w' from fun W => turn_any sa 22 22 rfl (by omega) (by omega) W)
          clear hK hX hV1 hV2 hnx hown hbw
          go_wp2_with fail
          refine wp_region_still_lit (by kernel_rfl) (by kernel_rfl) ?_
          repeat still_step
          still_call ((HT6.out _).mono (fun e w' h => ⟨h.1, h.2.symm⟩))
          repeat still_step
          still_call ((HT11.out _).mono (fun e w' h => ⟨h.1, h.2.symm⟩))
          repeat still_step
          still_call ((HT25.out _).mono (fun e w' h => ⟨h.1, h.2.symm⟩))
          repeat still_step
          refine wpStill_nil ?_
          go_wp2_with fail
          refine (HT2.out _).mono ?_
          rintro e wz ⟨rfl, rfl⟩
          go_wp2_with fail
          refine (HT13.out _).mono ?_
          rintro e wz ⟨rfl, rfl⟩
          go_wp2_with fail
          refine (HT22.out _).mono ?_
          rintro e wz ⟨rfl, rfl⟩
          go_wp2_with fail
          refine ⟨⟨m + 1, by omega, by go_num, ?_, HO3.out, HB3.out⟩, by simp [intOf] <;> omega⟩
          have hv := HV.out
          exact RunRel.of (by rw [HNX.out, hv.1, hv.2]; rfl)
        · obtain rfl : m = 64 := by omega
          have t2 : decide (((64 : Nat) : Int) < 64) = false := by decide
          have hcomp : comp ⟨va, vb, vc, vd, ve, vf, vg, vh⟩ b = ⟨sa + va, sb + vb, sc + vc, sd + vd, se + ve, sf + vf, sg + vg, sh + vh⟩ := by rw [comp_eq, ← HWS.out.1, ← HS.out]; rfl
          have hlist : (comp ⟨va, vb, vc, vd, ve, vf, vg, vh⟩ b).list.map wv = [wv (va + sa), wv (vb + sb), wv (vc + sc), wv (vd + sd), wv (ve + se), wv (vf + sf), wv (vg + sg), wv (vh + sh)] := by
            rw [hcomp, UInt32.add_comm sa, UInt32.add_comm sb, UInt32.add_comm sc, UInt32.add_comm sd, UInt32.add_comm se, UInt32.add_comm sf, UInt32.add_comm sg, UInt32.add_comm sh]; rfl
          have HLIST := Lib.hid hlist
          have HBD := Lib.hid (below_drew' hbw)
          have c0 : wy.cell? ⟨bh, oh, none⟩ = some (.int .u32 (wi va)) := HCH.out wy hbw 0 (by omega)
          have c1 : wy.cell? ⟨bh, oh + 1, none⟩ = some (.int .u32 (wi vb)) := HCH.out wy hbw 1 (by omega)
          have c2 : wy.cell? ⟨bh, oh + 2, none⟩ = some (.int .u32 (wi vc)) := HCH.out wy hbw 2 (by omega)
          have c3 : wy.cell? ⟨bh, oh + 3, none⟩ = some (.int .u32 (wi vd)) := HCH.out wy hbw 3 (by omega)
          have c4 : wy.cell? ⟨bh, oh + 4, none⟩ = some (.int .u32 (wi ve)) := HCH.out wy hbw 4 (by omega)
          have c5 : wy.cell? ⟨bh, oh + 5, none⟩ = some (.int .u32 (wi vf)) := HCH.out wy hbw 5 (by omega)
          have c6 : wy.cell? ⟨bh, oh + 6, none⟩ = some (.int .u32 (wi vg)) := HCH.out wy hbw 6 (by omega)
          have c7 : wy.cell? ⟨bh, oh + 7, none⟩ = some (.int .u32 (wi vh)) := HCH.out wy hbw 7 (by omega)
          rw [show ((64 : Nat) : Int) = 64 from rfl]
          clear hown hbw hcomp hlist
          go_wp2_with fail
          refine wp_region_still_tail 40 (by kernel_rfl) (by kernel_rfl) ?_
          simp only [List.take_succ_cons, List.take_zero, List.drop_succ_cons, List.drop_zero]
          repeat still_step
          refine wpStill_nil ?_
          go_wp2_with fail
          go_ret
          refine ⟨_, rfl, ?_, below_seq HBD.out (below_of_new _ _)⟩
          rw [HLIST.out]
          exact rd_cells _ rfl rfl rfl (by omega)
end Go.Proofs.YtgebdkbbdabomaaDoor.Sha
