/-
  A CIPHER's struct, as it is built.
-/
import Derived.Test.YtgebdkbbdabomaaDoorAesx
import Derived.Outline
import Derived.Deep.OwnRows
namespace Go.Proofs.YtgebdkbbdabomaaDoor.Aes
open Go.RowKit
open Go.Proofs.YtgebdkbbdabomaaDoor.Kit
set_option linter.unusedVariables false

def Z432 : Array Value := (List.replicate 432 (Value.int .u8 0)).toArray
theorem built_fill (SV : Array Value) : Tryd.prog.built 101 [(1, .agg SV)] = Instr.fill (#[((0 : Nat), (176 : Nat)), (176, 256)][·]?) Z432 [(1, .agg SV)] := by kernel_rfl
theorem built_eq {SV : Array Value} (hs : SV.size = 256) (CV : Array Value) (hc : CV.size = 432) (h0 : ∀ k, k < 176 → CV[k]? = some (.int .u8 0)) (h1 : ∀ k, k < 256 → CV[176 + k]? = SV[k]?) : Tryd.prog.built 101 [(1, .agg SV)] = some CV := by
  rw [built_fill]
  unfold Instr.fill
  have hz : Z432.size = 432 := by rw [Z432, List.size_toArray, List.length_replicate]
  have hv : (Value.agg SV).cells = SV := rfl
  simp only [hv, hs, hz, List.getElem?_toArray, List.getElem?_cons_succ, List.getElem?_cons_zero]
  rw [if_neg (by simp)]
  unfold Instr.fill
  congr 1
  have h2 := Great.foldl_set 176 SV.toList 0 Z432
  rw [← Array.foldl_toList, Array.toList_zipIdx]
  apply Array.ext_getElem?
  intro i
  rw [h2.2 i, hz, Nat.add_zero, Array.length_toList, hs]
  by_cases hi : 176 ≤ i ∧ i < 176 + 256 ∧ i < 432
  · rw [if_pos hi]
    have := h1 (i - 176) (by omega)
    rw [show 176 + (i - 176) = i from by omega] at this
    rw [this, Array.getElem?_toList]
  · rw [if_neg hi]
    by_cases h176 : i < 176
    · rw [h0 i h176, Z432, List.getElem?_toArray, List.getElem?_replicate, if_pos (by omega)]
    · rw [Array.getElem?_eq_none (by omega), Array.getElem?_eq_none (by omega)]
/-- a cipher's cells, so many rounds' keys being laid -/
def A432 (key : Nat → UInt8) (r : Nat) : Array Value := ((row (cfK key r) 432).map bv).toArray
theorem A432_built (key : Nat → UInt8) : Tryd.prog.built 101 [(1, .agg A256)] = some (A432 key 0) := by
  refine built_eq A256_size _ (by simp [A432, row_len]) (fun k hk => ?_) (fun k hk => ?_)
  · rw [A432, List.getElem?_toArray, List.getElem?_map, row_at _ (by omega), cfK, if_neg (by omega), if_pos hk]; rfl
  · rw [A432, List.getElem?_toArray, List.getElem?_map, row_at _ (by omega), cfK, if_neg (by omega), if_neg (by omega), A256, List.getElem?_toArray, List.getElem?_map, row_at _ (by omega), show 176 + k - 176 = k from by omega]
theorem run_built (key : Nat → UInt8) (w : World) : (Instr.build 101 #[(1, .agg A256)]).run Tryd.prog w = .ok (.agg (A432 key 0)) w := run_build w _ _ _ (A432_built key)
/-- a cipher in memory -/
def CipherAt (w : World) (G : Nat) (key : Nat → UInt8) : Prop := Arr w G 101 (cf key) 432
theorem cf_subs (key : Nat → UInt8) (r n : Nat) (hr : r ≤ 11) : cfK key r (176 + n) = sbN n := by
  rw [cfK, if_neg (by omega), if_neg (by omega), show 176 + n - 176 = n from by omega]
theorem subs_of {w : World} {G r : Nat} {key : Nat → UInt8} {t : TypeId} (hr : r ≤ 11) (h : Arr w G t (cfK key r) 432) : SubsAt w G := fun n hn => by
  rw [h.cell (show 176 + n < 432 by omega), cf_subs _ _ _ hr]
theorem cf_key (key : Nat → UInt8) (r j n : Nat) (hj : j < n) (hr : r < 16) : cfK key n (16 * j + r) = rk key j r := by
  rw [cfK, if_pos (by omega), show (16 * j + r) / 16 = j from by omega, show (16 * j + r) % 16 = r from by omega]
/-- the next round's key is laid -/
theorem cf_more (key : Nat → UInt8) (r : Nat) (hr : r < 11) (i : Nat) : (if 16 * r ≤ i ∧ i < 16 * r + 16 then rk key r (i - 16 * r) else cfK key r i) = cfK key (r + 1) i := by
  by_cases h : 16 * r ≤ i ∧ i < 16 * r + 16
  · rw [if_pos h, cfK, if_pos (by omega), show i / 16 = r from by omega, show i % 16 = i - 16 * r from by omega]
  · rw [if_neg h, cfK, cfK]
    by_cases h1 : i < 16 * r
    · rw [if_pos h1, if_pos (show i < 16 * (r + 1) by omega)]
    · rw [if_neg h1, if_neg (show ¬ i < 16 * (r + 1) by omega)]
end Go.Proofs.YtgebdkbbdabomaaDoor.Aes

/-
  THE CONTRACT of aes's New.
-/
namespace Go.Proofs.YtgebdkbbdabomaaDoor.Aes
open Go.RowKit
open Go.Proofs.YtgebdkbbdabomaaDoor.Kit
set_option linter.unusedVariables false

/-- sixteen cells of a row, as a load has them -/
theorem rowOf_arr {w : World} {g o n : Nat} {t : TypeId} {f T : Nat → UInt8} (h : Arr w g t f n) (ho : o + 16 ≤ n) (hT : ∀ j, j < 16 → f (o + j) = T j) : (rowOf w g o 16).toArray = A16 T ∧ HasRow w g o 16 := by
  have h1 := h.rangeMid ho
  rw [row_congr hT] at h1
  have h2 := rowOf_eq h1 (by rw [List.length_map, row_len])
  exact ⟨by rw [h2.1]; rfl, h2.2⟩
theorem A16_toList (f : Nat → UInt8) : (A16 f).toList = (row f 16).map bv := rfl

theorem wpList_built {P : Program} {ops : Array Oper} {rest : List Oper} {o : Oper} {a : Act} {w : World} {Q : Exit → Act → World → Prop} (hg : o.guard = none) (t : TypeId) (i : Nat) (x : Operand) (ho : o.op = .build t #[(i, x)])
    (SV CV : Array Value) (hx : a.eval x = .agg SV) (hb : P.built t [(i, .agg SV)] = some CV) (h : wpList P ops Q rest (a.put o.dst (.agg CV)) w) : wpList P ops Q (o :: rest) a w := by
  have e : (#[(i, x)].map fun (y : Nat × Operand) => (y.1, a.eval y.2)).toList = [(i, Value.agg SV)] := by simp [hx]
  refine wpList_build hg t #[(i, x)] ho ?_ ?_
  · rw [e, hb]; rfl
  · rw [e, hb]; exact h

def There16 (w : World) (g o : Nat) : Prop := w.there g o 16
def Ag16 (cs : Array Value) : Prop := cs.size = 16 ∧ cs.all (·.oneCell') = true
def StOk2 (w : World) (v u : Value) : Prop := match v, u with
  | .pointer (some ⟨g, o, none⟩), .agg cs => There16 w g o ∧ Ag16 cs
  | _, _ => False
theorem StOk2_mk (w : World) (g o : Nat) (cs : Array Value) : StOk2 w (.pointer (some ⟨g, o, none⟩)) (.agg cs) = (There16 w g o ∧ Ag16 cs) := rfl
theorem wp_st16 (d : Option Nat) (ty : TypeId) (pos : String) (after : Array Edge) (x y : Operand) (a : Act) (w : World) (K : Act → World → Prop) (Q : Exit → Act → World → Prop) (h : StOk2 w (a.eval x) (a.eval y)) :
    Oper.wp Tryd.prog ⟨d, .store 29 x y, ty, pos, after, none⟩ a w K Q = K (a.put d undef) (stAt w (a.eval x) (a.eval y)) := by
  refine wp_store16 d ty pos after x y a w K Q ?_
  unfold StOk2 at h
  split at h
  · rename_i g o cs he hy
    rw [he, hy, StOk_mk]
    exact ⟨h.1, h.2⟩
  · cases h
attribute [local go_sem ↓] wp_load16 wp_load16k wp_st16
attribute [local go_sem] HasRowAt_mk rowAt_mk StOk2_mk stAt_mk
set_option maxRecDepth 100000 in
set_option maxHeartbeats 2000000 in
theorem new_any (key : Nat → UInt8) (w : World) : Calls Tryd.prog 55 #[.agg (A16 key)] w fun e w' => ∃ S, e = .returned (.pointer (some ⟨S, 0, none⟩)) ∧ w.heap.size ≤ S ∧ CipherAt w' S key ∧ Below w.heap.size w w' := by
  obtain ⟨KV, hKV⟩ : ∃ q, q = A16 key := ⟨_, rfl⟩
  obtain ⟨SV, hSV⟩ : ∃ q, q = A256 := ⟨_, rfl⟩
  obtain ⟨CV, hCV⟩ : ∃ q, q = A432 key 0 := ⟨_, rfl⟩
  have hbld : Tryd.prog.built 101 [(1, .agg SV)] = some CV := by rw [hSV, hCV]; exact A432_built key
  have hsub : ∀ W, Calls Tryd.prog 69 #[] W fun e w' => e = .returned (.agg SV) ∧ Below W.heap.size W w' := by rw [hSV]; exact subs_any
  have hKs : Ag16 KV := by rw [hKV]; exact ⟨A16_size _, A16_one _⟩
  rw [← hKV]
  have HSUB := Lib.hid hsub
  have HKV := Lib.hid hKV
  have HCV := Lib.hid hCV
  have HBL := Lib.hid hbld
  clear hSV hCV hKV hsub hbld
  go_enter Tryd.func55, Tryd.ntmps55
  go_wp2_with fail
  refine (HSUB.out _).mono ?_
  rintro e w2 ⟨rfl, hb2⟩
  have hz2 := hb2.size
  rw [World.size_alloc] at hz2
  have hg2 := (hb2.block w.heap.size (by simp)).trans (heap_alloc_new w (.cells KV 30))
  have hB2 := below_seq (below_of_new w _) hb2
  obtain ⟨S, hS⟩ : ∃ S, S = w2.heap.size := ⟨_, rfl⟩
  obtain ⟨W3, hW3⟩ : ∃ q, q = w2.alloc (.cells CV 101) := ⟨_, rfl⟩
  have hb3 : Below w2.heap.size w2 W3 := by rw [hW3]; exact below_of_new _ _
  have hc3 : Arr W3 S 101 (cfK key 0) 432 := by rw [Arr, hW3, hS, heap_alloc_new, HCV.out]; rfl
  have hk3 : Arr W3 w.heap.size 30 key 16 := by rw [Arr, hb3.block _ (by omega), hg2, HKV.out]; rfl
  have hB3 := below_seq hB2 hb3
  have hlt : w.heap.size < S := by omega
  have hr := rowOf_arr (w := W3.drew) (o := 0) (T := key) hk3 (by omega) (fun j _ => by rw [Nat.zero_add])
  have hr1 := hr.1
  have hr2 := hr.2
  rw [← HKV.out] at hr1
  have ht : There16 W3.drew S 0 := Arr.there (w := W3.drew) (t := 101) (f := cfK key 0) (n := 432) hc3 (by omega)
  have hs1 : Arr (W3.drew.setCells S 0 KV.toList) S 101 (cfK key 1) 432 := by
    have h := Arr.setMid (w := W3.drew) (T := key) hc3 (o := 0) (m := 16) (by omega)
    rw [← A16_toList, ← HKV.out] at h
    exact h.congr fun i _ => cf_more key 0 (by omega) i
  have hs2 : Below w.heap.size w (W3.drew.setCells S 0 KV.toList) := setCells_below (below_drew' hB3) (by omega) _ _
  have HS1 := Lib.hid hs1
  have HS2 := Lib.hid hs2
  have HW3 := Lib.hid hW3
  have HSS := Lib.hid hS
  clear hb2 hz2 hg2 hB2 hb3 hc3 hk3 hB3 hr hs1 hs2 hW3 hS
  go_wp2_with (refine wpList_built rfl 101 1 (.tmp 6) rfl SV CV rfl HBL.out ?_)
  rw [← HW3.out, ← HSS.out]
  go_region_law (fail)
  all_goals
    obtain ⟨W4, hW4⟩ : ∃ q, q = W3.drew.setCells S 0 KV.toList := ⟨_, rfl⟩
    rw [← hW4] at HS1 HS2 ⊢
    clear hW4 hr1 hr2 ht
    go_wp2_with fail
    go_loopw [4, 5, 14] (fun f _ i wr => ∃ r : Nat, r ≤ 10 ∧ i = .int .i64 r ∧ f = .int .u8 ((fst r).toNat : Int) ∧ Arr wr S 101 (cfK key (r + 1)) 432 ∧ Below w.heap.size w wr) (fun _ _ i _ => 10 - (intOf i).toNat)
    case atStart => exact ⟨0, by omega, rfl, rfl, HS1.out, HS2.out⟩
    case round =>
      obtain ⟨r, hr, rfl, rfl, hc, hbw⟩ := hrel
      by_cases hltr : r < 10
      · obtain ⟨r1, hr1⟩ : ∃ q, q = r + 1 := ⟨_, rfl⟩
        have e1 : IntKind.i64.wrap ((r : Int) + 1) = (r1 : Int) := wrap_nm (by omega) (by omega)
        have l1 : (r : Int) < 11 := by omega
        have l2 : (r1 : Int) < 11 := by omega
        obtain ⟨f, hf⟩ : ∃ f, f = fst r := ⟨_, rfl⟩
        obtain ⟨d, hd⟩ : ∃ u, u = dbl f := ⟨_, rfl⟩
        obtain ⟨K0, hK0⟩ : ∃ q, q = A16 (rk key r) := ⟨_, rfl⟩
        obtain ⟨K1, hK1⟩ : ∃ q, q = A16 (rk key (r + 1)) := ⟨_, rfl⟩
        have hslt := hc.lt
        have hrow := rowOf_arr (w := wr.drew) (o := r * 16) (T := rk key r) hc (by omega) (fun j hj => by rw [Nat.mul_comm]; exact cf_key key j r (r + 1) (by omega) hj)
        rw [← hK0] at hrow
        have hw1 := hrow.1
        have hw2 := hrow.2
        have hA0 : Ag16 K0 := by rw [hK0]; exact ⟨A16_size _, A16_one _⟩
        have hA1 : Ag16 K1 := by rw [hK1]; exact ⟨A16_size _, A16_one _⟩
        have hnx : ∀ W, SubsAt W S → Calls Tryd.prog 70 #[.pointer (some ⟨S, 0, none⟩), .agg K0, .int .u8 (f.toNat : Int)] W fun e w' => e = .returned (.agg K1) ∧ Below W.heap.size W w' := fun W hW => by
          rw [hK0, hK1, hf]
          exact next_any S (rk key r) (fst r) W hW
        have hsb : SubsAt wr.drew S := subs_of (w := wr.drew) (r := r + 1) (by omega) hc
        have hfin : ∀ w5, Below wr.heap.size wr w5 → There16 w5 S (r1 * 16) ∧ Arr (w5.setCells S (r1 * 16) K1.toList) S 101 (cfK key (r1 + 1)) 432 ∧ Below w.heap.size w (w5.setCells S (r1 * 16) K1.toList) := fun w5 hb5 => by
          have h5 := hc.on hb5 hslt
          refine ⟨h5.there (by omega), ?_, setCells_below (hbw.trans (hb5.mono hbw.size)) (by omega) _ _⟩
          have h := Arr.setMid (T := rk key r1) h5 (o := r1 * 16) (m := 16) (by omega)
          rw [hK1, A16_toList, ← hr1]
          refine h.congr fun i _ => ?_
          rw [Nat.mul_comm, ← hr1]
          exact cf_more key r1 (by omega) i
        have hdb : ∀ W, Calls Tryd.prog 71 #[.int .u8 (f.toNat : Int)] W fun e w' => e = .returned (.int .u8 (d.toNat : Int)) ∧ W = w' := fun W => by
          rw [hd]; exact double_any f W
        have hdf : d = fst (r + 1) := by rw [hd, hf]; rfl
        rw [← hf]
        have HNX := Lib.hid hnx
        have HSB := Lib.hid hsb
        have HFIN := Lib.hid hfin
        have HDB := Lib.hid hdb
        have HDF := Lib.hid hdf
        have HR1 := Lib.hid hr1
        clear hr1 hf hd hK0 hK1 hc hbw hrow hnx hsb hfin hdb hdf
        go_wp2_with fail
        go_region_law ((first
          | (go_simp; go_at_call 70; refine (HNX.out _ HSB.out).mono ?_; rintro e w5 ⟨rfl, hb4⟩; have hb5 : Below wr.heap.size wr w5 := below_seq (below_of_drew ⟨1, rfl⟩ _) hb4; have hth := (HFIN.out w5 hb5).1)))
        all_goals
          have hF := (HFIN.out w5 hb5).2
          have HF := Lib.hid hF
          clear hF hth hb4 hb5 hw1 hw2
          go_wp2_with fail
          refine (HDB.out _).mono ?_
          rintro e w6 ⟨rfl, rfl⟩
          go_wp2_with fail
          have hr2 := HR1.out
          exact ⟨⟨r1, by omega, rfl, by rw [HDF.out, hr2], HF.out.1, HF.out.2⟩, by simp [intOf]; omega⟩
      · obtain rfl : r = 10 := by omega
        have HC := Lib.hid hc
        have HB := Lib.hid hbw
        clear hc hbw
        go_wp2
        go_ret
        exact ⟨S, rfl, by omega, HC.out, HB.out⟩
end Go.Proofs.YtgebdkbbdabomaaDoor.Aes

/-
  THE CONTRACT of aes's Block.
-/
namespace Go.Proofs.YtgebdkbbdabomaaDoor.Aes
open Go.RowKit
open Go.Proofs.YtgebdkbbdabomaaDoor.Kit
set_option linter.unusedVariables false

theorem CipherAt.lt {w : World} {G : Nat} {key : Nat → UInt8} (h : CipherAt w G key) : G < w.heap.size := Arr.lt h
theorem CipherAt.on {w w' : World} {G B : Nat} {key : Nat → UInt8} (h : CipherAt w G key) (hb : Below B w w') (hG : G < B) : CipherAt w' G key := Arr.on h hb hG
theorem CipherAt.subs {w : World} {G : Nat} {key : Nat → UInt8} (h : CipherAt w G key) : SubsAt w G := subs_of (r := 11) (by omega) h
theorem key_facts {w : World} {G r : Nat} {key : Nat → UInt8} (h : CipherAt w G key) (hr : r < 11) : (rowOf w G (r * 16) 16).toArray = A16 (rk key r) ∧ HasRow w G (r * 16) 16 :=
  rowOf_arr (o := r * 16) (T := rk key r) h (by omega) (fun j hj => by rw [Nat.mul_comm]; exact cf_key key j r 11 hr hj)
theorem key_facts0 {w : World} {G : Nat} {key : Nat → UInt8} (h : CipherAt w G key) : (rowOf w G 0 16).toArray = A16 (rk key 0) ∧ HasRow w G 0 16 := by
  have := key_facts (r := 0) h (by omega)
  rw [Nat.zero_mul] at this
  exact this
theorem Arr.store {w : World} {g : Nat} {t : TypeId} {f : Nat → UInt8} (h : Arr w g t f 16) (T : Nat → UInt8) : Arr (w.setCells g 0 (A16 T).toList) g t T 16 := by
  rw [A16_toList]
  exact (h.setMid (T := T) (o := 0) (m := 16) (by omega)).congr fun i hi => by rw [if_pos (by omega), Nat.sub_zero]
/-- a block that is under way, in its own box; the result's box is empty -/
def BlkAt (w : World) (f : Nat → UInt8) (wr : World) : Prop := Arr wr w.heap.size 29 f 16 ∧ wr.heap[w.heap.size + 1]? = some (.cells Z16 29 (0, 0)) ∧ Below w.heap.size w wr
theorem BlkAt.facts {w wr : World} {f : Nat → UInt8} (h : BlkAt w f wr) : (rowOf wr w.heap.size 0 16).toArray = A16 f ∧ HasRow wr w.heap.size 0 16 :=
  rowOf_arr (o := 0) (T := f) h.1 (by omega) (fun j _ => by rw [Nat.zero_add])
theorem BlkAt.step {w wr w5 : World} {f : Nat → UInt8} (h : BlkAt w f wr) (hb : Below wr.heap.size wr w5) (T : Nat → UInt8) : There16 w5 w.heap.size 0 ∧ BlkAt w T (w5.setCells w.heap.size 0 (A16 T).toList) := by
  have h5 := h.1.on hb h.1.lt
  exact ⟨h5.there (by omega), h5.store T, (setCells_other (by omega) _ _ _).trans ((hb.block _ (block_lt_of_heap h.2.1)).trans h.2.1), setCells_below (h.2.2.trans (hb.mono h.2.2.size)) (Nat.le_refl _) _ _⟩
theorem BlkAt.drew {w wr : World} {f : Nat → UInt8} (h : BlkAt w f wr) : BlkAt w f wr.drew := ⟨h.1, h.2.1, below_drew' h.2.2⟩
theorem CipherAt.drew {w : World} {G : Nat} {key : Nat → UInt8} (h : CipherAt w G key) : CipherAt w.drew G key := h
theorem ag16 (f : Nat → UInt8) : Ag16 (A16 f) := ⟨A16_size _, A16_one _⟩
theorem below_one {w w' : World} (h : Below w.drew.heap.size w.drew w') : Below w.heap.size w w' := below_seq (below_of_drew ⟨1, rfl⟩ _) h

attribute [local go_sem ↓] wp_load16 wp_load16k wp_st16
attribute [local go_sem] HasRowAt_mk rowAt_mk StOk2_mk stAt_mk
set_option maxRecDepth 100000 in
set_option maxHeartbeats 2000000 in
theorem block_any (G : Nat) (key b : Nat → UInt8) (w : World) (hC : CipherAt w G key) : Calls Tryd.prog 73 #[.pointer (some ⟨G, 0, none⟩), .agg (A16 b)] w fun e w' => e = .returned (.agg (A16 (blk key b))) ∧ Below w.heap.size w w' := by
  obtain ⟨ZV, hZ⟩ : ∃ q, q = Z16 := ⟨_, rfl⟩
  have hz : ∀ w, (zeroValue 29).run Tryd.prog w = .ok (.agg ZV) w := by rw [hZ]; exact z16
  have hGlt := hC.lt
  obtain ⟨BV, hBV⟩ : ∃ q, q = A16 b := ⟨_, rfl⟩
  obtain ⟨W2, hW2⟩ : ∃ q, q = (w.alloc (.cells BV 29)).alloc (.cells ZV 29) := ⟨_, rfl⟩
  have h2 := heap2 w (.cells BV 29) (.cells ZV 29)
  have hB2 : BlkAt w b W2 := by
    refine ⟨?_, ?_, ?_⟩
    · rw [Arr, hW2, h2.1, hBV]; rfl
    · rw [hW2, h2.2, hZ]
    · rw [hW2]; exact below2 _ _ _
  obtain ⟨f1, f2⟩ := hB2.drew.facts
  obtain ⟨k1, k2⟩ := key_facts0 (hC.on hB2.2.2 hGlt).drew
  obtain ⟨KV, hKV⟩ : ∃ q, q = A16 (rk key 0) := ⟨_, rfl⟩
  obtain ⟨F1, hF1⟩ : ∃ q, q = A16 (stB key b 0) := ⟨_, rfl⟩
  have hsum : ∀ W, Calls Tryd.prog 83 #[.agg BV, .agg KV] W fun e w' => e = .returned (.agg F1) ∧ Below W.heap.size W w' := fun W => by
    rw [hBV, hKV, hF1]; exact sum_any b (rk key 0) W
  rw [← hBV] at f1
  rw [← hKV] at k1
  rw [← hBV]
  have a1 : Ag16 F1 := by rw [hF1]; exact ag16 _
  have HSUM := Lib.hid hsum
  have HB2 := Lib.hid hB2
  have HF1 := Lib.hid hF1
  have HW2 := Lib.hid hW2
  have HZ := Lib.hid hZ
  have HC := Lib.hid hC
  clear hZ hW2 h2 hB2 hKV hF1 hsum hBV hC
  go_enter Tryd.func73, Tryd.ntmps73
  go_wp2_with fail
  rw [← HW2.out]
  go_region_law ((first
    | (go_simp; go_at_call 83; refine (HSUM.out _).mono ?_; rintro e w3 ⟨rfl, hb3⟩; have hs3 := HB2.out.step (below_one hb3) (stB key b 0); rw [← HF1.out] at hs3; have hth := hs3.1)))
  all_goals
    have HS3 := Lib.hid hs3.2
    clear hs3 hth hb3 f1 f2 k1 k2
    go_wp2_with fail
    go_loopw [5, 13] (fun _ i wr => ∃ r : Nat, r ≤ 10 ∧ i = .int .i64 r ∧ BlkAt w (stB key b r) wr) (fun _ i _ => 10 - (intOf i).toNat)
    case atStart => exact ⟨0, by omega, rfl, HS3.out⟩
    case round =>
      clear a1
      obtain ⟨r, hr, rfl, hB⟩ := hrel
      by_cases hltr : r < 10
      · obtain ⟨r1, hr1⟩ : ∃ q, q = r + 1 := ⟨_, rfl⟩
        have e1 : IntKind.i64.wrap ((r : Int) + 1) = (r1 : Int) := wrap_nm (by omega) (by omega)
        have l2 : (r1 : Int) < 11 := by omega
        obtain ⟨f, hf⟩ : ∃ f, f = stB key b r := ⟨_, rfl⟩
        rw [← hf] at hB
        obtain ⟨F0, hF0⟩ : ∃ q, q = A16 f := ⟨_, rfl⟩
        obtain ⟨f1, f2⟩ := hB.facts
        rw [← hF0] at f1
        obtain ⟨F2, hF2⟩ : ∃ q, q = A16 (shB f) := ⟨_, rfl⟩
        have a2 : Ag16 F2 := by rw [hF2]; exact ag16 _
        have hsh : Calls Tryd.prog 84 #[.pointer (some ⟨G, 0, none⟩), .agg F0] wr fun e w' => e = .returned (.agg F2) ∧ Below wr.heap.size wr w' := by
          rw [hF0, hF2]; exact shifted_any G f wr (HC.out.on hB.2.2 hGlt).subs
        have HSH := Lib.hid hsh
        have HB := Lib.hid hB
        have HR1 := Lib.hid hr1
        have HF := Lib.hid hf
        have HF2 := Lib.hid hF2
        clear hr1 hf hF0 hF2 hsh hB
        by_cases h9 : r < 9
        · have t9 : (r : Int) < 9 := by omega
          go_wp2_with fail
          refine HSH.out.mono ?_
          rintro e w5 ⟨rfl, hb5⟩
          have hs5 := HB.out.step hb5 (shB f)
          obtain ⟨f3, f4⟩ := hs5.2.facts
          rw [← HF2.out] at hs5 f3 f4
          have th5 := hs5.1
          obtain ⟨F3, hF3⟩ : ∃ q, q = A16 (mixB (shB f)) := ⟨_, rfl⟩
          have a3 : Ag16 F3 := by rw [hF3]; exact ag16 _
          have hmx : ∀ W, Calls Tryd.prog 85 #[.agg F2] W fun e w' => e = .returned (.agg F3) ∧ Below W.heap.size W w' := fun W => by
            rw [HF2.out, hF3]; exact mixed_any (shB f) W
          have HMX := Lib.hid hmx
          have HB5 := Lib.hid hs5.2
          have HF3 := Lib.hid hF3
          clear hs5 hb5 hmx hF3
          go_wp2_with fail
          refine (HMX.out _).mono ?_
          rintro e w6 ⟨rfl, hb6⟩
          have hs6 := HB5.out.step hb6 (mixB (shB f))
          obtain ⟨f5, f6⟩ := hs6.2.drew.facts
          rw [← HF3.out] at hs6 f5 f6
          have th6 := hs6.1
          obtain ⟨k1, k2⟩ := key_facts (r := r1) (HC.out.on hs6.2.2.2 hGlt).drew (by omega)
          obtain ⟨K1, hK1⟩ : ∃ q, q = A16 (rk key r1) := ⟨_, rfl⟩
          rw [← hK1] at k1
          skip
          obtain ⟨F4, hF4⟩ : ∃ q, q = A16 (stB key b r1) := ⟨_, rfl⟩
          have a4 : Ag16 F4 := by rw [hF4]; exact ag16 _
          have hst : stB key b r1 = sumB (mixB (shB f)) (rk key r1) := by rw [HR1.out, stB, if_pos h9, ← HF.out]
          have hsm : ∀ W, Calls Tryd.prog 83 #[.agg F3, .agg K1] W fun e w' => e = .returned (.agg F4) ∧ Below W.heap.size W w' := fun W => by
            rw [HF3.out, hK1, hF4, hst]; exact sum_any _ _ W
          have HSM := Lib.hid hsm
          have HB6 := Lib.hid hs6.2
          have HF4 := Lib.hid hF4
          clear hs6 hb6 hsm hst hF4 hK1
          go_wp2_with fail
          go_region_law ((first
            | (go_simp; go_at_call 83; refine (HSM.out _).mono ?_; rintro e w7 ⟨rfl, hb7⟩; have hs7 := HB6.out.step (below_one hb7) (stB key b r1); rw [← HF4.out] at hs7; have th7 := hs7.1)))
          all_goals
            have HS7 := Lib.hid hs7.2
            clear hs7 th7 th6 hb7 f5 f6 k1 k2
            go_wp2_with fail
            have hr2 := HR1.out
            exact ⟨⟨r1, by omega, rfl, HS7.out⟩, by simp [intOf]; omega⟩
        · have t9 : decide ((r : Int) < 9) = false := by simp; omega
          go_wp2_with fail
          refine HSH.out.mono ?_
          rintro e w6 ⟨rfl, hb6⟩
          have hs6 := HB.out.step hb6 (shB f)
          obtain ⟨f5, f6⟩ := hs6.2.drew.facts
          rw [← HF2.out] at hs6 f5 f6
          have th6 := hs6.1
          obtain ⟨k1, k2⟩ := key_facts (r := r1) (HC.out.on hs6.2.2.2 hGlt).drew (by omega)
          obtain ⟨K1, hK1⟩ : ∃ q, q = A16 (rk key r1) := ⟨_, rfl⟩
          rw [← hK1] at k1
          skip
          obtain ⟨F4, hF4⟩ : ∃ q, q = A16 (stB key b r1) := ⟨_, rfl⟩
          have a4 : Ag16 F4 := by rw [hF4]; exact ag16 _
          have hst : stB key b r1 = sumB (shB f) (rk key r1) := by rw [HR1.out, stB, if_neg h9, ← HF.out]
          have hsm : ∀ W, Calls Tryd.prog 83 #[.agg F2, .agg K1] W fun e w' => e = .returned (.agg F4) ∧ Below W.heap.size W w' := fun W => by
            rw [HF2.out, hK1, hF4, hst]; exact sum_any _ _ W
          have HSM := Lib.hid hsm
          have HB6 := Lib.hid hs6.2
          have HF4 := Lib.hid hF4
          clear hs6 hb6 hsm hst hF4 hK1
          go_wp2_with fail
          go_region_law ((first
            | (go_simp; go_at_call 83; refine (HSM.out _).mono ?_; rintro e w7 ⟨rfl, hb7⟩; have hs7 := HB6.out.step (below_one hb7) (stB key b r1); rw [← HF4.out] at hs7; have th7 := hs7.1)))
          all_goals
            have HS7 := Lib.hid hs7.2
            clear hs7 th7 th6 hb7 f5 f6 k1 k2
            go_wp2_with fail
            have hr2 := HR1.out
            exact ⟨⟨r1, by omega, rfl, HS7.out⟩, by simp [intOf]; omega⟩
      · obtain rfl : r = 10 := by omega
        obtain ⟨PV, hPV⟩ : ∃ q, q = A16 (blk key b) := ⟨_, rfl⟩
        have hPs : PV.size = 16 := by rw [hPV, A16_size]
        have hI : (Tryd.prog.info? 29).map (·.size) = some PV.size := by rw [hPs]; exact info16
        have hP1 : PV.all (·.oneCell') = true := by rw [hPV, A16_one]
        have hg2 : wr.heap[w.heap.size]? = some (.cells PV 29 (0, 0)) := by rw [hPV]; exact hB.1
        have hgz := hB.2.1
        rw [← HZ.out] at hgz
        have hzl : ZV.size = 16 := by rw [HZ.out]; rfl
        have HI := Lib.hid hI
        have HP1 := Lib.hid hP1
        have HPS := Lib.hid hPs
        have HZL := Lib.hid hzl
        have HPV := Lib.hid hPV
        have hbw := hB.2.2
        have HG2 := Lib.hid hg2
        have HGZ := Lib.hid hgz
        obtain ⟨f1, f2⟩ := hB.facts
        have f1' : (rowOf wr w.heap.size 0 16).toArray = PV := by rw [f1, hPV]; rfl
        have th : There16 wr (w.heap.size + 1) 0 := by
          have h : Arr wr (w.heap.size + 1) 29 (fun _ => 0) 16 := hB.2.1
          exact h.there (by omega)
        have hres : (wr.setCells (w.heap.size + 1) 0 PV.toList).heap[w.heap.size + 1]? = some (.cells PV 29 (0, 0)) := by
          have h : Arr wr (w.heap.size + 1) 29 (fun _ => 0) 16 := hB.2.1
          rw [hPV]
          exact h.store (blk key b)
        have HRES := Lib.hid hres
        have hap : Ag16 PV := by rw [hPV]; exact ag16 _
        clear hPs hI hP1 hzl hPV hB hg2 hgz f1 hres
        go_wp2_with fail
        refine bodyPost_ret (v := .agg PV) (results_cell_row Tryd.results73 _ _ (w.heap.size + 1) 29 PV (0, 0) _ (by rfl) HRES.out Tryd.underlying29 rfl HI.out) rfl ?_
        exact ⟨by rw [HPV.out], setCells_below hbw (by omega) _ _⟩
end Go.Proofs.YtgebdkbbdabomaaDoor.Aes

/-
  THE CONTRACT of aes's after.
-/
namespace Go.Proofs.YtgebdkbbdabomaaDoor.Aes
open Go.RowKit
open Go.Proofs.YtgebdkbbdabomaaDoor.Kit
set_option linter.unusedVariables false

theorem aftK_succ (n : Nat → UInt8) (m j : Nat) : aftK n (m + 1) j = if j = m then n m + 1 else if n m + 1 = 0 then aftK n m j else n j := rfl
theorem aft_low (n : Nat → UInt8) (k : Nat) : ∀ m, k ≤ m → (∀ j, k ≤ j → j < m → n j + 1 = 0) → ∀ j, j < m → aftK n m j = if j < k then aftK n k j else 0 := by
  intro m
  induction m with
  | zero => intro _ _ j hj; omega
  | succ m ih =>
    intro hkm hz j hj
    by_cases hkm2 : k = m + 1
    · subst hkm2; rw [if_pos hj]
    · have hm := hz m (by omega) (by omega)
      rw [aftK_succ]
      by_cases hjm : j = m
      · rw [if_pos hjm, hm, if_neg (by omega)]
      · rw [if_neg hjm, if_pos hm]
        exact ih (by omega) (fun j h1 h2 => hz j h1 (by omega)) j (by omega)
theorem inc_u8 {x v : UInt8} (h : v = x + 1) : ((x.toNat : Int) + 1) % 256 = (v.toNat : Int) := by
  rw [h, UInt8.toNat_add]
  show ((x.toNat : Int) + 1) % 256 = (((x.toNat + 1) % 2 ^ 8 : Nat) : Int)
  omega

set_option maxRecDepth 100000 in
set_option maxHeartbeats 1000000 in
theorem after_any (n : Nat → UInt8) (w : World) : Calls Tryd.prog 74 #[.agg (A16 n)] w fun e w' => e = .returned (.agg (A16 (aft n))) ∧ Below w.heap.size w w' := by
  obtain ⟨ZV, hZ⟩ : ∃ q, q = Z16 := ⟨_, rfl⟩
  have hz : ∀ w, (zeroValue 29).run Tryd.prog w = .ok (.agg ZV) w := by rw [hZ]; exact z16
  have hzl : ZV.size = 16 := by rw [hZ]; rfl
  obtain ⟨BV, hBV⟩ : ∃ q, q = A16 n := ⟨_, rfl⟩
  obtain ⟨PV, hPV⟩ : ∃ q, q = A16 (aft n) := ⟨_, rfl⟩
  have hPs : PV.size = 16 := by rw [hPV, A16_size]
  have hI : (Tryd.prog.info? 29).map (·.size) = some PV.size := by rw [hPs]; exact info16
  have hP1 : PV.all (·.oneCell') = true := by rw [hPV, A16_one]
  have h3 := heap2 w (.cells BV 29) (.cells ZV 29)
  have hsb : Arr ((w.alloc (.cells BV 29)).alloc (.cells ZV 29)) w.heap.size 29 (fun j => if j < 16 then n j else 0) 16 := by
    have h : Arr ((w.alloc (.cells BV 29)).alloc (.cells ZV 29)) w.heap.size 29 n 16 := by rw [Arr, h3.1, hBV]; rfl
    exact h.congr fun i hi => by rw [if_pos hi]
  have H0 := Lib.hid (And.intro hsb h3.2)
  rw [← hBV, ← hPV]
  have HI := Lib.hid hI
  have HP1 := Lib.hid hP1
  have HPS := Lib.hid hPs
  have HPV := Lib.hid hPV
  have HZL := Lib.hid hzl
  clear hZ hzl hBV hPV hPs hI hP1 h3 hsb
  go_enter Tryd.func74, Tryd.ntmps74
  go_wp2_with fail
  go_loopw [3] (fun i wr => ∃ k : Nat, k ≤ 16 ∧ i = .int .i64 ((k : Int) - 1) ∧ (∀ j, k ≤ j → j < 16 → n j + 1 = 0) ∧ Arr wr w.heap.size 29 (fun j => if j < k then n j else 0) 16 ∧ wr.heap[w.heap.size + 1]? = some (.cells ZV 29 (0, 0)) ∧ Below w.heap.size w wr) (fun i _ => (intOf i + 1).toNat)
  case atStart => exact ⟨16, by omega, rfl, fun j h1 h2 => by omega, H0.out.1, H0.out.2, below2 _ _ _⟩
  case round =>
    obtain ⟨k, hk, rfl, hall, hga, hgz, hbw⟩ := hrel
    rcases k with _ | q
    · have e : aft n = aftK n 16 := rfl
      have hg2 : wr.heap[w.heap.size]? = some (.cells PV 29 (0, 0)) := by
        rw [HPV.out]
        exact hga.congr fun i hi => by rw [if_neg (by omega), e, aft_low n 0 16 (by omega) hall i hi, if_neg (by omega)]
      clear hga hall e
      go_wp2_with (first
        | (refine wpList_load_row rfl 29 (.tmp 1) rfl w.heap.size rfl 29 PV (0, 0) _ hg2 Tryd.underlying29 rfl HI.out ?_)
        | (refine wpList_store_row rfl 29 (.tmp 2) (.tmp 17) rfl (w.heap.size + 1) PV rfl rfl 29 _ hgz HI.out (by rw [HZL.out, HPS.out]) HP1.out ?_)
        | fail)
      have hres := setRow_heap _ (w.heap.size + 1) _ PV _ _ hgz
      refine bodyPost_ret (v := .agg PV) (results_cell_row Tryd.results74 _ _ (w.heap.size + 1) 29 PV (0, 0) _ (by rfl) hres Tryd.underlying29 rfl HI.out) rfl ?_
      exact ⟨rfl, below_setRow hbw (by omega) _⟩
    · rw [show (((q + 1 : Nat) : Int) - 1) = (q : Int) from by omega]
      have l1 : (q : Int) < 16 := by omega
      obtain ⟨x, hx⟩ : ∃ x, x = n q := ⟨_, rfl⟩
      obtain ⟨v, hv⟩ : ∃ u, u = x + 1 := ⟨_, rfl⟩
      have y1 := inc_u8 hv
      have y2 : IntKind.u8.wrap ((x.toNat : Int) + 1) = (v.toNat : Int) := by rw [← y1]; rfl
      have c1 := hga.cell (show q < 16 by omega)
      rw [if_pos (by omega), ← hx] at c1
      have f1 := hga.frozen q
      have hs1 := hga.set' (show q < 16 by omega) v
      have c2 := hs1.cell (show q < 16 by omega)
      rw [if_pos rfl] at c2
      have hs3 : (wr.setCell ⟨w.heap.size, q, none⟩ (.int .u8 (v.toNat : Int))).heap[w.heap.size + 1]? = some (.cells ZV 29 (0, 0)) := (heap_setCell_other _ _ _ _ (by simp)).trans hgz
      have hs4 : Below w.heap.size w (wr.setCell ⟨w.heap.size, q, none⟩ (.int .u8 (v.toNat : Int))) := hbw.setCell (Nat.le_refl _) _
      by_cases hv0 : v = 0
      · have t0 : ((v.toNat : Int) != 0) = false := by rw [hv0]; rfl
        have hs5 : Arr (wr.setCell ⟨w.heap.size, q, none⟩ (.int .u8 (v.toNat : Int))) w.heap.size 29 (fun j => if j < q then n j else 0) 16 := hs1.congr fun i hi => by
          by_cases h : i = q
          · rw [if_pos h, if_neg (by omega), hv0]
          · rw [if_neg h]
            by_cases h2 : i < q
            · rw [if_pos h2, if_pos (by omega)]
            · rw [if_neg h2, if_neg (by omega)]
        have hall2 : ∀ j, q ≤ j → j < 16 → n j + 1 = 0 := fun j h1 h2 => by
          by_cases h : j = q
          · rw [h, ← hx, ← hv, hv0]
          · exact hall j (by omega) h2
        have HS3 := Lib.hid hs3
        have HS4 := Lib.hid hs4
        have HS5 := Lib.hid hs5
        have HA2 := Lib.hid hall2
        clear hx hv hv0 hs1 hs3 hs4 hs5 hall2 hall hga hgz hbw
        go_wp2_with fail
        go_roundw
        case rel =>
          exact ⟨q, by omega, by first | rfl | go_num, HA2.out, HS5.out, HS3.out, HS4.out⟩
        case measure => first | (simp [intOf]; done) | (simp [intOf]; omega)
      · have t0 : ((v.toNat : Int) != 0) = true := by
          rw [bne_iff_ne]; intro h; apply hv0; rw [← UInt8.toNat_inj]; simpa using h
        have e : aft n = aftK n 16 := rfl
        have hg2 : (wr.setCell ⟨w.heap.size, q, none⟩ (.int .u8 (v.toNat : Int))).heap[w.heap.size]? = some (.cells PV 29 (0, 0)) := by
          rw [HPV.out]
          refine hs1.congr fun i hi => ?_
          rw [e, aft_low n (q + 1) 16 (by omega) hall i hi]
          by_cases h : i = q
          · rw [if_pos h, if_pos (by omega), aftK_succ, if_pos h, ← hx, ← hv]
          · rw [if_neg h]
            by_cases h2 : i < q + 1
            · rw [if_pos h2, if_pos h2, aftK_succ, if_neg h, ← hx, ← hv, if_neg hv0]
            · rw [if_neg h2, if_neg h2]
        have HG2 := Lib.hid hg2
        have HS3 := Lib.hid hs3
        have HS4 := Lib.hid hs4
        clear hx hv hv0 hs1 hs3 hs4 hall hga hgz hbw e hg2
        go_wp2_with (first
          | (refine wpList_load_row rfl 29 (.tmp 1) rfl w.heap.size rfl 29 PV (0, 0) _ HG2.out Tryd.underlying29 rfl HI.out ?_)
          | (refine wpList_store_row rfl 29 (.tmp 2) (.tmp 17) rfl (w.heap.size + 1) PV rfl rfl 29 _ HS3.out HI.out (by rw [HZL.out, HPS.out]) HP1.out ?_)
          | fail)
        have hres := setRow_heap _ (w.heap.size + 1) _ PV _ _ HS3.out
        refine bodyPost_ret (v := .agg PV) (results_cell_row Tryd.results74 _ _ (w.heap.size + 1) 29 PV (0, 0) _ (by rfl) hres Tryd.underlying29 rfl HI.out) rfl ?_
        exact ⟨rfl, below_setRow HS4.out (by omega) _⟩
end Go.Proofs.YtgebdkbbdabomaaDoor.Aes

/-
  THE CONTRACT of aes's Stream.
-/
namespace Go.Proofs.YtgebdkbbdabomaaDoor.Aes
open Go.RowKit
open Go.Proofs.YtgebdkbbdabomaaDoor.Kit
set_option linter.unusedVariables false

theorem info5a : (Tryd.prog.info? 5).map (fun i => (i.zero, i.size, i.bytes)) = some (some (.int .u8 0), 1, 1) := by kernel_rfl
theorem info5b : (Tryd.prog.info? 5).map (·.size) = some 1 := by kernel_rfl
def minI (x y : Int) : Int := if y < x then y else x
theorem run_min2 {P : Program} {w : World} (ts : Array TypeId) (t : TypeId) (k k' : IntKind) (x y : Int) : (Builtin.min_ ts t #[.int k x, .int k' y]).run P w = .ok (.int k (minI x y)) w := run_min_int2 w ts t k k' x y
/-- what each byte becomes -/
def strT (key n : Nat → UInt8) (bs : List UInt8) : Nat → UInt8 := fun i => at_ bs i ^^^ blk key (ctr n (i / 16)) (i % 16)
theorem strF_row (key n : Nat → UInt8) (bs : List UInt8) : strF key n bs = row (strT key n bs) bs.length := rfl
theorem arr_facts {w : World} {g : Nat} {t : TypeId} {f : Nat → UInt8} (h : Arr w g t f 16) : (rowOf w g 0 16).toArray = A16 f ∧ HasRow w g 0 16 :=
  rowOf_arr (o := 0) (T := f) h (by omega) (fun j _ => by rw [Nat.zero_add])

attribute [local go_sem high] run_min2
attribute [local go_sem ↓] wp_load16 wp_load16k wp_st16
attribute [local go_sem] HasRowAt_mk rowAt_mk StOk2_mk stAt_mk
set_option maxRecDepth 100000 in
set_option maxHeartbeats 2000000 in
theorem stream_any (G : Nat) (key from_ : Nat → UInt8) (A : Option Addr) (n c : Nat) (bs : List UInt8) (w : World) (hC : CipherAt w G key) (hb : RdB w w.heap.size A n c bs) (hn : n ≤ 1000000000) :
    Calls Tryd.prog 57 #[.pointer (some ⟨G, 0, none⟩), .agg (A16 from_), .slice A n c] w fun e w' => ∃ S, e = .returned (.slice (some ⟨S, 0, none⟩) n n) ∧ w.heap.size ≤ S ∧ Arr w' S 5 (strT key from_ bs) n ∧ Below w.heap.size w w' := by
  obtain ⟨ZV, hZ⟩ : ∃ q, q = Z16 := ⟨_, rfl⟩
  have hz : ∀ w, (zeroValue 29).run Tryd.prog w = .ok (.agg ZV) w := by rw [hZ]; exact z16
  have hGlt := hC.lt
  have hl := hb.len
  have hr := hb.room
  have hmk : ∀ W : World, (Instr.makeSlice 22 (.int .i64 (n : Int)) (.int .i64 (n : Int))).run Tryd.prog W = .ok (.slice (some ⟨W.heap.size, 0, none⟩) n n) (W.alloc (.cells (madeCells #[.int .u8 0] n) 5)) := fun W =>
    run_make_row' 22 5 (.int .u8 0) 1 Tryd.underlying22 info5a rfl .i64 .i64 n (by omega) (by omega) W
  obtain ⟨BV, hBV⟩ : ∃ q, q = A16 from_ := ⟨_, rfl⟩
  obtain ⟨S, hS⟩ : ∃ S, S = w.heap.size + 1 := ⟨_, rfl⟩
  obtain ⟨MC, hMC⟩ : ∃ q, q = madeCells #[.int .u8 0] n := ⟨_, rfl⟩
  have hMr : MC = ((row (fun _ => 0) n).map bv).toArray := by
    rw [hMC, row_const]
    apply Array.toList_inj.1
    rw [toList_madeCells_one]
  rw [← hMC] at hmk
  obtain ⟨W2, hW2⟩ : ∃ q, q = (w.alloc (.cells BV 29)).alloc (.cells MC 5) := ⟨_, rfl⟩
  have h2 := heap2 w (.cells BV 29) (.cells MC 5)
  have hbw2 : Below w.heap.size w W2 := by rw [hW2]; exact below2 _ _ _
  have hf2 : Arr W2 w.heap.size 29 from_ 16 := by rw [Arr, hW2, h2.1, hBV]; rfl
  have hz2 : Arr W2 S 5 (fun _ => 0) n := by rw [Arr, hW2, hS, h2.2, hMr]
  obtain ⟨ZL, hZL⟩ : ∃ q, q = (row (fun _ => 0) n).map bv := ⟨_, rfl⟩
  have hzl : ZL.length = n := by rw [hZL, List.length_map, row_len]
  have hg2 : W2.heap[S]? = some (.cells ZL.toArray 5 (0, 0)) := by rw [hZL]; exact hz2
  have hb2 := hb.on hbw2
  obtain ⟨BL, hBL⟩ : ∃ q, q = bs.map bv := ⟨_, rfl⟩
  have hbl : BL.length = n := by rw [hBL, List.length_map, hl]
  have hbo : ∀ v ∈ BL, v.oneCell' = true := by rw [hBL]; exact fun v hv => bv_one _ v hv
  have hpos : 0 < BL.length → some (⟨S, 0, none⟩ : Addr) = some ⟨S, 0, none⟩ ∧ ∃ ad, A = some ad ∧ ∀ j v, BL[j]? = some v → W2.cell? (ad.add j) = some v := fun h0 => by
    obtain ⟨b2, o2, e, _, hc⟩ := hb2.2.2.2 (by omega)
    refine ⟨rfl, _, e, fun j v hv => ?_⟩
    rw [add_off]
    rw [hBL] at hv
    exact hc j v hv
  have hsp : splice ZL 0 BL = (row (at_ bs) n).map bv := by
    rw [row_of bs hl, splice, List.take_zero, List.nil_append, Nat.zero_add, List.drop_eq_nil_of_le (by omega), List.append_nil, hBL]
  have HG2 := Lib.hid hg2
  have HPOS := Lib.hid hpos
  have HBL := Lib.hid hbl
  have HBO := Lib.hid hbo
  have HSP := Lib.hid hsp
  have HZLL := Lib.hid hzl
  have HF2 := Lib.hid hf2
  have HBW2 := Lib.hid hbw2
  have HW2 := Lib.hid hW2
  have HZ := Lib.hid hZ
  have HC := Lib.hid hC
  have HS := Lib.hid hS
  rw [← hBV]
  have hzs : w.heap.size < S := by omega
  clear hZ hW2 h2 hbw2 hf2 hz2 hZL hzl hg2 hb2 hbl hbo hpos hsp hMr hMC hBV hC hb hl hBL hS
  go_enter Tryd.func57, Tryd.ntmps57
  go_wp2_with (first
    | ((rw [← HW2.out, ← HS.out]; refine wpList_copy_splice rfl (.tmp 14) (.tmp 15) 22 22 rfl 5 Tryd.underlying22 info5b (some ⟨S, 0, none⟩) A n n n c rfl rfl S 0 ZL 5 HG2.out BL (by rw [HBL.out]; exact (Nat.min_self n).symm) HPOS.out (by rw [HBL.out, HZLL.out]; omega) HBO.out S _ (Below.refl _ _) (Nat.le_refl _) ?_)
       intro w3 hg3h hbl3
       have hg3 := hg3h.out
       rw [HSP.out] at hg3
       clear hg3h)
    | fail)
  have hf3 := HF2.out.on hbl3 hzs
  have ha3 : Arr w3 S 5 (upto 0 (strT key from_ bs) (at_ bs)) n := by rw [upto_zero]; exact hg3
  have hb3 : Below w.heap.size w w3 := HBW2.out.trans (hbl3.mono (by omega))
  have HF3 := Lib.hid hf3
  have HA3 := Lib.hid ha3
  have HB3 := Lib.hid hb3
  clear hf3 ha3 hb3 hg3 hbl3
  go_loopw [8, 9, 10, 31] (fun p _ _ _ wr => ∃ m : Nat, 16 * m < n + 16 ∧ p = .int .i64 ((16 * m : Nat) : Int) ∧ Arr wr w.heap.size 29 (ctr from_ m) 16 ∧ Arr wr S 5 (upto (16 * m) (strT key from_ bs) (at_ bs)) n ∧ Below w.heap.size w wr) (fun p _ _ _ _ => (n + 16) - (intOf p).toNat)
  case atStart => exact ⟨0, by omega, rfl, HF3.out, HA3.out, HB3.out⟩
  case round =>
    clear HF3 HA3 HB3 HF2 HBW2 HW2 HG2 HPOS HBL HBO HSP HZLL
    obtain ⟨m, hm, rfl, hfm, hsm, hbw⟩ := hrel
    obtain ⟨p, hp⟩ : ∃ p, p = 16 * m := ⟨_, rfl⟩
    rw [← hp] at hm hsm ⊢
    by_cases hlt : p < n
    · obtain ⟨d, hd⟩ : ∃ d, d = n - p := ⟨_, rfl⟩
      obtain ⟨q, hq⟩ : ∃ q, q = min 16 d := ⟨_, rfl⟩
      have e1 : IntKind.i64.wrap ((n : Int) - (p : Int)) = (d : Int) := wrap_nm (by omega) (by omega)
      have e1' : (n : Int) - (p : Int) = (d : Int) := by omega
      have e2 : minI 16 (d : Int) = (q : Int) := by unfold minI; split <;> omega
      have hq16 : q ≤ 16 ∧ p + q ≤ n := by omega
      obtain ⟨F0, hF0⟩ : ∃ q, q = A16 (ctr from_ m) := ⟨_, rfl⟩
      obtain ⟨f1, f2⟩ := arr_facts hfm
      rw [← hF0] at f1
      obtain ⟨KV, hKV⟩ : ∃ q, q = A16 (blk key (ctr from_ m)) := ⟨_, rfl⟩
      have a1 : Ag16 KV := by rw [hKV]; exact ag16 _
      have hblk : Calls Tryd.prog 73 #[.pointer (some ⟨G, 0, none⟩), .agg F0] wr fun e w' => e = .returned (.agg KV) ∧ Below wr.heap.size wr w' := by
        rw [hF0, hKV]; exact block_any G key (ctr from_ m) wr (HC.out.on hbw hGlt)
      have HBLK := Lib.hid hblk
      have HP := Lib.hid hp
      have HD := Lib.hid (And.intro hd hq)
      have HKV := Lib.hid hKV
      have HF0 := Lib.hid hF0
      have HFM := Lib.hid hfm
      have HSM := Lib.hid hsm
      have HBW := Lib.hid hbw
      have hSlt := hsm.lt
      clear hp hd hq hKV hF0 hblk hfm hsm hbw
      go_wp2_with fail
      refine HBLK.out.mono ?_
      rintro e w5 ⟨rfl, hb5⟩
      have hz5 := hb5.size
      obtain ⟨Kb, hKb⟩ : ∃ q, q = w5.heap.size := ⟨_, rfl⟩
      obtain ⟨W6, hW6⟩ : ∃ q, q = w5.alloc (.cells ZV 29) := ⟨_, rfl⟩
      have hk6 : Arr W6 Kb 29 (fun _ => 0) 16 := by rw [Arr, hW6, hKb, heap_alloc_new, HZ.out]; rfl
      have th6 : There16 W6 Kb 0 := hk6.there (by omega)
      have hb56 : Below w5.heap.size w5 W6 := by rw [hW6]; exact below_of_new _ _
      have hbl : Below wr.heap.size wr W6 := below_seq hb5 hb56
      have hbl7 : Below wr.heap.size wr (W6.setCells Kb 0 KV.toList) := setCells_below hbl (by omega) _ _
      have hk7 : Arr (W6.setCells Kb 0 KV.toList) Kb 29 (blk key (ctr from_ m)) 16 := by rw [HKV.out]; exact hk6.store _
      have hwl := HBW.out.size
      have hf7 := HFM.out.on hbl7 (by omega)
      have hs7 := HSM.out.on hbl7 hSlt
      have hb7 := HBW.out.trans (hbl7.mono hwl)
      have th6' : There16 (w5.alloc (.cells ZV 29)) w5.heap.size 0 := by rw [← hW6, ← hKb]; exact th6
      have HW6 := Lib.hid hW6
      have HKb := Lib.hid hKb
      have hKbS : S < Kb := by omega
      have HK7 := Lib.hid hk7
      have HF7 := Lib.hid hf7
      have HS7 := Lib.hid hs7
      have HB7 := Lib.hid hb7
      clear hW6 hKb hk6 hb56 hbl hbl7 hk7 hf7 hs7 hb7 hb5 f1 f2
      go_wp2_with fail
      rw [← HW6.out, ← HKb.out]
      obtain ⟨W7, hW7⟩ : ∃ q, q = W6.setCells Kb 0 KV.toList := ⟨_, rfl⟩
      rw [← hW7] at HK7 HF7 HS7 HB7 ⊢
      clear hW7 th6 th6' HW6 HKb hwl hz5 HBLK HFM HSM HBW hSlt e1 e1' e2 a1
      obtain ⟨wo, hwo⟩ : ∃ wo : World, wo = wr := ⟨_, rfl⟩
      clear hwo
      go_loopw [10, 31] (fun _ i wi => ∃ j : Nat, j ≤ q ∧ i = .int .i64 j ∧ Arr wi S 5 (upto (p + j) (strT key from_ bs) (at_ bs)) n ∧ Arr wi Kb 29 (blk key (ctr from_ m)) 16 ∧ Arr wi w.heap.size 29 (ctr from_ m) 16 ∧ Below w.heap.size w wi) (fun _ i _ => q - (intOf i).toNat)
      case atStart => exact ⟨0, by omega, rfl, by rw [Nat.add_zero]; exact HS7.out, HK7.out, HF7.out, HB7.out⟩
      case round =>
        clear HK7 HF7 HS7 HB7
        obtain ⟨j, hj, rfl, hs8, hk8, hf8, hb8⟩ := hrel
        by_cases hltj : j < q
        · obtain ⟨pj, hpj⟩ : ∃ q, q = p + j := ⟨_, rfl⟩
          have e3 : IntKind.i64.wrap ((p : Int) + (j : Int)) = (pj : Int) := wrap_nm (by omega) (by omega)
          have l1 : (pj : Int) < (n : Int) := by omega
          have l2 : (j : Int) < 16 := by omega
          have l1' : pj < n := by omega
          obtain ⟨x, hx⟩ : ∃ x, x = at_ bs pj := ⟨_, rfl⟩
          obtain ⟨y, hy⟩ : ∃ x, x = blk key (ctr from_ m) j := ⟨_, rfl⟩
          obtain ⟨v, hv⟩ : ∃ u, u = x ^^^ y := ⟨_, rfl⟩
          have y1 := xor_nm hv
          have c1 := hs8.cell (show pj < n by omega)
          rw [upto_ge _ _ (by omega), ← hx] at c1
          have c2 := hk8.cell (show j < 16 by omega)
          rw [← hy] at c2
          have f1 := hs8.frozen pj
          have hT : strT key from_ bs (p + j) = v := by
            rw [strT, show (p + j) / 16 = m from by have := HP.out; omega, show (p + j) % 16 = j from by have := HP.out; omega, ← hpj, ← hx, ← hy, ← hv]
          have hs1 : Arr (wr.setCell ⟨S, pj, none⟩ (.int .u8 (v.toNat : Int))) S 5 (upto (p + (j + 1)) (strT key from_ bs) (at_ bs)) n := by
            have := hs8.set (show p + j < n by omega)
            rw [hT, ← hpj] at this
            rw [← Nat.add_assoc, ← hpj]
            exact this
          have hs2 : Arr (wr.setCell ⟨S, pj, none⟩ (.int .u8 (v.toNat : Int))) Kb 29 (blk key (ctr from_ m)) 16 := hk8.block (heap_setCell_other _ _ _ _ (by simp; omega))
          have hs3 : Arr (wr.setCell ⟨S, pj, none⟩ (.int .u8 (v.toNat : Int))) w.heap.size 29 (ctr from_ m) 16 := hf8.block (heap_setCell_other _ _ _ _ (by simp; omega))
          have hs4 : Below w.heap.size w (wr.setCell ⟨S, pj, none⟩ (.int .u8 (v.toNat : Int))) := hb8.setCell (by simp; omega) _
          have HS1 := Lib.hid hs1
          have HS2 := Lib.hid hs2
          have HS3 := Lib.hid hs3
          have HS4 := Lib.hid (below_drew' hs4)
          clear hpj hx hy hv hT hs1 hs2 hs3 hs4 hs8 hk8 hf8 hb8
          go_wp2_with fail
          refine wp_region_still_tail 11 (by kernel_rfl) (by kernel_rfl) ?_
          simp only [List.take_succ_cons, List.take_zero, List.drop_succ_cons, List.drop_zero]
          repeat still_step
          refine wpStill_nil ?_
          go_wp2_with fail
          exact ⟨⟨j + 1, by omega, by go_num, HS1.out, HS2.out, HS3.out, HS4.out⟩, by simp [intOf]; omega⟩
        · obtain rfl : j = q := by omega
          obtain ⟨p2, hp2⟩ : ∃ q, q = p + 16 := ⟨_, rfl⟩
          have e4 : IntKind.i64.wrap ((p : Int) + 16) = (p2 : Int) := wrap_nm (by omega) (by omega)
          have e4' : (p : Int) + 16 = (p2 : Int) := by omega
          obtain ⟨f3, f4⟩ := arr_facts hf8
          rw [← HF0.out] at f3
          obtain ⟨F1, hF1⟩ : ∃ q, q = A16 (ctr from_ (m + 1)) := ⟨_, rfl⟩
          have a2 : Ag16 F1 := by rw [hF1]; exact ag16 _
          have haf : Calls Tryd.prog 74 #[.agg F0] wr fun e w' => e = .returned (.agg F1) ∧ Below wr.heap.size wr w' := by
            rw [HF0.out, hF1]; exact after_any (ctr from_ m) wr
          have hfin : ∀ w9, Below wr.heap.size wr w9 → There16 w9 w.heap.size 0 ∧ Arr (w9.setCells w.heap.size 0 F1.toList) w.heap.size 29 (ctr from_ (m + 1)) 16 ∧ Arr (w9.setCells w.heap.size 0 F1.toList) S 5 (upto (16 * (m + 1)) (strT key from_ bs) (at_ bs)) n ∧ Below w.heap.size w (w9.setCells w.heap.size 0 F1.toList) := fun w9 h9 => by
            have h1 := hf8.on h9 hf8.lt
            have h2 := hs8.on h9 hs8.lt
            refine ⟨h1.there (by omega), by rw [hF1]; exact h1.store _, ?_, setCells_below (hb8.trans (h9.mono hb8.size)) (Nat.le_refl _) _ _⟩
            refine (h2.block (setCells_other (by omega) _ _ _)).congr fun i hi => ?_
            have h3 := HP.out
            have h4 := HD.out
            unfold upto
            by_cases h5 : i < p + j
            · rw [if_pos h5, if_pos (by omega)]
            · rw [if_neg h5, if_neg (by omega)]
          have HAF := Lib.hid haf
          have HFIN := Lib.hid hfin
          have HP2 := Lib.hid hp2
          clear hF1 haf hfin hs8 hk8 hf8 hb8 hp2
          go_wp2_with fail
          refine HAF.out.mono ?_
          rintro e w9 ⟨rfl, hb9⟩
          have hF := HFIN.out w9 hb9
          have th9 := hF.1
          have HF9 := Lib.hid hF.2
          clear hF hb9 f3 f4
          go_wp2_with fail
          have h3 := HP.out
          have h4 := HP2.out
          exact ⟨⟨m + 1, by omega, by rw [show p2 = 16 * (m + 1) from by omega], HF9.out.1, HF9.out.2.1, HF9.out.2.2⟩, by simp [intOf]; omega⟩
    · have hfin : Arr wr S 5 (strT key from_ bs) n := hsm.congr fun i hi => upto_lt _ _ (by omega)
      have HFIN := Lib.hid hfin
      have HBW := Lib.hid hbw
      clear hfin hsm hfm hbw hp
      go_wp2_with fail
      go_ret
      exact ⟨S, rfl, by omega, HFIN.out, HBW.out⟩
end Go.Proofs.YtgebdkbbdabomaaDoor.Aes
