/-
  THE CONTRACT of aes's New.
-/
import Derived.Test.YtammiehklibadaaDoorAesg
namespace Go.Proofs.YtammiehklibadaaDoor.Aes
open Go.RowKit
open Go.Proofs.YtammiehklibadaaDoor.Kit
set_option linter.unusedVariables false

/-- sixteen cells of a row, as a load has them -/
theorem rowOf_arr {w : World} {g o n : Nat} {t : TypeId} {f T : Nat → UInt8} (h : Arr w g t f n) (ho : o + 16 ≤ n) (hT : ∀ j, j < 16 → f (o + j) = T j) : (rowOf w g o 16).toArray = A16 T ∧ HasRow w g o 16 := by
  have h1 := h.rangeMid ho
  rw [row_congr hT] at h1
  have h2 := rowOf_eq h1 (by rw [List.length_map, row_len])
  exact ⟨by rw [h2.1]; rfl, h2.2⟩
theorem A16_toList (f : Nat → UInt8) : (A16 f).toList = (row f 16).map bv := rfl

theorem wpList_built {P : Program} {ops : Array Oper} {rest : List Oper} {o : Oper} {a : Act} {w : World} {Q : Exit → Act → World → Prop} (hg : o.guard = none) (t : TypeId) (i : Nat) (x : Operand) (ho : o.op = .build t #[(i, x)])
    (SV CV : Array Value) (hx : a.eval x = .agg SV) (hb : P.built t [(i, .agg SV)] = some CV) (h : wpList P ops Q rest (a.put o.dst (.agg CV)) w) : wpList P ops Q (o :: rest) a w := by
  have e : (#[(i, x)].map fun (y : Nat × Operand) => (y.1, a.eval y.2)).toList = [(i, Value.agg SV)] := by simp [hx]
  refine wpList_build hg t #[(i, x)] ho ?_ ?_
  · rw [e, hb]; rfl
  · rw [e, hb]; exact h

def There16 (w : World) (g o : Nat) : Prop := w.there g o 16
def Ag16 (cs : Array Value) : Prop := cs.size = 16 ∧ cs.all (·.oneCell') = true
def StOk2 (w : World) (v u : Value) : Prop := match v, u with
  | .pointer (some ⟨g, o, none⟩), .agg cs => There16 w g o ∧ Ag16 cs
  | _, _ => False
theorem StOk2_mk (w : World) (g o : Nat) (cs : Array Value) : StOk2 w (.pointer (some ⟨g, o, none⟩)) (.agg cs) = (There16 w g o ∧ Ag16 cs) := rfl
theorem wp_st16 (d : Option Nat) (ty : TypeId) (pos : String) (after : Array Edge) (x y : Operand) (a : Act) (w : World) (K : Act → World → Prop) (Q : Exit → Act → World → Prop) (h : StOk2 w (a.eval x) (a.eval y)) :
    Oper.wp Tryd.prog ⟨d, .store 32 x y, ty, pos, after, none⟩ a w K Q = K (a.put d undef) (stAt w (a.eval x) (a.eval y)) := by
  refine wp_store16 d ty pos after x y a w K Q ?_
  unfold StOk2 at h
  split at h
  · rename_i g o cs he hy
    rw [he, hy, StOk_mk]
    exact ⟨h.1, h.2⟩
  · cases h
attribute [local go_sem ↓] wp_load16 wp_load16k wp_st16
attribute [local go_sem] HasRowAt_mk rowAt_mk StOk2_mk stAt_mk
set_option maxRecDepth 100000 in
set_option maxHeartbeats 2000000 in
theorem new_any (key : Nat → UInt8) (w : World) : Calls Tryd.prog 58 #[.agg (A16 key)] w fun e w' => ∃ S, e = .returned (.pointer (some ⟨S, 0, none⟩)) ∧ w.heap.size ≤ S ∧ CipherAt w' S key ∧ Below w.heap.size w w' := by
  obtain ⟨KV, hKV⟩ : ∃ q, q = A16 key := ⟨_, rfl⟩
  obtain ⟨SV, hSV⟩ : ∃ q, q = A256 := ⟨_, rfl⟩
  obtain ⟨CV, hCV⟩ : ∃ q, q = A432 key 0 := ⟨_, rfl⟩
  have hbld : Tryd.prog.built 102 [(1, .agg SV)] = some CV := by rw [hSV, hCV]; exact A432_built key
  have hsub : ∀ W, Calls Tryd.prog 71 #[] W fun e w' => e = .returned (.agg SV) ∧ Below W.heap.size W w' := by rw [hSV]; exact subs_any
  have hKs : Ag16 KV := by rw [hKV]; exact ⟨A16_size _, A16_one _⟩
  rw [← hKV]
  have HSUB := Lib.hid hsub
  have HKV := Lib.hid hKV
  have HCV := Lib.hid hCV
  have HBL := Lib.hid hbld
  clear hSV hCV hKV hsub hbld
  go_enter Tryd.func58, Tryd.ntmps58
  go_wp2_with fail
  refine (HSUB.out _).mono ?_
  rintro e w2 ⟨rfl, hb2⟩
  have hz2 := hb2.size
  rw [World.size_alloc] at hz2
  have hg2 := (hb2.block w.heap.size (by simp)).trans (heap_alloc_new w (.cells KV 33))
  have hB2 := below_seq (below_of_new w _) hb2
  obtain ⟨S, hS⟩ : ∃ S, S = w2.heap.size := ⟨_, rfl⟩
  obtain ⟨W3, hW3⟩ : ∃ q, q = w2.alloc (.cells CV 102) := ⟨_, rfl⟩
  have hb3 : Below w2.heap.size w2 W3 := by rw [hW3]; exact below_of_new _ _
  have hc3 : Arr W3 S 102 (cfK key 0) 432 := by rw [Arr, hW3, hS, heap_alloc_new, HCV.out]; rfl
  have hk3 : Arr W3 w.heap.size 33 key 16 := by rw [Arr, hb3.block _ (by omega), hg2, HKV.out]; rfl
  have hB3 := below_seq hB2 hb3
  have hlt : w.heap.size < S := by omega
  have hr := rowOf_arr (w := W3.drew) (o := 0) (T := key) hk3 (by omega) (fun j _ => by rw [Nat.zero_add])
  have hr1 := hr.1
  have hr2 := hr.2
  rw [← HKV.out] at hr1
  have ht : There16 W3.drew S 0 := Arr.there (w := W3.drew) (t := 102) (f := cfK key 0) (n := 432) hc3 (by omega)
  have hs1 : Arr (W3.drew.setCells S 0 KV.toList) S 102 (cfK key 1) 432 := by
    have h := Arr.setMid (w := W3.drew) (T := key) hc3 (o := 0) (m := 16) (by omega)
    rw [← A16_toList, ← HKV.out] at h
    exact h.congr fun i _ => cf_more key 0 (by omega) i
  have hs2 : Below w.heap.size w (W3.drew.setCells S 0 KV.toList) := setCells_below (below_drew' hB3) (by omega) _ _
  have HS1 := Lib.hid hs1
  have HS2 := Lib.hid hs2
  have HW3 := Lib.hid hW3
  have HSS := Lib.hid hS
  clear hb2 hz2 hg2 hB2 hb3 hc3 hk3 hB3 hr hs1 hs2 hW3 hS
  go_wp2_with (refine wpList_built rfl 102 1 (.tmp 6) rfl SV CV rfl HBL.out ?_)
  rw [← HW3.out, ← HSS.out]
  go_region_law (fail)
  all_goals
    obtain ⟨W4, hW4⟩ : ∃ q, q = W3.drew.setCells S 0 KV.toList := ⟨_, rfl⟩
    rw [← hW4] at HS1 HS2 ⊢
    clear hW4 hr1 hr2 ht
    go_wp2_with fail
    go_loopw [4, 5, 14] (fun f _ i wr => ∃ r : Nat, r ≤ 10 ∧ i = .int .i64 r ∧ f = .int .u8 ((fst r).toNat : Int) ∧ Arr wr S 102 (cfK key (r + 1)) 432 ∧ Below w.heap.size w wr) (fun _ _ i _ => 10 - (intOf i).toNat)
    case atStart => exact ⟨0, by omega, rfl, rfl, HS1.out, HS2.out⟩
    case round =>
      obtain ⟨r, hr, rfl, rfl, hc, hbw⟩ := hrel
      by_cases hltr : r < 10
      · obtain ⟨r1, hr1⟩ : ∃ q, q = r + 1 := ⟨_, rfl⟩
        have e1 : IntKind.i64.wrap ((r : Int) + 1) = (r1 : Int) := wrap_nm (by omega) (by omega)
        have l1 : (r : Int) < 11 := by omega
        have l2 : (r1 : Int) < 11 := by omega
        obtain ⟨f, hf⟩ : ∃ f, f = fst r := ⟨_, rfl⟩
        obtain ⟨d, hd⟩ : ∃ u, u = dbl f := ⟨_, rfl⟩
        obtain ⟨K0, hK0⟩ : ∃ q, q = A16 (rk key r) := ⟨_, rfl⟩
        obtain ⟨K1, hK1⟩ : ∃ q, q = A16 (rk key (r + 1)) := ⟨_, rfl⟩
        have hslt := hc.lt
        have hrow := rowOf_arr (w := wr.drew) (o := r * 16) (T := rk key r) hc (by omega) (fun j hj => by rw [Nat.mul_comm]; exact cf_key key j r (r + 1) (by omega) hj)
        rw [← hK0] at hrow
        have hw1 := hrow.1
        have hw2 := hrow.2
        have hA0 : Ag16 K0 := by rw [hK0]; exact ⟨A16_size _, A16_one _⟩
        have hA1 : Ag16 K1 := by rw [hK1]; exact ⟨A16_size _, A16_one _⟩
        have hnx : ∀ W, SubsAt W S → Calls Tryd.prog 72 #[.pointer (some ⟨S, 0, none⟩), .agg K0, .int .u8 (f.toNat : Int)] W fun e w' => e = .returned (.agg K1) ∧ Below W.heap.size W w' := fun W hW => by
          rw [hK0, hK1, hf]
          exact next_any S (rk key r) (fst r) W hW
        have hsb : SubsAt wr.drew S := subs_of (w := wr.drew) (r := r + 1) (by omega) hc
        have hfin : ∀ w5, Below wr.heap.size wr w5 → There16 w5 S (r1 * 16) ∧ Arr (w5.setCells S (r1 * 16) K1.toList) S 102 (cfK key (r1 + 1)) 432 ∧ Below w.heap.size w (w5.setCells S (r1 * 16) K1.toList) := fun w5 hb5 => by
          have h5 := hc.on hb5 hslt
          refine ⟨h5.there (by omega), ?_, setCells_below (hbw.trans (hb5.mono hbw.size)) (by omega) _ _⟩
          have h := Arr.setMid (T := rk key r1) h5 (o := r1 * 16) (m := 16) (by omega)
          rw [hK1, A16_toList, ← hr1]
          refine h.congr fun i _ => ?_
          rw [Nat.mul_comm, ← hr1]
          exact cf_more key r1 (by omega) i
        have hdb : ∀ W, Calls Tryd.prog 73 #[.int .u8 (f.toNat : Int)] W fun e w' => e = .returned (.int .u8 (d.toNat : Int)) ∧ W = w' := fun W => by
          rw [hd]; exact double_any f W
        have hdf : d = fst (r + 1) := by rw [hd, hf]; rfl
        rw [← hf]
        have HNX := Lib.hid hnx
        have HSB := Lib.hid hsb
        have HFIN := Lib.hid hfin
        have HDB := Lib.hid hdb
        have HDF := Lib.hid hdf
        have HR1 := Lib.hid hr1
        clear hr1 hf hd hK0 hK1 hc hbw hrow hnx hsb hfin hdb hdf
        go_wp2_with fail
        go_region_law ((first
          | (go_simp; go_at_call 72; refine (HNX.out _ HSB.out).mono ?_; rintro e w5 ⟨rfl, hb4⟩; have hb5 : Below wr.heap.size wr w5 := below_seq (below_of_drew ⟨1, rfl⟩ _) hb4; have hth := (HFIN.out w5 hb5).1)))
        all_goals
          have hF := (HFIN.out w5 hb5).2
          have HF := Lib.hid hF
          clear hF hth hb4 hb5 hw1 hw2
          go_wp2_with fail
          refine (HDB.out _).mono ?_
          rintro e w6 ⟨rfl, rfl⟩
          go_wp2_with fail
          have hr2 := HR1.out
          exact ⟨⟨r1, by omega, rfl, by rw [HDF.out, hr2], HF.out.1, HF.out.2⟩, by simp [intOf]; omega⟩
      · obtain rfl : r = 10 := by omega
        have HC := Lib.hid hc
        have HB := Lib.hid hbw
        clear hc hbw
        go_wp2
        go_ret
        exact ⟨S, rfl, by omega, HC.out, HB.out⟩
end Go.Proofs.YtammiehklibadaaDoor.Aes
