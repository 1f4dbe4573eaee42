/-
  MARKS of layer 7, plainly. No program.
-/
import Derived.Test.YtbfcdlfjlailjaaKitm
import Derived.Test.YtbfcdlfjlailjaaAesy
import Derived.Test.YtbfcdlfjlailjaaOctm
import Derived.Deep.RegionHeld3
namespace Go.Proofs.Ytbfcdlfjlailjaa.Kit
open Go.RowKit
set_option linter.unusedVariables false

/-- the bytes of a mark -/
def mk (kd : UInt8) (n : Nat) : List UInt8 := [255, 254, kd, 0, 0, 0, 0, 0] ++ be 8 n
theorem mk_len (kd : UInt8) (n : Nat) : (mk kd n).length = 16 := by simp [mk, be_len]
/-- an array of sixteen bytes, as a value -/
def kv (b : List UInt8) : Array Value := (b.map bv).toArray
theorem kv_size (b : List UInt8) : (kv b).size = b.length := by simp [kv]
theorem kv_inj {a b : List UInt8} (h : kv a = kv b) : a = b := by
  have h1 : a.map bv = b.map bv := by simpa [kv] using h
  have hi : ∀ x y : UInt8, bv x = bv y → x = y := fun x y h => by
    simp only [bv, Value.int.injEq, true_and] at h
    exact UInt8.toNat_inj.1 (by omega)
  clear h
  induction a generalizing b with
  | nil => cases b with
    | nil => rfl
    | cons y s => simp at h1
  | cons x r ih => cases b with
    | nil => simp at h1
    | cons y s =>
      simp only [List.map_cons, List.cons.injEq] at h1
      rw [hi _ _ h1.1, ih h1.2]
theorem be8_inj {a b : Nat} (ha : a < 18446744073709551616) (hb : b < 18446744073709551616) (h : be 8 a = be 8 b) : a = b := by
  have h1 := congrArg num h
  rw [num_be, num_be, Nat.mod_eq_of_lt (by simpa using ha), Nat.mod_eq_of_lt (by simpa using hb)] at h1
  exact h1
theorem mk_inj {k l : UInt8} {a b : Nat} (ha : a < 18446744073709551616) (hb : b < 18446744073709551616) (h : mk k a = mk l b) : k = l ∧ a = b := by
  simp only [mk, List.cons_append, List.nil_append, List.cons.injEq, true_and] at h
  exact ⟨h.1, be8_inj ha hb h.2⟩
/-- what sixteen bytes are as a mark -/
def isK (c : UInt8) : Bool := c == 107 || c == 98 || c == 100
def markOf (b : List UInt8) : Option (UInt8 × Nat) :=
  if b.length = 16 ∧ gb b 0 = 255 ∧ gb b 1 = 254 ∧ isK (gb b 2) = true ∧ (gb b 3 = 0 ∧ gb b 4 = 0 ∧ gb b 5 = 0 ∧ gb b 6 = 0 ∧ gb b 7 = 0) ∧ num (b.drop 8) ≤ 1099511627776 then some (gb b 2, num (b.drop 8)) else none
def mkK (b : List UInt8) : UInt8 := match markOf b with | some x => x.1 | none => 0
def mkN (b : List UInt8) : Nat := match markOf b with | some x => x.2 | none => 0
def mkO (b : List UInt8) : Bool := (markOf b).isSome
theorem markOf_mk {kd : UInt8} {n : Nat} (hk : isK kd = true) (hn : n ≤ 1099511627776) : markOf (mk kd n) = some (kd, n) := by
  have h8 : (mk kd n).drop 8 = be 8 n := rfl
  have hnum : num (be 8 n) = n := by rw [num_be]; exact Nat.mod_eq_of_lt (by simp; omega)
  have h2 : gb (mk kd n) 2 = kd := rfl
  rw [markOf, h8, hnum, h2, if_pos]
  exact ⟨mk_len _ _, rfl, rfl, hk, ⟨rfl, rfl, rfl, rfl, rfl⟩, hn⟩
theorem markOf_eq {b : List UInt8} {kd : UInt8} {n : Nat} (h : markOf b = some (kd, n)) : b = mk kd n ∧ isK kd = true ∧ n ≤ 1099511627776 := by
  rw [markOf] at h
  by_cases hc : b.length = 16 ∧ gb b 0 = 255 ∧ gb b 1 = 254 ∧ isK (gb b 2) = true ∧ (gb b 3 = 0 ∧ gb b 4 = 0 ∧ gb b 5 = 0 ∧ gb b 6 = 0 ∧ gb b 7 = 0) ∧ num (b.drop 8) ≤ 1099511627776
  · rw [if_pos hc] at h
    obtain ⟨hl, h0, h1, h2, h3, h4⟩ := hc
    injection h with h
    injection h with e1 e2
    subst e1
    subst e2
    refine ⟨?_, h2, h4⟩
    match b, hl with
    | [b0, b1, b2, b3, b4, b5, b6, b7, b8, b9, b10, b11, b12, b13, b14, b15], _ =>
      obtain ⟨g0, g1, g2, g3, g4⟩ := h3
      simp only [gb, List.getElem?_cons_zero, List.getElem?_cons_succ, Option.getD_some] at h0 h1 g0 g1 g2 g3 g4
      subst h0 h1 g0 g1 g2 g3 g4
      simp only [mk, List.drop_succ_cons, List.drop_zero, List.cons_append, List.nil_append, List.cons.injEq, true_and]
      refine ⟨rfl, ?_⟩
      apply List.ext_getElem?
      intro i
      by_cases hi : i < 8
      · rw [be_at 8 _ _ hi]
        simp only [num, List.foldl_cons, List.foldl_nil]
        have q8 := b8.toNat_lt; have q9 := b9.toNat_lt; have q10 := b10.toNat_lt; have q11 := b11.toNat_lt
        have q12 := b12.toNat_lt; have q13 := b13.toNat_lt; have q14 := b14.toNat_lt; have q15 := b15.toNat_lt
        obtain rfl | rfl | rfl | rfl | rfl | rfl | rfl | rfl : i = 0 ∨ i = 1 ∨ i = 2 ∨ i = 3 ∨ i = 4 ∨ i = 5 ∨ i = 6 ∨ i = 7 := by omega
        all_goals
          simp only [List.getElem?_cons_zero, List.getElem?_cons_succ, Option.some.injEq]
          apply UInt8.toNat_inj.1
          rw [UInt8.toNat_ofNat']
          omega
      · rw [List.getElem?_eq_none (by simp; omega), List.getElem?_eq_none (by rw [be_len]; omega)]
  · rw [if_neg hc] at h; cases h
end Go.Proofs.Ytbfcdlfjlailjaa.Kit

/-
  MARKS of layer 7: both marks' contracts.
-/
namespace Go.Proofs.Ytbfcdlfjlailjaa.Sym
open Go.RowKit
open Go.Proofs.Ytbfcdlfjlailjaa.Kit
open Go.Proofs.Ytbfcdlfjlailjaa.Oct
set_option linter.unusedVariables false

theorem heap_new' (w : World) (o : Obj) {g : Nat} (h : g = w.heap.size) : (w.alloc o).heap[g]? = some o := by subst h; exact heap_alloc_new w o
theorem kv_one (b : List UInt8) : (kv b).all (·.oneCell') = true := all_oneCell_toArray (bv_one _)
theorem info5s : (Try.prog.info? 5).map (·.size) = some 1 := by kernel_rfl
theorem infoK : (Try.prog.info? 36).map (·.size) = some 16 := by kernel_rfl
theorem info32 : (Try.prog.info? 32).map (·.size) = some 16 := by kernel_rfl


set_option maxRecDepth 100000 in
set_option maxHeartbeats 1000000 in
theorem lmark_any (kd : UInt8) (n : Nat) (w : World) (hn : n ≤ 9223372036854775807) :
    Calls Try.prog 11 #[.int .u8 kd.toNat, .int .i64 n] w fun e w' => e = .returned (.agg (kv (mk kd n))) ∧ Below w.heap.size w w' := by
  have hk := kd.toNat_lt
  obtain ⟨ZA, hZA⟩ : ∃ q : Array Value, q = #[.int .u8 0, .int .u8 0, .int .u8 0, .int .u8 0, .int .u8 0, .int .u8 0, .int .u8 0, .int .u8 0, .int .u8 0, .int .u8 0, .int .u8 0, .int .u8 0, .int .u8 0, .int .u8 0, .int .u8 0, .int .u8 0] := ⟨_, rfl⟩
  obtain ⟨BA, hBA⟩ : ∃ q : List UInt8, q = [255, 254, kd, 0, 0, 0, 0, 0, 0, 0, 0, 0, 0, 0, 0, 0] := ⟨_, rfl⟩
  have hBV : (BA.map bv).toArray = #[.int .u8 255, .int .u8 254, .int .u8 kd.toNat, .int .u8 0, .int .u8 0, .int .u8 0, .int .u8 0, .int .u8 0, .int .u8 0, .int .u8 0, .int .u8 0, .int .u8 0, .int .u8 0, .int .u8 0, .int .u8 0, .int .u8 0] := by rw [hBA]; rfl
  obtain ⟨W2, hW2⟩ : ∃ q, q = (w.alloc (.cells ZA 32)).alloc (.cells (BA.map bv).toArray 32) := ⟨_, rfl⟩
  have hg2 : W2.heap[w.heap.size + 1]? = some (.cells (BA.map bv).toArray 32 (0, 0)) := by
    rw [hW2]; exact heap_new' _ _ (by simp)
  have hb2 : Below (w.heap.size + 1) (w.alloc (.cells ZA 32)) W2 := by
    rw [hW2]; have := below_of_new (w.alloc (.cells ZA 32)) (.cells (BA.map bv).toArray 32); rw [World.size_alloc] at this; exact this
  have hs2 : W2.heap.size = w.heap.size + 1 + 1 := by rw [hW2]; simp
  obtain ⟨PL, hPL⟩ : ∃ q : List Value, q = (be 8 n).map bv := ⟨_, rfl⟩
  have hPl : PL.length = 8 := by rw [hPL, List.length_map, be_len]
  have hP1 : ∀ v ∈ PL, v.oneCell' = true := by rw [hPL]; exact bv_one _
  have hsp : (splice (BA.map bv) 8 PL).toArray = kv (mk kd n) := by
    rw [hPL, hBA, splice, List.length_map, be_len]; simp [kv, mk, bv]
  obtain ⟨PV, hPV⟩ : ∃ q, q = kv (mk kd n) := ⟨_, rfl⟩
  have hPi : (Try.prog.info? 32).map (·.size) = some PV.size := by rw [hPV, kv_size, mk_len]; exact info32
  have hP1' : PV.all (·.oneCell') = true := by rw [hPV]; exact kv_one _
  have hZs : ZA.size = PV.size := by rw [hZA, hPV, kv_size, mk_len]; rfl
  have hG0 : (w.alloc (.cells ZA 32)).heap[w.heap.size]? = some (.cells ZA 32 (0, 0)) := heap_alloc_new w _
  have hBW0 := below_of_new w (.cells ZA 32)
  rw [← hPV] at hsp
  have hcp : (BA.map bv).length = 16 := by rw [hBA]; rfl
  obtain ⟨w1, hw1⟩ : ∃ q, q = w.alloc (.cells ZA 32) := ⟨_, rfl⟩
  have HG2 := Lib.hid hg2
  have HW2 := Lib.hid hW2
  have HS2 := Lib.hid hs2
  have HBV := Lib.hid hBV
  have HZA := Lib.hid hZA
  have HPL := Lib.hid hPL
  have HPl := Lib.hid hPl
  have HP1 := Lib.hid hP1
  have HSP := Lib.hid hsp
  have HPV := Lib.hid hPV
  have HPI := Lib.hid hPi
  have HPA := Lib.hid hP1'
  have HZS := Lib.hid hZs
  rw [← hw1] at hb2 hG0 hBW0
  have HB2 := Lib.hid hb2
  have HG0 := Lib.hid hG0
  have HBW0 := Lib.hid hBW0
  have HCP := Lib.hid hcp
  have HPUT := Lib.hid (rput_new n W2.drew (by omega))
  have hw1s : w1.heap.size = w.heap.size + 1 := by rw [hw1]; simp
  have HW1S := Lib.hid hw1s
  have HWR := Lib.hid (show IntKind.u64.wrap (n : Int) = n from by rw [IntKind.wrap_u64]; omega)
  clear hg2 hW2 hs2 hBV hZA hPL hPl hP1 hsp hPV hPi hP1' hZs hb2 hG0 hBW0 hcp hw1 hw1s hBA
  go_enter Try.func11, Try.ntmps11
  go_wp2_with fail
  rw [← HBV.out, ← HZA.out, ← HW2.out]
  refine wp_region_held_drew (S := fun _ => True) (by kernel_rfl) trivial (fun hHeld => ?_)
  refine wpAnyH_take (i := 0) (v := .slice (some ⟨w.heap.size + 1, 8, none⟩) 8 8) rfl (by kernel_rfl) (by kernel_rfl) (by kernel_rfl) (fun _ _ _ h => h) (Or.inl ⟨by rfl, fun wq hSw => by go_simp⟩) (by assumption) ?_
  go_simp
  refine wpAnyH_take (i := 1) (v := .int .i64 n) rfl (by kernel_rfl) (by kernel_rfl) (by kernel_rfl) (fun _ _ _ h => h) (Or.inl ⟨by rfl, fun wq hSw => by go_simp⟩) (by assumption) ?_
  go_simp
  refine wpAnyH_take (i := 2) (v := .int .u64 n) rfl (by kernel_rfl) (by kernel_rfl) (by kernel_rfl) (fun _ _ _ h => h) (Or.inl ⟨by rfl, fun wq hSw => by (go_simp; exact HWR.out)⟩) (by assumption) ?_
  go_simp
  refine wpAnyH_ready (rs := [3]) (by kernel_rfl) (by simp) ?_
  refine AllReadyH.cons rfl (fun K hK => ?_) AllReadyH.nil
  (go_simp; go_at_call 40; refine HPUT.out.mono ?_; rintro e w3 ⟨A3, c3, rfl, hn3⟩)
  try go_simp
  refine hK.out _ _ trivial (fun hHeld => ?_)
  clear hK K
  have hr3 := hn3.rd
  obtain ⟨b3, o3, rfl⟩ := hr3.addr (by omega)
  have HB3 := Lib.hid hn3.bl
  have hG3 := (hn3.bl.block (w.heap.size + 1) (by show _ < W2.heap.size; rw [HS2.out]; omega)).trans HG2.out
  have hsrc : 0 < PL.length → some (⟨w.heap.size + 1, 8, none⟩ : Addr) = some ⟨w.heap.size + 1, 8, none⟩ ∧ ∃ ad : Addr, some (⟨b3, o3, none⟩ : Addr) = some ad ∧ ∀ j v, PL[j]? = some v → w3.cell? (ad.add j) = some v := fun _ => ⟨rfl, ⟨b3, o3, none⟩, rfl, fun j v hj => by
    rw [HPL.out] at hj
    obtain ⟨b, o, he, _, hc⟩ := hr3.2.2.2 (by omega)
    injection he with he
    injection he with e1 e2
    subst e1
    subst e2
    rw [add_off]
    exact hc j v hj⟩
  have hBw : Below (w.heap.size + 1) w1 w3 := HB2.out.trans ((below_seq (below_of_drew ⟨1, rfl⟩ _) HB3.out : Below W2.heap.size W2 w3).mono (by rw [HS2.out]; omega))
  have hfit : 8 + PL.length ≤ (BA.map bv).length := by rw [HPl.out, HCP.out]; omega
  have hmin : PL.length = Nat.min 8 8 := by rw [HPl.out]; rfl
  have HG3 := Lib.hid hG3
  have HSRC := Lib.hid hsrc
  have HBW := Lib.hid hBw
  have HFIT := Lib.hid hfit
  have HMIN := Lib.hid hmin
  clear hG3 hsrc hBw hfit hmin hr3 hn3
  refine wpAnyH_ready (rs := [4]) (by kernel_rfl) (by simp) ?_
  refine AllReadyH.cons rfl (fun K hK => ?_) AllReadyH.nil
  (refine step_copy_splice (o := ⟨some 12, _, _, _, _, _⟩) rfl (.tmp 8) (.tmp 11) 29 29 rfl 5 Try.underlying29 info5s _ _ 8 8 8 c3 rfl rfl (w.heap.size + 1) 8 (BA.map bv) 32 HG3.out PL HMIN.out HSRC.out HFIT.out HP1.out (w.heap.size + 1) w1 HBW.out (Nat.le_refl _) ?_; intro w4 hg4 hb4)
  skip
  refine hK.out _ _ trivial (fun hHeld => ?_)
  clear hK K
  refine wpAnyH_done (by kernel_rfl) ?_ _
  rw [HSP.out] at hg4
  have hg0 : w4.heap[w.heap.size]? = _ := (hb4.block w.heap.size (by omega)).trans HG0.out
  have HG0' := Lib.hid hg0
  have HB4 := Lib.hid hb4
  clear hg0 hb4
  go_wp2_with (first
    | (refine wpList_load_row rfl 32 (.tmp 5) rfl (w.heap.size + 1) rfl 32 PV (0, 0) _ hg4.out Try.underlying32 rfl HPI.out ?_)
    | (refine wpList_store_row rfl 32 (.tmp 4) (.tmp 13) rfl w.heap.size PV rfl rfl 32 _ HG0'.out HPI.out HZS.out HPA.out ?_))
  have hres := setRow_heap _ w.heap.size _ PV _ _ HG0'.out
  refine bodyPost_ret (v := .agg PV) (results_cell_row Try.results11 _ _ w.heap.size 32 PV (0, 0) _ (by rfl) hres Try.underlying32 rfl HPI.out) rfl ?_
  exact ⟨by rw [HPV.out], below_setRow (HBW0.out.trans (HB4.out.mono (by omega))) (Nat.le_refl _) _⟩

set_option maxRecDepth 100000 in
set_option maxHeartbeats 1000000 in
theorem smark_any (kd : UInt8) (n : Nat) (w : World) (hn : n ≤ 9223372036854775807) :
    Calls Try.prog 43 #[.int .u8 kd.toNat, .int .i64 n] w fun e w' => e = .returned (.agg (kv (mk kd n))) ∧ Below w.heap.size w w' := by
  have hk := kd.toNat_lt
  obtain ⟨ZA, hZA⟩ : ∃ q : Array Value, q = #[.int .u8 0, .int .u8 0, .int .u8 0, .int .u8 0, .int .u8 0, .int .u8 0, .int .u8 0, .int .u8 0, .int .u8 0, .int .u8 0, .int .u8 0, .int .u8 0, .int .u8 0, .int .u8 0, .int .u8 0, .int .u8 0] := ⟨_, rfl⟩
  obtain ⟨BA, hBA⟩ : ∃ q : List UInt8, q = [255, 254, kd, 0, 0, 0, 0, 0, 0, 0, 0, 0, 0, 0, 0, 0] := ⟨_, rfl⟩
  have hBV : (BA.map bv).toArray = #[.int .u8 255, .int .u8 254, .int .u8 kd.toNat, .int .u8 0, .int .u8 0, .int .u8 0, .int .u8 0, .int .u8 0, .int .u8 0, .int .u8 0, .int .u8 0, .int .u8 0, .int .u8 0, .int .u8 0, .int .u8 0, .int .u8 0] := by rw [hBA]; rfl
  obtain ⟨W2, hW2⟩ : ∃ q, q = (w.alloc (.cells ZA 36)).alloc (.cells (BA.map bv).toArray 36) := ⟨_, rfl⟩
  have hg2 : W2.heap[w.heap.size + 1]? = some (.cells (BA.map bv).toArray 36 (0, 0)) := by
    rw [hW2]; exact heap_new' _ _ (by simp)
  have hb2 : Below (w.heap.size + 1) (w.alloc (.cells ZA 36)) W2 := by
    rw [hW2]; have := below_of_new (w.alloc (.cells ZA 36)) (.cells (BA.map bv).toArray 36); rw [World.size_alloc] at this; exact this
  have hs2 : W2.heap.size = w.heap.size + 1 + 1 := by rw [hW2]; simp
  obtain ⟨PL, hPL⟩ : ∃ q : List Value, q = (be 8 n).map bv := ⟨_, rfl⟩
  have hPl : PL.length = 8 := by rw [hPL, List.length_map, be_len]
  have hP1 : ∀ v ∈ PL, v.oneCell' = true := by rw [hPL]; exact bv_one _
  have hsp : (splice (BA.map bv) 8 PL).toArray = kv (mk kd n) := by
    rw [hPL, hBA, splice, List.length_map, be_len]; simp [kv, mk, bv]
  obtain ⟨PV, hPV⟩ : ∃ q, q = kv (mk kd n) := ⟨_, rfl⟩
  have hPi : (Try.prog.info? 36).map (·.size) = some PV.size := by rw [hPV, kv_size, mk_len]; exact infoK
  have hP1' : PV.all (·.oneCell') = true := by rw [hPV]; exact kv_one _
  have hZs : ZA.size = PV.size := by rw [hZA, hPV, kv_size, mk_len]; rfl
  have hG0 : (w.alloc (.cells ZA 36)).heap[w.heap.size]? = some (.cells ZA 36 (0, 0)) := heap_alloc_new w _
  have hBW0 := below_of_new w (.cells ZA 36)
  rw [← hPV] at hsp
  have hcp : (BA.map bv).length = 16 := by rw [hBA]; rfl
  obtain ⟨w1, hw1⟩ : ∃ q, q = w.alloc (.cells ZA 36) := ⟨_, rfl⟩
  have HG2 := Lib.hid hg2
  have HW2 := Lib.hid hW2
  have HS2 := Lib.hid hs2
  have HBV := Lib.hid hBV
  have HZA := Lib.hid hZA
  have HPL := Lib.hid hPL
  have HPl := Lib.hid hPl
  have HP1 := Lib.hid hP1
  have HSP := Lib.hid hsp
  have HPV := Lib.hid hPV
  have HPI := Lib.hid hPi
  have HPA := Lib.hid hP1'
  have HZS := Lib.hid hZs
  rw [← hw1] at hb2 hG0 hBW0
  have HB2 := Lib.hid hb2
  have HG0 := Lib.hid hG0
  have HBW0 := Lib.hid hBW0
  have HCP := Lib.hid hcp
  have HPUT := Lib.hid (put_new n W2.drew (by omega))
  have hw1s : w1.heap.size = w.heap.size + 1 := by rw [hw1]; simp
  have HW1S := Lib.hid hw1s
  have HWR := Lib.hid (show IntKind.u64.wrap (n : Int) = n from by rw [IntKind.wrap_u64]; omega)
  clear hg2 hW2 hs2 hBV hZA hPL hPl hP1 hsp hPV hPi hP1' hZs hb2 hG0 hBW0 hcp hw1 hw1s hBA
  go_enter Try.func43, Try.ntmps43
  go_wp2_with fail
  rw [← HBV.out, ← HZA.out, ← HW2.out]
  refine wp_region_held_drew (S := fun _ => True) (by kernel_rfl) trivial (fun hHeld => ?_)
  refine wpAnyH_take (i := 0) (v := .slice (some ⟨w.heap.size + 1, 8, none⟩) 8 8) rfl (by kernel_rfl) (by kernel_rfl) (by kernel_rfl) (fun _ _ _ h => h) (Or.inl ⟨by rfl, fun wq hSw => by go_simp⟩) (by assumption) ?_
  go_simp
  refine wpAnyH_take (i := 1) (v := .int .i64 n) rfl (by kernel_rfl) (by kernel_rfl) (by kernel_rfl) (fun _ _ _ h => h) (Or.inl ⟨by rfl, fun wq hSw => by go_simp⟩) (by assumption) ?_
  go_simp
  refine wpAnyH_take (i := 2) (v := .int .u64 n) rfl (by kernel_rfl) (by kernel_rfl) (by kernel_rfl) (fun _ _ _ h => h) (Or.inl ⟨by rfl, fun wq hSw => by (go_simp; exact HWR.out)⟩) (by assumption) ?_
  go_simp
  refine wpAnyH_ready (rs := [3]) (by kernel_rfl) (by simp) ?_
  refine AllReadyH.cons rfl (fun K hK => ?_) AllReadyH.nil
  (go_simp; go_at_call 52; refine HPUT.out.mono ?_; rintro e w3 ⟨A3, c3, rfl, hn3⟩)
  try go_simp
  refine hK.out _ _ trivial (fun hHeld => ?_)
  clear hK K
  have hr3 := hn3.rd
  obtain ⟨b3, o3, rfl⟩ := hr3.addr (by omega)
  have HB3 := Lib.hid hn3.bl
  have hG3 := (hn3.bl.block (w.heap.size + 1) (by show _ < W2.heap.size; rw [HS2.out]; omega)).trans HG2.out
  have hsrc : 0 < PL.length → some (⟨w.heap.size + 1, 8, none⟩ : Addr) = some ⟨w.heap.size + 1, 8, none⟩ ∧ ∃ ad : Addr, some (⟨b3, o3, none⟩ : Addr) = some ad ∧ ∀ j v, PL[j]? = some v → w3.cell? (ad.add j) = some v := fun _ => ⟨rfl, ⟨b3, o3, none⟩, rfl, fun j v hj => by
    rw [HPL.out] at hj
    obtain ⟨b, o, he, _, hc⟩ := hr3.2.2.2 (by omega)
    injection he with he
    injection he with e1 e2
    subst e1
    subst e2
    rw [add_off]
    exact hc j v hj⟩
  have hBw : Below (w.heap.size + 1) w1 w3 := HB2.out.trans ((below_seq (below_of_drew ⟨1, rfl⟩ _) HB3.out : Below W2.heap.size W2 w3).mono (by rw [HS2.out]; omega))
  have hfit : 8 + PL.length ≤ (BA.map bv).length := by rw [HPl.out, HCP.out]; omega
  have hmin : PL.length = Nat.min 8 8 := by rw [HPl.out]; rfl
  have HG3 := Lib.hid hG3
  have HSRC := Lib.hid hsrc
  have HBW := Lib.hid hBw
  have HFIT := Lib.hid hfit
  have HMIN := Lib.hid hmin
  clear hG3 hsrc hBw hfit hmin hr3 hn3
  refine wpAnyH_ready (rs := [4]) (by kernel_rfl) (by simp) ?_
  refine AllReadyH.cons rfl (fun K hK => ?_) AllReadyH.nil
  (refine step_copy_splice (o := ⟨some 12, _, _, _, _, _⟩) rfl (.tmp 8) (.tmp 11) 29 29 rfl 5 Try.underlying29 info5s _ _ 8 8 8 c3 rfl rfl (w.heap.size + 1) 8 (BA.map bv) 36 HG3.out PL HMIN.out HSRC.out HFIT.out HP1.out (w.heap.size + 1) w1 HBW.out (Nat.le_refl _) ?_; intro w4 hg4 hb4)
  skip
  refine hK.out _ _ trivial (fun hHeld => ?_)
  clear hK K
  refine wpAnyH_done (by kernel_rfl) ?_ _
  rw [HSP.out] at hg4
  have hg0 : w4.heap[w.heap.size]? = _ := (hb4.block w.heap.size (by omega)).trans HG0.out
  have HG0' := Lib.hid hg0
  have HB4 := Lib.hid hb4
  clear hg0 hb4
  go_wp2_with (first
    | (refine wpList_load_row rfl 36 (.tmp 5) rfl (w.heap.size + 1) rfl 36 PV (0, 0) _ hg4.out Try.underlying36 rfl HPI.out ?_)
    | (refine wpList_store_row rfl 36 (.tmp 4) (.tmp 13) rfl w.heap.size PV rfl rfl 36 _ HG0'.out HPI.out HZS.out HPA.out ?_))
  have hres := setRow_heap _ w.heap.size _ PV _ _ HG0'.out
  refine bodyPost_ret (v := .agg PV) (results_cell_row Try.results43 _ _ w.heap.size 36 PV (0, 0) _ (by rfl) hres Try.underlying36 rfl HPI.out) rfl ?_
  exact ⟨by rw [HPV.out], below_setRow (HBW0.out.trans (HB4.out.mono (by omega))) (Nat.le_refl _) _⟩
end Go.Proofs.Ytbfcdlfjlailjaa.Sym

/-
  sym's Mark and isKind.
-/
namespace Go.Proofs.Ytbfcdlfjlailjaa.Sym
open Go.RowKit
open Go.Proofs.Ytbfcdlfjlailjaa.Kit
open Go.Proofs.Ytbfcdlfjlailjaa.Oct
set_option linter.unusedVariables false

theorem isK_int (c : UInt8) : isK c = (((c.toNat : Int) == 107) || ((c.toNat : Int) == 98) || ((c.toNat : Int) == 100)) := by
  have h : ∀ k : UInt8, (c == k) = ((c.toNat : Int) == (k.toNat : Int)) := fun k => by
    rw [Bool.eq_iff_iff, beq_iff_eq, beq_iff_eq]
    constructor
    · rintro rfl; rfl
    · intro e; exact UInt8.toNat_inj.1 (by omega)
  rw [isK, h, h, h]; rfl
theorem isKind_any (c : UInt8) (w : World) : Calls Try.prog 49 #[.int .u8 c.toNat] w fun e w' => e = .returned (.bool (isK c)) ∧ w = w' := by
  rw [isK_int]
  cases g1 : ((c.toNat : Int) == 107) <;> cases g2 : ((c.toNat : Int) == 98) <;> cases g3 : ((c.toNat : Int) == 100)
  all_goals
    go_enter Try.func49, Try.ntmps49
    go_wp2
    go_ret
    first | exact ⟨rfl, rfl⟩ | (refine ⟨?_, rfl⟩; simp_all)

theorem mark_no {b : List UInt8} (h : markOf b = none) : mkK b = 0 ∧ mkN b = 0 ∧ mkO b = false := by
  unfold mkK mkN mkO
  rw [h]
  exact ⟨rfl, rfl, rfl⟩

theorem markOf_cond {b : List UInt8} (h : markOf b ≠ none) : b.length = 16 ∧ gb b 0 = 255 ∧ gb b 1 = 254 ∧ isK (gb b 2) = true ∧ (gb b 3 = 0 ∧ gb b 4 = 0 ∧ gb b 5 = 0 ∧ gb b 6 = 0 ∧ gb b 7 = 0) ∧ num (b.drop 8) ≤ 1099511627776 := by
  unfold markOf at h
  split at h
  · assumption
  · exact absurd rfl h
set_option maxRecDepth 100000 in
set_option maxHeartbeats 2000000 in
theorem mark_any (A : Option Addr) (n c B : Nat) (bs : List UInt8) (w : World) (h : RdB w B A n c bs) :
    Calls Try.prog 26 #[.slice A n c] w fun e w' => e = .returned (.tuple #[.int .u8 (mkK bs).toNat, .int .i64 (mkN bs), .bool (mkO bs)]) ∧ w = w' := by
  have hl := h.len
  have hr := h.room
  by_cases hn : n = 16
  · subst hn
    obtain ⟨b, o, rfl, hb, hc⟩ := h.at_ (k := 0) (by omega)
    have c0 := hc 0 (by omega)
    have c1 := hc 1 (by omega)
    have c2 := hc 2 (by omega)
    have hcut := RdB.cut h (k := 8) (by omega) (by omega)
    rw [Nat.add_zero] at c0
    obtain ⟨x0, hx0⟩ : ∃ q, q = bs[0] := ⟨_, rfl⟩
    obtain ⟨x1, hx1⟩ : ∃ q, q = bs[1] := ⟨_, rfl⟩
    obtain ⟨x2, hx2⟩ : ∃ q, q = bs[2] := ⟨_, rfl⟩
    have hg0 : gb bs 0 = x0 := by rw [gb_lt (by omega), hx0]
    have hg1 : gb bs 1 = x1 := by rw [gb_lt (by omega), hx1]
    have hg2 : gb bs 2 = x2 := by rw [gb_lt (by omega), hx2]
    rw [← hx0] at c0
    rw [← hx1] at c1
    rw [← hx2] at c2
    have HC := Lib.hid hc
    have HL := Lib.hid hl
    have HCUT := Lib.hid hcut
    have HG0 := Lib.hid hg0
    have HG1 := Lib.hid hg1
    have HG2 := Lib.hid hg2
    clear hx0 hx1 hx2 hg0 hg1 hg2 hc hl hcut h
    by_cases t0 : x0 = 255
    · by_cases t1 : x1 = 254
      · cases t2 : isK x2
        · obtain ⟨e1, e2, e3⟩ := mark_no (b := bs) (by
            rcases hm : markOf bs with _ | x
            · rfl
            · have := (markOf_cond (by rw [hm]; simp)).2.2.2.1
              rw [HG2.out, t2] at this
              cases this)
          rw [e1, e2, e3]
          have g0 : ((x0.toNat : Int) != 255) = false := by rw [t0]; rfl
          have g1 : ((x1.toNat : Int) != 254) = false := by rw [t1]; rfl
          have HT2 := Lib.hid t2
          clear e1 e2 e3 t0 t1 t2
          go_enter Try.func26, Try.ntmps26
          go_wp2_with fail
          refine (isKind_any x2 w).mono ?_
          rintro e w1 ⟨rfl, rfl⟩
          rw [HT2.out]
          go_wp2
          go_ret3
          exact ⟨rfl, rfl⟩
        · have g0 : ((x0.toNat : Int) != 255) = false := by rw [t0]; rfl
          have g1 : ((x1.toNat : Int) != 254) = false := by rw [t1]; rfl
          have HT0 := Lib.hid t0
          have HT1 := Lib.hid t1
          have HT2 := Lib.hid t2
          have hc16 : 16 ≤ c := hr.1
          have hcm : c ≤ 9223372036854775807 := hr.2
          clear t0 t1 t2
          go_enter Try.func26, Try.ntmps26
          go_wp2_with fail
          refine (isKind_any x2 w).mono ?_
          rintro e w1 ⟨rfl, rfl⟩
          rw [HT2.out]
          go_wp2_with fail
          clear c0 c1 g0 g1
          go_loop [34] (fun i => ∃ k : Nat, k ≤ 5 ∧ i = .int .i64 k ∧ ∀ j, j < k → gb bs (3 + j) = 0) (fun i => 5 - (intOf i).toNat)
          case atStart => exact ⟨0, by omega, rfl, fun j hj => absurd hj (by omega)⟩
          case round =>
            obtain ⟨k, hk, rfl, hz⟩ := hrel
            have HZ := Lib.hid hz
            clear hz
            by_cases hlt : k < 5
            · have hcc := HC.out (3 + k) (by have := HL.out; omega)
              rw [show o + (3 + k) = o + 3 + k from by omega] at hcc
              have hgk : gb bs (3 + k) = bs[3 + k]'(by have := HL.out; omega) := gb_lt _
              obtain ⟨x, hx⟩ : ∃ q, q = bs[3 + k]'(by have := HL.out; omega) := ⟨_, rfl⟩
              rw [← hx] at hcc hgk
              have HGK := Lib.hid hgk
              clear hx hgk
              by_cases hx0 : x = 0
              · subst hx0
                have hcc' : w.cell? ⟨b, o + 3 + k, none⟩ = some (.int .u8 0) := hcc
                clear hcc
                go_wp2
                go_round
                case rel => exact ⟨k + 1, by omega, by go_num, fun j hj => by
                  by_cases hjk : j = k
                  · rw [hjk]; exact HGK.out
                  · exact HZ.out j (by omega)⟩
                case measure => simp [intOf]; omega
              · obtain ⟨e1, e2, e3⟩ := mark_no (b := bs) (by
                  rcases hm : markOf bs with _ | y
                  · rfl
                  · obtain ⟨g3, g4, g5, g6, g7⟩ := (markOf_cond (b := bs) (by rw [hm]; simp)).2.2.2.2.1
                    exfalso
                    apply hx0
                    rw [← HGK.out]
                    obtain rfl | rfl | rfl | rfl | rfl : k = 0 ∨ k = 1 ∨ k = 2 ∨ k = 3 ∨ k = 4 := by omega
                    · exact g3
                    · exact g4
                    · exact g5
                    · exact g6
                    · exact g7)
                have HE1 := Lib.hid e1
                have HE2 := Lib.hid e2
                have HE3 := Lib.hid e3
                have gx : ((x.toNat : Int) != 0) = true := by
                  rw [bne_iff_ne]
                  intro e
                  exact hx0 (UInt8.toNat_inj.1 (by show x.toNat = 0; omega))
                clear e1 e2 e3 hx0
                go_wp2
                go_ret3
                exact ⟨by rw [HE1.out, HE2.out, HE3.out]; rfl, rfl⟩
            · obtain rfl : k = 5 := by omega
              have hcut := HCUT.out
              obtain ⟨N, hN⟩ : ∃ q, q = num (bs.drop 8) := ⟨_, rfl⟩
              have hlt8 := num_lt (bs.drop 8)
              rw [← hN] at hlt8
              have HN := Lib.hid hN
              have hget := get_yes (some ⟨b, o + 8, none⟩) 8 (c - 8) B (bs.drop 8) w hcut (by omega) (by omega)
              rw [← hN] at hget
              have HGET := Lib.hid hget
              clear hcut hN hlt8 hget
              by_cases hbig : N ≤ 1099511627776
              · have hm : markOf bs = some (x2, N) := by
                  rw [HN.out, ← HG2.out, markOf, if_pos]
                  refine ⟨HL.out, by rw [HG0.out, HT0.out], by rw [HG1.out, HT1.out], by rw [HG2.out, HT2.out], ⟨HZ.out 0 (by omega), HZ.out 1 (by omega), HZ.out 2 (by omega), HZ.out 3 (by omega), HZ.out 4 (by omega)⟩, by rw [← HN.out]; exact hbig⟩
                have e1 : mkK bs = x2 := by rw [mkK, hm]
                have e2 : mkN bs = N := by rw [mkN, hm]
                have e3 : mkO bs = true := by rw [mkO, hm]; rfl
                have HE1 := Lib.hid e1
                have HE2 := Lib.hid e2
                have HE3 := Lib.hid e3
                have gb1 : decide ((1099511627776 : Int) < (N : Int)) = false := by simp; omega
                clear e1 e2 e3 hm
                go_wp2_with fail
                refine HGET.out.mono ?_
                rintro e w1 ⟨rfl, rfl⟩
                go_wp2
                go_ret3
                exact ⟨by rw [HE1.out, HE2.out, HE3.out]; rfl, rfl⟩
              · obtain ⟨e1, e2, e3⟩ := mark_no (b := bs) (by
                  rcases hm : markOf bs with _ | y
                  · rfl
                  · have := (markOf_cond (b := bs) (by rw [hm]; simp)).2.2.2.2.2
                    rw [← HN.out] at this
                    exact absurd this hbig)
                have HE1 := Lib.hid e1
                have HE2 := Lib.hid e2
                have HE3 := Lib.hid e3
                have gb1 : decide ((1099511627776 : Int) < (N : Int)) = true := by simp; omega
                have pb1 : (1099511627776 : Int) < (N : Int) := by omega
                clear e1 e2 e3
                go_wp2_with fail
                refine HGET.out.mono ?_
                rintro e w1 ⟨rfl, rfl⟩
                go_wp2
                go_ret3
                exact ⟨by rw [HE1.out, HE2.out, HE3.out]; rfl, rfl⟩
      · obtain ⟨e1, e2, e3⟩ := mark_no (b := bs) (by
          rcases hm : markOf bs with _ | x
          · rfl
          · have := (markOf_cond (b := bs) (by rw [hm]; simp)).2.2.1
            rw [HG1.out] at this
            exact absurd this t1)
        rw [e1, e2, e3]
        have g0 : ((x0.toNat : Int) != 255) = false := by rw [t0]; rfl
        have g1 : ((x1.toNat : Int) != 254) = true := by rw [bne_iff_ne]; intro e; exact t1 (UInt8.toNat_inj.1 (by show x1.toNat = 254; omega))
        clear e1 e2 e3 t0 t1
        go_enter Try.func26, Try.ntmps26
        go_wp2
        go_ret3
        exact ⟨rfl, rfl⟩
    · obtain ⟨e1, e2, e3⟩ := mark_no (b := bs) (by
        rcases hm : markOf bs with _ | x
        · rfl
        · have := (markOf_cond (b := bs) (by rw [hm]; simp)).2.1
          rw [HG0.out] at this
          exact absurd this t0)
      rw [e1, e2, e3]
      have g0 : ((x0.toNat : Int) != 255) = true := by rw [bne_iff_ne]; intro e; exact t0 (UInt8.toNat_inj.1 (by show x0.toNat = 255; omega))
      clear e1 e2 e3 t0
      go_enter Try.func26, Try.ntmps26
      go_wp2
      go_ret3
      exact ⟨rfl, rfl⟩
  · have hm : markOf bs = none := by rw [markOf, if_neg (by rintro ⟨h1, _⟩; omega)]
    obtain ⟨e1, e2, e3⟩ := mark_no hm
    rw [e1, e2, e3]
    have g0 : ((n : Int) != 16) = true := by rw [bne_iff_ne]; omega
    clear e1 e2 e3 hm
    go_enter Try.func26, Try.ntmps26
    go_wp2
    go_ret3
    exact ⟨rfl, rfl⟩
end Go.Proofs.Ytbfcdlfjlailjaa.Sym
