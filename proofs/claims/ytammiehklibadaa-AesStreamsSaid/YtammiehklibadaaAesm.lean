/-
  THE ALIVE of layer 5.
-/
import Derived.Test.YtammiehklibadaaAesl
import Derived.Test.YtammiehklibadaaAeso
import Derived.Stop.BytesEq
namespace Go.Proofs.Ytammiehklibadaa.Aes
open Go.RowKit
open Go.Proofs.Ytammiehklibadaa.Kit
open Go.Proofs.Ytammiehklibadaa.Oct
set_option linter.unusedVariables false

theorem same_new (A A' : Option Addr) (n c n' c' : Nat) (xs ys : List UInt8) (w : World) (ha : RdB w w.heap.size A n c xs) (hb : RdB w w.heap.size A' n' c' ys) :
    Calls Try.prog 8 #[.slice A n c, .slice A' n' c'] w fun e w' => e = .returned (.bool (decide (xs = ys))) ∧ Below w.heap.size w w' :=
  (rsame_any A A' n c n' c' _ _ xs ys w ha hb).mono fun e w' ⟨he, hd⟩ => ⟨he, below_of_drew hd _⟩
/-- what Stream answers, as bytes that can be read -/
theorem Arr.rd {w : World} {S n : Nat} {t : TypeId} {f : Nat → UInt8} (h : Arr w S t f n) (hn : n ≤ 9223372036854775807) : RdB w w.heap.size (some ⟨S, 0, none⟩) n n (row f n) := rd_block h (row_len _ _) hn
theorem stream_new (G : Nat) (key from_ : Nat → UInt8) (A : Option Addr) (n c : Nat) (bs : List UInt8) (w : World) (hC : CipherAt w G key) (hb : RdB w w.heap.size A n c bs) (hn : n ≤ 1000000000) :
    Calls Try.prog 11 #[.pointer (some ⟨G, 0, none⟩), .agg (A16 from_), .slice A n c] w fun e w' => ∃ S, e = .returned (.slice (some ⟨S, 0, none⟩) n n) ∧ RdB w' w'.heap.size (some ⟨S, 0, none⟩) n n (strF key from_ bs) ∧ Below w.heap.size w w' :=
  (stream_any G key from_ A n c bs w hC hb hn).mono fun e w' ⟨S, he, _, ha, hbl⟩ => ⟨S, he, by
    have h := ha.rd (by omega)
    rw [strF_row, hb.len]
    exact h, hbl⟩
theorem eq16 (f g : Nat → UInt8) (w : World) : (Op.equalIn 10000 22 (.agg (A16 f)) (.agg (A16 g))).run Try.prog w = .ok (row f 16 == row g 16) w :=
  run_equalIn_bytes w 9998 22 5 16 Try.underlying22 Try.underlying5 (fun w => by kernel_rfl) _ _ (row_len _ _) (row_len _ _)
theorem built0 : Try.prog.built 22 [] = some Z16 := by kernel_rfl
theorem wpList_built0 {P : Program} {ops : Array Oper} {rest : List Oper} {o : Oper} {a : Act} {w : World} {Q : Exit → Act → World → Prop} (hg : o.guard = none) (t : TypeId) (ho : o.op = .build t #[])
    (CV : Array Value) (hb : P.built t [] = some CV) (h : wpList P ops Q rest (a.put o.dst (.agg CV)) w) : wpList P ops Q (o :: rest) a w := by
  refine wpList_build hg t #[] ho ?_ ?_
  · simp [hb]
  · simpa [hb] using h
theorem ex_at (i : Nat) (h : i < 16) : blk exK exB i = [0x69, 0xc4, 0xe0, 0xd8, 0x6a, 0x7b, 0x04, 0x30, 0xd8, 0xcd, 0xb7, 0x80, 0x70, 0xb4, 0xc5, 0x5a].getD i 0 := by
  rw [← ex_blk]
  exact (at_row _ h).symm

theorem wp_load16g (d : Option Nat) (ty : TypeId) (pos : String) (after : Array Edge) (gd : Option (Nat × Bool)) (x : Operand) (a : Act) (w : World) (K : Act → World → Prop) (Q : Exit → Act → World → Prop) (h : HasRowAt w (a.eval x) 16) :
    Oper.wp Try.prog ⟨d, .load 22 x, ty, pos, after, gd⟩ a w K Q = K (a.put d (.agg (rowAt w (a.eval x) 16).toArray)) w := by
  have h0 := wp_load16 d ty pos after x a w K Q h
  rw [← h0]
  unfold Oper.wp execOp
  rfl
attribute [local go_sem ↓] wp_load16 wp_load16k wp_st16 wp_load16g
attribute [local go_sem] HasRowAt_mk rowAt_mk StOk2_mk stAt_mk
set_option maxRecDepth 100000 in
set_option maxHeartbeats 2000000 in
theorem alive5_any (w : World) : Calls Try.prog 5 #[] w fun e w' => e = .returned (.bool true) ∧ Below w.heap.size w w' := by
  obtain ⟨ZV, hZ⟩ : ∃ q, q = Z16 := ⟨_, rfl⟩
  have hz : ∀ w, (zeroValue 22).run Try.prog w = .ok (.agg ZV) w := by rw [hZ]; exact z16
  have hb0 : Try.prog.built 22 [] = some ZV := by rw [hZ]; exact built0
  have hag : Ag16 ZV := by rw [hZ, Z16_eq]; exact ag16 _
  have h2 := heap2 w (.cells ZV 22) (.cells ZV 22)
  obtain ⟨W2, hW2⟩ : ∃ q, q = (w.alloc (.cells ZV 22)).alloc (.cells ZV 22) := ⟨_, rfl⟩
  have ha : Arr W2 w.heap.size 22 (fun _ => 0) 16 := by rw [Arr, hW2, h2.1, hZ]; rfl
  have hb : Arr W2 (w.heap.size + 1) 22 (fun _ => 0) 16 := by rw [Arr, hW2, h2.2, hZ]; rfl
  have th1 : There16 ((w.alloc (.cells ZV 22)).alloc (.cells ZV 22)) w.heap.size 0 := by rw [← hW2]; exact ha.there (by omega)
  have ha3 : Arr (W2.setCells w.heap.size 0 ZV.toList) w.heap.size 22 (fun _ => 0) 16 := by rw [hZ, Z16_eq]; exact ha.store _
  have hb3 : Arr (W2.setCells w.heap.size 0 ZV.toList) (w.heap.size + 1) 22 (fun _ => 0) 16 := hb.block (setCells_other (by omega) _ _ _)
  have th2 : There16 (((w.alloc (.cells ZV 22)).alloc (.cells ZV 22)).setCells w.heap.size 0 ZV.toList) (w.heap.size + 1) 0 := by rw [← hW2]; exact hb3.there (by omega)
  have ha4 : Arr ((W2.setCells w.heap.size 0 ZV.toList).setCells (w.heap.size + 1) 0 ZV.toList) w.heap.size 22 (fun _ => 0) 16 := ha3.block (setCells_other (by omega) _ _ _)
  have hb4 : Arr ((W2.setCells w.heap.size 0 ZV.toList).setCells (w.heap.size + 1) 0 ZV.toList) (w.heap.size + 1) 22 (fun _ => 0) 16 := by
    have h := hb3.store (fun _ => 0)
    rw [← Z16_eq, ← hZ] at h
    exact h
  have hbw4 : Below w.heap.size w ((W2.setCells w.heap.size 0 ZV.toList).setCells (w.heap.size + 1) 0 ZV.toList) := by
    rw [hW2]
    exact setCells_below (setCells_below (below2 _ _ _) (Nat.le_refl _) _ _) (by omega) _ _
  have HA4 := Lib.hid ha4
  have HB4 := Lib.hid hb4
  have HBW4 := Lib.hid hbw4
  have HB0 := Lib.hid hb0
  have HW2 := Lib.hid hW2
  have HZ := Lib.hid hZ
  clear hZ hb0 h2 hW2 ha hb ha3 hb3 ha4 hb4 hbw4
  go_enter Try.func5, Try.ntmps5
  go_wp2_with (first
    | (refine wpList_built0 rfl 22 rfl ZV HB0.out ?_)
    | fail)
  rw [← HW2.out]
  clear th1 th2
  go_loopw [3, 8] (fun _ i wr => ∃ k : Nat, k ≤ 16 ∧ i = .int .i64 k ∧ Arr wr w.heap.size 22 (upto k exK (fun _ => 0)) 16 ∧ Arr wr (w.heap.size + 1) 22 (upto k exB (fun _ => 0)) 16 ∧ Below w.heap.size w wr) (fun _ i _ => 16 - (intOf i).toNat)
  case atStart => exact ⟨0, by omega, rfl, by rw [upto_zero]; exact HA4.out, by rw [upto_zero]; exact HB4.out, HBW4.out⟩
  case round =>
    clear HA4 HB4 HBW4 HW2
    obtain ⟨k, hk, rfl, hga, hgb, hbw⟩ := hrel
    by_cases hlt : k < 16
    · obtain ⟨x, hx⟩ : ∃ x, x = exK k := ⟨_, rfl⟩
      obtain ⟨y, hy⟩ : ∃ x, x = exB k := ⟨_, rfl⟩
      have e2 : IntKind.u8.wrap (k : Int) = (x.toNat : Int) := by
        rw [hx, exK, UInt8.toNat_ofNat']; show (k : Int) % 256 = ((k % 2 ^ 8 : Nat) : Int); omega
      have e3 : IntKind.u8.wrap (17 * (k : Int)) = (y.toNat : Int) := by
        rw [hy, exB, UInt8.toNat_ofNat']; show 17 * (k : Int) % 256 = ((17 * k % 2 ^ 8 : Nat) : Int); omega
      have c1 := hga.cell hlt
      have f1 := hga.frozen k
      have c2 := hgb.cell hlt
      have f2 := hgb.frozen k
      have l1 : (k : Int) < 16 := by omega
      have HGA := Lib.hid hga
      have HGB := Lib.hid hgb
      have HX := Lib.hid hx
      have HY := Lib.hid hy
      clear hga hgb hx hy
      go_wp2_with fail
      have h1 := HGA.out.set hlt
      rw [← HX.out] at h1
      have h2 := (HGB.out.block (w' := wr.setCell ⟨w.heap.size, k, none⟩ (.int .u8 (x.toNat : Int))) (heap_setCell_other _ _ _ _ (by simp))).set hlt
      rw [← HY.out] at h2
      exact ⟨⟨k + 1, by omega, by go_num, h1.block (heap_setCell_other _ _ _ _ (by simp)), h2, (hbw.setCell (Nat.le_refl _) _).setCell (by simp) _⟩, by simp [intOf]; omega⟩
    · obtain rfl : k = 16 := by omega
      have hga' : Arr wr w.heap.size 22 exK 16 := hga.congr fun i hi => upto_lt _ _ hi
      have hgb' : Arr wr (w.heap.size + 1) 22 exB 16 := hgb.congr fun i hi => upto_lt _ _ hi
      obtain ⟨f1, f2⟩ := arr_facts hga'
      obtain ⟨KV, hKV⟩ : ∃ q, q = A16 exK := ⟨_, rfl⟩
      have hnew := new_any exK wr
      rw [← hKV] at f1 hnew
      have HNEW := Lib.hid hnew
      have HGB := Lib.hid hgb'
      have HBW := Lib.hid hbw
      have hltb := hgb'.lt
      clear hga hgb hga' hgb' hKV hnew hbw
      go_wp2_with fail
      refine HNEW.out.mono ?_
      rintro e w1 ⟨S, rfl, hS, hC1, hb1⟩
      have hgb1 := HGB.out.on hb1 hltb
      obtain ⟨f3, f4⟩ := arr_facts hgb1
      obtain ⟨BV, hBV⟩ : ∃ q, q = A16 exB := ⟨_, rfl⟩
      have hblk := block_any S exK exB w1 hC1
      obtain ⟨XV, hXV⟩ : ∃ q, q = A16 (blk exK exB) := ⟨_, rfl⟩
      rw [← hBV] at f3 hblk
      rw [← hXV] at hblk
      have HBLK := Lib.hid hblk
      have HC1 := Lib.hid hC1
      have HGB1 := Lib.hid hgb1
      have HB1 := Lib.hid (below_seq HBW.out hb1)
      have HXV := Lib.hid hXV
      have HBV := Lib.hid hBV
      have hltS := hC1.lt
      have hltb1 := hgb1.lt
      clear hb1 hgb1 hblk hC1 hXV hBV f1 f2
      go_wp2_with fail
      refine HBLK.out.mono ?_
      rintro e w2 ⟨rfl, hb2⟩
      have hk : Arr (w2.alloc (.cells ZV 22)) w2.heap.size 22 (fun _ => 0) 16 := by rw [Arr, heap_alloc_new, HZ.out]; rfl
      have th : There16 (w2.alloc (.cells ZV 22)) w2.heap.size 0 := hk.there (by omega)
      have ax : Ag16 XV := by rw [HXV.out]; exact ag16 _
      have hx : Arr ((w2.alloc (.cells ZV 22)).setCells w2.heap.size 0 XV.toList) w2.heap.size 22 (blk exK exB) 16 := by rw [HXV.out]; exact hk.store _
      have c0 := hx.cell (show 0 < 16 by omega)
      have c1 := hx.cell (show 1 < 16 by omega)
      have c2 := hx.cell (show 2 < 16 by omega)
      have c15 := hx.cell (show 15 < 16 by omega)
      rw [ex_at _ (by omega)] at c0 c1 c2 c15
      have hb12 : Below w1.heap.size w1 ((w2.alloc (.cells ZV 22)).setCells w2.heap.size 0 XV.toList) := setCells_below (below_alloc hb2 _) hb2.size _ _
      have hgb2 := HGB1.out.on hb12 hltb1
      obtain ⟨f5, f6⟩ := arr_facts hgb2
      rw [← HBV.out] at f5
      have HC2 := Lib.hid (HC1.out.on hb12 hltS)
      have HB2 := Lib.hid (below_seq HB1.out hb12)
      clear hk hx hb2 hb12 hgb2 f3 f4
      go_wp2_with fail
      rw [HBV.out]
      refine (stream_new S exK exB _ 3 3 [1, 2, 3] _ (HC2.out.on (below_of_new _ _) HC2.out.lt) (rd_lit' _ (n := 3) rfl rfl rfl (by omega)) (by omega)).mono ?_
      rintro e w3 ⟨S3, rfl, hrd3, hb3⟩
      have HB3 := Lib.hid (below_seq HB2.out (below_seq (below_of_new _ _) hb3))
      clear hrd3 hb3 f5 f6 c0 c1 c2 c15 th
      go_wp2
      go_ret
      exact ⟨rfl, HB3.out⟩
end Go.Proofs.Ytammiehklibadaa.Aes
