/-
  THE CONTRACT of alive of layer 2.
-/
import Derived.Test.YtfinonfkpmlfeaaDerk
import Derived.Test.YtfinonfkpmlfeaaDerv
import Derived.Test.YtfinonfkpmlfeaaSamed
import Derived.Test.YtfinonfkpmlfeaaDere
namespace Go.Proofs.Ytfinonfkpmlfeaa.Der
open Go.RowKit
open Go.Proofs.Ytfinonfkpmlfeaa.Kit
open Go.Proofs.Ytfinonfkpmlfeaa.Oct
set_option linter.unusedVariables false

def xA : V := .mk 0 0 256 [] []
def xB : V := .mk 1 0 0 [9] []
def xC : V := .mk 2 0 0 [] []
def xX : V := .mk 2 3 0 [] [xA, xB, xC]
def xZ : V := .mk 0 31 0 [] []
def bX : List UInt8 := [131, 9, 0, 2, 1, 0, 64, 1, 9, 128, 0]
theorem xX_enc : xX.enc = bX := by decide +kernel
theorem xX_right : xX.right 0 = true := by decide +kernel
theorem xZ_right : xZ.right 0 = false := by decide +kernel
theorem xX_wrE : wrE xX = 0 := by rw [wrE, xX_right, if_pos rfl, xX_enc]; rfl
theorem xX_wrB : wrB xX = bX := by rw [wrB, xX_wrE, if_pos rfl, xX_enc]
theorem bX_rd : rdW bX = .ok xX 11 := by
  have h := rd_enc 100 xX (by decide +kernel) (by simp [xX, xA, xB, xC, V.fit, V.fit.fits]) 0 xX_right (by rw [xX_enc]; decide) []
  rw [xX_enc] at h
  have h' : rd 8 bX = .ok xX 11 := h
  rw [rdW, if_neg (by decide), h']
  rfl
theorem b4_rd : rdW [0, 2, 0, 1] = .err 4 := by rfl
theorem xX_fit : xX.fit := by simp [xX, xA, xB, xC, V.fit, V.fit.fits]
theorem xZ_fit : xZ.fit := by simp [xZ, V.fit, V.fit.fits]
theorem xX_same : xX.same xX = true := V.same_self _

theorem num_rd (w : World) (B : Nat) : RdV w B xA none 0 0 none 0 0 := RdVS.join (RdS.nil _ _) (RdVsS.nil _ _)

theorem Write_X (A : Option Addr) (m c : Nat) (A' : Option Addr) (m' c' : Nat) (w : World) (h : RdV w w.heap.size xX A m c A' m' c') :
    Calls Try.prog 12 #[.agg #[.int .i64 2, .int .i64 3, .int .u64 0, .slice A m c, .slice A' m' c']] w fun e w' => ∃ B cc, e = .returned (.tuple #[.slice B 11 cc, .int .i64 0]) ∧ New w w' B 11 cc bX := by
  have := Write_new xX A m c A' m' c' w xX_fit h
  rw [xX_wrE, xX_wrB] at this
  exact this
theorem Read_X (A : Option Addr) (c : Nat) (w : World) (h : RdB w w.heap.size A 11 c bX) :
    Calls Try.prog 17 #[.slice A 11 c] w fun e w' => ∃ A m c A' m' c', e = .returned (.tuple #[.agg #[.int .i64 2, .int .i64 3, .int .u64 0, .slice A m c, .slice A' m' c'], .int .i64 0]) ∧ RdV w' w'.heap.size xX A m c A' m' c' ∧ Below w.heap.size w w' := by
  refine (Read_any A 11 c bX w h).mono ?_
  rintro e w' ⟨hb, hr⟩
  rw [bX_rd] at hr
  obtain ⟨A, m, c, A', m', c', rfl, hrd⟩ := hr
  exact ⟨A, m, c, A', m', c', rfl, RdVS.keep (fun _ _ => rfl) (fun b hb => hb.2) _ hrd, hb⟩
theorem Read_4 (A : Option Addr) (c : Nat) (w : World) (h : RdB w w.heap.size A 4 c [0, 2, 0, 1]) :
    Calls Try.prog 17 #[.slice A 4 c] w fun e w' => e = .returned (.tuple #[.agg #[.int .i64 0, .int .i64 0, .int .u64 0, .slice none 0 0, .slice none 0 0], .int .i64 4]) ∧ Below w.heap.size w w' := by
  refine (Read_any A 4 c _ w h).mono ?_
  rintro e w' ⟨hb, hr⟩
  rw [b4_rd] at hr
  exact ⟨hr.2, hb⟩
theorem Same_X (A : Option Addr) (m c : Nat) (A' : Option Addr) (m' c' : Nat) (D : Option Addr) (p e : Nat) (D' : Option Addr) (p' e' : Nat) (w : World) (hx : RdV w w.heap.size xX A m c A' m' c') (hy : RdV w w.heap.size xX D p e D' p' e') :
    Calls Try.prog 18 #[.agg #[.int .i64 2, .int .i64 3, .int .u64 0, .slice A m c, .slice A' m' c'], .agg #[.int .i64 2, .int .i64 3, .int .u64 0, .slice D p e, .slice D' p' e']] w fun r w' => r = .returned (.bool true) ∧ Below w.heap.size w w' := by
  have := Same_new xX xX A m c A' m' c' D p e D' p' e' w (by decide +kernel) hx hy
  rw [xX_same] at this
  exact this
theorem Right_X (A : Option Addr) (m c : Nat) (A' : Option Addr) (m' c' : Nat) (w : World) (hx : RdV w w.heap.size xX A m c A' m' c') :
    Calls Try.prog 15 #[.agg #[.int .i64 2, .int .i64 3, .int .u64 0, .slice A m c, .slice A' m' c']] w fun e w' => e = .returned (.bool true) ∧ Below w.heap.size w w' := by
  have := Right_new xX A m c A' m' c' w xX_fit hx
  rw [xX_right] at this
  exact this
theorem Right_Z (w : World) :
    Calls Try.prog 15 #[.agg #[.int .i64 0, .int .i64 31, .int .u64 0, .slice none 0 0, .slice none 0 0]] w fun e w' => e = .returned (.bool false) ∧ Below w.heap.size w w' := by
  have := Right_new xZ none 0 0 none 0 0 w xZ_fit (RdVS.join (RdS.nil _ _) (RdVsS.nil _ _))
  rw [xZ_right] at this
  exact this
theorem Seq_C (w : World) :
    Calls Try.prog 21 #[.int .i64 0, .slice none 0 0] w fun e w' => ∃ A2 c2, e = .returned (.agg #[.int .i64 2, .int .i64 0, .int .u64 0, .slice none 0 0, .slice A2 0 c2]) ∧
      RdVsS w' (fun b => w.heap.size ≤ b ∧ b < w'.heap.size) [] A2 0 c2 ∧ Below w.heap.size w w' :=
  Seq_new 0 [] none 0 0 w ⟨rfl, Nat.le_refl _, by omega, by omega, fun h => absurd h (by omega)⟩ (by decide)
/-- three values behind one another -/
theorem three_rd {w3 : World} {A2 : Option Addr} {c2 : Nat} {A3 : Option Addr} {c3 : Nat} (h2 : RdS w3 (fun b => b < w3.heap.size) A2 1 c2 (([9] : List UInt8).map bv)) (h3 : RdVsS w3 (fun b => b < w3.heap.size) [] A3 0 c3) (t : TypeId) :
    RdVs (w3.alloc (.cells #[.int .i64 0, .int .i64 0, .int .u64 256, .slice none 0 0, .slice none 0 0, .int .i64 1, .int .i64 0, .int .u64 0, .slice A2 1 c2, .slice none 0 0, .int .i64 2, .int .i64 0, .int .u64 0, .slice none 0 0, .slice A3 0 c3] t)) (w3.alloc (.cells #[.int .i64 0, .int .i64 0, .int .u64 256, .slice none 0 0, .slice none 0 0, .int .i64 1, .int .i64 0, .int .u64 0, .slice A2 1 c2, .slice none 0 0, .int .i64 2, .int .i64 0, .int .u64 0, .slice none 0 0, .slice A3 0 c3] t)).heap.size
      [xA, xB, xC] (some ⟨w3.heap.size, 0, none⟩) 3 3 := by
  refine ⟨rfl, Nat.le_refl _, by omega, by omega, fun _ => ⟨w3.heap.size, 0, rfl, by simp, ?_⟩⟩
  have cell := fun j => World.cell?_alloc_new w3 #[.int .i64 0, .int .i64 0, .int .u64 256, .slice none 0 0, .slice none 0 0, .int .i64 1, .int .i64 0, .int .u64 0, .slice A2 1 c2, .slice none 0 0, .int .i64 2, .int .i64 0, .int .u64 0, .slice none 0 0, .slice A3 0 c3] t j
  have hk : ∀ p : Addr, p.block < w3.heap.size → (w3.alloc (.cells #[.int .i64 0, .int .i64 0, .int .u64 256, .slice none 0 0, .slice none 0 0, .int .i64 1, .int .i64 0, .int .u64 0, .slice A2 1 c2, .slice none 0 0, .int .i64 2, .int .i64 0, .int .u64 0, .slice none 0 0, .slice A3 0 c3] t)).cell? p = w3.cell? p := fun p hp => World.cell?_alloc_lt _ _ _ hp
  unfold RdVl
  rw [RdVlS, RdVlS, RdVlS, RdVlS]
  refine ⟨⟨none, 0, 0, none, 0, 0, cell 0, cell 1, cell 2, cell 3, cell 4, num_rd _ _⟩, ⟨A2, 1, c2, none, 0, 0, cell 5, cell 6, cell 7, cell 8, cell 9, RdVS.join (h2.keep hk (fun b hb => by simp; omega)) (RdVsS.nil _ _)⟩, ⟨none, 0, 0, A3, 0, c3, cell 10, cell 11, cell 12, cell 13, cell 14, RdVS.join (RdS.nil _ _) (h3.keep hk (fun b hb => by simp; omega))⟩, trivial⟩

set_option maxRecDepth 100000 in
set_option maxHeartbeats 2000000 in
theorem alive2_any (w : World) : Calls Try.prog 9 #[] w fun e w' => e = .returned (.bool true) ∧ Below w.heap.size w w' := by
  go_enter Try.func9, Try.ntmps9
  go_wp2_with fail
  refine (Num_new 256 _).mono ?_
  rintro e w1 ⟨rfl, hb1⟩
  go_wp2_with fail
  refine (Raw_new _ 1 1 [9] _ ?h1 (by omega)).mono ?_
  case h1 => exact rd_lit' w1 rfl rfl rfl (by omega)
  rintro e w2 ⟨A2, c2, rfl, hr2, hb2⟩
  have hB2 := below_seq (below_alloc hb1 _) hb2
  have hR2 := Lib.hid hr2
  clear hr2 hb1 hb2
  go_wp2_with fail
  refine (Seq_C _).mono ?_
  rintro e w3 ⟨A3, c3, rfl, hr3, hb3⟩
  have hB3 := below_seq hB2 hb3
  have H3 := Lib.hid (three_rd (hR2.out.keep (S' := fun b => b < w3.heap.size) (fun p hp => hb3.cell hp.2) (fun b hb => Nat.lt_of_lt_of_le hb.2 hb3.size)) (hr3.keep (fun _ _ => rfl) (fun b hb => hb.2)) 26)
  clear hr3 hb3 hB2 hR2
  go_wp2_with fail
  refine (Seq_new 3 [xA, xB, xC] _ 3 3 _ H3.out (by decide +kernel)).mono ?_
  rintro e w4 ⟨A4, c4, rfl, hr4, hb4⟩
  have hB4 := below_seq (below_alloc hB3 _) hb4
  have hX4 : RdV w4 w4.heap.size xX none 0 0 A4 3 c4 := RdVS.join (RdS.nil _ _) (hr4.keep (fun _ _ => rfl) (fun b hb => hb.2))
  have HX4 := Lib.hid hX4
  clear hr4 hb4 hX4 H3 hB3
  go_wp2_with fail
  refine (Write_X _ _ _ _ _ _ _ (HX4.out.on (below_of_new _ _))).mono ?_
  rintro e w5 ⟨B5, c5, rfl, hn5⟩
  have hx5 := box1 hn5.bl
  have hB5 := below_seq (below_alloc hB4 _) hn5.bl
  have hr5 := hn5.rd
  have HX5 := Lib.hid hx5
  have HN5 := Lib.hid hn5.bl
  have HR5 := Lib.hid hr5
  clear hn5 hx5
  go_wp2_with fail
  refine (Read_X _ _ _ hr5).mono ?_
  rintro e w6 ⟨A6, m6, c6, A7, m7, c7, rfl, hX6, hb6⟩
  have hB6 := below_seq hB5 hb6
  have HX6 := Lib.hid hX6
  have HB6 := Lib.hid hb6
  have HR6 := Lib.hid (HR5.out.on hb6)
  clear hr5 hX6 hb6 hB5
  go_wp2_with fail
  refine (Read_4 _ _ _ (rd_lit' _ (by simp) rfl rfl (by omega))).mono ?_
  rintro e w7 ⟨rfl, hb7⟩
  have hb7' := below_seq (below_of_new _ _) hb7
  have hx6 := box1 hb7'
  have hB67 := below_seq (below_of_new _ _) hb7'
  have hx5 := (hB67.block _ (Nat.lt_of_lt_of_le (by have := HN5.out.size; simp at this; omega) HB6.out.size)).trans ((HB6.out.block _ (by have := HN5.out.size; simp at this; omega)).trans HX5.out)
  have hB7 := below_seq hB6 hB67
  have hs5 : w4.heap.size < w7.heap.size := by have := HN5.out.size; have := HB6.out.size; have := hB67.size; simp at *; omega
  have hs6 : w6.heap.size < w7.heap.size := by have := hb7'.size; simp at *; omega
  have HX47 := Lib.hid ((((HX4.out.on (below_of_new _ _)).on HN5.out).on HB6.out).on hB67)
  have HX67 := Lib.hid (HX6.out.on hB67)
  have HR7 := Lib.hid (HR6.out.on hB67)
  have HX5' := Lib.hid hx5
  have HX6' := Lib.hid hx6
  clear hx5 hx6 hb7' hb7 hB67 hB6 HX5 HX6 HR6 HR5 HB6 HN5 HX4
  go_wp2_with fail
  refine (rsame_new _ _ _ _ _ _ bX bX _ ?h4 ?h5).mono ?_
  case h4 => exact (HR7.out.lit _).lit _
  case h5 => exact rd_lit' _ (by simp) rfl rfl (by omega)
  rintro e w8 ⟨rfl, hb8⟩
  rw [show decide (bX = bX) = true from by simp]
  have hB78 := below_seq (below_alloc (below_of_new w7 _) _) hb8
  have hx58 := (hB78.block _ hs5).trans HX5'.out
  have hx68 := (hB78.block _ hs6).trans HX6'.out
  obtain ⟨⟨q0, q1, q2, q3, q4⟩, _⟩ := cells5 hx58
  obtain ⟨⟨d0, d1, d2, d3, d4⟩, _⟩ := cells5 hx68
  have hB8 := below_seq hB7 hB78
  have HB78 := Lib.hid hB78
  clear hb8 hx58 hx68 hB78 hB7
  go_wp2_with fail
  refine (Same_X _ _ _ _ _ _ _ _ _ _ _ _ _ (HX47.out.on HB78.out) (HX67.out.on HB78.out)).mono ?_
  rintro e w9 ⟨rfl, hb9⟩
  have hx59 := (hb9.block _ (Nat.lt_of_lt_of_le hs5 HB78.out.size)).trans ((HB78.out.block _ hs5).trans HX5'.out)
  have hB9 := below_seq hB8 hb9
  have HX49 := Lib.hid ((HX47.out.on HB78.out).on hb9)
  clear q0 q1 q2 q3 q4 d0 d1 d2 d3 d4 hB8 hb9
  obtain ⟨⟨q0, q1, q2, q3, q4⟩, _⟩ := cells5 hx59
  clear hx59
  go_wp2_with fail
  refine (Right_X _ _ _ _ _ _ _ HX49.out).mono ?_
  rintro e w10 ⟨rfl, hb10⟩
  have hB10 := below_seq hB9 hb10
  clear q0 q1 q2 q3 q4 hB9 hb10
  go_wp2_with fail
  refine (Right_Z _).mono ?_
  rintro e w11 ⟨rfl, hb11⟩
  have hB11 := below_seq hB10 hb11
  go_wp2
  go_ret
  exact ⟨rfl, hB11⟩
end Go.Proofs.Ytfinonfkpmlfeaa.Der
