/-
  THE CONTRACTS of aes's double, spread.
-/
import Derived.Test.YtgebdkbbdabomaaDoorAesk
import Derived.Test.YtgebdkbbdabomaaDoorOctm
import Derived.StillTailTactics
namespace Go.Proofs.YtgebdkbbdabomaaDoor.Aes
open Go.RowKit
open Go.Proofs.YtgebdkbbdabomaaDoor.Kit
set_option linter.unusedVariables false

theorem all8 {p : UInt8 → Prop} (h : ∀ n : Fin 256, p (UInt8.ofNat n.val)) (b : UInt8) : p b := by
  have := h ⟨b.toNat, b.toNat_lt⟩
  simpa using this
theorem and128 (b : UInt8) : bits .and .u8 (b.toNat : Int) 128 = if 128 ≤ b.toNat then 128 else 0 :=
  all8 (p := fun b => bits .and .u8 (b.toNat : Int) 128 = if 128 ≤ b.toNat then 128 else 0) (by decide +kernel) b
theorem dbl_hi (b : UInt8) : 128 ≤ b.toNat → bits .xor .u8 ((b.toNat : Int) * 2 % 256) 27 = ((dbl b).toNat : Int) :=
  all8 (p := fun b => 128 ≤ b.toNat → bits .xor .u8 ((b.toNat : Int) * 2 % 256) 27 = ((dbl b).toNat : Int)) (by decide +kernel) b
theorem dbl_lo (b : UInt8) : ¬ 128 ≤ b.toNat → (b.toNat : Int) * 2 = ((dbl b).toNat : Int) :=
  all8 (p := fun b => ¬ 128 ≤ b.toNat → (b.toNat : Int) * 2 = ((dbl b).toNat : Int)) (by decide +kernel) b
theorem double_any (b : UInt8) (w : World) : Calls Tryd.prog 71 #[.int .u8 (b.toNat : Int)] w fun e w' => e = .returned (.int .u8 ((dbl b).toNat : Int)) ∧ w = w' := by
  have h1 := and128 b
  by_cases h : 128 ≤ b.toNat
  · rw [if_pos h] at h1
    go_enter Tryd.func71, Tryd.ntmps71
    go_wp2
    go_ret
    exact ⟨congrArg _ (int_eq (dbl_hi b h)), rfl⟩
  · rw [if_neg h] at h1
    go_enter Tryd.func71, Tryd.ntmps71
    go_wp2
    go_ret
    exact ⟨congrArg _ (int_eq (dbl_lo b h)), rfl⟩
theorem rot1 (b : UInt8) : bits .or .u8 ((b.toNat : Int) * 2 % 256) ((b.toNat : Int) / 128) = ((rotl b 1).toNat : Int) :=
  all8 (p := fun b => bits .or .u8 ((b.toNat : Int) * 2 % 256) ((b.toNat : Int) / 128) = ((rotl b 1).toNat : Int)) (by decide +kernel) b
theorem rot2 (b : UInt8) : bits .or .u8 ((b.toNat : Int) * 4 % 256) ((b.toNat : Int) / 64) = ((rotl b 2).toNat : Int) :=
  all8 (p := fun b => bits .or .u8 ((b.toNat : Int) * 4 % 256) ((b.toNat : Int) / 64) = ((rotl b 2).toNat : Int)) (by decide +kernel) b
theorem rot3 (b : UInt8) : bits .or .u8 ((b.toNat : Int) * 8 % 256) ((b.toNat : Int) / 32) = ((rotl b 3).toNat : Int) :=
  all8 (p := fun b => bits .or .u8 ((b.toNat : Int) * 8 % 256) ((b.toNat : Int) / 32) = ((rotl b 3).toNat : Int)) (by decide +kernel) b
theorem rot4 (b : UInt8) : bits .or .u8 ((b.toNat : Int) * 16 % 256) ((b.toNat : Int) / 16) = ((rotl b 4).toNat : Int) :=
  all8 (p := fun b => bits .or .u8 ((b.toNat : Int) * 16 % 256) ((b.toNat : Int) / 16) = ((rotl b 4).toNat : Int)) (by decide +kernel) b
theorem rotl_any (b : UInt8) (k : Nat) (h1 : 1 ≤ k) (h4 : k ≤ 4) (w : World) : Calls Tryd.prog 87 #[.int .u8 (b.toNat : Int), .int .i64 (k : Int)] w fun e w' => e = .returned (.int .u8 ((rotl b k).toNat : Int)) ∧ w = w' := by
  have a1 : bits .and .u64 1 7 = 1 := rfl
  have a2 : bits .and .u64 2 7 = 2 := rfl
  have a3 : bits .and .u64 3 7 = 3 := rfl
  have a4 : bits .and .u64 4 7 = 4 := rfl
  obtain rfl | rfl | rfl | rfl : k = 1 ∨ k = 2 ∨ k = 3 ∨ k = 4 := by omega
  all_goals
    go_enter Tryd.func87, Tryd.ntmps87
    go_wp2
    go_ret
    first
    | exact ⟨congrArg _ (int_eq (rot1 b)), rfl⟩
    | exact ⟨congrArg _ (int_eq (rot2 b)), rfl⟩
    | exact ⟨congrArg _ (int_eq (rot3 b)), rfl⟩
    | exact ⟨congrArg _ (int_eq (rot4 b)), rfl⟩
def sprK (b : UInt8) : Nat → UInt8
  | 0 => b ^^^ 0x63
  | k + 1 => sprK b k ^^^ rotl b (k + 1)
theorem sprK_all (b : UInt8) : sprK b 4 = spr b := rfl
theorem spread_any (b : UInt8) (w : World) : Calls Tryd.prog 81 #[.int .u8 (b.toNat : Int)] w fun e w' => e = .returned (.int .u8 ((spr b).toNat : Int)) ∧ w = w' := by
  have h0 : bits .xor .u8 (b.toNat : Int) 99 = ((sprK b 0).toNat : Int) := xor_u8 b 99
  obtain ⟨s0, hs0⟩ : ∃ q, q = sprK b 0 := ⟨_, rfl⟩
  rw [← hs0] at h0
  have HS0 := Lib.hid hs0
  clear hs0
  go_enter Tryd.func81, Tryd.ntmps81
  go_wp2_with fail
  go_loopw [3, 4] (fun s i wr => ∃ k : Nat, k ≤ 4 ∧ i = .int .i64 ((k + 1 : Nat) : Int) ∧ s = .int .u8 ((sprK b k).toNat : Int) ∧ w = wr) (fun s i _ => 5 - (intOf i).toNat)
  case atStart => exact ⟨0, by omega, rfl, by rw [HS0.out], rfl⟩
  case round =>
    obtain ⟨k, hk, rfl, rfl, rfl⟩ := hrel
    by_cases hlt : k < 4
    · obtain ⟨x, hx⟩ : ∃ x, x = sprK b k := ⟨_, rfl⟩
      rw [← hx]
      have hxor := xor_u8 x (rotl b (k + 1))
      have hn : x ^^^ rotl b (k + 1) = sprK b (k + 1) := by rw [hx]; rfl
      have HN := Lib.hid hn
      clear hn hx
      go_wp2_with fail
      refine (rotl_any b (k + 1) (by omega) (by omega) _).mono ?_
      rintro e w2 ⟨rfl, rfl⟩
      go_wp2
      go_roundw
      case rel => exact ⟨k + 1, by omega, by go_num, by rw [← HN.out, UInt8.toNat_xor], by first | rfl | trivial⟩
      case measure => simp [intOf]; omega
    · obtain rfl : k = 4 := by omega
      go_wp2
      go_ret
      exact ⟨by rw [← sprK_all]; rfl, rfl⟩
end Go.Proofs.YtgebdkbbdabomaaDoor.Aes

/-
  THE CONTRACT of aes's sum.
-/
namespace Go.Proofs.YtgebdkbbdabomaaDoor.Aes
open Go.RowKit
open Go.Proofs.YtgebdkbbdabomaaDoor.Kit
set_option linter.unusedVariables false

/-- sixteen bytes as a value -/
def A16 (f : Nat → UInt8) : Array Value := ((row f 16).map bv).toArray
theorem A16_size (f : Nat → UInt8) : (A16 f).size = 16 := by simp [A16, row_len]
theorem A16_one (f : Nat → UInt8) : (A16 f).all (·.oneCell') = true := agg_one f 16
theorem A16_info (f : Nat → UInt8) : (Tryd.prog.info? 29).map (·.size) = some (A16 f).size := by rw [A16_size]; exact info16
def Z16 : Array Value := (List.replicate 16 (Value.int .u8 0)).toArray
theorem z16 (w : World) : (zeroValue 29).run Tryd.prog w = .ok (.agg Z16) w := by kernel_rfl
theorem Z16_eq : Z16 = A16 (fun _ => 0) := rfl
theorem heap3 (w : World) (o1 o2 o3 : Obj) : (((w.alloc o1).alloc o2).alloc o3).heap[w.heap.size]? = some o1 ∧ (((w.alloc o1).alloc o2).alloc o3).heap[w.heap.size + 1]? = some o2 ∧ (((w.alloc o1).alloc o2).alloc o3).heap[w.heap.size + 1 + 1]? = some o3 := by
  refine ⟨?_, ?_, ?_⟩
  · rw [heap_alloc_old _ _ (by simp; omega), heap_alloc_old _ _ (by simp)]; exact heap_alloc_new w o1
  · rw [heap_alloc_old _ _ (by simp)]
    have := heap_alloc_new (w.alloc o1) o2
    rw [World.size_alloc] at this
    exact this
  · have := heap_alloc_new ((w.alloc o1).alloc o2) o3
    rw [World.size_alloc, World.size_alloc] at this
    exact this
theorem below3 (w : World) (o1 o2 o3 : Obj) : Below w.heap.size w (((w.alloc o1).alloc o2).alloc o3) := below_alloc (below_alloc (below_of_new w _) _) _
theorem below_drew' {B : Nat} {w w' : World} (h : Below B w w') : Below B w w'.drew := h.trans (below_of_drew ⟨1, rfl⟩ _)

set_option maxRecDepth 100000 in
set_option maxHeartbeats 1000000 in
theorem sum_any (a b : Nat → UInt8) (w : World) : Calls Tryd.prog 83 #[.agg (A16 a), .agg (A16 b)] w fun e w' => e = .returned (.agg (A16 (sumB a b))) ∧ Below w.heap.size w w' := by
  obtain ⟨ZV, hZ⟩ : ∃ q, q = Z16 := ⟨_, rfl⟩
  have hz : ∀ w, (zeroValue 29).run Tryd.prog w = .ok (.agg ZV) w := by rw [hZ]; exact z16
  have hzl : ZV.size = 16 := by rw [hZ]; rfl
  obtain ⟨AV, hAV⟩ : ∃ q, q = A16 a := ⟨_, rfl⟩
  obtain ⟨BV, hBV⟩ : ∃ q, q = A16 b := ⟨_, rfl⟩
  obtain ⟨PV, hPV⟩ : ∃ q, q = A16 (sumB a b) := ⟨_, rfl⟩
  have hPs : PV.size = 16 := by rw [hPV, A16_size]
  have hI : (Tryd.prog.info? 29).map (·.size) = some PV.size := by rw [hPs]; exact info16
  have hP1 : PV.all (·.oneCell') = true := by rw [hPV, A16_one]
  have h3 := heap3 w (.cells AV 29) (.cells BV 29) (.cells ZV 29)
  have hst : Arr (((w.alloc (.cells AV 29)).alloc (.cells BV 29)).alloc (.cells ZV 29)) w.heap.size 29 (upto 0 (sumB a b) a) 16 := by
    rw [upto_zero, Arr, h3.1, hAV]; rfl
  have hsb : Arr (((w.alloc (.cells AV 29)).alloc (.cells BV 29)).alloc (.cells ZV 29)) (w.heap.size + 1) 29 b 16 := by
    rw [Arr, h3.2.1, hBV]; rfl
  have H0 := Lib.hid (And.intro hst (And.intro hsb h3.2.2))
  rw [← hAV, ← hBV, ← hPV]
  have HI := Lib.hid hI
  have HP1 := Lib.hid hP1
  have HPS := Lib.hid hPs
  have HPV := Lib.hid hPV
  have HZL := Lib.hid hzl
  clear hZ hzl hAV hBV hPV hPs hI hP1 h3 hst hsb
  go_enter Tryd.func83, Tryd.ntmps83
  go_wp2_with fail
  go_loopw [5, 6] (fun _ i wr => ∃ k : Nat, k ≤ 16 ∧ i = .int .i64 k ∧ Arr wr w.heap.size 29 (upto k (sumB a b) a) 16 ∧ Arr wr (w.heap.size + 1) 29 b 16 ∧ wr.heap[w.heap.size + 1 + 1]? = some (.cells ZV 29 (0, 0)) ∧ Below w.heap.size w wr) (fun _ i _ => 16 - (intOf i).toNat)
  case atStart => exact ⟨0, by omega, rfl, H0.out.1, H0.out.2.1, H0.out.2.2, below3 _ _ _ _⟩
  case round =>
    obtain ⟨k, hk, rfl, hga, hgb, hgz, hbw⟩ := hrel
    by_cases hlt : k < 16
    · obtain ⟨x, hx⟩ : ∃ x, x = a k := ⟨_, rfl⟩
      obtain ⟨y, hy⟩ : ∃ y, y = b k := ⟨_, rfl⟩
      have hca := hga.cell hlt
      rw [upto_ge _ _ (Nat.le_refl _), ← hx] at hca
      have hcb := hgb.cell hlt
      rw [← hy] at hcb
      have hfa := hga.frozen k
      have hxor := xor_u8 x y
      have hs1 : Arr (wr.setCell ⟨w.heap.size, k, none⟩ (.int .u8 ((x ^^^ y).toNat : Int))) w.heap.size 29 (upto (k + 1) (sumB a b) a) 16 := by
        have := hga.set hlt
        rw [sumB, ← hx, ← hy] at this
        exact this
      have hs2 : Arr (wr.setCell ⟨w.heap.size, k, none⟩ (.int .u8 ((x ^^^ y).toNat : Int))) (w.heap.size + 1) 29 b 16 := hgb.block (heap_setCell_other _ _ _ _ (by simp))
      have hs3 : (wr.setCell ⟨w.heap.size, k, none⟩ (.int .u8 ((x ^^^ y).toNat : Int))).heap[w.heap.size + 1 + 1]? = some (.cells ZV 29 (0, 0)) := (heap_setCell_other _ _ _ _ (by simp; omega)).trans hgz
      have hs4 : Below w.heap.size w (wr.setCell ⟨w.heap.size, k, none⟩ (.int .u8 ((x ^^^ y).toNat : Int))) := hbw.setCell (Nat.le_refl _) _
      have HS1 := Lib.hid hs1
      have HS2 := Lib.hid hs2
      have HS3 := Lib.hid hs3
      have HS4 := Lib.hid (below_drew' hs4)
      clear hs1 hs2 hs3 hs4 hga hgb hgz hx hy hbw
      simp only [UInt8.toNat_xor] at HS1 HS2 HS3 HS4 hxor
      go_wp2_with fail
      refine wp_region_still_tail 8 (by kernel_rfl) (by kernel_rfl) ?_
      simp only [List.take_succ_cons, List.take_zero, List.drop_succ_cons, List.drop_zero]
      repeat still_step
      refine wpStill_nil ?_
      go_wp2_with fail
      exact ⟨⟨k + 1, by omega, by go_num, HS1.out, HS2.out, HS3.out, HS4.out⟩, by simp [intOf]; omega⟩
    · obtain rfl : k = 16 := by omega
      rw [Arr, upto_all] at hga
      have hg2 : wr.heap[w.heap.size]? = some (.cells PV 29 (0, 0)) := by rw [HPV.out]; exact hga
      clear hga hgb
      go_wp2_with (first
        | (refine wpList_load_row rfl 29 (.tmp 2) rfl w.heap.size rfl 29 PV (0, 0) _ hg2 Tryd.underlying29 rfl HI.out ?_)
        | (refine wpList_store_row rfl 29 (.tmp 4) (.tmp 18) rfl (w.heap.size + 1 + 1) PV rfl rfl 29 _ hgz HI.out (by rw [HZL.out, HPS.out]) HP1.out ?_)
        | fail)
      have hres := setRow_heap _ (w.heap.size + 1 + 1) _ PV _ _ hgz
      refine bodyPost_ret (v := .agg PV) (results_cell_row Tryd.results83 _ _ (w.heap.size + 1 + 1) 29 PV (0, 0) _ (by rfl) hres Tryd.underlying29 rfl HI.out) rfl ?_
      exact ⟨rfl, below_setRow hbw (by omega) _⟩
end Go.Proofs.YtgebdkbbdabomaaDoor.Aes

/-
  THE CONTRACT of aes's shifted.
-/
namespace Go.Proofs.YtgebdkbbdabomaaDoor.Aes
open Go.RowKit
open Go.Proofs.YtgebdkbbdabomaaDoor.Kit
set_option linter.unusedVariables false

/-- the substitutions of a cipher in memory -/
def SubsAt (w : World) (G : Nat) : Prop := ∀ n, n < 256 → w.cell? ⟨G, 176 + n, none⟩ = some (.int .u8 ((sbN n).toNat : Int))
theorem SubsAt.lt {w : World} {G : Nat} (h : SubsAt w G) : G < w.heap.size := block_lt_of_cell (h 0 (by omega))
theorem SubsAt.on {w w' : World} {G B : Nat} (h : SubsAt w G) (hb : Below B w w') (hG : G < B) : SubsAt w' G := fun n hn => (hb.cell (p := ⟨G, 176 + n, none⟩) hG).trans (h n hn)

set_option maxRecDepth 100000 in
set_option maxHeartbeats 1000000 in
theorem shifted_any (G : Nat) (b : Nat → UInt8) (w : World) (hG : SubsAt w G) : Calls Tryd.prog 84 #[.pointer (some ⟨G, 0, none⟩), .agg (A16 b)] w fun e w' => e = .returned (.agg (A16 (shB b))) ∧ Below w.heap.size w w' := by
  obtain ⟨ZV, hZ⟩ : ∃ q, q = Z16 := ⟨_, rfl⟩
  have hz : ∀ w, (zeroValue 29).run Tryd.prog w = .ok (.agg ZV) w := by rw [hZ]; exact z16
  have hzl : ZV.size = 16 := by rw [hZ]; rfl
  obtain ⟨BV, hBV⟩ : ∃ q, q = A16 b := ⟨_, rfl⟩
  obtain ⟨PV, hPV⟩ : ∃ q, q = A16 (shB b) := ⟨_, rfl⟩
  have hPs : PV.size = 16 := by rw [hPV, A16_size]
  have hI : (Tryd.prog.info? 29).map (·.size) = some PV.size := by rw [hPs]; exact info16
  have hP1 : PV.all (·.oneCell') = true := by rw [hPV, A16_one]
  have h3 := heap3 w (.cells BV 29) (.cells ZV 29) (.cells ZV 29)
  have hsb : Arr (((w.alloc (.cells BV 29)).alloc (.cells ZV 29)).alloc (.cells ZV 29)) w.heap.size 29 b 16 := by
    rw [Arr, h3.1, hBV]; rfl
  have hst : Arr (((w.alloc (.cells BV 29)).alloc (.cells ZV 29)).alloc (.cells ZV 29)) (w.heap.size + 1 + 1) 29 (upto 0 (shB b) (fun _ => 0)) 16 := by
    rw [upto_zero, Arr, h3.2.2, hZ]; rfl
  have H0 := Lib.hid (And.intro hst (And.intro hsb h3.2.1))
  rw [← hBV, ← hPV]
  have HG := Lib.hid hG
  have HI := Lib.hid hI
  have HP1 := Lib.hid hP1
  have HPS := Lib.hid hPs
  have HPV := Lib.hid hPV
  have HZL := Lib.hid hzl
  have hGlt := hG.lt
  clear hZ hzl hBV hPV hPs hI hP1 h3 hst hsb hG
  go_enter Tryd.func84, Tryd.ntmps84
  go_wp2_with fail
  go_loopw [6, 7] (fun _ i wr => ∃ k : Nat, k ≤ 16 ∧ i = .int .i64 k ∧ Arr wr (w.heap.size + 1 + 1) 29 (upto k (shB b) (fun _ => 0)) 16 ∧ Arr wr w.heap.size 29 b 16 ∧ wr.heap[w.heap.size + 1]? = some (.cells ZV 29 (0, 0)) ∧ Below w.heap.size w wr) (fun _ i _ => 16 - (intOf i).toNat)
  case atStart => exact ⟨0, by omega, rfl, H0.out.1, H0.out.2.1, H0.out.2.2, below3 _ _ _ _⟩
  case round =>
    obtain ⟨k, hk, rfl, hgt, hgb, hgz, hbw⟩ := hrel
    by_cases hlt : k < 16
    · obtain ⟨m, hm⟩ : ∃ m, m = (k + 4 * (k % 4)) % 16 := ⟨_, rfl⟩
      have hm16 : m < 16 := by omega
      obtain ⟨x, hx⟩ : ∃ x, x = b m := ⟨_, rfl⟩
      obtain ⟨y, hy⟩ : ∃ y, y = sbN x.toNat := ⟨_, rfl⟩
      have hcb := hgb.cell hm16
      rw [← hx] at hcb
      have hx256 := x.toNat_lt
      have hcs := (HG.out.on hbw hGlt) x.toNat hx256
      rw [← hy] at hcs
      have hct := hgt.cell hlt
      have hft := hgt.frozen k
      have hT : shB b k = y := by rw [shB, ← hm, ← hx, sb, hy]
      obtain ⟨q1, hq1⟩ : ∃ q, q = k % 4 := ⟨_, rfl⟩
      obtain ⟨q2, hq2⟩ : ∃ q, q = 4 * q1 := ⟨_, rfl⟩
      obtain ⟨q3, hq3⟩ : ∃ q, q = k + q2 := ⟨_, rfl⟩
      have e1 : (k : Int).tmod 4 = (q1 : Int) := by rw [Int.tmod_eq_emod_of_nonneg (by omega)]; omega
      have e2 : IntKind.i64.wrap (4 * (q1 : Int)) = (q2 : Int) := by rw [IntKind.wrap_i64]; omega
      have e3 : IntKind.i64.wrap ((k : Int) + (q2 : Int)) = (q3 : Int) := by rw [IntKind.wrap_i64]; omega
      have e4 : (q3 : Int).tmod 16 = (m : Int) := by rw [Int.tmod_eq_emod_of_nonneg (by omega)]; omega
      have hs1 : Arr (wr.setCell ⟨w.heap.size + 1 + 1, k, none⟩ (.int .u8 (y.toNat : Int))) (w.heap.size + 1 + 1) 29 (upto (k + 1) (shB b) (fun _ => 0)) 16 := by
        have := hgt.set hlt
        rw [hT] at this
        exact this
      have hs2 : Arr (wr.setCell ⟨w.heap.size + 1 + 1, k, none⟩ (.int .u8 (y.toNat : Int))) w.heap.size 29 b 16 := hgb.block (heap_setCell_other _ _ _ _ (by simp; omega))
      have hs3 : (wr.setCell ⟨w.heap.size + 1 + 1, k, none⟩ (.int .u8 (y.toNat : Int))).heap[w.heap.size + 1]? = some (.cells ZV 29 (0, 0)) := (heap_setCell_other _ _ _ _ (by simp)).trans hgz
      have hs4 : Below w.heap.size w (wr.setCell ⟨w.heap.size + 1 + 1, k, none⟩ (.int .u8 (y.toNat : Int))) := hbw.setCell (by simp; omega) _
      have HS1 := Lib.hid hs1
      have HS2 := Lib.hid hs2
      have HS3 := Lib.hid hs3
      have HS4 := Lib.hid (below_drew' hs4)
      have hmI : (m : Int) < 16 := by omega
      have hxI : (x.toNat : Int) < 256 := by omega
      have hkI : (k : Int) < 16 := by omega
      clear hq1 hq2 hq3 hs1 hs2 hs3 hs4 hgt hgb hgz hx hy hT hm hbw
      go_wp2_with fail
      refine wp_region_still_tail 15 (by kernel_rfl) (by kernel_rfl) ?_
      simp only [List.take_succ_cons, List.take_zero, List.drop_succ_cons, List.drop_zero]
      repeat still_step
      refine wpStill_nil ?_
      go_wp2_with fail
      exact ⟨⟨k + 1, by omega, by go_num, HS1.out, HS2.out, HS3.out, HS4.out⟩, by simp [intOf]; omega⟩
    · obtain rfl : k = 16 := by omega
      rw [Arr, upto_all] at hgt
      have hg2 : wr.heap[w.heap.size + 1 + 1]? = some (.cells PV 29 (0, 0)) := by rw [HPV.out]; exact hgt
      clear hgt hgb
      go_wp2_with (first
        | (refine wpList_load_row rfl 29 (.tmp 5) rfl (w.heap.size + 1 + 1) rfl 29 PV (0, 0) _ hg2 Tryd.underlying29 rfl HI.out ?_)
        | (refine wpList_store_row rfl 29 (.tmp 4) (.tmp 26) rfl (w.heap.size + 1) PV rfl rfl 29 _ hgz HI.out (by rw [HZL.out, HPS.out]) HP1.out ?_)
        | fail)
      have hres := setRow_heap _ (w.heap.size + 1) _ PV _ _ hgz
      refine bodyPost_ret (v := .agg PV) (results_cell_row Tryd.results84 _ _ (w.heap.size + 1) 29 PV (0, 0) _ (by rfl) hres Tryd.underlying29 rfl HI.out) rfl ?_
      exact ⟨rfl, below_setRow hbw (by omega) _⟩
end Go.Proofs.YtgebdkbbdabomaaDoor.Aes

/-
  THE CONTRACT of aes's mixed.
-/
namespace Go.Proofs.YtgebdkbbdabomaaDoor.Aes
open Go.RowKit
open Go.Proofs.YtgebdkbbdabomaaDoor.Kit
set_option linter.unusedVariables false

theorem xor_nm {a b u : UInt8} (h : u = a ^^^ b) : bits .xor .u8 (a.toNat : Int) (b.toNat : Int) = (u.toNat : Int) := by rw [h]; exact xor_u8 a b
theorem wrap_nm {x : Int} {n : Nat} (h : x = (n : Int)) (hn : n < 9223372036854775808) : IntKind.i64.wrap x = (n : Int) := by rw [h, IntKind.wrap_i64]; omega
theorem tmod_nm {a m n : Nat} (h : n = a % m) : (a : Int).tmod (m : Int) = (n : Int) := by rw [h, Int.tmod_eq_emod_of_nonneg (by omega), Int.natCast_emod]

set_option maxRecDepth 100000 in
set_option maxHeartbeats 2000000 in
theorem mixed_any (b : Nat → UInt8) (w : World) : Calls Tryd.prog 85 #[.agg (A16 b)] w fun e w' => e = .returned (.agg (A16 (mixB b))) ∧ Below w.heap.size w w' := by
  obtain ⟨ZV, hZ⟩ : ∃ q, q = Z16 := ⟨_, rfl⟩
  have hz : ∀ w, (zeroValue 29).run Tryd.prog w = .ok (.agg ZV) w := by rw [hZ]; exact z16
  have hzl : ZV.size = 16 := by rw [hZ]; rfl
  obtain ⟨BV, hBV⟩ : ∃ q, q = A16 b := ⟨_, rfl⟩
  obtain ⟨PV, hPV⟩ : ∃ q, q = A16 (mixB b) := ⟨_, rfl⟩
  have hPs : PV.size = 16 := by rw [hPV, A16_size]
  have hI : (Tryd.prog.info? 29).map (·.size) = some PV.size := by rw [hPs]; exact info16
  have hP1 : PV.all (·.oneCell') = true := by rw [hPV, A16_one]
  have h3 := heap3 w (.cells BV 29) (.cells ZV 29) (.cells ZV 29)
  have hsb : Arr (((w.alloc (.cells BV 29)).alloc (.cells ZV 29)).alloc (.cells ZV 29)) w.heap.size 29 b 16 := by
    rw [Arr, h3.1, hBV]; rfl
  have hst : Arr (((w.alloc (.cells BV 29)).alloc (.cells ZV 29)).alloc (.cells ZV 29)) (w.heap.size + 1 + 1) 29 (upto 0 (mixB b) (fun _ => 0)) 16 := by
    rw [upto_zero, Arr, h3.2.2, hZ]; rfl
  have H0 := Lib.hid (And.intro hst (And.intro hsb h3.2.1))
  rw [← hBV, ← hPV]
  have HI := Lib.hid hI
  have HP1 := Lib.hid hP1
  have HPS := Lib.hid hPs
  have HPV := Lib.hid hPV
  have HZL := Lib.hid hzl
  clear hZ hzl hBV hPV hPs hI hP1 h3 hst hsb
  go_enter Tryd.func85, Tryd.ntmps85
  go_wp2_with fail
  go_loopw [4, 5, 6, 7, 8, 31] (fun _ _ _ _ i _ wr => ∃ k : Nat, k ≤ 4 ∧ i = .int .i64 k ∧ Arr wr (w.heap.size + 1 + 1) 29 (upto (4 * k) (mixB b) (fun _ => 0)) 16 ∧ Arr wr w.heap.size 29 b 16 ∧ wr.heap[w.heap.size + 1]? = some (.cells ZV 29 (0, 0)) ∧ Below w.heap.size w wr) (fun _ _ _ _ i _ _ => 4 - (intOf i).toNat)
  case atStart => exact ⟨0, by omega, rfl, H0.out.1, H0.out.2.1, H0.out.2.2, below3 _ _ _ _⟩
  case round =>
    obtain ⟨k, hk, rfl, hgt, hgb, hgz, hbw⟩ := hrel
    by_cases hlt : k < 4
    · have HG0 := Lib.hid (And.intro hgt (And.intro hgb (And.intro hgz hbw)))
      clear hgt hgb hgz hbw
      go_wp2_with fail
      obtain ⟨hgt, hgb, hgz, hbw⟩ := HG0.out
      obtain ⟨p, hp⟩ : ∃ p, p = 4 * k := ⟨_, rfl⟩
      rw [show (4 * (k : Int)) = (p : Int) from by omega]
      obtain ⟨p1, hp1⟩ : ∃ q, q = p + 1 := ⟨_, rfl⟩
      obtain ⟨p2, hp2⟩ : ∃ q, q = p + 2 := ⟨_, rfl⟩
      obtain ⟨p3, hp3⟩ : ∃ q, q = p + 3 := ⟨_, rfl⟩
      have e1 : IntKind.i64.wrap ((p : Int) + 1) = (p1 : Int) := wrap_nm (by omega) (by omega)
      have e2 : IntKind.i64.wrap ((p : Int) + 2) = (p2 : Int) := wrap_nm (by omega) (by omega)
      have e3 : IntKind.i64.wrap ((p : Int) + 3) = (p3 : Int) := wrap_nm (by omega) (by omega)
      have l0 : (p : Int) < 16 := by omega
      have l1 : (p1 : Int) < 16 := by omega
      have l2 : (p2 : Int) < 16 := by omega
      have l3 : (p3 : Int) < 16 := by omega
      obtain ⟨x0, hx0⟩ : ∃ x, x = b p := ⟨_, rfl⟩
      obtain ⟨x1, hx1⟩ : ∃ x, x = b p1 := ⟨_, rfl⟩
      obtain ⟨x2, hx2⟩ : ∃ x, x = b p2 := ⟨_, rfl⟩
      obtain ⟨x3, hx3⟩ : ∃ x, x = b p3 := ⟨_, rfl⟩
      have c0 := hgb.cell (show p < 16 by omega)
      have c1 := hgb.cell (show p1 < 16 by omega)
      have c2 := hgb.cell (show p2 < 16 by omega)
      have c3 := hgb.cell (show p3 < 16 by omega)
      rw [← hx0] at c0
      rw [← hx1] at c1
      rw [← hx2] at c2
      rw [← hx3] at c3
      obtain ⟨u1, hu1⟩ : ∃ u, u = x0 ^^^ x1 := ⟨_, rfl⟩
      obtain ⟨u2, hu2⟩ : ∃ u, u = u1 ^^^ x2 := ⟨_, rfl⟩
      obtain ⟨al, hal⟩ : ∃ u, u = u2 ^^^ x3 := ⟨_, rfl⟩
      have y1 := xor_nm hu1
      have y2 := xor_nm hu2
      have y3 := xor_nm hal
      have hall : al = allB b p := by rw [hal, hu2, hu1, hx0, hx1, hx2, hx3, hp1, hp2, hp3]; rfl
      have HALL := Lib.hid hall
      have HP := Lib.hid hp
      have HG := Lib.hid (And.intro hgt (And.intro hgb (And.intro hgz hbw)))
      clear hp hp1 hp2 hp3 hx0 hx1 hx2 hx3 hu1 hu2 hal hall hgt hgb hgz hbw
      refine wp_region_still_lit (by kernel_rfl) (by kernel_rfl) ?_
      repeat still_step
      refine wpStill_nil ?_
      clear e1 e2 e3 l1 l2 l3 c0 c1 c2 c3 y1 y2 y3
      have hp16 : p ≤ 12 := by have := HP.out; omega
      go_wp2_with fail
      obtain ⟨wo, hwo⟩ : ∃ wo : World, wo = wr := ⟨_, rfl⟩
      rw [← hwo] at HG
      go_loopw [7, 31] (fun _ i wr => ∃ j : Nat, j ≤ 4 ∧ i = .int .i64 j ∧ Arr wr (w.heap.size + 1 + 1) 29 (upto (p + j) (mixB b) (fun _ => 0)) 16 ∧ Arr wr w.heap.size 29 b 16 ∧ wr.heap[w.heap.size + 1]? = some (.cells ZV 29 (0, 0)) ∧ Below w.heap.size w wr) (fun _ i _ => 4 - (intOf i).toNat)
      case atStart =>
        rw [hwo] at HG
        exact ⟨0, by omega, rfl, by rw [HP.out]; exact HG.out.1, HG.out.2.1, HG.out.2.2.1, below_drew' HG.out.2.2.2⟩
      case round =>
        obtain ⟨j, hj, rfl, hgt, hgb, hgz, hbw⟩ := hrel
        clear hwo HG
        by_cases hlj : j < 4
        · obtain ⟨q1, hq1⟩ : ∃ q, q = p + j := ⟨_, rfl⟩
          obtain ⟨j1, hj1⟩ : ∃ q, q = j + 1 := ⟨_, rfl⟩
          obtain ⟨r, hr⟩ : ∃ q, q = j1 % 4 := ⟨_, rfl⟩
          obtain ⟨q3, hq3⟩ : ∃ q, q = p + r := ⟨_, rfl⟩
          have e1 : IntKind.i64.wrap ((p : Int) + (j : Int)) = (q1 : Int) := wrap_nm (by omega) (by omega)
          have e2 : IntKind.i64.wrap ((j : Int) + 1) = (j1 : Int) := wrap_nm (by omega) (by omega)
          have e3 : (j1 : Int).tmod 4 = (r : Int) := tmod_nm hr
          have e4 : IntKind.i64.wrap ((p : Int) + (r : Int)) = (q3 : Int) := wrap_nm (by omega) (by omega)
          have l1 : (q1 : Int) < 16 := by omega
          have l3 : (q3 : Int) < 16 := by omega
          obtain ⟨z1, hz1⟩ : ∃ x, x = b q1 := ⟨_, rfl⟩
          obtain ⟨z3, hz3⟩ : ∃ x, x = b q3 := ⟨_, rfl⟩
          have c1 := hgb.cell (show q1 < 16 by omega)
          have c3 := hgb.cell (show q3 < 16 by omega)
          rw [← hz1] at c1
          rw [← hz3] at c3
          have ft := hgt.frozen q1
          have ct := hgt.cell (show q1 < 16 by omega)
          obtain ⟨v1, hv1⟩ : ∃ u, u = z1 ^^^ al := ⟨_, rfl⟩
          obtain ⟨v2, hv2⟩ : ∃ u, u = z1 ^^^ z3 := ⟨_, rfl⟩
          obtain ⟨d, hd⟩ : ∃ u, u = dbl v2 := ⟨_, rfl⟩
          obtain ⟨v3, hv3⟩ : ∃ u, u = v1 ^^^ d := ⟨_, rfl⟩
          have y1 := xor_nm hv1
          have y2 := xor_nm hv2
          have y3 := xor_nm hv3
          have hdb : ∀ W, Calls Tryd.prog 71 #[.int .u8 (v2.toNat : Int)] W fun e w' => e = .returned (.int .u8 (d.toNat : Int)) ∧ w' = W := fun W => by
            rw [hd]
            exact (double_any v2 W).mono fun e w' h => ⟨h.1, h.2.symm⟩
          have HDB := Lib.hid hdb
          have HJ1 := Lib.hid hj1
          have hT : mixB b (p + j) = v3 := by
            rw [mixB, show (p + j) / 4 = k from by have := HP.out; omega, show (p + j) % 4 = j from by have := HP.out; omega, ← HP.out, mixAt, ← HALL.out, ← hq1, ← hj1, ← hr, ← hq3, ← hz1, ← hz3, ← hv1, ← hv2, ← hd, ← hv3]
          have hs1 : Arr (wr.setCell ⟨w.heap.size + 1 + 1, q1, none⟩ (.int .u8 (v3.toNat : Int))) (w.heap.size + 1 + 1) 29 (upto (p + (j + 1)) (mixB b) (fun _ => 0)) 16 := by
            have := hgt.set (show p + j < 16 by omega)
            rw [hT, ← hq1] at this
            rw [← Nat.add_assoc, ← hq1]
            exact this
          have hs2 : Arr (wr.setCell ⟨w.heap.size + 1 + 1, q1, none⟩ (.int .u8 (v3.toNat : Int))) w.heap.size 29 b 16 := hgb.block (heap_setCell_other _ _ _ _ (by simp; omega))
          have hs3 : (wr.setCell ⟨w.heap.size + 1 + 1, q1, none⟩ (.int .u8 (v3.toNat : Int))).heap[w.heap.size + 1]? = some (.cells ZV 29 (0, 0)) := (heap_setCell_other _ _ _ _ (by simp)).trans hgz
          have hs4 : Below w.heap.size w (wr.setCell ⟨w.heap.size + 1 + 1, q1, none⟩ (.int .u8 (v3.toNat : Int))) := hbw.setCell (by simp; omega) _
          have HS1 := Lib.hid hs1
          have HS2 := Lib.hid hs2
          have HS3 := Lib.hid hs3
          have HS4 := Lib.hid (below_drew' hs4)
          clear hq1 hj1 hr hq3 hz1 hz3 hv1 hv2 hd hv3 hdb hT hs1 hs2 hs3 hs4 hgt hgb hgz hbw
          go_wp2_with fail
          refine wp_region_still_tail 26 (by kernel_rfl) (by kernel_rfl) ?_
          simp only [List.take_succ_cons, List.take_zero, List.drop_succ_cons, List.drop_zero]
          repeat still_step
          still_call (HDB.out _)
          repeat still_step
          refine wpStill_nil ?_
          go_wp2_with fail
          have hj2 := HJ1.out
          exact ⟨⟨j1, by omega, rfl, by rw [hj2]; exact HS1.out, HS2.out, HS3.out, HS4.out⟩, by simp [intOf]; omega⟩
        · obtain rfl : j = 4 := by omega
          have HG4 := Lib.hid (show Arr wr (w.heap.size + 1 + 1) 29 (upto (4 * (k + 1)) (mixB b) (fun _ => 0)) 16 ∧ Arr wr w.heap.size 29 b 16 ∧ wr.heap[w.heap.size + 1]? = some (.cells ZV 29 (0, 0)) ∧ Below w.heap.size w wr from by
            rw [show 4 * (k + 1) = p + 4 from by have := HP.out; omega]
            exact ⟨hgt, hgb, hgz, hbw⟩)
          clear hgt hgb hgz hbw
          go_wp2_with fail
          exact ⟨⟨k + 1, by omega, by go_num, HG4.out.1, HG4.out.2.1, HG4.out.2.2.1, HG4.out.2.2.2⟩, by simp [intOf]; omega⟩
    · obtain rfl : k = 4 := by omega
      rw [Arr, show 4 * 4 = 16 from rfl, upto_all] at hgt
      have hg2 : wr.heap[w.heap.size + 1 + 1]? = some (.cells PV 29 (0, 0)) := by rw [HPV.out]; exact hgt
      clear hgt hgb
      go_wp2_with (first
        | (refine wpList_load_row rfl 29 (.tmp 3) rfl (w.heap.size + 1 + 1) rfl 29 PV (0, 0) _ hg2 Tryd.underlying29 rfl HI.out ?_)
        | (refine wpList_store_row rfl 29 (.tmp 2) (.tmp 62) rfl (w.heap.size + 1) PV rfl rfl 29 _ hgz HI.out (by rw [HZL.out, HPS.out]) HP1.out ?_)
        | fail)
      have hres := setRow_heap _ (w.heap.size + 1) _ PV _ _ hgz
      refine bodyPost_ret (v := .agg PV) (results_cell_row Tryd.results85 _ _ (w.heap.size + 1) 29 PV (0, 0) _ (by rfl) hres Tryd.underlying29 rfl HI.out) rfl ?_
      exact ⟨rfl, below_setRow hbw (by omega) _⟩
end Go.Proofs.YtgebdkbbdabomaaDoor.Aes

/-
  THE CONTRACT of aes's next.
-/
namespace Go.Proofs.YtgebdkbbdabomaaDoor.Aes
open Go.RowKit
open Go.Proofs.YtgebdkbbdabomaaDoor.Kit
set_option linter.unusedVariables false

theorem below2 (w : World) (o1 o2 : Obj) : Below w.heap.size w ((w.alloc o1).alloc o2) := below_alloc (below_of_new w _) _
theorem heap2 (w : World) (o1 o2 : Obj) : ((w.alloc o1).alloc o2).heap[w.heap.size]? = some o1 ∧ ((w.alloc o1).alloc o2).heap[w.heap.size + 1]? = some o2 := by
  refine ⟨?_, ?_⟩
  · rw [heap_alloc_old _ _ (by simp)]; exact heap_alloc_new w o1
  · have := heap_alloc_new (w.alloc o1) o2
    rw [World.size_alloc] at this
    exact this
theorem Arr.congr {w : World} {g : Nat} {t : TypeId} {f f' : Nat → UInt8} {n : Nat} (h : Arr w g t f n) (e : ∀ i, i < n → f i = f' i) : Arr w g t f' n := by
  rw [Arr, ← row_congr e]; exact h

set_option maxRecDepth 100000 in
set_option maxHeartbeats 2000000 in
theorem next_any (G : Nat) (key : Nat → UInt8) (first : UInt8) (w : World) (hG : SubsAt w G) : Calls Tryd.prog 70 #[.pointer (some ⟨G, 0, none⟩), .agg (A16 key), .int .u8 (first.toNat : Int)] w fun e w' => e = .returned (.agg (A16 (nx key first))) ∧ Below w.heap.size w w' := by
  obtain ⟨ZV, hZ⟩ : ∃ q, q = Z16 := ⟨_, rfl⟩
  have hz : ∀ w, (zeroValue 29).run Tryd.prog w = .ok (.agg ZV) w := by rw [hZ]; exact z16
  have hzl : ZV.size = 16 := by rw [hZ]; rfl
  obtain ⟨BV, hBV⟩ : ∃ q, q = A16 key := ⟨_, rfl⟩
  obtain ⟨PV, hPV⟩ : ∃ q, q = A16 (nx key first) := ⟨_, rfl⟩
  have hPs : PV.size = 16 := by rw [hPV, A16_size]
  have hI : (Tryd.prog.info? 29).map (·.size) = some PV.size := by rw [hPs]; exact info16
  have hP1 : PV.all (·.oneCell') = true := by rw [hPV, A16_one]
  have h3 := heap2 w (.cells BV 29) (.cells ZV 29)
  have hsb : Arr ((w.alloc (.cells BV 29)).alloc (.cells ZV 29)) w.heap.size 29 (upto 0 (nx0 key) key) 16 := by
    rw [upto_zero, Arr, h3.1, hBV]; rfl
  have H0 := Lib.hid (And.intro hsb h3.2)
  rw [← hBV, ← hPV]
  have HSG := Lib.hid hG
  have HI := Lib.hid hI
  have HP1 := Lib.hid hP1
  have HPS := Lib.hid hPs
  have HPV := Lib.hid hPV
  have HZL := Lib.hid hzl
  have hGlt := hG.lt
  clear hZ hzl hBV hPV hPs hI hP1 h3 hsb hG
  go_enter Tryd.func70, Tryd.ntmps70
  go_wp2_with fail
  go_loopw [7, 9] (fun _ i wr => ∃ k : Nat, k ≤ 4 ∧ i = .int .i64 k ∧ Arr wr w.heap.size 29 (upto k (nx0 key) key) 16 ∧ wr.heap[w.heap.size + 1]? = some (.cells ZV 29 (0, 0)) ∧ Below w.heap.size w wr) (fun _ i _ => 4 - (intOf i).toNat)
  case atStart => exact ⟨0, by omega, rfl, H0.out.1, H0.out.2, below2 _ _ _⟩
  case round =>
    obtain ⟨k, hk, rfl, hga, hgz, hbw⟩ := hrel
    by_cases hlt : k < 4
    · obtain ⟨k1, hk1⟩ : ∃ q, q = k + 1 := ⟨_, rfl⟩
      obtain ⟨r, hr⟩ : ∃ q, q = k1 % 4 := ⟨_, rfl⟩
      obtain ⟨q, hq⟩ : ∃ q, q = 12 + r := ⟨_, rfl⟩
      have e1 : IntKind.i64.wrap ((k : Int) + 1) = (k1 : Int) := wrap_nm (by omega) (by omega)
      have e2 : (k1 : Int).tmod 4 = (r : Int) := tmod_nm hr
      have e3 : IntKind.i64.wrap (12 + (r : Int)) = (q : Int) := wrap_nm (by omega) (by omega)
      have l1 : (k : Int) < 16 := by omega
      have l2 : (q : Int) < 16 := by omega
      obtain ⟨x, hx⟩ : ∃ x, x = key k := ⟨_, rfl⟩
      obtain ⟨z, hz1⟩ : ∃ x, x = key q := ⟨_, rfl⟩
      obtain ⟨y, hy⟩ : ∃ x, x = sbN z.toNat := ⟨_, rfl⟩
      obtain ⟨v, hv⟩ : ∃ u, u = x ^^^ y := ⟨_, rfl⟩
      have y1 := xor_nm hv
      have z256 := z.toNat_lt
      have l3 : (z.toNat : Int) < 256 := by omega
      have c1 := hga.cell (show k < 16 by omega)
      have c2 := hga.cell (show q < 16 by omega)
      rw [upto_ge _ _ (Nat.le_refl _), ← hx] at c1
      rw [upto_ge _ _ (by omega), ← hz1] at c2
      have c3 := (HSG.out.on hbw hGlt) z.toNat z256
      rw [← hy] at c3
      have f1 := hga.frozen k
      have hT : nx0 key k = v := by rw [nx0, ← hk1, ← hr, ← hq, ← hx, ← hz1, sb, ← hy, ← hv]
      have hs1 : Arr (wr.setCell ⟨w.heap.size, k, none⟩ (.int .u8 (v.toNat : Int))) w.heap.size 29 (upto (k + 1) (nx0 key) key) 16 := by
        have := hga.set (show k < 16 by omega)
        rw [hT] at this
        exact this
      have hs3 : (wr.setCell ⟨w.heap.size, k, none⟩ (.int .u8 (v.toNat : Int))).heap[w.heap.size + 1]? = some (.cells ZV 29 (0, 0)) := (heap_setCell_other _ _ _ _ (by simp)).trans hgz
      have hs4 : Below w.heap.size w (wr.setCell ⟨w.heap.size, k, none⟩ (.int .u8 (v.toNat : Int))) := hbw.setCell (Nat.le_refl _) _
      have HS1 := Lib.hid hs1
      have HS3 := Lib.hid hs3
      have HS4 := Lib.hid (below_drew' hs4)
      have HK1 := Lib.hid hk1
      clear hk1 hr hq hx hz1 hy hv hT hs1 hs3 hs4 hga hgz hbw
      go_wp2_with fail
      refine wp_region_still_tail 16 (by kernel_rfl) (by kernel_rfl) ?_
      simp only [List.take_succ_cons, List.take_zero, List.drop_succ_cons, List.drop_zero]
      repeat still_step
      refine wpStill_nil ?_
      go_wp2_with fail
      have hk2 := HK1.out
      exact ⟨⟨k1, by omega, rfl, by rw [hk2]; exact HS1.out, HS3.out, HS4.out⟩, by simp [intOf]; omega⟩
    · obtain rfl : k = 4 := by omega
      obtain ⟨x, hx⟩ : ∃ x, x = nx0 key 0 := ⟨_, rfl⟩
      obtain ⟨v, hv⟩ : ∃ u, u = x ^^^ first := ⟨_, rfl⟩
      have y1 := xor_nm hv
      have c1 := hga.cell (show 0 < 16 by omega)
      rw [upto_lt _ _ (by omega), ← hx] at c1
      have f1 := hga.frozen 0
      have hs1 : Arr (wr.setCell ⟨w.heap.size, 0, none⟩ (.int .u8 (v.toNat : Int))) w.heap.size 29 (upto 4 (nx key first) key) 16 := by
        refine (hga.set' (show 0 < 16 by omega) v).congr fun i hi => ?_
        by_cases h0 : i = 0
        · rw [if_pos h0, h0, upto_lt _ _ (by omega), nx_low _ _ (by omega), if_pos rfl, ← hx, ← hv]
        · rw [if_neg h0]
          by_cases h4 : i < 4
          · rw [upto_lt _ _ h4, upto_lt _ _ h4, nx_low _ _ h4, if_neg h0]
          · rw [upto_ge _ _ (by omega), upto_ge _ _ (by omega)]
      have hs3 : (wr.setCell ⟨w.heap.size, 0, none⟩ (.int .u8 (v.toNat : Int))).heap[w.heap.size + 1]? = some (.cells ZV 29 (0, 0)) := (heap_setCell_other _ _ _ _ (by simp)).trans hgz
      have hs4 : Below w.heap.size w (wr.setCell ⟨w.heap.size, 0, none⟩ (.int .u8 (v.toNat : Int))) := hbw.setCell (Nat.le_refl _) _
      have HS1 := Lib.hid hs1
      have HS3 := Lib.hid hs3
      have HS4 := Lib.hid hs4
      clear hx hv hs1 hs3 hs4 hga hgz hbw
      go_wp2_with fail
      go_loopw [8] (fun i wr => ∃ k : Nat, 4 ≤ k ∧ k ≤ 16 ∧ i = .int .i64 k ∧ Arr wr w.heap.size 29 (upto k (nx key first) key) 16 ∧ wr.heap[w.heap.size + 1]? = some (.cells ZV 29 (0, 0)) ∧ Below w.heap.size w wr) (fun i _ => 16 - (intOf i).toNat)
      case atStart => exact ⟨4, by omega, by omega, rfl, HS1.out, HS3.out, HS4.out⟩
      case round =>
        obtain ⟨k, hk4, hk, rfl, hga, hgz, hbw⟩ := hrel
        clear c1 f1 y1
        by_cases hlt : k < 16
        · obtain ⟨q, hq⟩ : ∃ q, q = k - 4 := ⟨_, rfl⟩
          have e1 : IntKind.i64.wrap ((k : Int) - 4) = (q : Int) := wrap_nm (by omega) (by omega)
          have l1 : (k : Int) < 16 := by omega
          have l2 : (q : Int) < 16 := by omega
          obtain ⟨x, hx⟩ : ∃ x, x = key k := ⟨_, rfl⟩
          obtain ⟨y, hy⟩ : ∃ x, x = nx key first q := ⟨_, rfl⟩
          obtain ⟨v, hv⟩ : ∃ u, u = x ^^^ y := ⟨_, rfl⟩
          have y1 := xor_nm hv
          have c1 := hga.cell (show k < 16 by omega)
          have c2 := hga.cell (show q < 16 by omega)
          rw [upto_ge _ _ (Nat.le_refl _), ← hx] at c1
          rw [upto_lt _ _ (by omega), ← hy] at c2
          have f1 := hga.frozen k
          have hT : nx key first k = v := by rw [nx_step _ _ hk4, ← hq, ← hx, ← hy, ← hv]
          have hs1 : Arr (wr.setCell ⟨w.heap.size, k, none⟩ (.int .u8 (v.toNat : Int))) w.heap.size 29 (upto (k + 1) (nx key first) key) 16 := by
            have := hga.set hlt
            rw [hT] at this
            exact this
          have hs3 : (wr.setCell ⟨w.heap.size, k, none⟩ (.int .u8 (v.toNat : Int))).heap[w.heap.size + 1]? = some (.cells ZV 29 (0, 0)) := (heap_setCell_other _ _ _ _ (by simp)).trans hgz
          have hs4 : Below w.heap.size w (wr.setCell ⟨w.heap.size, k, none⟩ (.int .u8 (v.toNat : Int))) := hbw.setCell (Nat.le_refl _) _
          have HS1 := Lib.hid hs1
          have HS3 := Lib.hid hs3
          have HS4 := Lib.hid (below_drew' hs4)
          clear hq hx hy hv hT hs1 hs3 hs4 hga hgz hbw
          go_wp2_with fail
          refine wp_region_still_tail 9 (by kernel_rfl) (by kernel_rfl) ?_
          simp only [List.take_succ_cons, List.take_zero, List.drop_succ_cons, List.drop_zero]
          repeat still_step
          refine wpStill_nil ?_
          go_wp2_with fail
          go_roundw
          case rel =>
            repeat apply Exists.intro
            refine ⟨?_, rfl⟩
            exact ⟨k + 1, by omega, by omega, by go_num, HS1.out, HS3.out, HS4.out⟩
          case measure => simp [intOf]; omega
        · obtain rfl : k = 16 := by omega
          rw [Arr, upto_all] at hga
          have hg2 : wr.heap[w.heap.size]? = some (.cells PV 29 (0, 0)) := by rw [HPV.out]; exact hga
          clear hga
          go_wp2_with (first
            | (refine wpList_load_row rfl 29 (.tmp 4) rfl w.heap.size rfl 29 PV (0, 0) _ hg2 Tryd.underlying29 rfl HI.out ?_)
            | (refine wpList_store_row rfl 29 (.tmp 6) (.tmp 47) rfl (w.heap.size + 1) PV rfl rfl 29 _ hgz HI.out (by rw [HZL.out, HPS.out]) HP1.out ?_)
            | fail)
          have hres := setRow_heap _ (w.heap.size + 1) _ PV _ _ hgz
          refine bodyPost_ret (v := .agg PV) (results_cell_row Tryd.results70 _ _ (w.heap.size + 1) 29 PV (0, 0) _ (by rfl) hres Tryd.underlying29 rfl HI.out) rfl ?_
          exact ⟨rfl, below_setRow hbw (by omega) _⟩
end Go.Proofs.YtgebdkbbdabomaaDoor.Aes

/-
  THE CONTRACT of aes's substitutions.
-/
namespace Go.Proofs.YtgebdkbbdabomaaDoor.Aes
open Go.RowKit
open Go.Proofs.YtgebdkbbdabomaaDoor.Kit
set_option linter.unusedVariables false

theorem info256 : (Tryd.prog.info? 97).map (·.size) = some 256 := by kernel_rfl
def Z256 : Array Value := (List.replicate 256 (Value.int .u8 0)).toArray
def Z255 : Array Value := (List.replicate 255 (Value.int .u8 0)).toArray
theorem z256 (w : World) : (zeroValue 97).run Tryd.prog w = .ok (.agg Z256) w := by kernel_rfl
theorem z255 (w : World) : (zeroValue 109).run Tryd.prog w = .ok (.agg Z255) w := by kernel_rfl
theorem row_const (n : Nat) : (row (fun _ => 0) n).map bv = List.replicate n (Value.int .u8 0) := by
  apply List.ext_getElem (by simp [row_len])
  intro i h1 h2
  rw [List.getElem_map, row_get, List.getElem_replicate]; rfl
def A256 : Array Value := ((row sbN 256).map bv).toArray
theorem A256_size : A256.size = 256 := by simp [A256, row_len]
theorem A256_one : A256.all (·.oneCell') = true := agg_one sbN 256

set_option maxRecDepth 100000 in
set_option maxHeartbeats 2000000 in
theorem subs_any (w : World) : Calls Tryd.prog 69 #[] w fun e w' => e = .returned (.agg A256) ∧ Below w.heap.size w w' := by
  obtain ⟨ZV, hZ⟩ : ∃ q, q = Z256 := ⟨_, rfl⟩
  obtain ⟨ZP, hZp⟩ : ∃ q, q = Z255 := ⟨_, rfl⟩
  have hz : ∀ w, (zeroValue 97).run Tryd.prog w = .ok (.agg ZV) w := by rw [hZ]; exact z256
  have hzp : ∀ w, (zeroValue 109).run Tryd.prog w = .ok (.agg ZP) w := by rw [hZp]; exact z255
  have hzl : ZV.size = 256 := by rw [hZ]; simp [Z256]
  have hZr : ZV = ((row (fun _ => 0) 256).map bv).toArray := by rw [hZ, row_const, Z256]
  obtain ⟨PV, hPV⟩ : ∃ q, q = A256 := ⟨_, rfl⟩
  have hPs : PV.size = 256 := by rw [hPV, A256_size]
  have hI : (Tryd.prog.info? 97).map (·.size) = some PV.size := by rw [hPs]; exact info256
  have hP1 : PV.all (·.oneCell') = true := by rw [hPV, A256_one]
  have h3 := heap2 w (.cells ZV 97) (.cells ZP 109)
  have hsb : Arr ((w.alloc (.cells ZV 97)).alloc (.cells ZP 109)) (w.heap.size + 1) 109 (upto 0 pw (fun _ => 0)) 255 := by
    rw [upto_zero, Arr, h3.2, hZp, row_const, Z255]
  have H0 := Lib.hid (And.intro hsb h3.1)
  rw [← hPV]
  have HI := Lib.hid hI
  have HP1 := Lib.hid hP1
  have HPS := Lib.hid hPs
  have HPV := Lib.hid hPV
  have HZL := Lib.hid hzl
  have HZR := Lib.hid hZr
  clear hZ hZp hzl hPV hPs hI hP1 h3 hsb hZr
  go_enter Tryd.func69, Tryd.ntmps69
  go_wp2_with fail
  go_loopw [2, 3, 7] (fun p _ i wr => ∃ k : Nat, k ≤ 255 ∧ i = .int .i64 k ∧ p = .int .u8 ((pw k).toNat : Int) ∧ Arr wr (w.heap.size + 1) 109 (upto k pw (fun _ => 0)) 255 ∧ wr.heap[w.heap.size]? = some (.cells ZV 97 (0, 0)) ∧ Below w.heap.size w wr) (fun _ _ i _ => 255 - (intOf i).toNat)
  case atStart => exact ⟨0, by omega, rfl, rfl, H0.out.1, H0.out.2, below2 _ _ _⟩
  case round =>
    obtain ⟨k, hk, rfl, rfl, hga, hgz, hbw⟩ := hrel
    by_cases hlt : k < 255
    · obtain ⟨x, hx⟩ : ∃ x, x = pw k := ⟨_, rfl⟩
      obtain ⟨d, hd⟩ : ∃ u, u = dbl x := ⟨_, rfl⟩
      obtain ⟨v, hv⟩ : ∃ u, u = x ^^^ d := ⟨_, rfl⟩
      have y1 := xor_nm hv
      have hpn : pw (k + 1) = v := by rw [pw, ← hx, ← hd, ← hv]
      have l1 : (k : Int) < 255 := by omega
      have c1 := hga.cell hlt
      have f1 := hga.frozen k
      have hs1 : Arr (wr.setCell ⟨w.heap.size + 1, k, none⟩ (.int .u8 (x.toNat : Int))) (w.heap.size + 1) 109 (upto (k + 1) pw (fun _ => 0)) 255 := by
        have := hga.set hlt
        rw [← hx] at this
        exact this
      have hs3 : (wr.setCell ⟨w.heap.size + 1, k, none⟩ (.int .u8 (x.toNat : Int))).heap[w.heap.size]? = some (.cells ZV 97 (0, 0)) := (heap_setCell_other _ _ _ _ (by simp)).trans hgz
      have hs4 : Below w.heap.size w (wr.setCell ⟨w.heap.size + 1, k, none⟩ (.int .u8 (x.toNat : Int))) := hbw.setCell (by simp) _
      have hdb : ∀ W, Calls Tryd.prog 71 #[.int .u8 (x.toNat : Int)] W fun e w' => e = .returned (.int .u8 (d.toNat : Int)) ∧ W = w' := fun W => by
        rw [hd]; exact double_any x W
      rw [← hx]
      have HDB := Lib.hid hdb
      have HPN := Lib.hid hpn
      have HS1 := Lib.hid hs1
      have HS3 := Lib.hid hs3
      have HS4 := Lib.hid hs4
      clear hx hd hv hs1 hs3 hs4 hga hgz hbw hdb hpn
      go_wp2_with fail
      refine (HDB.out _).mono ?_
      rintro e w2 ⟨rfl, rfl⟩
      go_wp2_with fail
      go_roundw
      case rel => exact ⟨k + 1, by omega, by go_num, by rw [HPN.out], HS1.out, HS3.out, HS4.out⟩
      case measure => simp [intOf]; omega
    · obtain rfl : k = 255 := by omega
      have hgp : Arr wr (w.heap.size + 1) 109 pw 255 := hga.congr fun i hi => upto_lt _ _ hi
      obtain ⟨S, hS⟩ : ∃ S, S = wr.heap.size := ⟨_, rfl⟩
      have hlt1 : w.heap.size + 1 < S := by rw [hS]; exact hgp.lt
      obtain ⟨W1, hW1⟩ : ∃ q, q = wr.alloc (.cells ZV 97) := ⟨_, rfl⟩
      have hb1 : Below wr.heap.size wr W1 := by rw [hW1]; exact below_of_new _ _
      have hs1 : Arr W1 S 97 (fun _ => 0) 256 := by rw [Arr, hW1, hS, heap_alloc_new, HZR.out]
      have hs2 : Arr W1 (w.heap.size + 1) 109 pw 255 := hgp.on hb1 (by omega)
      have hs3 := (hb1.block w.heap.size (by omega)).trans hgz
      have hs4 : Below w.heap.size w W1 := hbw.trans (hb1.mono hbw.size)
      have c1 := hs1.cell (show 0 < 256 by omega)
      have f1 := hs1.frozen 0
      obtain ⟨s0, hs0⟩ : ∃ u, u = spr 0 := ⟨_, rfl⟩
      have hsp : ∀ W, Calls Tryd.prog 81 #[.int .u8 0] W fun e w' => e = .returned (.int .u8 (s0.toNat : Int)) ∧ W = w' := fun W => by
        rw [hs0]; exact spread_any 0 W
      have hs5 : Arr (W1.setCell ⟨S, 0, none⟩ (.int .u8 (s0.toNat : Int))) S 97 (tabK 0) 256 := by
        have := hs1.set' (show 0 < 256 by omega) s0
        rw [hs0] at this ⊢
        exact this
      have hs6 : Arr (W1.setCell ⟨S, 0, none⟩ (.int .u8 (s0.toNat : Int))) (w.heap.size + 1) 109 pw 255 := hs2.block (heap_setCell_other _ _ _ _ (by simp; omega))
      have hs7 : (W1.setCell ⟨S, 0, none⟩ (.int .u8 (s0.toNat : Int))).heap[w.heap.size]? = some (.cells ZV 97 (0, 0)) := (heap_setCell_other _ _ _ _ (by simp; omega)).trans hs3
      have hs8 : Below w.heap.size w (W1.setCell ⟨S, 0, none⟩ (.int .u8 (s0.toNat : Int))) := hs4.setCell (by simp; omega) _
      have HSP := Lib.hid hsp
      have HS5 := Lib.hid hs5
      have HS6 := Lib.hid hs6
      have HS7 := Lib.hid hs7
      have HS8 := Lib.hid hs8
      have HSS := Lib.hid hS
      have HW1 := Lib.hid hW1
      clear hs0 hsp hs1 hs2 hs3 hs4 hs5 hs6 hs7 hs8 hga hgz hgp hbw hb1 hS hW1
      go_wp2_with fail
      rw [← HSS.out, ← HW1.out]
      refine (HSP.out _).mono ?_
      rintro e w2 ⟨rfl, rfl⟩
      go_wp2_with fail
      clear c1 f1
      go_loopw [5, 6, 20] (fun _ _ i wr => ∃ k : Nat, k ≤ 255 ∧ i = .int .i64 k ∧ Arr wr S 97 (tabK k) 256 ∧ Arr wr (w.heap.size + 1) 109 pw 255 ∧ wr.heap[w.heap.size]? = some (.cells ZV 97 (0, 0)) ∧ Below w.heap.size w wr) (fun _ _ i _ => 255 - (intOf i).toNat)
      case atStart => exact ⟨0, by omega, rfl, HS5.out, HS6.out, HS7.out, HS8.out⟩
      case round =>
        clear HS5 HS6 HS7 HS8 HSS HW1 HSP
        obtain ⟨k, hk, rfl, hgs, hgp, hgz, hbw⟩ := hrel
        by_cases hlt : k < 255
        · obtain ⟨d, hd⟩ : ∃ q, q = 255 - k := ⟨_, rfl⟩
          obtain ⟨r, hr⟩ : ∃ q, q = d % 255 := ⟨_, rfl⟩
          have e1 : IntKind.i64.wrap (255 - (k : Int)) = (d : Int) := wrap_nm (by omega) (by omega)
          have e1' : 255 - (k : Int) = (d : Int) := by omega
          have e2 : (d : Int).tmod 255 = (r : Int) := tmod_nm hr
          have l1 : (r : Int) < 255 := by omega
          have l2 : (k : Int) < 255 := by omega
          obtain ⟨z, hz1⟩ : ∃ x, x = pw r := ⟨_, rfl⟩
          obtain ⟨x, hx⟩ : ∃ x, x = pw k := ⟨_, rfl⟩
          obtain ⟨y, hy⟩ : ∃ u, u = spr z := ⟨_, rfl⟩
          have c1 := hgp.cell (show r < 255 by omega)
          have c2 := hgp.cell hlt
          rw [← hz1] at c1
          rw [← hx] at c2
          have x256 := x.toNat_lt
          have l3 : (x.toNat : Int) < 256 := by omega
          have c3 := hgs.cell (show x.toNat < 256 by omega)
          have f3 := hgs.frozen x.toNat
          have hsp : ∀ W, Calls Tryd.prog 81 #[.int .u8 (z.toNat : Int)] W fun e w' => e = .returned (.int .u8 (y.toNat : Int)) ∧ w' = W := fun W => by
            rw [hy]; exact (spread_any z W).mono fun e w' h => ⟨h.1, h.2.symm⟩
          have hs1 : Arr (wr.setCell ⟨S, x.toNat, none⟩ (.int .u8 (y.toNat : Int))) S 97 (tabK (k + 1)) 256 := by
            refine (hgs.set' (show x.toNat < 256 by omega) y).congr fun i hi => ?_
            rw [tabK, ← hx, ← hd, ← hr, ← hz1, ← hy]
          have hs2 : Arr (wr.setCell ⟨S, x.toNat, none⟩ (.int .u8 (y.toNat : Int))) (w.heap.size + 1) 109 pw 255 := hgp.block (heap_setCell_other _ _ _ _ (by simp; omega))
          have hs3 : (wr.setCell ⟨S, x.toNat, none⟩ (.int .u8 (y.toNat : Int))).heap[w.heap.size]? = some (.cells ZV 97 (0, 0)) := (heap_setCell_other _ _ _ _ (by simp; omega)).trans hgz
          have hs4 : Below w.heap.size w (wr.setCell ⟨S, x.toNat, none⟩ (.int .u8 (y.toNat : Int))) := hbw.setCell (by simp; omega) _
          have HSP := Lib.hid hsp
          have HS1 := Lib.hid hs1
          have HS2 := Lib.hid hs2
          have HS3 := Lib.hid hs3
          have HS4 := Lib.hid (below_drew' hs4)
          clear hd hr hx hz1 hy hsp hs1 hs2 hs3 hs4 hgs hgp hgz hbw
          go_wp2_with fail
          refine wp_region_still_tail 6 (by kernel_rfl) (by kernel_rfl) ?_
          simp only [List.take_succ_cons, List.take_zero, List.drop_succ_cons, List.drop_zero]
          repeat still_step
          still_call (HSP.out _)
          repeat still_step
          refine wpStill_nil ?_
          go_wp2_with fail
          exact ⟨⟨k + 1, by omega, by go_num, HS1.out, HS2.out, HS3.out, HS4.out⟩, by simp [intOf]; omega⟩
        · obtain rfl : k = 255 := by omega
          have hg2 : wr.heap[S]? = some (.cells PV 97 (0, 0)) := by rw [HPV.out]; exact hgs
          clear hgs hgp
          go_wp2_with (first
            | (refine wpList_load_row rfl 97 (.tmp 4) rfl S rfl 97 PV (0, 0) _ hg2 Tryd.underlying97 rfl HI.out ?_)
            | (refine wpList_store_row rfl 97 (.tmp 0) (.tmp 35) rfl w.heap.size PV rfl rfl 97 _ hgz HI.out (by rw [HZL.out, HPS.out]) HP1.out ?_)
            | fail)
          have hres := setRow_heap _ w.heap.size _ PV _ _ hgz
          refine bodyPost_ret (v := .agg PV) (results_cell_row Tryd.results69 _ _ w.heap.size 97 PV (0, 0) _ (by rfl) hres Tryd.underlying97 rfl HI.out) rfl ?_
          exact ⟨rfl, below_setRow hbw (Nat.le_refl _) _⟩
end Go.Proofs.YtgebdkbbdabomaaDoor.Aes
