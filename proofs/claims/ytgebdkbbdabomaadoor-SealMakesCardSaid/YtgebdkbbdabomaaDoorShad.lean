/-
  THE CONTRACTS of sha's New, padding, written.
-/
import Derived.Test.YtgebdkbbdabomaaDoorShaw
import Derived.Deep.OwnRows
namespace Go.Proofs.YtgebdkbbdabomaaDoor.Sha
open Go.RowKit
open Go.Proofs.YtgebdkbbdabomaaDoor.Kit
open Go.Proofs.YtgebdkbbdabomaaDoor.Oct
set_option linter.unusedVariables false

/-- a digest's bytes -/
def outB (v : S8) : List UInt8 := be 4 v.a.toNat ++ (be 4 v.b.toNat ++ (be 4 v.c.toNat ++ (be 4 v.d.toNat ++ (be 4 v.e.toNat ++ (be 4 v.f.toNat ++ (be 4 v.g.toNat ++ be 4 v.h.toNat))))))
theorem outB_len (v : S8) : (outB v).length = 32 := by simp [outB, be_len]
def padZ (n : Nat) : Nat := (119 - n % 64) % 64
/-- what is put behind n bytes -/
def padB (n : Nat) : List UInt8 := [128] ++ (List.replicate (padZ n) 0 ++ be 8 (8 * n))
theorem padB_len (n : Nat) : (padB n).length = 9 + padZ n := by simp [padB, be_len]; omega
/-- the digest of bytes -/
def dig (b : List UInt8) : List UInt8 := outB (blocksS H0 ((b ++ padB b.length).length / 64) (b ++ padB b.length))
theorem dig_len (b : List UInt8) : (dig b).length = 32 := outB_len _

set_option maxRecDepth 100000 in
theorem new_any (w : World) : Calls Tryd.prog 30 #[] w fun e w' => e = .returned (.pointer (some ⟨w.heap.size, 0, none⟩)) ∧ SumAt w' w.heap.size [] ∧ Below w.heap.size w w' ∧ w.heap.size < w'.heap.size := by
  have hz55 : ∀ w, (zeroValue 76).run Tryd.prog w = .ok (.agg #[.int .u32 0, .int .u32 0, .int .u32 0, .int .u32 0, .int .u32 0, .int .u32 0, .int .u32 0, .int .u32 0, .int .u8 0, .int .u8 0, .int .u8 0, .int .u8 0, .int .u8 0, .int .u8 0, .int .u8 0, .int .u8 0, .int .u8 0, .int .u8 0, .int .u8 0, .int .u8 0, .int .u8 0, .int .u8 0, .int .u8 0, .int .u8 0, .int .u8 0, .int .u8 0, .int .u8 0, .int .u8 0, .int .u8 0, .int .u8 0, .int .u8 0, .int .u8 0, .int .u8 0, .int .u8 0, .int .u8 0, .int .u8 0, .int .u8 0, .int .u8 0, .int .u8 0, .int .u8 0, .int .u8 0, .int .u8 0, .int .u8 0, .int .u8 0, .int .u8 0, .int .u8 0, .int .u8 0, .int .u8 0, .int .u8 0, .int .u8 0, .int .u8 0, .int .u8 0, .int .u8 0, .int .u8 0, .int .u8 0, .int .u8 0, .int .u8 0, .int .u8 0, .int .u8 0, .int .u8 0, .int .u8 0, .int .u8 0, .int .u8 0, .int .u8 0, .int .u8 0, .int .u8 0, .int .u8 0, .int .u8 0, .int .u8 0, .int .u8 0, .int .u8 0, .int .u8 0, .int .u64 0]) w := fun _ => by kernel_rfl
  go_enter Tryd.func30, Tryd.ntmps30
  go_wp2
  go_ret
  refine ⟨rfl, ⟨List.replicate 64 0, ⟨rfl, rfl⟩, ?_⟩, below_of_new _ _, by simp⟩
  have e : blocksS H0 (([] : List UInt8).length / 64) [] = H0 := blocksS_zero _ _
  rw [e]
  exact heap_alloc_new w _

theorem at8 (v : S8) (k : Nat) (hk : k < 8) (w : World) : (Instr.index 74 (.agg (C8 v)) (.int .i64 (k : Int))).run Tryd.prog w = .ok (.int .u32 (wi (S8.at_ v k))) w := by
  obtain rfl | rfl | rfl | rfl | rfl | rfl | rfl | rfl : k = 0 ∨ k = 1 ∨ k = 2 ∨ k = 3 ∨ k = 4 ∨ k = 5 ∨ k = 6 ∨ k = 7 := by omega
  all_goals kernel_rfl
/-- the first k words' bytes -/
def outK (v : S8) : Nat → List UInt8
  | 0 => []
  | k + 1 => outK v k ++ be 4 (S8.at_ v k).toNat
theorem outK_len (v : S8) (k : Nat) : (outK v k).length = 4 * k := by
  induction k with
  | zero => rfl
  | succ k ih => rw [outK, List.length_append, ih, be_len]; omega
theorem outK_all (v : S8) : outK v 8 = outB v := by simp [outK, outB, S8.at_]
theorem be4 (x : UInt32) : be 4 x.toNat = [UInt8.ofNat (x.toNat / 16777216), UInt8.ofNat (x.toNat / 65536), UInt8.ofNat (x.toNat / 256), UInt8.ofNat x.toNat] := by
  simp [be, Nat.div_div_eq_div_mul]

theorem be4v (x : UInt32) : [Value.int .u8 (wi x / 16777216), .int .u8 (wi x / 65536 % 256), .int .u8 (wi x / 256 % 256), .int .u8 (wi x % 256)] = (be 4 x.toNat).map bv := by
  have h := wlt x
  rw [be4]
  simp only [List.map_cons, List.map_nil, bv, UInt8.toNat_ofNat', wi]
  have e : x.toNat / 16777216 % 2 ^ 8 = x.toNat / 16777216 := Nat.mod_eq_of_lt (by omega)
  rw [e]
  simp
def Z32 : Array Value := (List.replicate 32 (Value.int .u8 0)).toArray
theorem make32 (w : World) : (Instr.makeSlice 22 (.int .i64 0) (.int .i64 32)).run Tryd.prog w = .ok (.slice (some ⟨w.heap.size, 0, none⟩) 0 32) (w.alloc (.cells Z32 5)) := by kernel_rfl
theorem own32 (w : World) (base : Nat) (hb : base ≤ w.heap.size) : (w.alloc (.cells Z32 5)).ownsRow base 5 1 (.slice (some ⟨w.heap.size, 0, none⟩) 0 32) 0 [] :=
  ⟨rfl, .inr ⟨w.heap.size, 32, Z32, rfl, hb, heap_alloc_new w _, by omega, by unfold maxLen; omega, by simp [Z32], rfl⟩⟩

set_option maxRecDepth 100000 in
theorem written_any (v : S8) (w : World) : Calls Tryd.prog 52 #[.agg (C8 v)] w fun e w' => ∃ A c, e = .returned (.slice A 32 c) ∧ w'.ownsRow w.heap.size 5 1 (.slice A 32 c) 32 ((outB v).map bv) ∧ Below w.heap.size w w' := by
  obtain ⟨i0, hi, hz0, hz1, hz2⟩ := info_parts info5
  obtain ⟨AV, hAV⟩ : ∃ q, q = C8 v := ⟨_, rfl⟩
  have hat := at8 v
  rw [← hAV] at hat ⊢
  have HAT := Lib.hid hat
  have hsz : AV.size = 8 := by rw [hAV]; rfl
  have HSZ := Lib.hid (show (Tryd.prog.info? 74).map (·.size) = some AV.size by rw [hsz]; exact info52)
  have hmk := make32
  have hown0 := own32 (w.alloc (.cells AV 74)) w.heap.size (by simp)
  rw [World.size_alloc] at hown0
  have HOWN0 := Lib.hid hown0
  clear hat hAV hsz hown0
  go_enter Tryd.func52, Tryd.ntmps52
  go_wp2_with (first
    | (refine wpList_load_row rfl 74 (.tmp 1) rfl w.heap.size rfl 74 AV (0, 0) _ ?h8 Tryd.underlying74 rfl HSZ.out ?_; case h8 => (rw [heap_alloc_old _ _ (by simp)]; exact heap_alloc_new w _))
    | fail)
  go_loopw [3, 5, 8] (fun s3 _ i wr => ∃ (k : Nat) (A : Option Addr) (c : Nat), k ≤ 8 ∧ i = .int .i64 k ∧ s3 = .slice A (4 * k) c ∧ wr.ownsRow w.heap.size 5 1 (.slice A (4 * k) c) (4 * k) ((outK v k).map bv) ∧ Below w.heap.size w wr) (fun _ _ i _ => 8 - (intOf i).toNat)
  case atStart => exact ⟨0, some ⟨w.heap.size + 1, 0, none⟩, 32, by omega, rfl, rfl, HOWN0.out, (below_of_new w _).alloc (by simp) _⟩
  case round =>
    obtain ⟨k, A, c, hk, rfl, rfl, hown, hbw⟩ := hrel
    by_cases hlt : k < 8
    · have hix := HAT.out k hlt wr
      obtain ⟨x, hx⟩ : ∃ x, x = S8.at_ v k := ⟨_, rfl⟩
      rw [← hx] at hix
      have hxl := wi_lt x
      have s24 := w_shr x 24 16777216 (by decide) (by decide)
      have s16 := w_shr x 16 65536 (by decide) (by decide)
      have s8 := w_shr x 8 256 (by decide) (by decide)
      have HX := Lib.hid hx
      clear hx s24 s16 s8
      have hb4 := be4v x
      have HB4 := Lib.hid hb4
      have hsz := hbw.size
      clear hb4
      go_wp2_with (at_builtin; refine wpList_app _ rfl (.tmp 11) (.tmp 23) 22 rfl w.heap.size 5 i0 _ 1 Tryd.underlying22 hi hz0 hz1 hz2 rfl _ (4 * k) _ rfl (hown.alloc _) _ (some ⟨wr.heap.size, 0, none⟩) 4 4 ((be 4 x.toNat).map bv) rfl (rd_lit' _ rfl HB4.out (be_len _ _) (by omega)) (bv_one _) (by omega) (by omega) (by simp; omega) ?_; intro A2 c2 w3 hown3 hg3 hat3)
      have hb3 := (below_alloc hbw _).grown hg3 (by simp; omega) (fun g hg => (hown.lt g hg).1)
      rw [← List.map_append, HX.out] at hown3
      clear hg3 hat3
      go_wp2
      go_roundw
      case rel => exact ⟨k + 1, A2, c2, by omega, by go_num, rfl, hown3, hb3⟩
      case measure => simp [intOf]; omega
    · obtain rfl : k = 8 := by omega
      rw [outK_all] at hown
      go_wp2
      go_ret
      exact ⟨A, c, rfl, hown, hbw⟩

/-- a block of a world reads as its bytes -/
theorem rd_at {w : World} {g n : Nat} {e : TypeId} {arr : Array Value} {bs : List UInt8} (h : w.heap[g]? = some (.cells arr e (0, 0))) (ha : arr.toList = bs.map bv) (hn : bs.length = n) (hm : n ≤ 9223372036854775807) :
    RdB w w.heap.size (some ⟨g, 0, none⟩) n n bs := by
  have hlt : g < w.heap.size := (Array.getElem?_eq_some_iff.1 h).1
  refine ⟨by rw [List.length_map, hn], Nat.le_refl _, hm, fun _ => ⟨g, 0, rfl, hlt, fun j u hu => ?_⟩⟩
  rw [Nat.zero_add, cell_of_row w g j _ _ (0, 0) h, ← hu, ← ha]
  simp
theorem RdS.own {w : World} {base n c : Nat} {A : Option Addr} {e : TypeId} {bs : List UInt8} (h : w.ownsRow base e 1 (.slice A n c) n (bs.map bv)) : RdS w (fun b => base ≤ b ∧ b < w.heap.size) A n c (bs.map bv) := by
  have h1 := Rd.of_own h
  refine ⟨h1.1, h1.2.1, h1.2.2.1, fun hn => ?_⟩
  obtain ⟨b, o, rfl, hb, hc⟩ := h1.2.2.2 hn
  exact ⟨b, o, rfl, h.lt b rfl, hc⟩
theorem RdS.mono {w : World} {S S' : Nat → Prop} {n c : Nat} {A : Option Addr} {xs : List Value} (h : RdS w S A n c xs) (hS : ∀ b, S b → S' b) : RdS w S' A n c xs := h.keep (fun _ _ => rfl) hS
theorem RdS.rdB {w : World} {S : Nat → Prop} {n c : Nat} {A : Option Addr} {bs : List UInt8} (h : RdS w S A n c (bs.map bv)) (hS : ∀ b, S b → b < w.heap.size) : RdB w w.heap.size A n c bs := by
  obtain ⟨h1, h2, h3, h4⟩ := h
  exact ⟨h1, h2, h3, fun hn => by obtain ⟨b, o, e, hb, hc⟩ := h4 hn; exact ⟨b, o, e, hS b hb, hc⟩⟩
theorem pad_join (n z N g g1 g2 g3 : Nat) (hz : z = padZ n) (hN : N = 8 * n) (W : World) (hg : g = W.heap.size) (h1 : W.heap[g1]? = some (.cells #[.int .u8 128] 5 (0, 0))) (h2 : W.heap[g2]? = some (.cells (madeCells #[.int .u8 0] z) 5 (0, 0)))
    (h3 : W.heap[g3]? = some (.cells (Cput 0 N) 5 (0, 0))) :
    Calls Tryd.prog 39 #[.slice (some ⟨g, 0, none⟩) 3 3] ((W.alloc (.cells #[.slice (some ⟨g1, 0, none⟩) 1 1, .slice (some ⟨g2, 0, none⟩) z z, .slice (some ⟨g3, 0, none⟩) 8 8] 22)).drew) fun e w' =>
      ∃ A c, e = .returned (.slice A (padB n).length c) ∧ RdS w' (fun b => W.heap.size ≤ b ∧ b < w'.heap.size) A (padB n).length c ((padB n).map bv) ∧ Below W.heap.size W w' := by
  have hzl : z < 64 := by rw [hz]; unfold padZ; omega
  have hj : joinL [⟨some ⟨g1, 0, none⟩, 1, 1, [128]⟩, ⟨some ⟨g2, 0, none⟩, z, z, List.replicate z 0⟩, ⟨some ⟨g3, 0, none⟩, 8, 8, be 8 N⟩] = padB n := by
    rw [joinL_three, padB, hz, hN]
  have hw : Below W.heap.size W (W.alloc (.cells #[.slice (some ⟨g1, 0, none⟩) 1 1, .slice (some ⟨g2, 0, none⟩) z z, .slice (some ⟨g3, 0, none⟩) 8 8] 22)).drew := below_seq (below_of_new W _) (below_of_drew ⟨1, rfl⟩ _)
  have r1 : RdB W W.heap.size (some ⟨g1, 0, none⟩) 1 1 [128] := rd_at h1 rfl rfl (by omega)
  have r2 : RdB W W.heap.size (some ⟨g2, 0, none⟩) z z (List.replicate z 0) := rd_at h2 (by rw [toList_madeCells_one]; simp [bv]) (by simp) (by omega)
  have r3 : RdB W W.heap.size (some ⟨g3, 0, none⟩) 8 8 (be 8 N) := rd_at h3 (Cput_zero N) (be_len _ _) (by omega)
  have h := joined_any (some ⟨g, 0, none⟩) 3 3 _ [⟨some ⟨g1, 0, none⟩, 1, 1, [128]⟩, ⟨some ⟨g2, 0, none⟩, z, z, List.replicate z 0⟩, ⟨some ⟨g3, 0, none⟩, 8, 8, be 8 N⟩] (W.alloc (.cells #[.slice (some ⟨g1, 0, none⟩) 1 1, .slice (some ⟨g2, 0, none⟩) z z, .slice (some ⟨g3, 0, none⟩) 8 8] 22)).drew
    (Rd.drewN (rd_cells (n := 3) W hg rfl rfl (by omega)) 1) (fun r hr => by
      simp only [List.mem_cons, List.not_mem_nil, or_false] at hr
      rcases hr with rfl | rfl | rfl
      · exact r1.on hw
      · exact r2.on hw
      · exact r3.on hw) (Nat.le_refl _) (by rw [hj, padB_len]; unfold padZ; omega)
  rw [hj] at h
  exact h.mono fun e w' ⟨A, c, he, ho, hbl⟩ => ⟨A, c, he, RdS.mono (RdS.own ho) (fun b hb => ⟨by have := hb.1; have := hw.size; omega, hb.2⟩), below_seq hw hbl⟩
theorem heap3 {w : World} (o1 o2 o3 : Obj) : (((w.alloc o1).alloc o2).alloc o3).heap[w.heap.size]? = some o1 ∧ (((w.alloc o1).alloc o2).alloc o3).heap[w.heap.size + 1]? = some o2 ∧ (((w.alloc o1).alloc o2).alloc o3).heap[w.heap.size + 1 + 1]? = some o3 := by
  refine ⟨?_, ?_, ?_⟩
  · rw [heap_alloc_old _ _ (by simp; omega), heap_alloc_old _ _ (by simp)]; exact heap_alloc_new w o1
  · rw [heap_alloc_old _ _ (by simp)]
    have := heap_alloc_new (w.alloc o1) o2
    rw [World.size_alloc] at this
    exact this
  · have := heap_alloc_new ((w.alloc o1).alloc o2) o3
    rw [World.size_alloc, World.size_alloc] at this
    exact this

set_option maxRecDepth 100000 in
set_option maxHeartbeats 1000000 in
theorem padding_any (n : Nat) (w : World) (hn : n ≤ 1152921504606846976) : Calls Tryd.prog 51 #[.int .u64 n] w fun e w' => ∃ A c, e = .returned (.slice A (padB n).length c) ∧ RdS w' (fun b => w.heap.size ≤ b ∧ b < w'.heap.size) A (padB n).length c ((padB n).map bv) ∧ Below w.heap.size w w' := by
  have hz : ((119 - ((n : Int) % 64)) % 64) = ((padZ n : Nat) : Int) := by unfold padZ; omega
  obtain ⟨z, hzz⟩ : ∃ z, z = padZ n := ⟨_, rfl⟩
  rw [← hzz] at hz
  have hzl : z < 64 := by rw [hzz]; unfold padZ; omega
  have hmk : ∀ W : World, (Instr.makeSlice 22 (.int .u64 (z : Int)) (.int .u64 (z : Int))).run Tryd.prog W = .ok (.slice (some ⟨W.heap.size, 0, none⟩) z z) (W.alloc (.cells (madeCells #[.int .u8 0] z) 5)) := fun W =>
    run_make_row' 22 5 (.int .u8 0) 1 Tryd.underlying22 info5 rfl .u64 .u64 z (by omega) (by omega) W
  obtain ⟨N, hN⟩ : ∃ N, N = 8 * n := ⟨_, rfl⟩
  have s8 : IntKind.u64.wrap (8 * (n : Int)) = (N : Int) := by
    rw [hN, Int.natCast_mul]
    simp [IntKind.wrap, IntKind.bits, IntKind.signed]
    omega
  have hN64 : N < 18446744073709551616 := by omega
  have HPJ := Lib.hid (fun W g g1 g2 g3 => pad_join n z N g g1 g2 g3 hzz hN W)
  have HN64 := Lib.hid hN64
  have HZ := Lib.hid hz
  have HMK := Lib.hid hmk
  clear hzz hN hn hN64 hz hmk
  go_enter Tryd.func51, Tryd.ntmps51
  go_wp2_with fail
  rw [HZ.out]
  have hmk := HMK.out
  go_region_law ((first
    | (go_simp; go_at_call 40; refine (put_any N _ HN64.out).mono ?_; rintro e w' ⟨rfl, rfl⟩)
    | (go_simp; go_at_call 39; refine (HPJ.out _ _ _ _ _ (by simp) (by first | exact (heap3 _ _ _).1 | exact (heap3 _ _ _).2.1 | exact (heap3 _ _ _).2.2) (by first | exact (heap3 _ _ _).1 | exact (heap3 _ _ _).2.1 | exact (heap3 _ _ _).2.2) (by first | exact (heap3 _ _ _).1 | exact (heap3 _ _ _).2.1 | exact (heap3 _ _ _).2.2)).mono ?_; rintro e w4 ⟨A, c, rfl, hrd, hb⟩)))
  all_goals
    go_wp2
    go_ret
    exact ⟨A, c, rfl, RdS.mono hrd (fun b hb => ⟨by have := hb.1; simp at this; omega, hb.2⟩), below_seq (((below_of_new w _).alloc (by simp) _).alloc (by simp; omega) _) hb⟩

theorem SumAt.below {w w' : World} {g : Nat} {x : List UInt8} (h : SumAt w g x) (hlt : g < w.heap.size) (hb : Below w.heap.size w w') : SumAt w' g x := by
  obtain ⟨blk, h1, h2⟩ := h
  exact ⟨blk, h1, (hb.block g hlt).trans h2⟩
theorem SumAt.lt {w : World} {g : Nat} {x : List UInt8} (h : SumAt w g x) : g < w.heap.size := by
  obtain ⟨blk, h1, h2⟩ := h
  exact (Array.getElem?_eq_some_iff.1 h2).1
theorem info55 : (Tryd.prog.info? 76).map (·.size) = some 73 := by kernel_rfl
theorem pad_mod (x : List UInt8) : (x ++ padB x.length).length % 64 = 0 := by rw [List.length_append, padB_len]; unfold padZ; omega

set_option maxRecDepth 100000 in
set_option maxHeartbeats 1000000 in
theorem digest_own (g : Nat) (x : List UInt8) (w : World) (hs : SumAt w g x) (hR : Roots w) (hb : x.length ≤ 576460752303423488) :
    Calls Tryd.prog 34 #[.pointer (some ⟨g, 0, none⟩)] w fun e w' => ∃ A c B, e = .returned (.slice A 32 c) ∧ w.heap.size ≤ B ∧ w'.ownsRow B 5 1 (.slice A 32 c) 32 ((dig x).map bv) ∧ Below w.heap.size w w' := by
  obtain ⟨blk, hblk, hG⟩ := hs
  obtain ⟨SC, hSC⟩ : ∃ SC, SC = (sumC (blocksS H0 (x.length / 64) x) blk x.length).toArray := ⟨_, rfl⟩
  rw [← hSC] at hG
  have hsz : SC.size = 73 := by rw [hSC, List.size_toArray]; exact sumC_len _ _ hblk.1
  have hN : w.cell? ⟨g, 72, none⟩ = some (.int .u64 x.length) := by rw [cell_of_row w g 72 _ _ (0, 0) hG, hSC, List.getElem?_toArray]; exact sumC_size _ _ hblk.1
  have hi : (Tryd.prog.info? 76).map (·.size) = some SC.size := by rw [hsz]; exact info55
  have HG := Lib.hid hG
  have HI := Lib.hid hi
  have HSC := Lib.hid hSC
  have HBLK := Lib.hid hblk
  have HR := Lib.hid hR
  have HLT := Lib.hid (show g < w.heap.size from (Array.getElem?_eq_some_iff.1 hG).1)
  clear hG hi hSC hblk hsz hR
  have hone : SC.all (·.oneCell') = true := by
    rw [HSC.out]
    refine all_oneCell_toArray (fun v hv => ?_)
    rw [sumC] at hv
    rcases List.mem_append.1 hv with h | h
    · simp [C8] at h; obtain rfl | rfl | rfl | rfl | rfl | rfl | rfl | rfl := h <;> rfl
    · rcases List.mem_append.1 h with h | h
      · exact bv_one _ v h
      · rw [List.mem_singleton.1 h]; rfl
  have hz55 : ∀ w, (zeroValue 76).run Tryd.prog w = .ok (.agg #[.int .u32 0, .int .u32 0, .int .u32 0, .int .u32 0, .int .u32 0, .int .u32 0, .int .u32 0, .int .u32 0, .int .u8 0, .int .u8 0, .int .u8 0, .int .u8 0, .int .u8 0, .int .u8 0, .int .u8 0, .int .u8 0, .int .u8 0, .int .u8 0, .int .u8 0, .int .u8 0, .int .u8 0, .int .u8 0, .int .u8 0, .int .u8 0, .int .u8 0, .int .u8 0, .int .u8 0, .int .u8 0, .int .u8 0, .int .u8 0, .int .u8 0, .int .u8 0, .int .u8 0, .int .u8 0, .int .u8 0, .int .u8 0, .int .u8 0, .int .u8 0, .int .u8 0, .int .u8 0, .int .u8 0, .int .u8 0, .int .u8 0, .int .u8 0, .int .u8 0, .int .u8 0, .int .u8 0, .int .u8 0, .int .u8 0, .int .u8 0, .int .u8 0, .int .u8 0, .int .u8 0, .int .u8 0, .int .u8 0, .int .u8 0, .int .u8 0, .int .u8 0, .int .u8 0, .int .u8 0, .int .u8 0, .int .u8 0, .int .u8 0, .int .u8 0, .int .u8 0, .int .u8 0, .int .u8 0, .int .u8 0, .int .u8 0, .int .u8 0, .int .u8 0, .int .u8 0, .int .u64 0]) w := fun _ => by kernel_rfl
  have HONE := Lib.hid hone
  have HSZ := Lib.hid (show (73 : Nat) = SC.size by rw [HSC.out, List.size_toArray]; exact (sumC_len _ _ HBLK.out.1).symm)
  clear hone
  have hw1 : Below w.heap.size w ((w.alloc (.cells #[.int .u32 0, .int .u32 0, .int .u32 0, .int .u32 0, .int .u32 0, .int .u32 0, .int .u32 0, .int .u32 0, .int .u8 0, .int .u8 0, .int .u8 0, .int .u8 0, .int .u8 0, .int .u8 0, .int .u8 0, .int .u8 0, .int .u8 0, .int .u8 0, .int .u8 0, .int .u8 0, .int .u8 0, .int .u8 0, .int .u8 0, .int .u8 0, .int .u8 0, .int .u8 0, .int .u8 0, .int .u8 0, .int .u8 0, .int .u8 0, .int .u8 0, .int .u8 0, .int .u8 0, .int .u8 0, .int .u8 0, .int .u8 0, .int .u8 0, .int .u8 0, .int .u8 0, .int .u8 0, .int .u8 0, .int .u8 0, .int .u8 0, .int .u8 0, .int .u8 0, .int .u8 0, .int .u8 0, .int .u8 0, .int .u8 0, .int .u8 0, .int .u8 0, .int .u8 0, .int .u8 0, .int .u8 0, .int .u8 0, .int .u8 0, .int .u8 0, .int .u8 0, .int .u8 0, .int .u8 0, .int .u8 0, .int .u8 0, .int .u8 0, .int .u8 0, .int .u8 0, .int .u8 0, .int .u8 0, .int .u8 0, .int .u8 0, .int .u8 0, .int .u8 0, .int .u8 0, .int .u64 0] 76)).setRow w.heap.size SC) := below_setRow (below_of_new w _) (Nat.le_refl _) _
  have hs1 : SumAt ((w.alloc (.cells #[.int .u32 0, .int .u32 0, .int .u32 0, .int .u32 0, .int .u32 0, .int .u32 0, .int .u32 0, .int .u32 0, .int .u8 0, .int .u8 0, .int .u8 0, .int .u8 0, .int .u8 0, .int .u8 0, .int .u8 0, .int .u8 0, .int .u8 0, .int .u8 0, .int .u8 0, .int .u8 0, .int .u8 0, .int .u8 0, .int .u8 0, .int .u8 0, .int .u8 0, .int .u8 0, .int .u8 0, .int .u8 0, .int .u8 0, .int .u8 0, .int .u8 0, .int .u8 0, .int .u8 0, .int .u8 0, .int .u8 0, .int .u8 0, .int .u8 0, .int .u8 0, .int .u8 0, .int .u8 0, .int .u8 0, .int .u8 0, .int .u8 0, .int .u8 0, .int .u8 0, .int .u8 0, .int .u8 0, .int .u8 0, .int .u8 0, .int .u8 0, .int .u8 0, .int .u8 0, .int .u8 0, .int .u8 0, .int .u8 0, .int .u8 0, .int .u8 0, .int .u8 0, .int .u8 0, .int .u8 0, .int .u8 0, .int .u8 0, .int .u8 0, .int .u8 0, .int .u8 0, .int .u8 0, .int .u8 0, .int .u8 0, .int .u8 0, .int .u8 0, .int .u8 0, .int .u8 0, .int .u64 0] 76)).setRow w.heap.size SC) w.heap.size x := ⟨blk, HBLK.out, by rw [← HSC.out]; exact setRow_heap _ _ _ _ _ _ (heap_alloc_new w _)⟩
  have HW1 := Lib.hid hw1
  have HS1 := Lib.hid hs1
  clear hw1 hs1
  go_enter Tryd.func34, Tryd.ntmps34
  go_wp2_with (first
    | (refine wpList_load_row rfl 76 (.tmp 5) rfl g rfl 76 SC (0, 0) _ HG.out Tryd.underlying76 rfl HI.out ?_)
    | (refine wpList_store_row rfl 76 (.tmp 3) (.tmp 6) rfl w.heap.size SC rfl rfl 76 _ (heap_alloc_new w _) HI.out HSZ.out HONE.out ?_; have hs1 := HS1.out; have hw1 := HW1.out; obtain ⟨w1, hww⟩ : ∃ q, q = ((w.alloc (.cells #[.int .u32 0, .int .u32 0, .int .u32 0, .int .u32 0, .int .u32 0, .int .u32 0, .int .u32 0, .int .u32 0, .int .u8 0, .int .u8 0, .int .u8 0, .int .u8 0, .int .u8 0, .int .u8 0, .int .u8 0, .int .u8 0, .int .u8 0, .int .u8 0, .int .u8 0, .int .u8 0, .int .u8 0, .int .u8 0, .int .u8 0, .int .u8 0, .int .u8 0, .int .u8 0, .int .u8 0, .int .u8 0, .int .u8 0, .int .u8 0, .int .u8 0, .int .u8 0, .int .u8 0, .int .u8 0, .int .u8 0, .int .u8 0, .int .u8 0, .int .u8 0, .int .u8 0, .int .u8 0, .int .u8 0, .int .u8 0, .int .u8 0, .int .u8 0, .int .u8 0, .int .u8 0, .int .u8 0, .int .u8 0, .int .u8 0, .int .u8 0, .int .u8 0, .int .u8 0, .int .u8 0, .int .u8 0, .int .u8 0, .int .u8 0, .int .u8 0, .int .u8 0, .int .u8 0, .int .u8 0, .int .u8 0, .int .u8 0, .int .u8 0, .int .u8 0, .int .u8 0, .int .u8 0, .int .u8 0, .int .u8 0, .int .u8 0, .int .u8 0, .int .u8 0, .int .u8 0, .int .u64 0] 76)).setRow w.heap.size SC) := ⟨_, rfl⟩; rw [← hww] at hs1 hw1; rw [← hww]; have hN1 := (hw1.cell (p := ⟨g, 72, none⟩) HLT.out).trans hN; clear hww hN)
    | fail)
  refine (padding_any x.length _ (by omega)).mono ?_
  rintro e w2 ⟨A2, c2, rfl, hr2, hb2⟩
  have hlt1 := hs1.lt
  have hs2 := hs1.below hlt1 hb2
  have hrt2 : Roots w2 := (HR.out.on hw1).on hb2
  have hne : w.heap.size ≠ 0 := by have := HR.out.lt; omega
  have hz : padZ x.length < 64 := by unfold padZ; omega
  have hbd : x.length + (padB x.length).length ≤ 1152921504606846976 := by rw [padB_len]; omega
  have HS2 := Lib.hid hs2
  have HR2 := Lib.hid (RdS.mono hr2 (S' := fun b => b < w2.heap.size ∧ b ≠ w.heap.size) (fun b hb => ⟨hb.2, by have := hb.1; omega⟩))
  have HRT2 := Lib.hid hrt2
  have hB2 := below_seq hw1 hb2
  clear hs1 hw1 hb2 hs2 hr2 hrt2
  go_wp2_with fail
  refine (write_any w.heap.size _ c2 A2 x (padB x.length) w2 HS2.out HR2.out HRT2.out hne hbd).mono ?_
  rintro e w3 ⟨rfl, hs3, hgb3⟩
  obtain ⟨blk3, hblk3, hG3⟩ := hs3
  obtain ⟨v, hv⟩ : ∃ v, v = blocksS H0 ((x ++ padB x.length).length / 64) (x ++ padB x.length) := ⟨_, rfl⟩
  rw [← hv] at hG3
  have hrange := sumC_words _ _ _ hG3
  have hdig : dig x = outB v := by rw [dig, ← hv]
  have HDIG := Lib.hid hdig
  have hB3 : Below w.heap.size w w3 := hB2.trans (below_of_gb hgb3 (Nat.le_refl _) hB2.size)
  have HRG := Lib.hid hrange
  clear hG3 hrange hblk3 hgb3 hdig hv hN1
  go_wp2_with (first
    | (refine wpList_load_mid rfl 74 (.tmp 13) rfl w.heap.size 0 rfl (C8 v).toList _ HRG.out Tryd.underlying74 rfl info52 ?_)
    | fail)
  refine (written_any v _).mono ?_
  rintro e w4 ⟨A4, c4, rfl, ho4, hb4⟩
  rw [← HDIG.out] at ho4
  have HN4 := Lib.hid ho4
  clear ho4 HSC HBLK HG HI HONE HSZ
  have hle := hB3.size
  go_wp2
  go_ret
  exact ⟨A4, c4, w3.heap.size, rfl, hle, HN4.out, below_seq hB3 hb4⟩
theorem digest_any (g : Nat) (x : List UInt8) (w : World) (hs : SumAt w g x) (hR : Roots w) (hb : x.length ≤ 576460752303423488) :
    Calls Tryd.prog 34 #[.pointer (some ⟨g, 0, none⟩)] w fun e w' => ∃ A c, e = .returned (.slice A 32 c) ∧ New w w' A 32 c (dig x) :=
  (digest_own g x w hs hR hb).mono fun e w' ⟨A, c, B, he, _, ho, hbl⟩ => ⟨A, c, he, .of_own ho hbl⟩
end Go.Proofs.YtgebdkbbdabomaaDoor.Sha
