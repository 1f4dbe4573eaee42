/-
  The walk of SymMarks.
-/
import Derived.Test.YtajkghdjfbgimaaSyam
import Derived.Test.YtajkghdjfbgimaaSymc
import Derived.Test.YtajkghdjfbgimaaSymd
import Derived.Test.YtajkghdjfbgimaaCuts
namespace Go.Proofs.Ytajkghdjfbgimaa.Sym
open Go.RowKit
open Go.Proofs.Ytajkghdjfbgimaa.Kit
open Go.Proofs.Ytajkghdjfbgimaa.Oct
set_option linter.unusedVariables false

theorem und22 : Try.prog.underlying 29 = some (.slice (Try.prog.elem 29)) := by kernel_rfl
theorem el22 (w : World) : (sizeOf (Try.prog.elem 29)).run Try.prog w = .ok 1 w := by kernel_rfl
theorem rdb_take {w : World} {n c k : Nat} {A : Option Addr} {bs : List UInt8} (h : RdB w w.heap.size A n c bs) (hk : k ≤ n) : RdB w w.heap.size A k c (bs.take k) := by
  have := Rd.front (k := k) h hk
  rw [← List.map_take] at this
  exact this
theorem run_front {P : Program} {t : TypeId} (ht : P.underlying t = some (.slice (P.elem t))) (hs : ∀ w, (sizeOf (P.elem t)).run P w = .ok 1 w) (A : Option Addr) (n c k : Nat) (hkc : k ≤ c) (w : World) : (Instr.slice t (.slice A n c) none (some (.int .i64 (k : Int))) none).run P w = .ok (.slice A k c) w := by
  rw [run_slice_h w t A n c ht .i64 (k : Int) (by omega) (by omega), hs]
  have e : A.map (·.add 0) = A := by cases A <;> simp [Addr.add]
  simp [sliced, e]
theorem and16 (a : Int) : ∃ t : Nat, t ≤ 65535 ∧ bits .and .i64 a 65535 = t := by
  have hle : (BitVec.ofInt 64 a &&& BitVec.ofInt 64 65535).toNat ≤ 65535 := by
    rw [BitVec.toNat_and]
    exact Nat.le_trans Nat.and_le_right (by decide)
  refine ⟨(BitVec.ofInt 64 a &&& BitVec.ofInt 64 65535).toNat, hle, ?_⟩
  show IntKind.i64.wrap ((BitVec.ofInt 64 a &&& BitVec.ofInt 64 65535).toNat : Int) = _
  rw [IntKind.wrap_i64]
  omega
theorem info8 : (Try.prog.info? 5).map (fun i => (i.zero, i.size, i.bytes)) = some (some (.int .u8 0), 1, 1) := by kernel_rfl
theorem infoA16 : (Try.prog.info? 32).map (fun i => (i.zero, i.size, i.bytes)) = some (some (.agg #[.int .u8 0, .int .u8 0, .int .u8 0, .int .u8 0, .int .u8 0, .int .u8 0, .int .u8 0, .int .u8 0, .int .u8 0, .int .u8 0, .int .u8 0, .int .u8 0, .int .u8 0, .int .u8 0, .int .u8 0, .int .u8 0]), 16, 16) := by kernel_rfl
theorem info16b : (Try.prog.info? 32).map (·.size) = some 16 := by kernel_rfl
theorem findK_16 (bs : List UInt8) : ∀ k, ∀ z ∈ findK bs k, z.length = 16
  | 0, z, h => by simp [findK] at h
  | k + 1, z, h => by
    unfold findK at h
    rcases List.mem_append.1 h with h | h
    · exact findK_16 bs k z h
    · split at h
      · rename_i ho
        simp only [List.mem_singleton] at h
        subst h
        refine (markOf_cond (fun e => ?_)).1
        unfold mkO at ho
        rw [e] at ho
        cases ho
      · simp at h
theorem cellsL_at : ∀ (l : List (List UInt8)), (∀ f ∈ l, f.length = 16) → ∀ i (hi : i < l.length) j v, (l[i].map bv)[j]? = some v → (cellsL l)[i * 16 + j]? = some v
  | [], _, i, hi, _, _, _ => absurd hi (by simp)
  | f :: r, hok, 0, _, j, v, hv => by
    have hv : (f.map bv)[j]? = some v := hv
    rw [show cellsL (f :: r) = f.map bv ++ cellsL r from rfl, Nat.zero_mul, Nat.zero_add, List.getElem?_append_left (List.getElem?_eq_some_iff.1 hv).1]
    exact hv
  | f :: r, hok, i + 1, hi, j, v, hv => by
    have hl : (f.map bv).length = 16 := by rw [List.length_map]; exact hok f (List.mem_cons_self ..)
    rw [show cellsL (f :: r) = f.map bv ++ cellsL r from rfl, List.getElem?_append_right (by omega), hl, show (i + 1) * 16 + j - 16 = i * 16 + j from by omega]
    exact cellsL_at r (fun g hg => hok g (List.mem_cons_of_mem _ hg)) i (by simpa using hi) j v hv
/-- where the k-th of a row of keys lies -/
theorem keys_at {w : World} {base n c : Nat} {A : Option Addr} {e : TypeId} {F : List (List UInt8)} (h : w.ownsRow base e 16 (.slice A n c) n (cellsL F)) (hF : ∀ z ∈ F, z.length = 16) {k : Nat} (hk : k < F.length) : ∃ g, A = some ⟨g, 0, none⟩ ∧ w.rangeAt g (k * 16) (F[k].map bv) := by
  have hn : (cellsL F).length = n * 16 := h.1
  have hcl : ∀ l : List (List UInt8), (∀ z ∈ l, z.length = 16) → (cellsL l).length = l.length * 16 := fun l => by
    induction l with
    | nil => intro _; rfl
    | cons f r ih =>
      intro hl
      rw [show cellsL (f :: r) = f.map bv ++ cellsL r from rfl, List.length_append, List.length_map, hl f (List.mem_cons_self ..), ih (fun g hg => hl g (List.mem_cons_of_mem _ hg)), List.length_cons]
      omega
  rw [hcl F hF] at hn
  obtain ⟨g, cap, hv, _, _⟩ := h.form (by omega)
  injection hv with h1 h2 h3
  refine ⟨g, h1, fun j v hj => ?_⟩
  have hj2 : j < 16 := by have := (List.getElem?_eq_some_iff.1 hj).1; rw [List.length_map, hF _ (List.getElem_mem hk)] at this; exact this
  rw [h1] at h
  rw [h.cellAt (k * 16 + j) (by omega)]
  exact cellsL_at F hF k hk j v hj
theorem below_gbY {B : Nat} {w W w' : World} {row : Option Nat} (h : Below B w W) (hg : W.grownBy w' row) (hB : ∀ g, row = some g → B ≤ g) (hs : B ≤ w.heap.size) : Below B w w' :=
  h.trans ⟨hg.os, hg.tape, hg.output, hg.size, fun k hk => hg.block k (by have := h.size; omega) (fun e => by have := hB k e.symm; omega)⟩

set_option maxRecDepth 100000 in
set_option maxHeartbeats 4000000 in
theorem marks_walk (A : Option Addr) (n c : Nat) (bs : List UInt8) (kd : UInt8) (x p : Int) (w : World) (hx : RdB w w.heap.size A n c bs) : Calls Try.prog 4 #[.slice A n c, .int .u8 kd.toNat, .int .i64 x, .int .i64 p] w fun e w' => e = .returned (.bool true) ∧ Below w.heap.size w w' := by
  have hln := hx.len
  have hrm := hx.room
  by_cases hbig : 200 < n
  · have t1 : decide ((200 : Int) < (n : Int)) = true := decide_eq_true (by omega)
    go_enter Try.func4, Try.ntmps4
    go_wp2_with fail
    refine (alive7_any w).mono ?_
    rintro e w1 ⟨rfl, hb1⟩
    go_wp2_with fail
    go_ret
    exact ⟨rfl, hb1⟩
  · have t1 : decide ((200 : Int) < (n : Int)) = false := decide_eq_false (by omega)
    obtain ⟨q, hq, hqa⟩ := and16 x
    obtain ⟨t, ht, hta⟩ := and1023 p
    obtain ⟨a, ha⟩ : ∃ a, a = t % (n + 1) := ⟨_, rfl⟩
    have han : a ≤ n := by have := Nat.mod_lt t (show 0 < n + 1 by omega); omega
    have hmod : (t : Int).tmod ((n : Int) + 1) = (a : Int) := by rw [ha]; rfl
    have hmod2 : (t : Int) % ((n : Int) + 1) = (a : Int) := by rw [ha]; rfl
    obtain ⟨ZV, hZ⟩ : ∃ q : Array Value, q = #[.int .u8 0, .int .u8 0, .int .u8 0, .int .u8 0, .int .u8 0, .int .u8 0, .int .u8 0, .int .u8 0, .int .u8 0, .int .u8 0, .int .u8 0, .int .u8 0, .int .u8 0, .int .u8 0, .int .u8 0, .int .u8 0] := ⟨_, rfl⟩
    have hz : ∀ w, (zeroValue 32).run Try.prog w = .ok (.agg ZV) w := fun w => by rw [hZ]; kernel_rfl
    have hzl : ZV.size = 16 := by rw [hZ]; rfl
    obtain ⟨MV, hMV⟩ : ∃ z, z = kv (mk kd q) := ⟨_, rfl⟩
    have hMs : MV.size = 16 := by rw [hMV, kv_size, mk_len]
    have hI : (Try.prog.info? 32).map (·.size) = some MV.size := by rw [hMs]; exact info16b
    have hP : MV.all (·.oneCell') = true := by rw [hMV]; exact all_oneCell_toArray (bv_one _)
    have HX := Lib.hid hx
    have HMV := Lib.hid hMV
    have HZL := Lib.hid (show ZV.size = MV.size by rw [hzl, hMs])
    have HI := Lib.hid hI
    have HP := Lib.hid hP
    have HAA := Lib.hid ha
    clear hx hZ hMV hzl hMs hI hP ha
    obtain ⟨i0, hi, hz0, hz1, hz2⟩ := info_parts info8
    go_enter Try.func4, Try.ntmps4
    go_wp2_with fail
    refine (alive7_any w).mono ?_
    rintro e w1 ⟨rfl, hb1⟩
    have HB1 := Lib.hid hb1
    clear hb1
    go_wp2_with fail
    have hlm := lmark_any kd q w1 (by omega)
    rw [← HMV.out] at hlm
    refine hlm.mono ?_
    rintro e w2 ⟨rfl, hb2⟩
    obtain ⟨W3, hW3⟩ : ∃ q, q = (w2.alloc (.cells ZV 32)).setRow w2.heap.size MV := ⟨_, rfl⟩
    have HGN := Lib.hid (heap_alloc_new w2 (.cells ZV 32))
    have hg3 : W3.heap[w2.heap.size]? = some (.cells MV 32 (0, 0)) := by rw [hW3]; exact setRow_heap _ w2.heap.size _ MV _ _ (heap_alloc_new w2 _)
    have hb3 : Below w2.heap.size w2 W3 := by rw [hW3]; exact below_setRow (below_of_new w2 _) (Nat.le_refl _) _
    have HB3 := Lib.hid (below_seq (below_seq HB1.out hb2) hb3)
    have HG3 := Lib.hid hg3
    clear hlm hb2 hg3 hb3
    go_wp2_with (refine wpList_store_row (o := ⟨none, _, _, _, _, _⟩) rfl 32 (.tmp 9) (.tmp 31) rfl w2.heap.size MV rfl rfl 32 _ HGN.out HI.out HZL.out HP.out ?_; apply Hid.out)
    refine Lib.hid ?_
    rw [← hW3]
    have hKlt : w2.heap.size < W3.heap.size := (Array.getElem?_eq_some_iff.1 HG3.out).1
    clear hW3 HGN hz
    obtain ⟨A2, hA2⟩ : ∃ z, z = if c = a then A else A.map (·.add a) := ⟨_, rfl⟩
    have hcut := fun w => run_cut (t := 29) und22 el22 A n c a han (by omega) w
    have hfro := fun w => run_front (t := 29) und22 el22 A n c a (by omega) w
    rw [← hA2] at hcut
    have hbA : Below w.heap.size w (W3.alloc (.cells #[] 5)).drew := (below_seq HB3.out (below_of_new W3 _)).drew
    have hr1 : RdB w w.heap.size A a c (bs.take a) := rdb_take HX.out han
    have hr3 : RdB w w.heap.size A2 (n - a) (c - a) (bs.drop a) := by
      have hrc := Rd.cut (k := a) HX.out han
      rw [← hA2, ← List.map_drop] at hrc
      exact hrc
    clear hA2
    have hs3 := HB3.out.size
    have hown0 : (W3.alloc (.cells #[] 5)).drew.ownsRow w.heap.size 5 1 (.slice (some ⟨W3.heap.size, 0, none⟩) 0 0) 0 [] := own_on (own_new W3 (base := w.heap.size) (n := 0) (arr := #[]) hs3 rfl (by omega)) (below_of_drew ⟨1, rfl⟩ _)
    have hsA : (W3.alloc (.cells #[] 5)).drew.heap.size = W3.heap.size + 1 := by simp [World.drew]
    have hMl : (mk kd q).length = 16 := mk_len _ _
    go_wp2_with fail
    refine wp_region_any (by kernel_rfl) ?_
    change wpAny _ _ _ _ _ _ _ (World.drew _)
    refine wpAny_take (i := 1) (v := .slice A n c) rfl (by kernel_rfl) (by kernel_rfl) (by kernel_rfl) (fun _ _ _ h => h) (Or.inl ⟨by rfl, fun w => by go_simp⟩) ?_
    go_simp
    refine wpAny_take (i := 2) (v := .int .i64 (a : Int)) rfl (by kernel_rfl) (by kernel_rfl) (by kernel_rfl) (fun _ _ _ h => h) (Or.inl ⟨by rfl, fun w => by go_simp⟩) ?_
    go_simp
    refine wpAny_take (i := 3) (v := .slice A a c) rfl (by kernel_rfl) (by kernel_rfl) (by kernel_rfl) (fun _ _ _ h => h) (Or.inl ⟨by rfl, fun w => by go_simp⟩) ?_
    go_simp
    refine wpAny_take (i := 5) (v := .slice (some ⟨w2.heap.size, 0, none⟩) 16 16) rfl (by kernel_rfl) (by kernel_rfl) (by kernel_rfl) (fun _ _ _ h => h) (Or.inl ⟨by rfl, fun w => by go_simp⟩) ?_
    go_simp
    refine wpAny_take (i := 7) (v := .slice A n c) rfl (by kernel_rfl) (by kernel_rfl) (by kernel_rfl) (fun _ _ _ h => h) (Or.inl ⟨by rfl, fun w => by go_simp⟩) ?_
    go_simp
    refine wpAny_take (i := 8) (v := .int .i64 (a : Int)) rfl (by kernel_rfl) (by kernel_rfl) (by kernel_rfl) (fun _ _ _ h => h) (Or.inl ⟨by rfl, fun w => by go_simp⟩) ?_
    go_simp
    refine wpAny_take (i := 9) (v := .slice A2 (n - a) (c - a)) rfl (by kernel_rfl) (by kernel_rfl) (by kernel_rfl) (fun _ _ _ h => h) (Or.inl ⟨by rfl, fun w => by go_simp⟩) ?_
    go_simp
    refine wpAny_ready (rs := [0]) (by kernel_rfl) (by simp) ?_
    refine AllReady.cons rfl (fun K hK => ?_) AllReady.nil
    go_simp
    refine hK _ _ ?_
    clear hK K
    refine wpAny_ready (rs := [4]) (by kernel_rfl) (by simp) ?_
    refine AllReady.cons rfl (fun K hK => ?_) AllReady.nil
    rw [if_pos (by rfl)]
    refine wp_app _ (.tmp 38) (.tmp 41) 29 rfl w.heap.size 5 i0 _ 1 Try.underlying29 hi hz0 hz1 hz2 rfl _ (0) ([]) rfl hown0 _ A (a) (c) ((bs.take a).map bv) rfl (hr1.on hbA) (bv_one _) (by omega) (by omega) (by rw [hsA]; omega) ?_
    intro v4 w4 hown4 hg4 hat4
    obtain ⟨A4, c4, rfl⟩ := own_form hown4
    try go_simp
    refine hK _ _ ?_
    clear hK K
    rw [Nat.zero_add, List.nil_append] at hown4
    have hb4 : Below w.heap.size w w4 := below_gbY hbA hg4 (fun g hg => by have h := Option.some.inj hg; simp at h; omega) (Nat.le_refl _)
    have hK4 : w4.heap[w2.heap.size]? = some (.cells MV 32 (0, 0)) := by
      refine (hg4.block _ (by rw [hsA]; omega) (fun e => ?_)).trans (((below_of_new W3 (.cells #[] 5)).drew.block _ hKlt).trans HG3.out)
      have e2 := Option.some.inj e
      simp at e2
      omega
    have hr2 : RdB w4 w4.heap.size (some ⟨w2.heap.size, 0, none⟩) 16 16 (mk kd q) := rd_block (bs := mk kd q) (by rw [HMV.out] at hK4; exact hK4) hMl (by omega)
    have hs4 := hb4.size
    refine wpAny_ready (rs := [6]) (by kernel_rfl) (by simp) ?_
    refine AllReady.cons rfl (fun K hK => ?_) AllReady.nil
    rw [if_pos (by rfl)]
    refine wp_app _ (.tmp 42) (.tmp 43) 29 rfl w.heap.size 5 i0 _ 1 Try.underlying29 hi hz0 hz1 hz2 rfl _ (a) ((bs.take a).map bv) rfl hown4 _ (some ⟨w2.heap.size, 0, none⟩) (16) (16) ((mk kd q).map bv) rfl hr2 (bv_one _) (by omega) (by omega) hs4 ?_
    intro v5 w5 hown5 hg5 hat5
    obtain ⟨A5, c5, rfl⟩ := own_form hown5
    try go_simp
    refine hK _ _ ?_
    clear hK K
    have hb5 : Below w.heap.size w w5 := below_gbY hb4 hg5 (fun g hg => (hown4.lt g hg).1) (Nat.le_refl _)
    have hs5 := hb5.size
    refine wpAny_ready (rs := [10]) (by kernel_rfl) (by simp) ?_
    refine AllReady.cons rfl (fun K hK => ?_) AllReady.nil
    rw [if_pos (by rfl)]
    refine wp_app _ (.tmp 44) (.tmp 47) 29 rfl w.heap.size 5 i0 _ 1 Try.underlying29 hi hz0 hz1 hz2 rfl _ (a + 16) ((bs.take a).map bv ++ (mk kd q).map bv) rfl hown5 _ A2 (n - a) (c - a) ((bs.drop a).map bv) rfl (hr3.on hb5) (bv_one _) (by omega) (by omega) hs5 ?_
    intro v6 w6 hown6 hg6 hat6
    obtain ⟨A6, c6, rfl⟩ := own_form hown6
    try go_simp
    refine hK _ _ ?_
    clear hK K
    have hb6 : Below w.heap.size w w6 := below_gbY hb5 hg6 (fun g hg => (hown5.lt g hg).1) (Nat.le_refl _)
    refine wpAny_ready (rs := [11]) (by kernel_rfl) (by simp) ?_
    refine AllReady.cons rfl (fun K hK => ?_) AllReady.nil
    go_simp
    refine hK _ _ ?_
    clear hK K
    refine wpAny_done (by kernel_rfl) ?_ _
    obtain ⟨N, hN⟩ : ∃ z, z = a + 16 + (n - a) := ⟨_, rfl⟩
    obtain ⟨all, hall⟩ : ∃ z, z = bs.take a ++ mk kd q ++ bs.drop a := ⟨_, rfl⟩
    have hown : w6.ownsRow w.heap.size 5 1 (.slice A6 N c6) N (all.map bv) := by
      rw [hN, hall, List.map_append, List.map_append]
      exact hown6
    have hNl : N ≤ 216 := by omega
    have hN16 : 16 ≤ N := by omega
    have hal : all.length = N := by rw [hall, List.length_append, List.length_append, hMl, List.length_take, List.length_drop, hN]; omega
    rw [← hN]
    have HOW := Lib.hid hown
    have HB6 := Lib.hid hb6
    have HAL := Lib.hid hal
    clear hcut hfro hbA hr1 hr3 hown0 hsA hMl hown4 hg4 hat4 hb4 hK4 hr2 hown5 hg5 hat5 hb5 hown6 hg6 hat6 hb6 hown hal hall hN hs3 hs4 hs5 HG3 HB3 hKlt
    rcases own_cases HOW.out with ⟨_, _, h0⟩ | ⟨g6, rfl⟩
    · omega
    have hs6 := HB6.out.size
    obtain ⟨iA, hiA, hA0, hA1, hA2⟩ := info_parts infoA16
    have HRD := Lib.hid (show RdB w6 w6.heap.size (some ⟨g6, 0, none⟩) N c6 all from Rd.of_own HOW.out)
    go_wp2_with fail
    go_loopw [11, 12] (fun v i wr => ∃ (k c1 : Nat) (B : Option Addr) (q : Nat), k ≤ N - 15 ∧ i = .int .i64 k ∧ q = (findK all k).length ∧ v = .slice B q c1 ∧ wr.ownsRow w6.heap.size 32 16 (.slice B q c1) q (cellsL (findK all k)) ∧ Below w6.heap.size w6 wr) (fun _ i _ => N - (intOf i).toNat)
    case atStart =>
      refine ⟨0, 0, _, 0, by omega, rfl, rfl, rfl, ⟨rfl, .inr ⟨w6.heap.size, 0, #[], rfl, Nat.le_refl _, heap_alloc_new w6 _, Nat.le_refl _, by unfold maxLen; omega, rfl, rfl⟩⟩, below_of_new w6 _⟩
    case round =>
      obtain ⟨k, c1, B, q, hk, rfl, hqf, rfl, hown, hbw⟩ := hrel
      have HQ := Lib.hid hqf
      have HOWN := Lib.hid hown
      clear hqf hown
      by_cases hlt : k < N - 15
      · have hk16 : k + 16 ≤ N := by omega
        have hd : decide ((k : Int) + 16 ≤ (N : Int)) = true := decide_eq_true (by omega)
        have hp := cut_part (HRD.out.on hbw) hk16
        have hpl := part_len (bs := all) (i := k) (by rw [HAL.out]; exact hk16)
        have hqk := findK_le all k
        rw [← HQ.out] at hqk
        have hnx : findK all (k + 1) = findK all k ++ if mkO (part all k) = true then [part all k] else [] := rfl
        obtain ⟨P, hP⟩ : ∃ p, p = part all k := ⟨_, rfl⟩
        rw [← hP] at hp hpl hnx
        have hc6 : N ≤ c6 := HRD.out.room.1
        have hc63 : c6 ≤ 9223372036854775807 := HRD.out.room.2
        have hck : k < c6 := by omega
        have hkw : (k : Int) + 16 ≤ c6 := by omega
        have HPL := Lib.hid hpl
        have HNX := Lib.hid hnx
        have hpa := plain_any _ _ _ _ P wr hp
        rw [Nat.zero_add] at hpa
        clear hP hp hpl hnx
        cases hm : markOf P with
        | none =>
          obtain ⟨hk0, hn0, ho0⟩ := mark_no hm
          rw [hk0, hn0] at hpa
          have HPA := Lib.hid (show Calls Try.prog 24 #[.slice (some ⟨g6, k, none⟩) 16 (c6 - k)] wr fun e w' => e = .returned (.tuple #[.int .u8 0, .int .i64 0]) ∧ wr = w' from hpa)
          have hnk : findK all (k + 1) = findK all k := by rw [HNX.out, ho0]; simp
          have HNK := Lib.hid hnk
          clear hm hnk hpa hk0 hn0 ho0
          go_wp2_with fail
          refine HPA.out.mono ?_
          rintro e wx ⟨rfl, rfl⟩
          go_wp2
          go_roundw
          case rel => exact ⟨k + 1, c1, B, q, by omega, by go_num, by rw [HNK.out]; exact HQ.out, rfl, by rw [HNK.out]; exact HOWN.out, hbw⟩
          case measure => simp [intOf]; omega
        | some y =>
          obtain ⟨kd2, x2⟩ := y
          obtain ⟨hPm, hki, hx2⟩ := markOf_eq hm
          have hko : mkO P = true := by unfold mkO; rw [hm]; rfl
          have hkk : mkK P = kd2 := by unfold mkK; rw [hm]
          have hkn : mkN P = x2 := by unfold mkN; rw [hm]
          rw [hkk, hkn] at hpa
          have hkd0 : ((kd2.toNat : Int) != 0) = true := by
            have h2 : kd2 ≠ 0 := fun e => by rw [e] at hki; exact absurd hki (by decide)
            simp
            intro e
            exact h2 (UInt8.toNat_inj.1 (by rw [e]; rfl))
          obtain ⟨Z, hZe⟩ : ∃ z : Int, z = (kd2.toNat : Int) := ⟨_, rfl⟩
          rw [← hZe] at hpa hkd0
          have HPA := Lib.hid hpa
          have hnk : findK all (k + 1) = findK all k ++ [P] := by rw [HNX.out, hko]; simp
          have HNK := Lib.hid hnk
          obtain ⟨KV, hKV⟩ : ∃ v, v = kv P := ⟨_, rfl⟩
          have hKs : KV.size = 16 := by rw [hKV, kv_size, HPL.out]
          have hKl : KV.toList = P.map bv := by rw [hKV]; rfl
          have HLM := Lib.hid (show Calls Try.prog 11 #[.int .u8 Z, .int .i64 x2] wr fun e w' => e = .returned (.agg KV) ∧ Below wr.heap.size wr w' from by
            have h := lmark_any kd2 x2 wr (by omega)
            rw [← hPm, ← hKV, ← hZe] at h
            exact h)
          have hfold := fold_key KV hKs
          rw [hKs] at hfold
          have HKS := Lib.hid hKs
          have HKL := Lib.hid hKl
          clear hm hnk hpa hPm hko hkk hkn hKV hKl hZe hki
          go_wp2_with fail
          refine HPA.out.mono ?_
          rintro e wx ⟨rfl, rfl⟩
          go_wp2_with fail
          refine HLM.out.mono ?_
          rintro e w8 ⟨rfl, hb8⟩
          have hbw8 := below_seq hbw hb8
          have hsz8 := hbw8.size
          have HG8 := Lib.hid (heap_alloc_new w8 (.cells KV 32))
          have HOWN8 := Lib.hid ((own_onNs HOWN.out hb8).alloc (.cells KV 32))
          have hq2 : q ≤ 1000000 := by omega
          clear hb8
          go_wp2_with (first
            | (at_builtin; go_loud (refine wpList_append_lies _ rfl (.tmp 68) (.tmp 72) 56 rfl w6.heap.size 32 iA _ 16 16 Try.underlying56 hiA hA0 hA1 hA2 rfl (by omega) (.slice B q c1) q _ (by rfl) HOWN8.out ⟨w8.heap.size, 0, none⟩ 1 1 KV.toList (by rfl) (by rw [Array.length_toList, HKS.out]) (World.news_of_block HG8.out) (by rw [HKL.out]; exact bv_one _) (by omega) (by unfold maxLen; omega) (by omega) (by simp; omega) (w8.heap.size + 1) (by simp) ?_); intro gg cap w9 hown9 hgrow hat hlt9)
            | fail)
          rw [HKL.out] at hown9
          have hown10 : w9.ownsRow w6.heap.size 32 16 (.slice (some ⟨gg, 0, none⟩) (q + 1) cap) (q + 1) (cellsL (findK all (k + 1))) := by
            rw [HNK.out, cellsL_app]
            simpa [cellsL] using hown9
          have hlen : q + 1 = (findK all (k + 1)).length := by rw [HNK.out, List.length_append, ← HQ.out]; rfl
          have HO10 := Lib.hid hown10
          have HLE := Lib.hid hlen
          have hb9 : Below w6.heap.size w6 w9 := ((hbw8.alloc hsz8 _).grown hgrow (by simp; omega) (fun g hg => (HOWN8.out.lt g hg).1))
          clear hown9 hown10 hlen hgrow hat hlt9 hfold hKs
          go_roundw
          case rel => exact ⟨k + 1, cap, some ⟨gg, 0, none⟩, q + 1, by omega, by go_num, HLE.out, rfl, HO10.out, hb9⟩
          case measure => simp [intOf]; omega
      · obtain rfl : k = N - 15 := by omega
        have hd : decide ((((N - 15 : Nat) : Int)) + 16 ≤ (N : Int)) = false := decide_eq_false (by omega)
        obtain ⟨F, hF⟩ : ∃ z, z = findS all := ⟨_, rfl⟩
        have hFk : findK all (N - 15) = F := by rw [hF, findS, HAL.out]
        have hFl := HQ.out
        have hwo := HOWN.out
        rw [hFk] at hFl hwo
        have hF16 : ∀ z ∈ F, z.length = 16 := by rw [← hFk]; exact findK_16 all _
        have hq216 : q ≤ 216 := by have := findK_le all (N - 15); rw [hFk] at this; omega
        have hfa := find_any (some ⟨g6, 0, none⟩) N c6 all wr (HRD.out.on hbw) (by omega)
        rw [← hF, ← hFl] at hfa
        obtain ⟨ZK, hZK⟩ : ∃ z : Array Value, z = #[.int .u8 0, .int .u8 0, .int .u8 0, .int .u8 0, .int .u8 0, .int .u8 0, .int .u8 0, .int .u8 0, .int .u8 0, .int .u8 0, .int .u8 0, .int .u8 0, .int .u8 0, .int .u8 0, .int .u8 0, .int .u8 0] := ⟨_, rfl⟩
        have hz : ∀ w, (zeroValue 36).run Try.prog w = .ok (.agg ZK) w := fun w => by rw [hZK]; kernel_rfl
        have hzl : ZK.size = 16 := by rw [hZK]; rfl
        have HWO := Lib.hid hwo
        have HFL := Lib.hid hFl
        have HFF := Lib.hid hF16
        have HBW := Lib.hid hbw
        clear hF hFk hFl hwo hF16 hbw hZK HQ HOWN
        go_wp2_with fail
        refine hfa.mono ?_
        rintro e w10 ⟨A10, c10, rfl, ho10, hb10⟩
        have HG := Lib.hid ho10
        have HW := Lib.hid (own_onNs HWO.out hb10)
        have HB10 := Lib.hid (below_seq HBW.out hb10)
        have hs10 := HB10.out.size
        clear hfa ho10 hb10
        go_wp2_with fail
        go_loopw [83] (fun i wr => ∃ k : Nat, k ≤ q ∧ i = .int .i64 k ∧ Below w10.heap.size w10 wr) (fun i _ => q - (intOf i).toNat)
        case atStart => exact ⟨0, by omega, rfl, Below.refl _ _⟩
        case round =>
          obtain ⟨k, hk, rfl, hbk⟩ := hrel
          by_cases hlt : k < q
          · have hd : decide ((k : Int) < (q : Int)) = true := decide_eq_true (by omega)
            have hkF : k < F.length := by rw [← HFL.out]; exact hlt
            obtain ⟨P, hP⟩ : ∃ z, z = F[k] := ⟨_, rfl⟩
            have hPl : P.length = 16 := by rw [hP]; exact HFF.out _ (List.getElem_mem hkF)
            obtain ⟨gg, hAg, hrg⟩ := keys_at (own_onNs HG.out hbk) HFF.out hkF
            obtain ⟨gw, hBw, hrw⟩ := keys_at (own_onNs HW.out hbk) HFF.out hkF
            rw [← hP] at hrg hrw
            subst hAg hBw
            obtain ⟨PL, hPL⟩ : ∃ z, z = P.map bv := ⟨_, rfl⟩
            rw [← hPL] at hrg hrw
            have hPn : PL.length = 16 := by rw [hPL, List.length_map, hPl]
            obtain ⟨PV, hPV⟩ : ∃ z, z = PL.toArray := ⟨_, rfl⟩
            have hPs : PV.size = 16 := by rw [hPV]; simpa using hPn
            have HRG := Lib.hid hrg
            have HRW := Lib.hid hrw
            have hI36 : (Try.prog.info? 36).map (·.size) = some PL.length := by rw [hPn]; exact info16K
            have hI36' : (Try.prog.info? 36).map (·.size) = some PV.size := by rw [hPs]; exact info16K
            have hI32 : (Try.prog.info? 32).map (·.size) = some PL.length := by rw [hPn]; exact info16b
            have hP1 : PV.all (·.oneCell') = true := by rw [hPV, hPL]; exact all_oneCell_toArray (bv_one _)
            have heq : ∀ w, (Op.equalIn 10000 36 (.agg PV) (.agg PV)).run Try.prog w = .ok true w := fun w => by rw [hPV, hPL]; exact (eq_keyY _ _ hPl hPl w).trans (by simp)
            have HPV := Lib.hid hPV
            have HZK := Lib.hid (show ZK.size = PV.size by rw [hzl, hPs])
            clear hP hPl hrg hrw hPL hPn hPV hPs
            obtain ⟨W4, hW4⟩ : ∃ z, z = (wr.alloc (.cells ZK 36)).setRow wr.heap.size PV := ⟨_, rfl⟩
            have HGN := Lib.hid (heap_alloc_new wr (.cells ZK 36))
            have hg4 : W4.heap[wr.heap.size]? = some (.cells PV 36 (0, 0)) := by rw [hW4]; exact setRow_heap _ wr.heap.size _ PV _ _ (heap_alloc_new wr _)
            have hb4 : Below wr.heap.size wr W4 := by rw [hW4]; exact below_setRow (below_of_new wr _) (Nat.le_refl _) _
            have hgw : gw < wr.heap.size := by
              have h := (HW.out.lt gw rfl).2
              have := hbk.size
              omega
            have hr1 : W4.rangeAt wr.heap.size 0 PL := row_heap hg4 HPV.out
            have hr2 : W4.rangeAt gw (k * 16) PL := fun j v hj => (hb4.cell (p := ⟨gw, k * 16 + j, none⟩) hgw).trans (HRW.out j v hj)
            have HR12 := Lib.hid (And.intro hr1 hr2)
            have HB4 := Lib.hid (below_seq hbk hb4)
            clear hg4 hb4 hr1 hr2
            go_wp2_with (first
              | (refine wpList_load_mid_g (op := ⟨some 87, _, _, _, _, _⟩) (by rfl) _ (.tmp 86) rfl gg (k * 16) rfl PL _ HRG.out Try.underlying36 rfl hI36 PV HPV.out ?_)
              | (refine wpList_store_row (o := ⟨none, _, _, _, _, _⟩) rfl 36 (.tmp 17) (.tmp 87) rfl wr.heap.size PV rfl rfl 36 _ HGN.out hI36' HZK.out hP1 ?_; apply Hid.out)
              | fail)
            refine Lib.hid ?_
            rw [← hW4]
            clear hW4 HGN HRG HRW HZK hP1 hI36'
            go_wp2_with fail
            refine wp_region_held_drew (S := fun W => W.rangeAt wr.heap.size 0 PL ∧ W.rangeAt gw (k * 16) PL) (by kernel_rfl) HR12.out (fun hHeld => ?_)
            refine wpAnyH_take (i := 0) (v := .agg PV) rfl (by kernel_rfl) (by kernel_rfl) (by kernel_rfl) (fun _ _ _ h => h) (by rw [HPV.out]; exact yieldsIf_load_mid (by rfl) _ (.tmp 17) rfl wr.heap.size 0 rfl PL _ (fun _ h => h.1) Try.underlying36 rfl hI36) (by assumption) ?_
            go_simp
            refine wpAnyH_take (i := 1) (v := .slice (some ⟨gw, 0, none⟩) q c1) rfl (by kernel_rfl) (by kernel_rfl) (by kernel_rfl) (fun _ _ _ h => h) (Or.inl ⟨by rfl, fun w _ => by go_simp⟩) (by assumption) ?_
            go_simp
            refine wpAnyH_take (i := 2) (v := .int .i64 (k : Int)) rfl (by kernel_rfl) (by kernel_rfl) (by kernel_rfl) (fun _ _ _ h => h) (Or.inl ⟨by rfl, fun w _ => by go_simp⟩) (by assumption) ?_
            go_simp
            refine wpAnyH_take (i := 3) (v := .pointer (some ⟨gw, k * 16, none⟩)) rfl (by kernel_rfl) (by kernel_rfl) (by kernel_rfl) (fun _ _ _ h => h) (Or.inl ⟨by rfl, fun w _ => by go_simp⟩) (by assumption) ?_
            go_simp
            refine wpAnyH_take (i := 4) (v := .agg PV) rfl (by kernel_rfl) (by kernel_rfl) (by kernel_rfl) (fun _ _ _ h => h) (by rw [HPV.out]; exact yieldsIf_load_mid (by rfl) _ (.tmp 91) rfl gw (k * 16) rfl PL _ (fun _ h => h.2) Try.underlying32 rfl hI32) (by assumption) ?_
            go_simp
            refine wpAnyH_take (i := 5) (v := .bool false) rfl (by kernel_rfl) (by kernel_rfl) (by kernel_rfl) (fun _ _ _ h => h) (Or.inl ⟨by rfl, fun w _ => by go_simp⟩) (by assumption) ?_
            go_simp
            refine wpAnyH_done (by kernel_rfl) ?_ _
            have HB5 := Lib.hid (HB4.out.drew)
            go_wp2
            go_roundw
            case rel => exact ⟨k + 1, by omega, by go_num, HB5.out⟩
            case measure => simp [intOf]; omega
          · have hd : decide ((k : Int) < (q : Int)) = false := decide_eq_false (by omega)
            have hbe : Below w.heap.size w wr := HB6.out.trans ((HB10.out.trans (hbk.mono (by omega))).mono (by omega))
            have hxe := HX.out.on hbe
            have hma := mark_any A n c _ bs wr hxe
            have hpa := plain_any A n c _ bs wr hxe
            have HBE := Lib.hid hbe
            have hz0 : ((((mkK bs).toNat : Int)) != 0) = mkO bs := by
              cases hm : markOf bs with
              | none =>
                obtain ⟨hk0, hn0, ho0⟩ := mark_no hm
                rw [hk0, ho0]
                rfl
              | some y =>
                obtain ⟨kd2, x2⟩ := y
                obtain ⟨_, hki, _⟩ := markOf_eq hm
                have hko : mkO bs = true := by unfold mkO; rw [hm]; rfl
                have hkk : mkK bs = kd2 := by unfold mkK; rw [hm]
                rw [hkk, hko]
                have h2 : kd2 ≠ 0 := fun e => by rw [e] at hki; exact absurd hki (by decide)
                simp
                intro e
                exact h2 (UInt8.toNat_inj.1 (by rw [e]; rfl))
            obtain ⟨Z, hZ⟩ : ∃ z : Int, z = ((mkK bs).toNat : Int) := ⟨_, rfl⟩
            obtain ⟨Y, hY⟩ : ∃ z : Nat, z = mkN bs := ⟨_, rfl⟩
            obtain ⟨V, hV⟩ : ∃ z : Bool, z = mkO bs := ⟨_, rfl⟩
            rw [← hZ, ← hV] at hz0
            rw [← hZ, ← hY, ← hV] at hma
            rw [← hZ, ← hY] at hpa
            clear hZ hY hV hbe hxe
            go_wp2_with fail
            refine hma.mono ?_
            rintro e wx ⟨rfl, rfl⟩
            go_wp2_with fail
            refine hpa.mono ?_
            rintro e wx ⟨rfl, rfl⟩
            have e1 : (V == V) = true := by simp
            go_wp2
            go_ret
            exact ⟨rfl, HBE.out⟩
end Go.Proofs.Ytajkghdjfbgimaa.Sym
