/-
  THE CONTRACTS of der's filled and first.
-/
import Derived.Test.YtfinonfkpmlfeaaDers
import Derived.Test.YtfinonfkpmlfeaaDerw
namespace Go.Proofs.Ytfinonfkpmlfeaa.Der
open Go.RowKit
open Go.Proofs.Ytfinonfkpmlfeaa.Kit
open Go.Proofs.Ytfinonfkpmlfeaa.Oct
set_option linter.unusedVariables false

/-- the value of a first byte and of contents -/
def fl (d h : Nat) (body : List UInt8) : Rs :=
  if h / 64 > 2 ∨ h % 64 > 30 then .err 2
  else if h / 64 = 0 then (if numOk body = true then .ok (.mk 0 (h % 64 : Nat) (num body) [] []) 0 else .err 4)
  else if h / 64 = 1 then .ok (.mk 1 (h % 64 : Nat) 0 body []) 0
  else match rdAll (rd d) body.length body with
    | .err e => .err e
    | .ok l => .ok (.mk 2 (h % 64 : Nat) 0 [] l) 0
theorem rd_fl (d : Nat) (b : List UInt8) : rd (d + 1) b = match rdLen b with
    | .err e => .err e
    | .ok a n => if b.length - a < n then .err 1 else match fl d (b.headD 0).toNat ((b.drop a).take n) with
      | .err e => .err e
      | .ok x _ => .ok x (a + n) := by
  rw [rd]
  cases rdLen b with
  | err e => rfl
  | ok a n =>
    simp only []
    by_cases h1 : b.length - a < n
    · rw [if_pos h1, if_pos h1]
    · rw [if_neg h1, if_neg h1, fl]
      by_cases h2 : (b.headD 0).toNat / 64 > 2 ∨ (b.headD 0).toNat % 64 > 30
      · rw [if_pos h2, if_pos h2]
      · rw [if_neg h2, if_neg h2]
        by_cases h3 : (b.headD 0).toNat / 64 = 0
        · rw [if_pos h3, if_pos h3]
          by_cases h5 : numOk ((b.drop a).take n) = true
          · rw [if_pos h5, if_pos (by rw [numOk, decide_eq_true_iff] at h5; exact h5)]
          · rw [if_neg h5, if_neg (by rw [numOk, decide_eq_true_iff] at h5; exact h5)]
        · rw [if_neg h3, if_neg h3]
          by_cases h4 : (b.headD 0).toNat / 64 = 1
          · rw [if_pos h4, if_pos h4]
          · rw [if_neg h4, if_neg h4]
            cases rdAll (rd d) ((b.drop a).take n).length ((b.drop a).take n) <;> rfl

def zeroV : Value := .agg #[.int .i64 0, .int .i64 0, .int .u64 0, .slice none 0 0, .slice none 0 0]
/-- what all answers -/
def AlPost (d : Nat) (bs : List UInt8) (w : World) (e : Ending) (w' : World) : Prop :=
  Below w.heap.size w w' ∧ match rdAll (rd d) bs.length bs with
    | .err x => 0 < x ∧ e = .returned (.tuple #[.slice none 0 0, .int .i64 x])
    | .ok l => ∃ A n c, e = .returned (.tuple #[.slice A n c, .int .i64 0]) ∧ RdVsS w' (fun b => w.heap.size ≤ b ∧ b < w'.heap.size) l A n c
def AllC (d : Nat) : Prop := ∀ (lists : Nat) (A : Option Addr) (n c : Nat) (bs : List UInt8) (w : World), lists + d = 8 → n ≤ 4096 → RdB w w.heap.size A n c bs →
  Calls Try.prog 50 #[.slice A n c, .int .i64 lists] w (AlPost d bs w)
/-- what filled answers -/
def FiPost (d h : Nat) (body : List UInt8) (w : World) (e : Ending) (w' : World) : Prop :=
  Below w.heap.size w w' ∧ match fl d h body with
    | .err x => 0 < x ∧ e = .returned (.tuple #[zeroV, .int .i64 x])
    | .ok x _ => ∃ A m c A' m' c', e = .returned (.tuple #[.agg #[.int .i64 x.k, .int .i64 x.t, .int .u64 x.n, .slice A m c, .slice A' m' c'], .int .i64 0]) ∧ RdVS w' (fun b => w.heap.size ≤ b ∧ b < w'.heap.size) x A m c A' m' c'
def FillC (d : Nat) : Prop := ∀ (lists : Nat) (h : UInt8) (A : Option Addr) (n c : Nat) (bs : List UInt8) (w : World), lists + 1 + d = 8 → n ≤ 4096 → RdB w w.heap.size A n c bs →
  Calls Try.prog 47 #[.int .u8 h.toNat, .slice A n c, .int .i64 lists] w (FiPost d h.toNat bs w)
theorem FiPost.err {d h : Nat} {bs : List UInt8} {w w' : World} {e : Ending} {x : Nat} (hr : fl d h bs = .err x) (hb : Below w.heap.size w w') (hx : 0 < x) (he : e = .returned (.tuple #[zeroV, .int .i64 x])) : FiPost d h bs w e w' := by
  refine ⟨hb, ?_⟩
  rw [hr]; exact ⟨hx, he⟩
theorem FiPost.ok {d h k : Nat} {bs : List UInt8} {w w' : World} {e : Ending} {x : V} (hr : fl d h bs = .ok x k) (hb : Below w.heap.size w w')
    (he : ∃ A m c A' m' c', e = .returned (.tuple #[.agg #[.int .i64 x.k, .int .i64 x.t, .int .u64 x.n, .slice A m c, .slice A' m' c'], .int .i64 0]) ∧ RdVS w' (fun b => w.heap.size ≤ b ∧ b < w'.heap.size) x A m c A' m' c') : FiPost d h bs w e w' := by
  refine ⟨hb, ?_⟩
  rw [hr]; exact he

theorem RdS.of_own {w : World} {base n c : Nat} {A : Option Addr} {e : TypeId} {bs : List UInt8} (h : w.ownsRow base e 1 (.slice A n c) n (bs.map bv)) : RdS w (fun b => base ≤ b ∧ b < w.heap.size) A n c (bs.map bv) := by
  have h1 := Rd.of_own h
  refine ⟨h1.1, h1.2.1, h1.2.2.1, fun hn => ?_⟩
  obtain ⟨b, o, rfl, hb, hc⟩ := h1.2.2.2 hn
  exact ⟨b, o, rfl, h.lt b rfl, hc⟩
theorem RdS.nil (w : World) (S : Nat → Prop) : RdS w S none 0 0 [] := ⟨rfl, Nat.le_refl _, by omega, fun h => absurd h (by omega)⟩
theorem RdVsS.nil (w : World) (S : Nat → Prop) : RdVsS w S [] none 0 0 := ⟨rfl, Nat.le_refl _, by omega, by omega, fun h => absurd h (by omega)⟩
theorem boxes {w w3 : World} {o1 o2 : Obj} (h : Below ((w.alloc o1).alloc o2).heap.size ((w.alloc o1).alloc o2) w3) : w3.heap[w.heap.size]? = some o1 ∧ w3.heap[w.heap.size + 1]? = some o2 := by
  refine ⟨(h.block _ (by simp; omega)).trans ?_, (h.block _ (by simp)).trans ?_⟩
  · rw [heap_alloc_old _ _ (by simp)]; exact heap_alloc_new w o1
  · have := heap_alloc_new (w.alloc o1) o2
    rw [World.size_alloc] at this
    exact this
theorem cells5 {w : World} {g : Nat} {a b c d e : Value} {t : TypeId} (h : w.heap[g]? = some (.cells #[a, b, c, d, e] t (0, 0))) :
    (w.cell? ⟨g, 0, none⟩ = some a ∧ w.cell? ⟨g, 1, none⟩ = some b ∧ w.cell? ⟨g, 2, none⟩ = some c ∧ w.cell? ⟨g, 3, none⟩ = some d ∧ w.cell? ⟨g, 4, none⟩ = some e) ∧
    (w.frozen? ⟨g, 0, none⟩ = false ∧ w.frozen? ⟨g, 1, none⟩ = false ∧ w.frozen? ⟨g, 2, none⟩ = false ∧ w.frozen? ⟨g, 3, none⟩ = false ∧ w.frozen? ⟨g, 4, none⟩ = false) :=
  ⟨⟨cell_of_row w g 0 _ _ (0, 0) h, cell_of_row w g 1 _ _ (0, 0) h, cell_of_row w g 2 _ _ (0, 0) h, cell_of_row w g 3 _ _ (0, 0) h, cell_of_row w g 4 _ _ (0, 0) h⟩,
   ⟨frozen_of_row w g 0 _ _ h, frozen_of_row w g 1 _ _ h, frozen_of_row w g 2 _ _ h, frozen_of_row w g 3 _ _ h, frozen_of_row w g 4 _ _ h⟩⟩

theorem six {w w3 : World} (hbl : Below w.heap.size w w3) (j : Nat) (u a b c d e : Value) :
    Below w.heap.size w ((((((w3.setCell ⟨w.heap.size + 1, j, none⟩ u).setCell ⟨w.heap.size, 0, none⟩ a).setCell ⟨w.heap.size, 1, none⟩ b).setCell ⟨w.heap.size, 2, none⟩ c).setCell ⟨w.heap.size, 3, none⟩ d).setCell ⟨w.heap.size, 4, none⟩ e) :=
  (((((hbl.setCell (p := ⟨w.heap.size + 1, j, none⟩) (by simp) u).setCell (p := ⟨w.heap.size, 0, none⟩) (by simp) a).setCell (p := ⟨w.heap.size, 1, none⟩) (by simp) b).setCell (p := ⟨w.heap.size, 2, none⟩) (by simp) c).setCell (p := ⟨w.heap.size, 3, none⟩) (by simp) d).setCell (p := ⟨w.heap.size, 4, none⟩) (by simp) e
theorem six_cell {w3 : World} {g : Nat} (j : Nat) (u a b c d e : Value) (p : Addr) (hp : g + 2 ≤ p.block) :
    ((((((w3.setCell ⟨g + 1, j, none⟩ u).setCell ⟨g, 0, none⟩ a).setCell ⟨g, 1, none⟩ b).setCell ⟨g, 2, none⟩ c).setCell ⟨g, 3, none⟩ d).setCell ⟨g, 4, none⟩ e).cell? p = w3.cell? p := by
  refine World.cell?_of_block ?_
  rw [heap_setCell_other _ _ _ _ (by simp; omega), heap_setCell_other _ _ _ _ (by simp; omega), heap_setCell_other _ _ _ _ (by simp; omega), heap_setCell_other _ _ _ _ (by simp; omega), heap_setCell_other _ _ _ _ (by simp; omega), heap_setCell_other _ _ _ _ (by simp; omega)]
theorem six_size {w3 : World} {g : Nat} (j : Nat) (u a b c d e : Value) :
    ((((((w3.setCell ⟨g + 1, j, none⟩ u).setCell ⟨g, 0, none⟩ a).setCell ⟨g, 1, none⟩ b).setCell ⟨g, 2, none⟩ c).setCell ⟨g, 3, none⟩ d).setCell ⟨g, 4, none⟩ e).heap.size = w3.heap.size := by simp [World.setCell]

set_option maxRecDepth 100000 in
set_option maxHeartbeats 1000000 in
theorem fill_of {d : Nat} (hA : AllC d) : FillC d := by
  intro lists h A n c bs w hd hn hbs
  have HA := Lib.hid hA
  have HB := Lib.hid hbs
  have hh := h.toNat_lt
  obtain ⟨T, hT⟩ : ∃ T, T = h.toNat % 64 := ⟨_, rfl⟩
  obtain ⟨K, hK⟩ : ∃ K, K = h.toNat / 64 := ⟨_, rfl⟩
  have hK3 : K ≤ 3 := by omega
  have eT : (h.toNat : Int) % 64 = (T : Int) := by omega
  have eK : (h.toNat : Int) / 64 = (K : Int) := by omega
  have hF : fl d h.toNat bs = if K > 2 ∨ T > 30 then .err 2
    else if K = 0 then (if numOk bs = true then .ok (.mk 0 (T : Nat) (num bs) [] []) 0 else .err 4)
    else if K = 1 then .ok (.mk 1 (T : Nat) 0 bs []) 0
    else match rdAll (rd d) bs.length bs with
      | .err e => .err e
      | .ok l => .ok (.mk 2 (T : Nat) 0 [] l) 0 := by rw [fl, ← hT, ← hK]
  have hbx2 : ∀ (kk : Int), Below w.heap.size w ((w.alloc (.cells #[.int .i64 0, .int .i64 0, .int .u64 0, .slice none 0 0, .slice none 0 0] 26)).alloc (.cells #[.int .i64 kk, .int .i64 T, .int .u64 0, .slice none 0 0, .slice none 0 0] 26)) := fun kk => (below_of_new _ _).alloc (by simp) _
  have HF := Lib.hid hF
  have HX := Lib.hid hbx2
  have HRB := Lib.hid (fun kk => hbs.on (hbx2 kk))
  clear hA hbs hT hK hF hbx2
  by_cases hb : K > 2 ∨ T > 30
  · have HE := Lib.hid (show fl d h.toNat bs = .err 2 by rw [HF.out, if_pos hb])
    by_cases hK2 : K > 2
    · obtain rfl : K = 3 := by omega
      clear hb hK2 hK3 HF
      go_enter Try.func47, Try.ntmps47
      go_wp2
      refine bodyPost_ret (v := .tuple #[zeroV, .int .i64 2]) ?_ rfl (FiPost.err HE.out (HX.out 3) (by omega) rfl)
      simp [results, Try.results47, go_sem, zeroV]
    · have g1 : decide ((2 : Int) < (K : Int)) = false := by simp; omega
      have g2 : decide ((30 : Int) < (T : Int)) = true := by simp; omega
      have p1 : ¬ ((2 : Int) < (K : Int)) := by omega
      have p2 : (30 : Int) < (T : Int) := by omega
      clear hb HF
      go_enter Try.func47, Try.ntmps47
      go_wp2
      refine bodyPost_ret (v := .tuple #[zeroV, .int .i64 2]) ?_ rfl (FiPost.err HE.out (HX.out _) (by omega) rfl)
      simp [results, Try.results47, go_sem, zeroV]
  · have g2 : decide ((30 : Int) < (T : Int)) = false := by simp; omega
    have p2 : ¬ ((30 : Int) < (T : Int)) := by omega
    by_cases hK0 : K = 0
    · subst hK0
      have HE := Lib.hid (show fl d h.toNat bs = if numOk bs = true then .ok (.mk 0 (T : Nat) (num bs) [] []) 0 else .err 4 by rw [HF.out, if_neg hb, if_pos rfl])
      clear hb hK3 HF
      rw [show ((0 : Nat) : Int) = 0 from rfl] at eK
      go_enter Try.func47, Try.ntmps47
      go_wp2_with fail
      refine (number_any _ _ _ _ _ (HRB.out 0)).mono ?_
      rintro e w3 ⟨rfl, hb3⟩
      obtain ⟨hx0, hx1⟩ := boxes hb3
      obtain ⟨⟨r0, r1, r2, r3, r4⟩, ⟨z0, z1, z2, z3, z4⟩⟩ := cells5 hx0
      obtain ⟨⟨d0, d1, d2, d3, d4⟩, ⟨y0, y1, y2, y3, y4⟩⟩ := cells5 hx1
      have hbl := below_seq (HX.out 0) hb3
      clear hx0 hx1 hb3
      cases hok : numOk bs
      · have hv : numV bs = 0 := by rw [numV, hok]; rfl
        have he : numE bs = 4 := by rw [numE, hok]; rfl
        rw [hv, he]
        have HE2 := Lib.hid (show fl d h.toNat bs = .err 4 by rw [HE.out, hok]; rfl)
        clear hok hv he
        go_wp2
        refine bodyPost_ret (v := .tuple #[zeroV, .int .i64 4]) ?_ rfl (FiPost.err HE2.out (six hbl _ _ _ _ _ _ _) (by omega) rfl)
        simp [results, Try.results47, go_sem, zeroV, r0, r1, r2, r3, r4]
      · have hv : numV bs = num bs := by rw [numV, hok]; rfl
        have he : numE bs = 0 := by rw [numE, hok]; rfl
        rw [hv, he]
        have HE2 := Lib.hid (show fl d h.toNat bs = .ok (.mk 0 (T : Nat) (num bs) [] []) 0 by rw [HE.out, hok]; rfl)
        clear hok hv he
        go_wp2
        refine bodyPost_ret (v := .tuple #[.agg #[.int .i64 0, .int .i64 T, .int .u64 (num bs), .slice none 0 0, .slice none 0 0], .int .i64 0]) ?_ rfl (FiPost.ok HE2.out (six hbl _ _ _ _ _ _ _) ⟨none, 0, 0, none, 0, 0, rfl, RdVS.join (RdS.nil _ _) (RdVsS.nil _ _)⟩)
        simp [results, Try.results47, go_sem, r0, r1, r2, r3, r4]
    · by_cases hK1 : K = 1
      · subst hK1
        have HE := Lib.hid (show fl d h.toNat bs = .ok (.mk 1 (T : Nat) 0 bs []) 0 by rw [HF.out, if_neg hb, if_neg (by omega), if_pos rfl])
        have hln := HB.out.len
        clear hb hK3 HF hK0
        rw [show ((1 : Nat) : Int) = 1 from rfl] at eK
        go_enter Try.func47, Try.ntmps47
        go_wp2_with fail
        refine (joined_any _ _ _ _ [⟨A, n, c, bs⟩] _ ?h1 ?h2 (Nat.le_refl _) ?h3).mono ?_
        case h1 => exact rd_cells _ (by simp) rfl rfl (by simp)
        case h2 =>
          intro r hr
          simp only [List.mem_cons, List.not_mem_nil, or_false] at hr
          subst hr
          exact (HRB.out 1).lit _
        case h3 => simp [joinL]; omega
        rintro e w3 ⟨A2, c2, rfl, ho, hb3⟩
        have hj : joinL [⟨A, n, c, bs⟩] = bs := by simp [joinL]
        rw [hj] at ho
        have hb3' := below_seq (below_of_new _ _) hb3
        obtain ⟨hx0, hx1⟩ := boxes hb3'
        obtain ⟨⟨r0, r1, r2, r3, r4⟩, ⟨z0, z1, z2, z3, z4⟩⟩ := cells5 hx0
        obtain ⟨⟨d0, d1, d2, d3, d4⟩, ⟨y0, y1, y2, y3, y4⟩⟩ := cells5 hx1
        have hbl := below_seq (HX.out 1) hb3'
        have hrs := RdS.of_own ho
        rw [hj]
        have HRS := Lib.hid hrs
        clear hx0 hx1 hb3 hb3' hj ho hrs hln
        go_wp2
        refine bodyPost_ret (v := .tuple #[.agg #[.int .i64 1, .int .i64 T, .int .u64 0, .slice A2 bs.length c2, .slice none 0 0], .int .i64 0]) ?_ rfl (FiPost.ok HE.out (six hbl _ _ _ _ _ _ _) ⟨A2, bs.length, c2, none, 0, 0, rfl, RdVS.join (HRS.out.keep (fun p hp => six_cell _ _ _ _ _ _ _ p (by have := hp.1; simp at this; omega)) (fun b hb => ⟨by have := hb.1; simp at this; omega, by rw [six_size]; exact hb.2⟩)) (RdVsS.nil _ _)⟩)
        simp [results, Try.results47, go_sem, r0, r1, r2, r3, r4]
      · obtain rfl : K = 2 := by omega
        clear hK0 hK1
        have hcall := HA.out (lists + 1) A n c bs _ (by omega) hn (HRB.out 2)
        have HCALL := Lib.hid hcall
        have HFF := Lib.hid (show fl d h.toNat bs = match rdAll (rd d) bs.length bs with
          | .err e => .err e
          | .ok l => .ok (.mk 2 (T : Nat) 0 [] l) 0 by rw [HF.out, if_neg hb, if_neg (by omega), if_neg (by omega)])
        have hlw : IntKind.i64.wrap ((lists : Int) + 1) = ((lists + 1 : Nat) : Int) := by
          rw [IntWalk.i64_in _ (by omega)]; omega
        clear hb hK3 HF hcall HA
        rw [show ((2 : Nat) : Int) = 2 from rfl] at eK
        go_enter Try.func47, Try.ntmps47
        go_wp2_with fail
        refine HCALL.out.mono ?_
        rintro e w3 ⟨hb3, hres⟩
        obtain ⟨hx0, hx1⟩ := boxes hb3
        obtain ⟨⟨r0, r1, r2, r3, r4⟩, ⟨z0, z1, z2, z3, z4⟩⟩ := cells5 hx0
        obtain ⟨⟨d0, d1, d2, d3, d4⟩, ⟨y0, y1, y2, y3, y4⟩⟩ := cells5 hx1
        have hbl := below_seq (HX.out 2) hb3
        clear hx0 hx1 hb3 HCALL
        cases hq : rdAll (rd d) bs.length bs with
        | err x =>
          rw [hq] at hres
          obtain ⟨hx, rfl⟩ := hres
          have HE2 := Lib.hid (show fl d h.toNat bs = .err x by rw [HFF.out, hq])
          have g3 : ((x : Int) != 0) = true := by simp; omega
          have hx' : (x : Int) ≠ 0 := by omega
          clear hq
          go_wp2
          refine bodyPost_ret (v := .tuple #[zeroV, .int .i64 x]) ?_ rfl (FiPost.err HE2.out (six hbl _ _ _ _ _ _ _) hx rfl)
          simp [results, Try.results47, go_sem, zeroV, r0, r1, r2, r3, r4]
        | ok l =>
          rw [hq] at hres
          obtain ⟨A2, n2, c2, rfl, hrd⟩ := hres
          have HE2 := Lib.hid (show fl d h.toNat bs = .ok (.mk 2 (T : Nat) 0 [] l) 0 by rw [HFF.out, hq])
          have HRS := Lib.hid hrd
          clear hq hrd
          go_wp2
          refine bodyPost_ret (v := .tuple #[.agg #[.int .i64 2, .int .i64 T, .int .u64 0, .slice none 0 0, .slice A2 n2 c2], .int .i64 0]) ?_ rfl (FiPost.ok HE2.out (six hbl _ _ _ _ _ _ _) ⟨none, 0, 0, A2, n2, c2, rfl, RdVS.join (RdS.nil _ _) (HRS.out.keep (fun p hp => six_cell _ _ _ _ _ _ _ p (by have := hp.1; simp at this; omega)) (fun b hb => ⟨by have := hb.1; simp at this; omega, by rw [six_size]; exact hb.2⟩))⟩)
          simp [results, Try.results47, go_sem, r0, r1, r2, r3, r4]
end Go.Proofs.Ytfinonfkpmlfeaa.Der
