/-
  ShaParts holds: in however many parts bytes are taken in, the digest is theirs; asking for it turns nothing. No condition.
-/
import Derived.Test.YtmebljkljdhdiaaDoorCards
import Derived.Test.YtmebljkljdhdiaaDoorTie
import Derived.Test.YtmebljkljdhdiaaDoorShal
import Derived.Test.YtmebljkljdhdiaaDoorShar
import Derived.Test.YtmebljkljdhdiaaDoorFin
import Derived.Test.YtmebljkljdhdiaaDoorKit3
import Derived.Test.YtmebljkljdhdiaaDoorCuts
import Derived.SevenTiedAt
import Derived.Stop.Joined
namespace Go.Proofs.YtmebljkljdhdiaaDoor.Parts
open Go.ChangeShapes Go.WideShapes Go.ChangeAt Go.RowKit
open Go.Proofs.YtmebljkljdhdiaaDoor.Kit
open Go.Proofs.YtmebljkljdhdiaaDoor.Oct
open Go.Proofs.YtmebljkljdhdiaaDoor.Sha
set_option linter.unusedVariables false

/-- bytes put into a world that only grew -/
theorem rdb_take {w : World} {n c k : Nat} {A : Option Addr} {bs : List UInt8} (h : RdB w w.heap.size A n c bs) (hk : k ≤ n) : RdB w w.heap.size A k c (bs.take k) := by
  have := Rd.front (k := k) h hk
  rw [← List.map_take] at this
  exact this
/-- a row of slices that was laid in a world -/
theorem rd_row {w : World} {g n : Nat} {arr : Array Value} {e : TypeId} {fr : Nat × Nat} (h : w.heap[g]? = some (.cells arr e fr)) (hn : arr.size = n) (hm : n ≤ 9223372036854775807) : Rd w w.heap.size (some ⟨g, 0, none⟩) n n arr.toList := by
  refine ⟨by rw [Array.length_toList, hn], Nat.le_refl _, hm, fun _ => ⟨g, 0, rfl, block_lt_of_heap h, fun j u hu => ?_⟩⟩
  rw [cell_of_row w g (0 + j) _ e fr h, Nat.zero_add]
  simpa using hu
theorem heap2 (w : World) (o1 o2 : Obj) : ((w.alloc o1).alloc o2).heap[w.heap.size]? = some o1 ∧ ((w.alloc o1).alloc o2).heap[w.heap.size + 1]? = some o2 := by
  refine ⟨?_, ?_⟩
  · rw [heap_alloc_old _ _ (by simp)]; exact heap_alloc_new w o1
  · have := heap_alloc_new (w.alloc o1) o2
    rw [World.size_alloc] at this
    exact this
theorem below_drew (w : World) : Below w.heap.size w w.drew := below_of_drew ⟨1, rfl⟩ _

theorem run_front {P : Program} {t : TypeId} (ht : P.underlying t = some (.slice (P.elem t))) (hs : ∀ w, (sizeOf (P.elem t)).run P w = .ok 1 w) (A : Option Addr) (n c k : Nat) (hkc : k ≤ c) (w : World) : (Instr.slice t (.slice A n c) none (some (.int .i64 (k : Int))) none).run P w = .ok (.slice A k c) w := by
  rw [run_slice_h w t A n c ht .i64 (k : Int) (by omega) (by omega), hs]
  have e : A.map (·.add 0) = A := by cases A <;> simp [Addr.add]
  simp [sliced, e]

def minI (x y : Int) : Int := if y < x then y else x
theorem run_min2 {P : Program} {w : World} (ts : Array TypeId) (t : TypeId) (k k' : IntKind) (x y : Int) : (Builtin.min_ ts t #[.int k x, .int k' y]).run P w = .ok (.int k (minI x y)) w := run_min_int2 w ts t k k' x y
attribute [local go_sem high] run_min2
set_option maxRecDepth 100000 in
set_option maxHeartbeats 8000000 in
theorem walk (A : Option Addr) (n c : Nat) (xs : List UInt8) (A' : Option Addr) (n' c' : Nat) (ys : List UInt8) (w : World) (hx : RdB w w.heap.size A n c xs) (hy : RdB w w.heap.size A' n' c' ys) (hR : Roots w) :
    Calls Tryd.prog 4 #[.slice A n c, .slice A' n' c'] w fun e w' => e = .returned (.bool true) ∧ Below w.heap.size w w' := by
  have hrx := hx.room
  have hry := hy.room
  have hlx := Lib.hid hx.len
  have hly := Lib.hid hy.len
  have HX := Lib.hid hx
  have HY := Lib.hid hy
  have HR := Lib.hid hR
  have hgw := hR.lt
  clear hx hy hR
  by_cases hsm : n ≤ 2000 ∧ n' ≤ 40
  · obtain ⟨h1, h2⟩ := hsm
    have t1 : decide ((2000 : Int) < n) = false := by simp; omega
    have t2 : decide ((40 : Int) < n') = false := by simp; omega
    go_enter Tryd.func4, Tryd.ntmps4
    go_wp2_with fail
    refine (alive3_any _ HR.out).mono ?_
    rintro e w1 ⟨rfl, hB1⟩
    go_wp2_with fail
    refine (new_any _).mono ?_
    rintro e w2 ⟨rfl, hs2, hb2, hlt2⟩
    have HS2 := Lib.hid hs2
    have hB2 := below_seq hB1 hb2
    have hG1w := hB1.size
    have hne1 : w1.heap.size ≠ 0 := by omega
    obtain ⟨G, hG⟩ : ∃ G, G = w1.heap.size := ⟨_, rfl⟩
    rw [← hG] at HS2 hne1 hG1w hlt2
    clear hs2 hB1 hb2
    go_wp2_with fail
    rw [← hG]
    clear hG
    go_loopw [6, 23] (fun s6 i wr => ∃ (k a : Nat), k ≤ n' ∧ a ≤ n ∧ s6 = .int .i64 a ∧ i = .int .i64 k ∧ SumAt wr G (xs.take a) ∧ Below w.heap.size w wr) (fun _ i _ => n' - (intOf i).toNat)
    case atStart => exact ⟨0, 0, Nat.zero_le _, Nat.zero_le _, rfl, rfl, HS2.out, hB2⟩
    case round =>
      obtain ⟨k, a, hk, ha, rfl, rfl, hsa, hbw⟩ := hrel
      have HS := Lib.hid hsa
      have HRW := Lib.hid (HR.out.on hbw)
      have hGr := hsa.lt
      clear hsa HS2
      by_cases hlt : k < n'
      · obtain ⟨b, o, rfl⟩ := HY.out.addr (by omega)
        have hcell := hbw.cell (p := ⟨b, o + k, none⟩) (by have := HY.out.2.2.2 (by omega); obtain ⟨b2, o2, e, hb, _⟩ := this; injection e with e; injection e with e1 e2; simp; omega)
        rw [HY.out.cell0 (j := k) (by rw [hly.out]; exact hlt)] at hcell
        obtain ⟨y, hyv⟩ : ∃ y, y = ys[k]'(by rw [hly.out]; exact hlt) := ⟨_, rfl⟩
        rw [← hyv] at hcell
        have hyl := y.toNat_lt
        obtain ⟨q, hq⟩ : ∃ q, q = a + y.toNat := ⟨_, rfl⟩
        have hadd : (a : Int) + (y.toNat : Int) = (q : Int) := by rw [hq]; simp
        have hqb : q ≤ 3000 := by omega
        have haq : a ≤ q := by omega
        clear hq hyv
        obtain ⟨t, htt, hat, htn⟩ : ∃ t, ((¬ ((n : Int) < (q : Int)) ∧ t = q) ∨ (((n : Int) < (q : Int)) ∧ t = n)) ∧ a ≤ t ∧ t ≤ n := by
          rcases Nat.lt_or_ge n q with h | h
          · exact ⟨n, .inr ⟨by omega, rfl⟩, ha, Nat.le_refl _⟩
          · exact ⟨q, .inl ⟨by omega, rfl⟩, haq, h⟩
        have hmn : minI (q : Int) (n : Int) = (t : Int) := by
          unfold minI
          rcases htt with ⟨h, rfl⟩ | ⟨h, rfl⟩
          · rw [if_neg h]
          · rw [if_pos h]
        clear htt
        obtain ⟨A2, hA2⟩ : ∃ q, q = if c = a then A else A.map (·.add a) := ⟨_, rfl⟩
        have und : Tryd.prog.underlying 22 = some (.slice (Tryd.prog.elem 22)) := und22
        have htw : IntKind.i64.wrap (t : Int) = t := by rw [IntKind.wrap_i64]; omega
        have hcut := fun w => run_cut2 (t := 22) und el22 A n c a t hat (by omega) htw w t rfl
        have hfro := fun w => run_front (t := 22) und el22 A n c t (by omega) w
        rw [← hA2] at hcut
        have hrt : RdB w w.heap.size A t c (xs.take t) := rdb_take HX.out htn
        have hrc := Rd.cut (k := a) hrt hat
        rw [← hA2, ← List.map_drop] at hrc
        have HRC := Lib.hid (rds_of hrc (G := G) hG1w (fun b hb => hbw.block b hb) hbw.size)
        have hxt : xs.take a ++ (xs.take t).drop a = xs.take t := by
          rw [show xs.take a = (xs.take t).take a by rw [List.take_take, Nat.min_eq_left hat], List.take_append_drop]
        have HXT := Lib.hid hxt
        have HRT := Lib.hid hrt
        have htl : (xs.take a).length + (t - a) ≤ 1152921504606846976 := by rw [List.length_take]; omega
        clear hrc hrt hxt und htw hA2
        go_wp2_with fail
        refine (write_any G (t - a) (c - a) A2 (xs.take a) ((xs.take t).drop a) wr HS.out HRC.out HRW.out hne1 htl).mono ?_
        rintro e w6 ⟨rfl, hs6, hgb6⟩
        rw [HXT.out] at hs6
        have hB6 : Below w.heap.size w w6 := hbw.trans (below_of_gb hgb6 hG1w hbw.size)
        obtain ⟨x, hxx⟩ : ∃ x, x = xs.take t := ⟨_, rfl⟩
        obtain ⟨D, hD⟩ : ∃ D, D = dig x := ⟨_, rfl⟩
        have HRT := HRT
        rw [← hxx] at hs6 HRT
        have hxl : x.length ≤ 2000 := by rw [hxx, List.length_take]; omega
        obtain ⟨wr, hwr⟩ : ∃ q, q = w6 := ⟨_, rfl⟩
        rw [← hwr] at hs6 hB6 ⊢
        clear hwr HS HRC HRW htl hcut hcell hmn hadd hqb haq hgb6 hbw
        have HS := Lib.hid (fun w' (h : Below wr.heap.size wr w') => hs6.on h)
        have HRR := Lib.hid (fun w' (h : Below wr.heap.size wr w') => HR.out.on (below_seq hB6 h))
        have HROW := Lib.hid (fun w' (h : Below wr.heap.size wr w') => show ∀ r ∈ [Row.mk A t c x], RdB w' w'.heap.size r.A r.n r.c r.bs from fun r hr => by
          simp only [List.mem_cons, List.not_mem_nil, or_false] at hr
          subst hr
          exact HRT.out.on (below_seq hB6 h))
        have HJ := Lib.hid (show joinL [Row.mk A t c x] = x ∧ (joinL [Row.mk A t c x]).length ≤ 576460752303423488 by simp [joinL]; omega)
        have HLEN := Lib.hid (show x.length ≤ 576460752303423488 by omega)
        have HD := Lib.hid hD
        have HSX := Lib.hid (show SumAt wr G (xs.take t) by rw [← hxx]; exact hs6)
        have hbb := below_drew wr
        clear hs6 HRT hxl hD hxx HXT
        go_wp2_with fail
        have p0 := True.intro
        have p1 := True.intro
        have p2 := True.intro
        have p3 := True.intro
        have p4 := True.intro
        have p5 := True.intro
        go_region_law ((first
          | (clear p0; go_simp; go_at_call 16; refine (digest_any G x _ (HS.out _ (by first | assumption | exact below_alloc (by assumption) _ | exact below_alloc (below_alloc (by assumption) _) _)) (HRR.out _ (by first | assumption | exact below_alloc (by assumption) _ | exact below_alloc (below_alloc (by assumption) _) _)) HLEN.out).mono ?_; rintro e wq ⟨Aq, cq, rfl, hn⟩; rw [← HD.out] at hn; have hbb := below_seq (show Below wr.heap.size wr _ from (by first | assumption | exact below_alloc (by assumption) _ | exact below_alloc (below_alloc (by assumption) _) _)) hn.bl; have hd1 := hn.rd; have hnb := hn.bl; clear hn)
          | (clear p1; go_simp; go_at_call 11; refine (of_any _ 1 1 [⟨A, t, c, x⟩] _ (rd_row (by first | exact heap_alloc_new _ _ | exact (heap2 _ _ _).1 | exact (heap2 _ _ _).2 | (refine (hnb.block _ (by first | (simp; done) | (simp; omega))).trans ?_; first | exact heap_alloc_new _ _ | exact (heap2 _ _ _).1 | exact (heap2 _ _ _).2)) rfl (by omega)) (HROW.out _ (by first | assumption | exact below_alloc (by assumption) _ | exact below_alloc (below_alloc (by assumption) _) _)) (HRR.out _ (by first | assumption | exact below_alloc (by assumption) _ | exact below_alloc (below_alloc (by assumption) _) _)) HJ.out.2).mono ?_; rintro e wq ⟨Aq, cq, rfl, hn⟩; rw [HJ.out.1, ← HD.out] at hn; have hbb := below_seq (show Below wr.heap.size wr _ from (by first | assumption | exact below_alloc (by assumption) _ | exact below_alloc (below_alloc (by assumption) _) _)) hn.bl; have hd2 := hn.rd; replace hd1 := (hd1.on (by first | exact Below.refl _ _ | exact below_of_new _ _ | exact below_seq (below_of_new _ _) (below_of_new _ _))).on hn.bl; have hnb := hn.bl; clear hn)
          | (clear p2; go_simp; go_at_call 10; refine (rsame_new _ _ _ _ _ _ D D _ (hd1.on (by first | exact Below.refl _ _ | exact below_of_new _ _ | exact below_seq (below_of_new _ _) (below_of_new _ _))) (hd2.on (by first | exact Below.refl _ _ | exact below_of_new _ _ | exact below_seq (below_of_new _ _) (below_of_new _ _)))).mono ?_; rintro e wq ⟨rfl, hsb⟩; rw [show decide (D = D) = true from by simp]; have hbb := below_seq (show Below wr.heap.size wr _ from (by first | assumption | exact below_alloc (by assumption) _ | exact below_alloc (below_alloc (by assumption) _) _)) hsb)
          | (clear p3; go_simp; go_at_call 16; refine (digest_any G x _ (HS.out _ (by first | assumption | exact below_alloc (by assumption) _ | exact below_alloc (below_alloc (by assumption) _) _)) (HRR.out _ (by first | assumption | exact below_alloc (by assumption) _ | exact below_alloc (below_alloc (by assumption) _) _)) HLEN.out).mono ?_; rintro e wq ⟨Aq, cq, rfl, hn⟩; rw [← HD.out] at hn; have hbb := below_seq (show Below wr.heap.size wr _ from (by first | assumption | exact below_alloc (by assumption) _ | exact below_alloc (below_alloc (by assumption) _) _)) hn.bl; have hd3 := hn.rd; have hnb := hn.bl; clear hn)
          | (clear p4; go_simp; go_at_call 16; refine (digest_any G x _ (HS.out _ (by first | assumption | exact below_alloc (by assumption) _ | exact below_alloc (below_alloc (by assumption) _) _)) (HRR.out _ (by first | assumption | exact below_alloc (by assumption) _ | exact below_alloc (below_alloc (by assumption) _) _)) HLEN.out).mono ?_; rintro e wq ⟨Aq, cq, rfl, hn⟩; rw [← HD.out] at hn; have hbb := below_seq (show Below wr.heap.size wr _ from (by first | assumption | exact below_alloc (by assumption) _ | exact below_alloc (below_alloc (by assumption) _) _)) hn.bl; have hd4 := hn.rd; replace hd3 := (hd3.on (by first | exact Below.refl _ _ | exact below_of_new _ _ | exact below_seq (below_of_new _ _) (below_of_new _ _))).on hn.bl; have hnb := hn.bl; clear hn)
          | (clear p5; go_simp; go_at_call 10; refine (rsame_new _ _ _ _ _ _ D D _ (hd3.on (by first | exact Below.refl _ _ | exact below_of_new _ _ | exact below_seq (below_of_new _ _) (below_of_new _ _))) (hd4.on (by first | exact Below.refl _ _ | exact below_of_new _ _ | exact below_seq (below_of_new _ _) (below_of_new _ _)))).mono ?_; rintro e wq ⟨rfl, hsb⟩; rw [show decide (D = D) = true from by simp]; have hbb := below_seq (show Below wr.heap.size wr _ from (by first | assumption | exact below_alloc (by assumption) _ | exact below_alloc (below_alloc (by assumption) _) _)) hsb)))
        all_goals
          have hsN := HSX.out.on hbb
          have hbN := below_seq hB6 hbb
          clear HS HRR HROW HJ HLEN HD HSX hd1 hd2 hd3 hd4 hnb
          go_wp2
          go_roundw
          case rel => exact ⟨k + 1, t, by omega, htn, rfl, by go_num, hsN, hbN⟩
          case measure => simp [intOf]; omega
      · obtain rfl : k = n' := by omega
        clear hk hlt
        obtain ⟨A2, hA2⟩ : ∃ q, q = if c = a then A else A.map (·.add a) := ⟨_, rfl⟩
        have und : Tryd.prog.underlying 22 = some (.slice (Tryd.prog.elem 22)) := und22
        have hcut := fun w => run_cut (t := 22) und el22 A n c a ha (by omega) w
        have hfro := fun w => run_front (t := 22) und el22 A n c a (by omega) w
        rw [← hA2] at hcut
        have hA2' := hA2
        have hrc := Rd.cut (k := a) HX.out ha
        rw [← hA2, ← List.map_drop] at hrc
        have HRC := Lib.hid (rds_of hrc (G := G) hG1w (fun b hb => hbw.block b hb) hbw.size)
        have HC2 := Lib.hid (show RdB w w.heap.size A2 (n - a) (c - a) (xs.drop a) from hrc)
        have HF2 := Lib.hid (rdb_take HX.out ha)
        have HXT := Lib.hid (List.take_append_drop a xs)
        have htl : (xs.take a).length + (n - a) ≤ 1152921504606846976 := by rw [List.length_take]; omega
        have HA2 := Lib.hid hA2'
        clear hrc und hA2 hA2'
        go_wp2_with fail
        refine (write_any G (n - a) (c - a) A2 (xs.take a) (xs.drop a) wr HS.out HRC.out HRW.out hne1 htl).mono ?_
        rintro e w6 ⟨rfl, hs6, hgb6⟩
        rw [HXT.out] at hs6
        have hB6 : Below w.heap.size w w6 := hbw.trans (below_of_gb hgb6 hG1w hbw.size)
        obtain ⟨D, hD⟩ : ∃ D, D = dig xs := ⟨_, rfl⟩
        have hxl : xs.length ≤ 2000 := by rw [hlx.out]; exact h1
        obtain ⟨wr, hwr⟩ : ∃ q, q = w6 := ⟨_, rfl⟩
        rw [← hwr] at hs6 hB6 ⊢
        clear hwr HS HRC HRW htl hgb6 hbw hcut
        have hcut := fun w => run_cut (t := 22) und22 el22 A n c a ha (by omega) w
        rw [← HA2.out] at hcut
        have HS := Lib.hid (fun w' (h : Below wr.heap.size wr w') => hs6.on h)
        have HRR := Lib.hid (fun w' (h : Below wr.heap.size wr w') => HR.out.on (below_seq hB6 h))
        have HROW := Lib.hid (fun w' (h : Below wr.heap.size wr w') => show ∀ r ∈ [Row.mk A n c xs], RdB w' w'.heap.size r.A r.n r.c r.bs from fun r hr => by
          simp only [List.mem_cons, List.not_mem_nil, or_false] at hr
          subst hr
          exact HX.out.on (below_seq hB6 h))
        have HROW3 := Lib.hid (fun w' (h : Below wr.heap.size wr w') => show ∀ r ∈ [Row.mk A a c (xs.take a), Row.mk none 0 0 [], Row.mk A2 (n - a) (c - a) (xs.drop a)], RdB w' w'.heap.size r.A r.n r.c r.bs from fun r hr => by
          simp only [List.mem_cons, List.not_mem_nil, or_false] at hr
          rcases hr with rfl | rfl | rfl
          · exact HF2.out.on (below_seq hB6 h)
          · exact Rd.nil _ _
          · exact HC2.out.on (below_seq hB6 h))
        have HJ := Lib.hid (show joinL [Row.mk A n c xs] = xs ∧ (joinL [Row.mk A n c xs]).length ≤ 576460752303423488 by simp [joinL]; omega)
        have HJ3 := Lib.hid (show joinL [Row.mk A a c (xs.take a), Row.mk none 0 0 [], Row.mk A2 (n - a) (c - a) (xs.drop a)] = xs ∧ (joinL [Row.mk A a c (xs.take a), Row.mk none 0 0 [], Row.mk A2 (n - a) (c - a) (xs.drop a)]).length ≤ 576460752303423488 by rw [joinL_three]; simp; omega)
        have HLEN := Lib.hid (show xs.length ≤ 576460752303423488 by omega)
        have HD := Lib.hid hD
        have hbb := below_drew wr
        clear hs6 hxl hD HXT HC2 HF2 HA2
        go_wp2_with fail
        refine wp_region_any (by kernel_rfl) ?_
        change wpAny _ _ _ _ _ _ _ (World.drew _)
        refine wpAny_take (i := 0) (v := .pointer (some ⟨G, 0, none⟩)) rfl (by kernel_rfl) (by kernel_rfl) (by kernel_rfl) (fun _ _ _ h => h) (Or.inl ⟨by rfl, fun w => by go_simp⟩) ?_
        go_simp
        refine wpAny_take (i := 2) (v := .slice A n c) rfl (by kernel_rfl) (by kernel_rfl) (by kernel_rfl) (fun _ _ _ h => h) (Or.inl ⟨by rfl, fun w => by go_simp⟩) ?_
        go_simp
        refine wpAny_ready (rs := [1, 3]) (by kernel_rfl) (by simp) ?_
        refine AllReady.cons rfl (fun K hK => ?_) (AllReady.cons rfl (fun K hK => ?_) AllReady.nil)
        · (go_simp; go_at_call 16; refine (digest_any G xs _ (HS.out _ (by first | assumption | exact below_alloc (by assumption) _ | exact below_alloc (below_alloc (by assumption) _) _)) (HRR.out _ (by first | assumption | exact below_alloc (by assumption) _ | exact below_alloc (below_alloc (by assumption) _) _)) HLEN.out).mono ?_; rintro e wq ⟨Aq, cq, rfl, hn⟩; rw [← HD.out] at hn; have hbb := below_seq (show Below wr.heap.size wr _ from (by first | assumption | exact below_alloc (by assumption) _ | exact below_alloc (below_alloc (by assumption) _) _)) hn.bl; have hd1 := hn.rd; have hnb := hn.bl; clear hn)
          try go_simp
          refine hK _ _ ?_
          clear hK K
          refine wpAny_ready (rs := [3]) (by kernel_rfl) (by simp) ?_
          refine AllReady.cons rfl (fun K hK => ?_) AllReady.nil
          go_simp
          refine hK _ _ ?_
          clear hK K
          refine wpAny_ready (rs := [4]) (by kernel_rfl) (by simp) ?_
          refine AllReady.cons rfl (fun K hK => ?_) AllReady.nil
          (go_simp; go_at_call 11; refine (of_any _ 1 1 [⟨A, n, c, xs⟩] _ (rd_row (by first | exact heap_alloc_new _ _ | exact (heap2 _ _ _).1 | exact (heap2 _ _ _).2 | (refine (hnb.block _ (by first | (simp; done) | (simp; omega))).trans ?_; first | exact heap_alloc_new _ _ | exact (heap2 _ _ _).1 | exact (heap2 _ _ _).2)) rfl (by omega)) (HROW.out _ (by first | assumption | exact below_alloc (by assumption) _ | exact below_alloc (below_alloc (by assumption) _) _)) (HRR.out _ (by first | assumption | exact below_alloc (by assumption) _ | exact below_alloc (below_alloc (by assumption) _) _)) HJ.out.2).mono ?_; rintro e wq ⟨Aq, cq, rfl, hn⟩; rw [HJ.out.1, ← HD.out] at hn; have hbb := below_seq (show Below wr.heap.size wr _ from (by first | assumption | exact below_alloc (by assumption) _ | exact below_alloc (below_alloc (by assumption) _) _)) hn.bl; have hd2 := hn.rd; replace hd1 := (hd1.on (by first | exact Below.refl _ _ | exact below_of_new _ _ | exact below_seq (below_of_new _ _) (below_of_new _ _))).on hn.bl; have hnb := hn.bl; clear hn)
          try go_simp
          refine hK _ _ ?_
          clear hK K
          refine wpAny_ready (rs := [5]) (by kernel_rfl) (by simp) ?_
          refine AllReady.cons rfl (fun K hK => ?_) AllReady.nil
          (go_simp; go_at_call 10; refine (rsame_new _ _ _ _ _ _ D D _ (hd1.on (by first | exact Below.refl _ _ | exact below_of_new _ _ | exact below_seq (below_of_new _ _) (below_of_new _ _))) (hd2.on (by first | exact Below.refl _ _ | exact below_of_new _ _ | exact below_seq (below_of_new _ _) (below_of_new _ _)))).mono ?_; rintro e wq ⟨rfl, hsb⟩; rw [show decide (D = D) = true from by simp]; have hbb := below_seq (show Below wr.heap.size wr _ from (by first | assumption | exact below_alloc (by assumption) _ | exact below_alloc (below_alloc (by assumption) _) _)) hsb)
          try go_simp
          refine hK _ _ ?_
          clear hK K
          refine wpAny_take (i := 6) (v := .bool true) rfl (by kernel_rfl) (by kernel_rfl) (by kernel_rfl) (fun _ _ _ h => h) (Or.inl ⟨by rfl, fun w => by go_simp⟩) ?_
          go_simp
          refine wpAny_take (i := 7) (v := .slice A n c) rfl (by kernel_rfl) (by kernel_rfl) (by kernel_rfl) (fun _ _ _ h => h) (Or.inl ⟨by rfl, fun w => by go_simp⟩) ?_
          go_simp
          refine wpAny_take (i := 8) (v := .int .i64 (a : Int)) rfl (by kernel_rfl) (by kernel_rfl) (by kernel_rfl) (fun _ _ _ h => h) (Or.inl ⟨by rfl, fun w => by go_simp⟩) ?_
          go_simp
          refine wpAny_take (i := 9) (v := .slice A a c) rfl (by kernel_rfl) (by kernel_rfl) (by kernel_rfl) (fun _ _ _ h => h) (Or.inl ⟨by rfl, fun w => by go_simp⟩) ?_
          go_simp
          refine wpAny_take (i := 10) (v := .slice A n c) rfl (by kernel_rfl) (by kernel_rfl) (by kernel_rfl) (fun _ _ _ h => h) (Or.inl ⟨by rfl, fun w => by go_simp⟩) ?_
          go_simp
          refine wpAny_take (i := 11) (v := .int .i64 (a : Int)) rfl (by kernel_rfl) (by kernel_rfl) (by kernel_rfl) (fun _ _ _ h => h) (Or.inl ⟨by rfl, fun w => by go_simp⟩) ?_
          go_simp
          refine wpAny_take (i := 12) (v := .slice A2 (n - a) (c - a)) rfl (by kernel_rfl) (by kernel_rfl) (by kernel_rfl) (fun _ _ _ h => h) (Or.inl ⟨by rfl, fun w => by go_simp⟩) ?_
          go_simp
          refine wpAny_take (i := 15) (v := .slice A n c) rfl (by kernel_rfl) (by kernel_rfl) (by kernel_rfl) (fun _ _ _ h => h) (Or.inl ⟨by rfl, fun w => by go_simp⟩) ?_
          go_simp
          refine wpAny_ready (rs := [13, 16]) (by kernel_rfl) (by simp) ?_
          refine AllReady.cons rfl (fun K hK => ?_) (AllReady.cons rfl (fun K hK => ?_) AllReady.nil)
          · go_simp
            refine hK _ _ ?_
            clear hK K
            refine wpAny_ready (rs := [14, 16]) (by kernel_rfl) (by simp) ?_
            refine AllReady.cons rfl (fun K hK => ?_) (AllReady.cons rfl (fun K hK => ?_) AllReady.nil)
            · (go_simp; go_at_call 11; refine (of_any _ 3 3 [⟨A, a, c, xs.take a⟩, ⟨none, 0, 0, []⟩, ⟨A2, n - a, c - a, xs.drop a⟩] _ (rd_row (by first | exact heap_alloc_new _ _ | exact (heap2 _ _ _).1 | exact (heap2 _ _ _).2 | (refine (hnb.block _ (by first | (simp; done) | (simp; omega))).trans ?_; first | exact heap_alloc_new _ _ | exact (heap2 _ _ _).1 | exact (heap2 _ _ _).2)) rfl (by omega)) (HROW3.out _ (by first | assumption | exact below_alloc (by assumption) _ | exact below_alloc (below_alloc (by assumption) _) _)) (HRR.out _ (by first | assumption | exact below_alloc (by assumption) _ | exact below_alloc (below_alloc (by assumption) _) _)) HJ3.out.2).mono ?_; rintro e wq ⟨Aq, cq, rfl, hn⟩; rw [HJ3.out.1, ← HD.out] at hn; have hbb := below_seq (show Below wr.heap.size wr _ from (by first | assumption | exact below_alloc (by assumption) _ | exact below_alloc (below_alloc (by assumption) _) _)) hn.bl; have hd3 := hn.rd; have hnb := hn.bl; clear hn)
              try go_simp
              refine hK _ _ ?_
              clear hK K
              refine wpAny_ready (rs := [16]) (by kernel_rfl) (by simp) ?_
              refine AllReady.cons rfl (fun K hK => ?_) AllReady.nil
              go_simp
              refine hK _ _ ?_
              clear hK K
              refine wpAny_ready (rs := [17]) (by kernel_rfl) (by simp) ?_
              refine AllReady.cons rfl (fun K hK => ?_) AllReady.nil
              (go_simp; go_at_call 11; refine (of_any _ 1 1 [⟨A, n, c, xs⟩] _ (rd_row (by first | exact heap_alloc_new _ _ | exact (heap2 _ _ _).1 | exact (heap2 _ _ _).2 | (refine (hnb.block _ (by first | (simp; done) | (simp; omega))).trans ?_; first | exact heap_alloc_new _ _ | exact (heap2 _ _ _).1 | exact (heap2 _ _ _).2)) rfl (by omega)) (HROW.out _ (by first | assumption | exact below_alloc (by assumption) _ | exact below_alloc (below_alloc (by assumption) _) _)) (HRR.out _ (by first | assumption | exact below_alloc (by assumption) _ | exact below_alloc (below_alloc (by assumption) _) _)) HJ.out.2).mono ?_; rintro e wq ⟨Aq, cq, rfl, hn⟩; rw [HJ.out.1, ← HD.out] at hn; have hbb := below_seq (show Below wr.heap.size wr _ from (by first | assumption | exact below_alloc (by assumption) _ | exact below_alloc (below_alloc (by assumption) _) _)) hn.bl; have hd4 := hn.rd; replace hd3 := (hd3.on (by first | exact Below.refl _ _ | exact below_of_new _ _ | exact below_seq (below_of_new _ _) (below_of_new _ _))).on hn.bl; have hnb := hn.bl; clear hn)
              try go_simp
              refine hK _ _ ?_
              clear hK K
              refine wpAny_ready (rs := [18]) (by kernel_rfl) (by simp) ?_
              refine AllReady.cons rfl (fun K hK => ?_) AllReady.nil
              (go_simp; go_at_call 10; refine (rsame_new _ _ _ _ _ _ D D _ (hd3.on (by first | exact Below.refl _ _ | exact below_of_new _ _ | exact below_seq (below_of_new _ _) (below_of_new _ _))) (hd4.on (by first | exact Below.refl _ _ | exact below_of_new _ _ | exact below_seq (below_of_new _ _) (below_of_new _ _)))).mono ?_; rintro e wq ⟨rfl, hsb⟩; rw [show decide (D = D) = true from by simp]; have hbb := below_seq (show Below wr.heap.size wr _ from (by first | assumption | exact below_alloc (by assumption) _ | exact below_alloc (below_alloc (by assumption) _) _)) hsb)
              try go_simp
              refine hK _ _ ?_
              clear hK K
              refine wpAny_take (i := 19) (v := .bool true) rfl (by kernel_rfl) (by kernel_rfl) (by kernel_rfl) (fun _ _ _ h => h) (Or.inl ⟨by rfl, fun w => by go_simp⟩) ?_
              go_simp
              refine wpAny_take (i := 20) (v := .bool true) rfl (by kernel_rfl) (by kernel_rfl) (by kernel_rfl) (fun _ _ _ h => h) (Or.inl ⟨by rfl, fun w => by go_simp⟩) ?_
              go_simp
              refine wpAny_take (i := 21) (v := .pointer (some ⟨G, 0, none⟩)) rfl (by kernel_rfl) (by kernel_rfl) (by kernel_rfl) (fun _ _ _ h => h) (Or.inl ⟨by rfl, fun w => by go_simp⟩) ?_
              go_simp
              refine wpAny_ready (rs := [22]) (by kernel_rfl) (by simp) ?_
              refine AllReady.cons rfl (fun K hK => ?_) AllReady.nil
              (go_simp; go_at_call 16; refine (digest_any G xs _ (HS.out _ (by first | assumption | exact below_alloc (by assumption) _ | exact below_alloc (below_alloc (by assumption) _) _)) (HRR.out _ (by first | assumption | exact below_alloc (by assumption) _ | exact below_alloc (below_alloc (by assumption) _) _)) HLEN.out).mono ?_; rintro e wq ⟨Aq, cq, rfl, hn⟩; rw [← HD.out] at hn; have hbb := below_seq (show Below wr.heap.size wr _ from (by first | assumption | exact below_alloc (by assumption) _ | exact below_alloc (below_alloc (by assumption) _) _)) hn.bl; have hd6 := hn.rd; have hnb := hn.bl; clear hn)
              try go_simp
              refine hK _ _ ?_
              clear hK K
              refine wpAny_take (i := 23) (v := .int .i64 32) rfl (by kernel_rfl) (by kernel_rfl) (by kernel_rfl) (fun _ _ _ h => h) (Or.inl ⟨by rfl, fun w => by go_simp⟩) ?_
              go_simp
              refine wpAny_take (i := 24) (v := .bool true) rfl (by kernel_rfl) (by kernel_rfl) (by kernel_rfl) (fun _ _ _ h => h) (Or.inl ⟨by rfl, fun w => by go_simp⟩) ?_
              go_simp
              refine wpAny_take (i := 25) (v := .bool true) rfl (by kernel_rfl) (by kernel_rfl) (by kernel_rfl) (fun _ _ _ h => h) (Or.inl ⟨by rfl, fun w => by go_simp⟩) ?_
              go_simp
              refine wpAny_take (i := 26) (v := .bool true) rfl (by kernel_rfl) (by kernel_rfl) (by kernel_rfl) (fun _ _ _ h => h) (Or.inl ⟨by rfl, fun w => by go_simp⟩) ?_
              go_simp
              refine wpAny_done (by kernel_rfl) ?_ _
              have hbN := below_seq hB6 hbb
              go_wp2
              go_ret
              exact ⟨rfl, hbN⟩
            · go_simp
              refine hK _ _ ?_
              clear hK K
              refine wpAny_ready (rs := [14]) (by kernel_rfl) (by simp) ?_
              refine AllReady.cons rfl (fun K hK => ?_) AllReady.nil
              (go_simp; go_at_call 11; refine (of_any _ 3 3 [⟨A, a, c, xs.take a⟩, ⟨none, 0, 0, []⟩, ⟨A2, n - a, c - a, xs.drop a⟩] _ (rd_row (by first | exact heap_alloc_new _ _ | exact (heap2 _ _ _).1 | exact (heap2 _ _ _).2 | (refine (hnb.block _ (by first | (simp; done) | (simp; omega))).trans ?_; first | exact heap_alloc_new _ _ | exact (heap2 _ _ _).1 | exact (heap2 _ _ _).2)) rfl (by omega)) (HROW3.out _ (by first | assumption | exact below_alloc (by assumption) _ | exact below_alloc (below_alloc (by assumption) _) _)) (HRR.out _ (by first | assumption | exact below_alloc (by assumption) _ | exact below_alloc (below_alloc (by assumption) _) _)) HJ3.out.2).mono ?_; rintro e wq ⟨Aq, cq, rfl, hn⟩; rw [HJ3.out.1, ← HD.out] at hn; have hbb := below_seq (show Below wr.heap.size wr _ from (by first | assumption | exact below_alloc (by assumption) _ | exact below_alloc (below_alloc (by assumption) _) _)) hn.bl; have hd3 := hn.rd; have hnb := hn.bl; clear hn)
              try go_simp
              refine hK _ _ ?_
              clear hK K
              refine wpAny_ready (rs := [17]) (by kernel_rfl) (by simp) ?_
              refine AllReady.cons rfl (fun K hK => ?_) AllReady.nil
              (go_simp; go_at_call 11; refine (of_any _ 1 1 [⟨A, n, c, xs⟩] _ (rd_row (by first | exact heap_alloc_new _ _ | exact (heap2 _ _ _).1 | exact (heap2 _ _ _).2 | (refine (hnb.block _ (by first | (simp; done) | (simp; omega))).trans ?_; first | exact heap_alloc_new _ _ | exact (heap2 _ _ _).1 | exact (heap2 _ _ _).2)) rfl (by omega)) (HROW.out _ (by first | assumption | exact below_alloc (by assumption) _ | exact below_alloc (below_alloc (by assumption) _) _)) (HRR.out _ (by first | assumption | exact below_alloc (by assumption) _ | exact below_alloc (below_alloc (by assumption) _) _)) HJ.out.2).mono ?_; rintro e wq ⟨Aq, cq, rfl, hn⟩; rw [HJ.out.1, ← HD.out] at hn; have hbb := below_seq (show Below wr.heap.size wr _ from (by first | assumption | exact below_alloc (by assumption) _ | exact below_alloc (below_alloc (by assumption) _) _)) hn.bl; have hd4 := hn.rd; replace hd3 := (hd3.on (by first | exact Below.refl _ _ | exact below_of_new _ _ | exact below_seq (below_of_new _ _) (below_of_new _ _))).on hn.bl; have hnb := hn.bl; clear hn)
              try go_simp
              refine hK _ _ ?_
              clear hK K
              refine wpAny_ready (rs := [18]) (by kernel_rfl) (by simp) ?_
              refine AllReady.cons rfl (fun K hK => ?_) AllReady.nil
              (go_simp; go_at_call 10; refine (rsame_new _ _ _ _ _ _ D D _ (hd3.on (by first | exact Below.refl _ _ | exact below_of_new _ _ | exact below_seq (below_of_new _ _) (below_of_new _ _))) (hd4.on (by first | exact Below.refl _ _ | exact below_of_new _ _ | exact below_seq (below_of_new _ _) (below_of_new _ _)))).mono ?_; rintro e wq ⟨rfl, hsb⟩; rw [show decide (D = D) = true from by simp]; have hbb := below_seq (show Below wr.heap.size wr _ from (by first | assumption | exact below_alloc (by assumption) _ | exact below_alloc (below_alloc (by assumption) _) _)) hsb)
              try go_simp
              refine hK _ _ ?_
              clear hK K
              refine wpAny_take (i := 19) (v := .bool true) rfl (by kernel_rfl) (by kernel_rfl) (by kernel_rfl) (fun _ _ _ h => h) (Or.inl ⟨by rfl, fun w => by go_simp⟩) ?_
              go_simp
              refine wpAny_take (i := 20) (v := .bool true) rfl (by kernel_rfl) (by kernel_rfl) (by kernel_rfl) (fun _ _ _ h => h) (Or.inl ⟨by rfl, fun w => by go_simp⟩) ?_
              go_simp
              refine wpAny_take (i := 21) (v := .pointer (some ⟨G, 0, none⟩)) rfl (by kernel_rfl) (by kernel_rfl) (by kernel_rfl) (fun _ _ _ h => h) (Or.inl ⟨by rfl, fun w => by go_simp⟩) ?_
              go_simp
              refine wpAny_ready (rs := [22]) (by kernel_rfl) (by simp) ?_
              refine AllReady.cons rfl (fun K hK => ?_) AllReady.nil
              (go_simp; go_at_call 16; refine (digest_any G xs _ (HS.out _ (by first | assumption | exact below_alloc (by assumption) _ | exact below_alloc (below_alloc (by assumption) _) _)) (HRR.out _ (by first | assumption | exact below_alloc (by assumption) _ | exact below_alloc (below_alloc (by assumption) _) _)) HLEN.out).mono ?_; rintro e wq ⟨Aq, cq, rfl, hn⟩; rw [← HD.out] at hn; have hbb := below_seq (show Below wr.heap.size wr _ from (by first | assumption | exact below_alloc (by assumption) _ | exact below_alloc (below_alloc (by assumption) _) _)) hn.bl; have hd6 := hn.rd; have hnb := hn.bl; clear hn)
              try go_simp
              refine hK _ _ ?_
              clear hK K
              refine wpAny_take (i := 23) (v := .int .i64 32) rfl (by kernel_rfl) (by kernel_rfl) (by kernel_rfl) (fun _ _ _ h => h) (Or.inl ⟨by rfl, fun w => by go_simp⟩) ?_
              go_simp
              refine wpAny_take (i := 24) (v := .bool true) rfl (by kernel_rfl) (by kernel_rfl) (by kernel_rfl) (fun _ _ _ h => h) (Or.inl ⟨by rfl, fun w => by go_simp⟩) ?_
              go_simp
              refine wpAny_take (i := 25) (v := .bool true) rfl (by kernel_rfl) (by kernel_rfl) (by kernel_rfl) (fun _ _ _ h => h) (Or.inl ⟨by rfl, fun w => by go_simp⟩) ?_
              go_simp
              refine wpAny_take (i := 26) (v := .bool true) rfl (by kernel_rfl) (by kernel_rfl) (by kernel_rfl) (fun _ _ _ h => h) (Or.inl ⟨by rfl, fun w => by go_simp⟩) ?_
              go_simp
              refine wpAny_done (by kernel_rfl) ?_ _
              have hbN := below_seq hB6 hbb
              go_wp2
              go_ret
              exact ⟨rfl, hbN⟩
          · go_simp
            refine hK _ _ ?_
            clear hK K
            refine wpAny_ready (rs := [13]) (by kernel_rfl) (by simp) ?_
            refine AllReady.cons rfl (fun K hK => ?_) AllReady.nil
            go_simp
            refine hK _ _ ?_
            clear hK K
            refine wpAny_ready (rs := [14]) (by kernel_rfl) (by simp) ?_
            refine AllReady.cons rfl (fun K hK => ?_) AllReady.nil
            (go_simp; go_at_call 11; refine (of_any _ 3 3 [⟨A, a, c, xs.take a⟩, ⟨none, 0, 0, []⟩, ⟨A2, n - a, c - a, xs.drop a⟩] _ (rd_row (by first | exact heap_alloc_new _ _ | exact (heap2 _ _ _).1 | exact (heap2 _ _ _).2 | (refine (hnb.block _ (by first | (simp; done) | (simp; omega))).trans ?_; first | exact heap_alloc_new _ _ | exact (heap2 _ _ _).1 | exact (heap2 _ _ _).2)) rfl (by omega)) (HROW3.out _ (by first | assumption | exact below_alloc (by assumption) _ | exact below_alloc (below_alloc (by assumption) _) _)) (HRR.out _ (by first | assumption | exact below_alloc (by assumption) _ | exact below_alloc (below_alloc (by assumption) _) _)) HJ3.out.2).mono ?_; rintro e wq ⟨Aq, cq, rfl, hn⟩; rw [HJ3.out.1, ← HD.out] at hn; have hbb := below_seq (show Below wr.heap.size wr _ from (by first | assumption | exact below_alloc (by assumption) _ | exact below_alloc (below_alloc (by assumption) _) _)) hn.bl; have hd3 := hn.rd; have hnb := hn.bl; clear hn)
            try go_simp
            refine hK _ _ ?_
            clear hK K
            refine wpAny_ready (rs := [17]) (by kernel_rfl) (by simp) ?_
            refine AllReady.cons rfl (fun K hK => ?_) AllReady.nil
            (go_simp; go_at_call 11; refine (of_any _ 1 1 [⟨A, n, c, xs⟩] _ (rd_row (by first | exact heap_alloc_new _ _ | exact (heap2 _ _ _).1 | exact (heap2 _ _ _).2 | (refine (hnb.block _ (by first | (simp; done) | (simp; omega))).trans ?_; first | exact heap_alloc_new _ _ | exact (heap2 _ _ _).1 | exact (heap2 _ _ _).2)) rfl (by omega)) (HROW.out _ (by first | assumption | exact below_alloc (by assumption) _ | exact below_alloc (below_alloc (by assumption) _) _)) (HRR.out _ (by first | assumption | exact below_alloc (by assumption) _ | exact below_alloc (below_alloc (by assumption) _) _)) HJ.out.2).mono ?_; rintro e wq ⟨Aq, cq, rfl, hn⟩; rw [HJ.out.1, ← HD.out] at hn; have hbb := below_seq (show Below wr.heap.size wr _ from (by first | assumption | exact below_alloc (by assumption) _ | exact below_alloc (below_alloc (by assumption) _) _)) hn.bl; have hd4 := hn.rd; replace hd3 := (hd3.on (by first | exact Below.refl _ _ | exact below_of_new _ _ | exact below_seq (below_of_new _ _) (below_of_new _ _))).on hn.bl; have hnb := hn.bl; clear hn)
            try go_simp
            refine hK _ _ ?_
            clear hK K
            refine wpAny_ready (rs := [18]) (by kernel_rfl) (by simp) ?_
            refine AllReady.cons rfl (fun K hK => ?_) AllReady.nil
            (go_simp; go_at_call 10; refine (rsame_new _ _ _ _ _ _ D D _ (hd3.on (by first | exact Below.refl _ _ | exact below_of_new _ _ | exact below_seq (below_of_new _ _) (below_of_new _ _))) (hd4.on (by first | exact Below.refl _ _ | exact below_of_new _ _ | exact below_seq (below_of_new _ _) (below_of_new _ _)))).mono ?_; rintro e wq ⟨rfl, hsb⟩; rw [show decide (D = D) = true from by simp]; have hbb := below_seq (show Below wr.heap.size wr _ from (by first | assumption | exact below_alloc (by assumption) _ | exact below_alloc (below_alloc (by assumption) _) _)) hsb)
            try go_simp
            refine hK _ _ ?_
            clear hK K
            refine wpAny_take (i := 19) (v := .bool true) rfl (by kernel_rfl) (by kernel_rfl) (by kernel_rfl) (fun _ _ _ h => h) (Or.inl ⟨by rfl, fun w => by go_simp⟩) ?_
            go_simp
            refine wpAny_take (i := 20) (v := .bool true) rfl (by kernel_rfl) (by kernel_rfl) (by kernel_rfl) (fun _ _ _ h => h) (Or.inl ⟨by rfl, fun w => by go_simp⟩) ?_
            go_simp
            refine wpAny_take (i := 21) (v := .pointer (some ⟨G, 0, none⟩)) rfl (by kernel_rfl) (by kernel_rfl) (by kernel_rfl) (fun _ _ _ h => h) (Or.inl ⟨by rfl, fun w => by go_simp⟩) ?_
            go_simp
            refine wpAny_ready (rs := [22]) (by kernel_rfl) (by simp) ?_
            refine AllReady.cons rfl (fun K hK => ?_) AllReady.nil
            (go_simp; go_at_call 16; refine (digest_any G xs _ (HS.out _ (by first | assumption | exact below_alloc (by assumption) _ | exact below_alloc (below_alloc (by assumption) _) _)) (HRR.out _ (by first | assumption | exact below_alloc (by assumption) _ | exact below_alloc (below_alloc (by assumption) _) _)) HLEN.out).mono ?_; rintro e wq ⟨Aq, cq, rfl, hn⟩; rw [← HD.out] at hn; have hbb := below_seq (show Below wr.heap.size wr _ from (by first | assumption | exact below_alloc (by assumption) _ | exact below_alloc (below_alloc (by assumption) _) _)) hn.bl; have hd6 := hn.rd; have hnb := hn.bl; clear hn)
            try go_simp
            refine hK _ _ ?_
            clear hK K
            refine wpAny_take (i := 23) (v := .int .i64 32) rfl (by kernel_rfl) (by kernel_rfl) (by kernel_rfl) (fun _ _ _ h => h) (Or.inl ⟨by rfl, fun w => by go_simp⟩) ?_
            go_simp
            refine wpAny_take (i := 24) (v := .bool true) rfl (by kernel_rfl) (by kernel_rfl) (by kernel_rfl) (fun _ _ _ h => h) (Or.inl ⟨by rfl, fun w => by go_simp⟩) ?_
            go_simp
            refine wpAny_take (i := 25) (v := .bool true) rfl (by kernel_rfl) (by kernel_rfl) (by kernel_rfl) (fun _ _ _ h => h) (Or.inl ⟨by rfl, fun w => by go_simp⟩) ?_
            go_simp
            refine wpAny_take (i := 26) (v := .bool true) rfl (by kernel_rfl) (by kernel_rfl) (by kernel_rfl) (fun _ _ _ h => h) (Or.inl ⟨by rfl, fun w => by go_simp⟩) ?_
            go_simp
            refine wpAny_done (by kernel_rfl) ?_ _
            have hbN := below_seq hB6 hbb
            go_wp2
            go_ret
            exact ⟨rfl, hbN⟩
        · go_simp
          refine hK _ _ ?_
          clear hK K
          refine wpAny_ready (rs := [1]) (by kernel_rfl) (by simp) ?_
          refine AllReady.cons rfl (fun K hK => ?_) AllReady.nil
          (go_simp; go_at_call 16; refine (digest_any G xs _ (HS.out _ (by first | assumption | exact below_alloc (by assumption) _ | exact below_alloc (below_alloc (by assumption) _) _)) (HRR.out _ (by first | assumption | exact below_alloc (by assumption) _ | exact below_alloc (below_alloc (by assumption) _) _)) HLEN.out).mono ?_; rintro e wq ⟨Aq, cq, rfl, hn⟩; rw [← HD.out] at hn; have hbb := below_seq (show Below wr.heap.size wr _ from (by first | assumption | exact below_alloc (by assumption) _ | exact below_alloc (below_alloc (by assumption) _) _)) hn.bl; have hd1 := hn.rd; have hnb := hn.bl; clear hn)
          try go_simp
          refine hK _ _ ?_
          clear hK K
          refine wpAny_ready (rs := [4]) (by kernel_rfl) (by simp) ?_
          refine AllReady.cons rfl (fun K hK => ?_) AllReady.nil
          (go_simp; go_at_call 11; refine (of_any _ 1 1 [⟨A, n, c, xs⟩] _ (rd_row (by first | exact heap_alloc_new _ _ | exact (heap2 _ _ _).1 | exact (heap2 _ _ _).2 | (refine (hnb.block _ (by first | (simp; done) | (simp; omega))).trans ?_; first | exact heap_alloc_new _ _ | exact (heap2 _ _ _).1 | exact (heap2 _ _ _).2)) rfl (by omega)) (HROW.out _ (by first | assumption | exact below_alloc (by assumption) _ | exact below_alloc (below_alloc (by assumption) _) _)) (HRR.out _ (by first | assumption | exact below_alloc (by assumption) _ | exact below_alloc (below_alloc (by assumption) _) _)) HJ.out.2).mono ?_; rintro e wq ⟨Aq, cq, rfl, hn⟩; rw [HJ.out.1, ← HD.out] at hn; have hbb := below_seq (show Below wr.heap.size wr _ from (by first | assumption | exact below_alloc (by assumption) _ | exact below_alloc (below_alloc (by assumption) _) _)) hn.bl; have hd2 := hn.rd; replace hd1 := (hd1.on (by first | exact Below.refl _ _ | exact below_of_new _ _ | exact below_seq (below_of_new _ _) (below_of_new _ _))).on hn.bl; have hnb := hn.bl; clear hn)
          try go_simp
          refine hK _ _ ?_
          clear hK K
          refine wpAny_ready (rs := [5]) (by kernel_rfl) (by simp) ?_
          refine AllReady.cons rfl (fun K hK => ?_) AllReady.nil
          (go_simp; go_at_call 10; refine (rsame_new _ _ _ _ _ _ D D _ (hd1.on (by first | exact Below.refl _ _ | exact below_of_new _ _ | exact below_seq (below_of_new _ _) (below_of_new _ _))) (hd2.on (by first | exact Below.refl _ _ | exact below_of_new _ _ | exact below_seq (below_of_new _ _) (below_of_new _ _)))).mono ?_; rintro e wq ⟨rfl, hsb⟩; rw [show decide (D = D) = true from by simp]; have hbb := below_seq (show Below wr.heap.size wr _ from (by first | assumption | exact below_alloc (by assumption) _ | exact below_alloc (below_alloc (by assumption) _) _)) hsb)
          try go_simp
          refine hK _ _ ?_
          clear hK K
          refine wpAny_take (i := 6) (v := .bool true) rfl (by kernel_rfl) (by kernel_rfl) (by kernel_rfl) (fun _ _ _ h => h) (Or.inl ⟨by rfl, fun w => by go_simp⟩) ?_
          go_simp
          refine wpAny_take (i := 7) (v := .slice A n c) rfl (by kernel_rfl) (by kernel_rfl) (by kernel_rfl) (fun _ _ _ h => h) (Or.inl ⟨by rfl, fun w => by go_simp⟩) ?_
          go_simp
          refine wpAny_take (i := 8) (v := .int .i64 (a : Int)) rfl (by kernel_rfl) (by kernel_rfl) (by kernel_rfl) (fun _ _ _ h => h) (Or.inl ⟨by rfl, fun w => by go_simp⟩) ?_
          go_simp
          refine wpAny_take (i := 9) (v := .slice A a c) rfl (by kernel_rfl) (by kernel_rfl) (by kernel_rfl) (fun _ _ _ h => h) (Or.inl ⟨by rfl, fun w => by go_simp⟩) ?_
          go_simp
          refine wpAny_take (i := 10) (v := .slice A n c) rfl (by kernel_rfl) (by kernel_rfl) (by kernel_rfl) (fun _ _ _ h => h) (Or.inl ⟨by rfl, fun w => by go_simp⟩) ?_
          go_simp
          refine wpAny_take (i := 11) (v := .int .i64 (a : Int)) rfl (by kernel_rfl) (by kernel_rfl) (by kernel_rfl) (fun _ _ _ h => h) (Or.inl ⟨by rfl, fun w => by go_simp⟩) ?_
          go_simp
          refine wpAny_take (i := 12) (v := .slice A2 (n - a) (c - a)) rfl (by kernel_rfl) (by kernel_rfl) (by kernel_rfl) (fun _ _ _ h => h) (Or.inl ⟨by rfl, fun w => by go_simp⟩) ?_
          go_simp
          refine wpAny_take (i := 15) (v := .slice A n c) rfl (by kernel_rfl) (by kernel_rfl) (by kernel_rfl) (fun _ _ _ h => h) (Or.inl ⟨by rfl, fun w => by go_simp⟩) ?_
          go_simp
          refine wpAny_ready (rs := [13, 16]) (by kernel_rfl) (by simp) ?_
          refine AllReady.cons rfl (fun K hK => ?_) (AllReady.cons rfl (fun K hK => ?_) AllReady.nil)
          · go_simp
            refine hK _ _ ?_
            clear hK K
            refine wpAny_ready (rs := [14, 16]) (by kernel_rfl) (by simp) ?_
            refine AllReady.cons rfl (fun K hK => ?_) (AllReady.cons rfl (fun K hK => ?_) AllReady.nil)
            · (go_simp; go_at_call 11; refine (of_any _ 3 3 [⟨A, a, c, xs.take a⟩, ⟨none, 0, 0, []⟩, ⟨A2, n - a, c - a, xs.drop a⟩] _ (rd_row (by first | exact heap_alloc_new _ _ | exact (heap2 _ _ _).1 | exact (heap2 _ _ _).2 | (refine (hnb.block _ (by first | (simp; done) | (simp; omega))).trans ?_; first | exact heap_alloc_new _ _ | exact (heap2 _ _ _).1 | exact (heap2 _ _ _).2)) rfl (by omega)) (HROW3.out _ (by first | assumption | exact below_alloc (by assumption) _ | exact below_alloc (below_alloc (by assumption) _) _)) (HRR.out _ (by first | assumption | exact below_alloc (by assumption) _ | exact below_alloc (below_alloc (by assumption) _) _)) HJ3.out.2).mono ?_; rintro e wq ⟨Aq, cq, rfl, hn⟩; rw [HJ3.out.1, ← HD.out] at hn; have hbb := below_seq (show Below wr.heap.size wr _ from (by first | assumption | exact below_alloc (by assumption) _ | exact below_alloc (below_alloc (by assumption) _) _)) hn.bl; have hd3 := hn.rd; have hnb := hn.bl; clear hn)
              try go_simp
              refine hK _ _ ?_
              clear hK K
              refine wpAny_ready (rs := [16]) (by kernel_rfl) (by simp) ?_
              refine AllReady.cons rfl (fun K hK => ?_) AllReady.nil
              go_simp
              refine hK _ _ ?_
              clear hK K
              refine wpAny_ready (rs := [17]) (by kernel_rfl) (by simp) ?_
              refine AllReady.cons rfl (fun K hK => ?_) AllReady.nil
              (go_simp; go_at_call 11; refine (of_any _ 1 1 [⟨A, n, c, xs⟩] _ (rd_row (by first | exact heap_alloc_new _ _ | exact (heap2 _ _ _).1 | exact (heap2 _ _ _).2 | (refine (hnb.block _ (by first | (simp; done) | (simp; omega))).trans ?_; first | exact heap_alloc_new _ _ | exact (heap2 _ _ _).1 | exact (heap2 _ _ _).2)) rfl (by omega)) (HROW.out _ (by first | assumption | exact below_alloc (by assumption) _ | exact below_alloc (below_alloc (by assumption) _) _)) (HRR.out _ (by first | assumption | exact below_alloc (by assumption) _ | exact below_alloc (below_alloc (by assumption) _) _)) HJ.out.2).mono ?_; rintro e wq ⟨Aq, cq, rfl, hn⟩; rw [HJ.out.1, ← HD.out] at hn; have hbb := below_seq (show Below wr.heap.size wr _ from (by first | assumption | exact below_alloc (by assumption) _ | exact below_alloc (below_alloc (by assumption) _) _)) hn.bl; have hd4 := hn.rd; replace hd3 := (hd3.on (by first | exact Below.refl _ _ | exact below_of_new _ _ | exact below_seq (below_of_new _ _) (below_of_new _ _))).on hn.bl; have hnb := hn.bl; clear hn)
              try go_simp
              refine hK _ _ ?_
              clear hK K
              refine wpAny_ready (rs := [18]) (by kernel_rfl) (by simp) ?_
              refine AllReady.cons rfl (fun K hK => ?_) AllReady.nil
              (go_simp; go_at_call 10; refine (rsame_new _ _ _ _ _ _ D D _ (hd3.on (by first | exact Below.refl _ _ | exact below_of_new _ _ | exact below_seq (below_of_new _ _) (below_of_new _ _))) (hd4.on (by first | exact Below.refl _ _ | exact below_of_new _ _ | exact below_seq (below_of_new _ _) (below_of_new _ _)))).mono ?_; rintro e wq ⟨rfl, hsb⟩; rw [show decide (D = D) = true from by simp]; have hbb := below_seq (show Below wr.heap.size wr _ from (by first | assumption | exact below_alloc (by assumption) _ | exact below_alloc (below_alloc (by assumption) _) _)) hsb)
              try go_simp
              refine hK _ _ ?_
              clear hK K
              refine wpAny_take (i := 19) (v := .bool true) rfl (by kernel_rfl) (by kernel_rfl) (by kernel_rfl) (fun _ _ _ h => h) (Or.inl ⟨by rfl, fun w => by go_simp⟩) ?_
              go_simp
              refine wpAny_take (i := 20) (v := .bool true) rfl (by kernel_rfl) (by kernel_rfl) (by kernel_rfl) (fun _ _ _ h => h) (Or.inl ⟨by rfl, fun w => by go_simp⟩) ?_
              go_simp
              refine wpAny_take (i := 21) (v := .pointer (some ⟨G, 0, none⟩)) rfl (by kernel_rfl) (by kernel_rfl) (by kernel_rfl) (fun _ _ _ h => h) (Or.inl ⟨by rfl, fun w => by go_simp⟩) ?_
              go_simp
              refine wpAny_ready (rs := [22]) (by kernel_rfl) (by simp) ?_
              refine AllReady.cons rfl (fun K hK => ?_) AllReady.nil
              (go_simp; go_at_call 16; refine (digest_any G xs _ (HS.out _ (by first | assumption | exact below_alloc (by assumption) _ | exact below_alloc (below_alloc (by assumption) _) _)) (HRR.out _ (by first | assumption | exact below_alloc (by assumption) _ | exact below_alloc (below_alloc (by assumption) _) _)) HLEN.out).mono ?_; rintro e wq ⟨Aq, cq, rfl, hn⟩; rw [← HD.out] at hn; have hbb := below_seq (show Below wr.heap.size wr _ from (by first | assumption | exact below_alloc (by assumption) _ | exact below_alloc (below_alloc (by assumption) _) _)) hn.bl; have hd6 := hn.rd; have hnb := hn.bl; clear hn)
              try go_simp
              refine hK _ _ ?_
              clear hK K
              refine wpAny_take (i := 23) (v := .int .i64 32) rfl (by kernel_rfl) (by kernel_rfl) (by kernel_rfl) (fun _ _ _ h => h) (Or.inl ⟨by rfl, fun w => by go_simp⟩) ?_
              go_simp
              refine wpAny_take (i := 24) (v := .bool true) rfl (by kernel_rfl) (by kernel_rfl) (by kernel_rfl) (fun _ _ _ h => h) (Or.inl ⟨by rfl, fun w => by go_simp⟩) ?_
              go_simp
              refine wpAny_take (i := 25) (v := .bool true) rfl (by kernel_rfl) (by kernel_rfl) (by kernel_rfl) (fun _ _ _ h => h) (Or.inl ⟨by rfl, fun w => by go_simp⟩) ?_
              go_simp
              refine wpAny_take (i := 26) (v := .bool true) rfl (by kernel_rfl) (by kernel_rfl) (by kernel_rfl) (fun _ _ _ h => h) (Or.inl ⟨by rfl, fun w => by go_simp⟩) ?_
              go_simp
              refine wpAny_done (by kernel_rfl) ?_ _
              have hbN := below_seq hB6 hbb
              go_wp2
              go_ret
              exact ⟨rfl, hbN⟩
            · go_simp
              refine hK _ _ ?_
              clear hK K
              refine wpAny_ready (rs := [14]) (by kernel_rfl) (by simp) ?_
              refine AllReady.cons rfl (fun K hK => ?_) AllReady.nil
              (go_simp; go_at_call 11; refine (of_any _ 3 3 [⟨A, a, c, xs.take a⟩, ⟨none, 0, 0, []⟩, ⟨A2, n - a, c - a, xs.drop a⟩] _ (rd_row (by first | exact heap_alloc_new _ _ | exact (heap2 _ _ _).1 | exact (heap2 _ _ _).2 | (refine (hnb.block _ (by first | (simp; done) | (simp; omega))).trans ?_; first | exact heap_alloc_new _ _ | exact (heap2 _ _ _).1 | exact (heap2 _ _ _).2)) rfl (by omega)) (HROW3.out _ (by first | assumption | exact below_alloc (by assumption) _ | exact below_alloc (below_alloc (by assumption) _) _)) (HRR.out _ (by first | assumption | exact below_alloc (by assumption) _ | exact below_alloc (below_alloc (by assumption) _) _)) HJ3.out.2).mono ?_; rintro e wq ⟨Aq, cq, rfl, hn⟩; rw [HJ3.out.1, ← HD.out] at hn; have hbb := below_seq (show Below wr.heap.size wr _ from (by first | assumption | exact below_alloc (by assumption) _ | exact below_alloc (below_alloc (by assumption) _) _)) hn.bl; have hd3 := hn.rd; have hnb := hn.bl; clear hn)
              try go_simp
              refine hK _ _ ?_
              clear hK K
              refine wpAny_ready (rs := [17]) (by kernel_rfl) (by simp) ?_
              refine AllReady.cons rfl (fun K hK => ?_) AllReady.nil
              (go_simp; go_at_call 11; refine (of_any _ 1 1 [⟨A, n, c, xs⟩] _ (rd_row (by first | exact heap_alloc_new _ _ | exact (heap2 _ _ _).1 | exact (heap2 _ _ _).2 | (refine (hnb.block _ (by first | (simp; done) | (simp; omega))).trans ?_; first | exact heap_alloc_new _ _ | exact (heap2 _ _ _).1 | exact (heap2 _ _ _).2)) rfl (by omega)) (HROW.out _ (by first | assumption | exact below_alloc (by assumption) _ | exact below_alloc (below_alloc (by assumption) _) _)) (HRR.out _ (by first | assumption | exact below_alloc (by assumption) _ | exact below_alloc (below_alloc (by assumption) _) _)) HJ.out.2).mono ?_; rintro e wq ⟨Aq, cq, rfl, hn⟩; rw [HJ.out.1, ← HD.out] at hn; have hbb := below_seq (show Below wr.heap.size wr _ from (by first | assumption | exact below_alloc (by assumption) _ | exact below_alloc (below_alloc (by assumption) _) _)) hn.bl; have hd4 := hn.rd; replace hd3 := (hd3.on (by first | exact Below.refl _ _ | exact below_of_new _ _ | exact below_seq (below_of_new _ _) (below_of_new _ _))).on hn.bl; have hnb := hn.bl; clear hn)
              try go_simp
              refine hK _ _ ?_
              clear hK K
              refine wpAny_ready (rs := [18]) (by kernel_rfl) (by simp) ?_
              refine AllReady.cons rfl (fun K hK => ?_) AllReady.nil
              (go_simp; go_at_call 10; refine (rsame_new _ _ _ _ _ _ D D _ (hd3.on (by first | exact Below.refl _ _ | exact below_of_new _ _ | exact below_seq (below_of_new _ _) (below_of_new _ _))) (hd4.on (by first | exact Below.refl _ _ | exact below_of_new _ _ | exact below_seq (below_of_new _ _) (below_of_new _ _)))).mono ?_; rintro e wq ⟨rfl, hsb⟩; rw [show decide (D = D) = true from by simp]; have hbb := below_seq (show Below wr.heap.size wr _ from (by first | assumption | exact below_alloc (by assumption) _ | exact below_alloc (below_alloc (by assumption) _) _)) hsb)
              try go_simp
              refine hK _ _ ?_
              clear hK K
              refine wpAny_take (i := 19) (v := .bool true) rfl (by kernel_rfl) (by kernel_rfl) (by kernel_rfl) (fun _ _ _ h => h) (Or.inl ⟨by rfl, fun w => by go_simp⟩) ?_
              go_simp
              refine wpAny_take (i := 20) (v := .bool true) rfl (by kernel_rfl) (by kernel_rfl) (by kernel_rfl) (fun _ _ _ h => h) (Or.inl ⟨by rfl, fun w => by go_simp⟩) ?_
              go_simp
              refine wpAny_take (i := 21) (v := .pointer (some ⟨G, 0, none⟩)) rfl (by kernel_rfl) (by kernel_rfl) (by kernel_rfl) (fun _ _ _ h => h) (Or.inl ⟨by rfl, fun w => by go_simp⟩) ?_
              go_simp
              refine wpAny_ready (rs := [22]) (by kernel_rfl) (by simp) ?_
              refine AllReady.cons rfl (fun K hK => ?_) AllReady.nil
              (go_simp; go_at_call 16; refine (digest_any G xs _ (HS.out _ (by first | assumption | exact below_alloc (by assumption) _ | exact below_alloc (below_alloc (by assumption) _) _)) (HRR.out _ (by first | assumption | exact below_alloc (by assumption) _ | exact below_alloc (below_alloc (by assumption) _) _)) HLEN.out).mono ?_; rintro e wq ⟨Aq, cq, rfl, hn⟩; rw [← HD.out] at hn; have hbb := below_seq (show Below wr.heap.size wr _ from (by first | assumption | exact below_alloc (by assumption) _ | exact below_alloc (below_alloc (by assumption) _) _)) hn.bl; have hd6 := hn.rd; have hnb := hn.bl; clear hn)
              try go_simp
              refine hK _ _ ?_
              clear hK K
              refine wpAny_take (i := 23) (v := .int .i64 32) rfl (by kernel_rfl) (by kernel_rfl) (by kernel_rfl) (fun _ _ _ h => h) (Or.inl ⟨by rfl, fun w => by go_simp⟩) ?_
              go_simp
              refine wpAny_take (i := 24) (v := .bool true) rfl (by kernel_rfl) (by kernel_rfl) (by kernel_rfl) (fun _ _ _ h => h) (Or.inl ⟨by rfl, fun w => by go_simp⟩) ?_
              go_simp
              refine wpAny_take (i := 25) (v := .bool true) rfl (by kernel_rfl) (by kernel_rfl) (by kernel_rfl) (fun _ _ _ h => h) (Or.inl ⟨by rfl, fun w => by go_simp⟩) ?_
              go_simp
              refine wpAny_take (i := 26) (v := .bool true) rfl (by kernel_rfl) (by kernel_rfl) (by kernel_rfl) (fun _ _ _ h => h) (Or.inl ⟨by rfl, fun w => by go_simp⟩) ?_
              go_simp
              refine wpAny_done (by kernel_rfl) ?_ _
              have hbN := below_seq hB6 hbb
              go_wp2
              go_ret
              exact ⟨rfl, hbN⟩
          · go_simp
            refine hK _ _ ?_
            clear hK K
            refine wpAny_ready (rs := [13]) (by kernel_rfl) (by simp) ?_
            refine AllReady.cons rfl (fun K hK => ?_) AllReady.nil
            go_simp
            refine hK _ _ ?_
            clear hK K
            refine wpAny_ready (rs := [14]) (by kernel_rfl) (by simp) ?_
            refine AllReady.cons rfl (fun K hK => ?_) AllReady.nil
            (go_simp; go_at_call 11; refine (of_any _ 3 3 [⟨A, a, c, xs.take a⟩, ⟨none, 0, 0, []⟩, ⟨A2, n - a, c - a, xs.drop a⟩] _ (rd_row (by first | exact heap_alloc_new _ _ | exact (heap2 _ _ _).1 | exact (heap2 _ _ _).2 | (refine (hnb.block _ (by first | (simp; done) | (simp; omega))).trans ?_; first | exact heap_alloc_new _ _ | exact (heap2 _ _ _).1 | exact (heap2 _ _ _).2)) rfl (by omega)) (HROW3.out _ (by first | assumption | exact below_alloc (by assumption) _ | exact below_alloc (below_alloc (by assumption) _) _)) (HRR.out _ (by first | assumption | exact below_alloc (by assumption) _ | exact below_alloc (below_alloc (by assumption) _) _)) HJ3.out.2).mono ?_; rintro e wq ⟨Aq, cq, rfl, hn⟩; rw [HJ3.out.1, ← HD.out] at hn; have hbb := below_seq (show Below wr.heap.size wr _ from (by first | assumption | exact below_alloc (by assumption) _ | exact below_alloc (below_alloc (by assumption) _) _)) hn.bl; have hd3 := hn.rd; have hnb := hn.bl; clear hn)
            try go_simp
            refine hK _ _ ?_
            clear hK K
            refine wpAny_ready (rs := [17]) (by kernel_rfl) (by simp) ?_
            refine AllReady.cons rfl (fun K hK => ?_) AllReady.nil
            (go_simp; go_at_call 11; refine (of_any _ 1 1 [⟨A, n, c, xs⟩] _ (rd_row (by first | exact heap_alloc_new _ _ | exact (heap2 _ _ _).1 | exact (heap2 _ _ _).2 | (refine (hnb.block _ (by first | (simp; done) | (simp; omega))).trans ?_; first | exact heap_alloc_new _ _ | exact (heap2 _ _ _).1 | exact (heap2 _ _ _).2)) rfl (by omega)) (HROW.out _ (by first | assumption | exact below_alloc (by assumption) _ | exact below_alloc (below_alloc (by assumption) _) _)) (HRR.out _ (by first | assumption | exact below_alloc (by assumption) _ | exact below_alloc (below_alloc (by assumption) _) _)) HJ.out.2).mono ?_; rintro e wq ⟨Aq, cq, rfl, hn⟩; rw [HJ.out.1, ← HD.out] at hn; have hbb := below_seq (show Below wr.heap.size wr _ from (by first | assumption | exact below_alloc (by assumption) _ | exact below_alloc (below_alloc (by assumption) _) _)) hn.bl; have hd4 := hn.rd; replace hd3 := (hd3.on (by first | exact Below.refl _ _ | exact below_of_new _ _ | exact below_seq (below_of_new _ _) (below_of_new _ _))).on hn.bl; have hnb := hn.bl; clear hn)
            try go_simp
            refine hK _ _ ?_
            clear hK K
            refine wpAny_ready (rs := [18]) (by kernel_rfl) (by simp) ?_
            refine AllReady.cons rfl (fun K hK => ?_) AllReady.nil
            (go_simp; go_at_call 10; refine (rsame_new _ _ _ _ _ _ D D _ (hd3.on (by first | exact Below.refl _ _ | exact below_of_new _ _ | exact below_seq (below_of_new _ _) (below_of_new _ _))) (hd4.on (by first | exact Below.refl _ _ | exact below_of_new _ _ | exact below_seq (below_of_new _ _) (below_of_new _ _)))).mono ?_; rintro e wq ⟨rfl, hsb⟩; rw [show decide (D = D) = true from by simp]; have hbb := below_seq (show Below wr.heap.size wr _ from (by first | assumption | exact below_alloc (by assumption) _ | exact below_alloc (below_alloc (by assumption) _) _)) hsb)
            try go_simp
            refine hK _ _ ?_
            clear hK K
            refine wpAny_take (i := 19) (v := .bool true) rfl (by kernel_rfl) (by kernel_rfl) (by kernel_rfl) (fun _ _ _ h => h) (Or.inl ⟨by rfl, fun w => by go_simp⟩) ?_
            go_simp
            refine wpAny_take (i := 20) (v := .bool true) rfl (by kernel_rfl) (by kernel_rfl) (by kernel_rfl) (fun _ _ _ h => h) (Or.inl ⟨by rfl, fun w => by go_simp⟩) ?_
            go_simp
            refine wpAny_take (i := 21) (v := .pointer (some ⟨G, 0, none⟩)) rfl (by kernel_rfl) (by kernel_rfl) (by kernel_rfl) (fun _ _ _ h => h) (Or.inl ⟨by rfl, fun w => by go_simp⟩) ?_
            go_simp
            refine wpAny_ready (rs := [22]) (by kernel_rfl) (by simp) ?_
            refine AllReady.cons rfl (fun K hK => ?_) AllReady.nil
            (go_simp; go_at_call 16; refine (digest_any G xs _ (HS.out _ (by first | assumption | exact below_alloc (by assumption) _ | exact below_alloc (below_alloc (by assumption) _) _)) (HRR.out _ (by first | assumption | exact below_alloc (by assumption) _ | exact below_alloc (below_alloc (by assumption) _) _)) HLEN.out).mono ?_; rintro e wq ⟨Aq, cq, rfl, hn⟩; rw [← HD.out] at hn; have hbb := below_seq (show Below wr.heap.size wr _ from (by first | assumption | exact below_alloc (by assumption) _ | exact below_alloc (below_alloc (by assumption) _) _)) hn.bl; have hd6 := hn.rd; have hnb := hn.bl; clear hn)
            try go_simp
            refine hK _ _ ?_
            clear hK K
            refine wpAny_take (i := 23) (v := .int .i64 32) rfl (by kernel_rfl) (by kernel_rfl) (by kernel_rfl) (fun _ _ _ h => h) (Or.inl ⟨by rfl, fun w => by go_simp⟩) ?_
            go_simp
            refine wpAny_take (i := 24) (v := .bool true) rfl (by kernel_rfl) (by kernel_rfl) (by kernel_rfl) (fun _ _ _ h => h) (Or.inl ⟨by rfl, fun w => by go_simp⟩) ?_
            go_simp
            refine wpAny_take (i := 25) (v := .bool true) rfl (by kernel_rfl) (by kernel_rfl) (by kernel_rfl) (fun _ _ _ h => h) (Or.inl ⟨by rfl, fun w => by go_simp⟩) ?_
            go_simp
            refine wpAny_take (i := 26) (v := .bool true) rfl (by kernel_rfl) (by kernel_rfl) (by kernel_rfl) (fun _ _ _ h => h) (Or.inl ⟨by rfl, fun w => by go_simp⟩) ?_
            go_simp
            refine wpAny_done (by kernel_rfl) ?_ _
            have hbN := below_seq hB6 hbb
            go_wp2
            go_ret
            exact ⟨rfl, hbN⟩
  · go_enter Tryd.func4, Tryd.ntmps4
    rcases Nat.lt_or_ge 2000 n with hh | hh
    · have u1 : decide ((2000 : Int) < n) = true := by simp; omega
      go_wp2_with fail
      refine (alive3_any _ HR.out).mono ?_
      rintro e w1 ⟨rfl, hB1⟩
      go_wp2
      go_ret
      exact ⟨rfl, hB1⟩
    · have u1 : decide ((2000 : Int) < n) = false := by simp; omega
      have u2 : decide ((40 : Int) < n') = true := by simp; omega
      go_wp2_with fail
      refine (alive3_any _ HR.out).mono ?_
      rintro e w1 ⟨rfl, hB1⟩
      go_wp2
      go_ret
      exact ⟨rfl, hB1⟩

theorem own : ownKnob Tryd.prog.godebug = none := by kernel_rfl
theorem laidOut : laidOutB Tryd.prog = true := by kernel_rfl

set_option maxRecDepth 100000 in
theorem lifted (os : Os) (started : os.Started) (H : Type) (enc : TypeId × Value → H) :
    ReturnsInHanded {} Tryd.checked os 4 .any (fun w args => (Rows.shaPartsSpec.pre enc Tryd.prog Tryd.f4 Rows.shaPartsRow.domain false w args ∧ laidMetH Tryd.prog laidL w) ∧ sizedMet enc Tryd.prog Tryd.f4 (OpenSpec.ofChange Rows.shaPartsSpec) false w args)
      (Rows.shaPartsSpec.post enc Tryd.prog Tryd.f4 false true false false) := by
  refine returnsInHanded_of_change_and (C := Tryd.checked) (X := (fun w _ => laidMetH Tryd.prog laidL w)) (fun _ _ _ hh h => h.of_heap hh) own started (by kernel_rfl) Tryd.func4
    (ChangeSpec.witness_shaped (enc := enc) (C := Tryd.checked) (os := os) (X := (fun w _ => laidMetH Tryd.prog laidL w)) false (World.laidAll Tryd.prog os laidL) #[.slice none 0 0, .slice none 0 0] 8 (World.laidAll_os _ _ _)
      (World.shaped_of_ZipB (by kernel_rfl) (by kernel_rfl)) (by kernel_rfl) (by kernel_rfl) (by kernel_rfl)
      (by rw [MakeChecks.laidMetH_plain _ _ _ (by kernel_rfl)]; exact laidMet_laidAll _ (by kernel_rfl) (by kernel_rfl))) ?_
  intro W base args ds gs before hval0 hW hcnd _ hL _
  have hroots := roots_of hL
  have hval : ∀ (j : Nat) t v, Tryd.f4.params[j]? = some t → args[j]? = some v → Value.okWide Tryd.prog W .any base t v := hval0
  have hW' := hW
  obtain ⟨p, q, hA0, hV, rfl, hfz, hnd⟩ := hW
  have hA : DataW.TrodAll enc Tryd.prog W 0 (fun _ => true) true Tryd.f4.params.toList args.toList ds p := hA0
  rw [Tryd.params4] at hA hval
  obtain ⟨v0, vs0, d0, ds0, p0, q0, hargs, rfl, rfl, h0, r0⟩ := trodAll_cons hA
  obtain ⟨v1, vs1, d1, ds1, p1, q1, rfl, rfl, rfl, h1, r1⟩ := trodAll_cons r0
  obtain ⟨rfl, rfl, rfl⟩ := trodAll_nil r1
  obtain rfl : args = #[v0, v1] := by cases args; simp_all
  obtain ⟨rfl, rfl⟩ := trodVars_none hV
  obtain ⟨a0, len0, cap0, rfl⟩ := okWide_slice Tryd.underlying22 (hval 0 22 v0 rfl rfl)
  have lt0 : ∀ x ∈ p0, x.block < W.heap.size := by obtain ⟨m, hm⟩ := h0; exact DataW.trod_lt m _ _ _ hm
  obtain ⟨bs0, hb0⟩ := rd_in Tryd.underlying22 Tryd.underlying5 (by kernel_rfl) rfl h0
  obtain ⟨a1, len1, cap1, rfl⟩ := okWide_slice Tryd.underlying22 (hval 1 22 v1 rfl rfl)
  have lt1 : ∀ x ∈ p1, x.block < W.heap.size := by obtain ⟨m, hm⟩ := h1; exact DataW.trod_lt m _ _ _ hm
  obtain ⟨bs1, hb1⟩ := rd_in Tryd.underlying22 Tryd.underlying5 (by kernel_rfl) rfl h1
  clear hA0 hval0
  refine (walk a0 len0 cap0 bs0 a1 len1 cap1 bs1 W hb0 hb1 hroots).mono fun e W' ⟨he, bel⟩ => ?_
  subst he
  exact ⟨_, rfl, _, _, _, [], _, [], hW', trodAll_mk1 (shut_bool Tryd.underlying4 _), (trodAll_cons_mk (Below.trod laidOut (by kernel_rfl) (of_decide_eq_true (by kernel_rfl)) h0 bel lt0) (trodAll_cons_mk (Below.trod laidOut (by kernel_rfl) (of_decide_eq_true (by kernel_rfl)) h1 bel lt1) trodAll_mk0)), rfl, bel.frame _, fun h => by cases h⟩

theorem over : Rows.shaPartsRow.holds Tryd.pinned (OpenSpec.ofChange Rows.shaPartsSpec) :=
  OpenClaim.holds_of_wide 4 Tryd.f4 rfl rfl rfl rfl rfl rfl rfl ⟨rfl, rfl, rfl, rfl, rfl⟩ rfl rfl rfl rfl rfl (by kernel_rfl) Tryd.func4 (by kernel_rfl)
    (of_decide_eq_true (by kernel_rfl)) (by unfold Func.isWrapper; first | (rw [if_pos (by decide +kernel)]; kernel_rfl) | (rw [if_neg (by decide +kernel)]; exact ⟨rfl, rfl⟩))
    (fun os started H enc _ => lifted os started H enc)

theorem proved : Rows.ShaPartsCardSaid :=
  Claim7.holds_tied_plain_at .later [] [.data] true (true, "b3ca89292fa8e51685a4e2f0885e160f0b3c01514adff99a6518418dafaf18aa") false over (fun _ h => by cases h) (by kernel_rfl) (fun _ h => by cases h) shaParts_row_tie rfl ⟨rfl, rfl⟩ (by kernel_rfl) rfl
    (fun f fn hf hfn => by
      obtain rfl : f = 4 := Option.some.inj ((show Tryd.prog.funcNamed "compeer/compeerlaw03.ShaParts" = some 4 by kernel_rfl).symm.trans hf) |>.symm
      obtain rfl : fn = Tryd.f4 := (Option.some.inj (Tryd.func4.symm.trans hfn)).symm
      exact ⟨by kernel_rfl, fun j t ht => by
        rw [Tryd.params4] at ht
        have hm : t ∈ [22, 22] := by simpa using Array.mem_of_getElem? ht
        have hall : ([22, 22].all fun u => !Tryd.prog.wantsStandIn u) = true := by kernel_rfl
        exact (show Tryd.prog.wantsStandIn t = false by simpa using List.all_eq_true.1 hall t hm)⟩)
    (by kernel_rfl)
end Go.Proofs.YtmebljkljdhdiaaDoor.Parts
