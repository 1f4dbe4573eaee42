/-
  base's Book: forget.
-/
import Derived.Test.YtlngbpipmaaedaaBah
import Derived.Maps.RangeWalk
import Derived.Maps.OwnSet
import Derived.StringKeys
namespace Go.Proofs.Ytlngbpipmaaedaa.Ba
open Go.RowKit
open Go.Proofs.Ytlngbpipmaaedaa.Kit
open Go.Maps
set_option linter.unusedVariables false

/-- the map's datum -/
abbrev DM := DataW Unit
abbrev Es := List (Lit × DM)
def till : DM → Int
  | .lit (.int _ n) => n
  | _ => 0
def stays (now : Int) (d : DM) : Bool := decide (now < till d)
/-- under way: those that stay, and those still to come -/
def onWay (now : Int) (es : Es) (left : Lit → Bool) : DM := .map (es.filter fun p => stays now p.2 || left p.1)
def gone (now : Int) (es : Es) : Es := es.filter fun p => stays now p.2
theorem onWay_start {now : Int} {es : Es} (hk : ∀ p ∈ es, WideAt.IsKeyLit p.1) : onWay now es (Maps.has (.map es)) = .map es := by
  unfold onWay
  congr 1
  refine List.filter_eq_self.2 fun p hp => ?_
  have h : Maps.has (DataW.map es) p.1 = true := List.any_eq_true.2 ⟨p, hp, WideAt.sameKey_self (hk p hp)⟩
  rw [h, Bool.or_true]
theorem onWay_end {now : Int} {es : Es} {left : Lit → Bool} (h : ∀ k, left k = false) : onWay now es left = .map (gone now es) := by
  unfold onWay gone
  congr 1
  exact List.filter_congr fun p _ => by rw [h, Bool.or_false]
theorem onWay_held {now : Int} {es : Es} {left : Lit → Bool} (hap : es.Pairwise (fun p q => p.1 ≠ q.1)) {k : Lit} (hk : WideAt.IsKeyLit k) (hl : left k = true) {d : DM} (hat : ∀ z, (onWay now es left).atKey k z = d) : ∀ p ∈ es, p.1 = k → p.2 = d := by
  intro p hp e
  have hm : (k, p.2) ∈ es.filter fun p => stays now p.2 || left p.1 := List.mem_filter.2 ⟨by rw [← e]; exact hp, by simp [hl]⟩
  exact (WideAt.atKey_mem .nil hk (hap.filter _) hm).symm.trans (hat .nil)
theorem onWay_del {now : Int} {es : Es} {left : Lit → Bool} (hap : es.Pairwise (fun p q => p.1 ≠ q.1)) {k : Lit} (hk : WideAt.IsKeyLit k) (hl : left k = true) {d : DM} (hat : ∀ z, (onWay now es left).atKey k z = d) (hd : stays now d = false) : (onWay now es left).del k = onWay now es (fun z => left z && !z.sameKey k) := by
  have hc := onWay_held hap hk hl hat
  show DataW.map ((es.filter fun p => stays now p.2 || left p.1).filter fun p => !p.1.sameKey k) = _
  unfold onWay
  rw [List.filter_filter]
  congr 1
  refine List.filter_congr fun p hp => ?_
  cases hs : p.1.sameKey k
  · simp [hs]
  · simp [hs, hc p hp (WideAt.sameKey_eq hs), hd]
theorem onWay_keep {now : Int} {es : Es} {left : Lit → Bool} (hap : es.Pairwise (fun p q => p.1 ≠ q.1)) {k : Lit} (hk : WideAt.IsKeyLit k) (hl : left k = true) {d : DM} (hat : ∀ z, (onWay now es left).atKey k z = d) (hd : stays now d = true) : onWay now es left = onWay now es (fun z => left z && !z.sameKey k) := by
  have hc := onWay_held hap hk hl hat
  unfold onWay
  congr 1
  refine List.filter_congr fun p hp => ?_
  cases hs : p.1.sameKey k
  · simp [hs]
  · simp [hs, hc p hp (WideAt.sameKey_eq hs), hd]
theorem klaw : Keyed Try.prog 9 := string_keyed Try.underlying9
noncomputable abbrev Pe : Value → Option (DM × List MemPlace) := plainElem Try.prog 2
theorem zeroE (w : World) : (zeroValue 2).run Try.prog w = .ok (.int .i64 0) w := by kernel_rfl
/-- a book at kb, its map at mb -/
structure BkAt (w : World) (kb mb n : Nat) (D : DM) : Prop where
  row : w.heap[kb]? = some (.cells #[.map (some mb)] 73 (0, 0))
  own : w.ownsMap Try.prog 9 Pe mb n D
theorem BkAt.ne {w : World} {kb mb n : Nat} {D : DM} (h : BkAt w kb mb n D) : kb ≠ mb := fun e => by
  obtain ⟨es, clock, h1, _⟩ := h.own
  rw [← e, h.row] at h1
  cases h1
theorem BkAt.below {w w' : World} {kb mb n : Nat} {D : DM} (h : BkAt w kb mb n D) (hb : Below w.heap.size w w') : BkAt w' kb mb n D :=
  ⟨(hb.block kb (Array.getElem?_eq_some_iff.1 h.row).1).trans h.row, h.own.kept (row := none) ⟨hb.os, hb.tape, hb.output, hb.size, fun b hb' _ => hb.block b hb'⟩ (by simp)⟩
theorem BkAt.turn {w w' : World} {kb mb n n' : Nat} {D D' : DM} (h : BkAt w kb mb n D) (hg : w.grownBy w' (some mb)) (ho : w'.ownsMap Try.prog 9 Pe mb n' D') : BkAt w' kb mb n' D' :=
  ⟨(hg.block kb (Array.getElem?_eq_some_iff.1 h.row).1 (fun e => h.ne (Option.some.inj e))).trans h.row, ho⟩

set_option maxRecDepth 100000 in
set_option maxHeartbeats 2000000 in
theorem forget_any {w : World} {kb mb n : Nat} {es : Es} (h : BkAt w kb mb n (.map es)) (now : Int) :
    Calls Try.prog 29 #[.pointer (some ⟨kb, 0, none⟩), .int .i64 now] w fun e w' => e = .returned (.tuple #[]) ∧ BkAt w' kb mb n (.map (gone now es)) ∧ w.grownBy w' (some mb) := by
  obtain ⟨es', he, hap, hkeys⟩ := h.own.entries klaw
  obtain rfl : es = es' := DataW.map.inj he
  have hown := h.own
  have c0 : w.cell? ⟨kb, 0, none⟩ = some (.map (some mb)) := by rw [cell_of_row _ _ _ _ _ _ h.row]; rfl
  have HC := Lib.hid (show ∀ W, w.grownBy W (some mb) → W.cell? ⟨kb, 0, none⟩ = some (.map (some mb)) from fun W hg => by rw [cell_of_row _ _ _ _ _ _ ((hg.block kb (Array.getElem?_eq_some_iff.1 h.row).1 (fun e => h.ne (Option.some.inj e))).trans h.row)]; rfl)
  go_enter Try.func29, Try.ntmps29
  go_wp2_with (first
    | (at_range; refine wpList_range_own _ rfl _ 71 rfl 9 2 klaw Try.underlying71 _ mb n _ rfl hown ?_; intro w0 hrg0 hg0 hs0)
    | go_in)
  try go_frame
  go_loopw [4] (fun _ wr => ∃ (left : Lit → Bool) (cnt : Nat), wr.ranges Try.prog 9 Pe mb w.heap.size n (onWay now es left) left cnt ∧ w.grownBy wr (some mb))
    (fun _ wr => wr.rangeLeft mb w.heap.size)
  case atStart => exact ⟨_, _, by rw [onWay_start hkeys]; exact hrg0, hg0.but _⟩
  case round =>
    obtain ⟨left, cnt, hrg, hgw⟩ := hrel
    go_wp2_with (first
      | (at_next; go_loud (refine wpList_next_ranges _ rfl _ rfl 9 klaw Pe Value.string (Value.int .i64) (fun key kl hk => by obtain ⟨x, hx, _⟩ := Go.WideMaps.string_of_keyOf Try.underlying9 hk; exact ⟨x, hx⟩) (fun v y hv => by obtain ⟨c, hc, _⟩ := plainElem_int_inv Try.underlying2 hv; exact ⟨c, hc⟩) mb w.heap.size n _ _ _ rfl hrg ?_ ?_))
      | go_in)
    · intro _ hl0
      go_wp2
      go_end0
      exact ⟨rfl, h.turn hgw (by rw [← onWay_end hl0]; exact hrg.owns), hgw⟩
    · intro x c kl y1 y2 w1 cnt1 hkx hlx hvx hat hrg1 hlt hg1 hs1 hen
      obtain ⟨c', hcc, hyy, hwc⟩ := plainElem_int_inv Try.underlying2 hvx
      cases hcc
      obtain ⟨rfl, rfl⟩ := Prod.mk.inj hyy
      have hk := klaw.key hkx
      have hgw1 := hgw.andThen hg1 (fun j hj => by cases hj; exact Or.inl (Nat.le_refl _))
      have c1 := HC.out w1 hgw1
      by_cases hcn : c ≤ now
      · have hd : decide (c ≤ now) = true := decide_eq_true hcn
        go_wp2_with (first
          | (at_delete; refine wpList_delete_ranges _ rfl _ _ 71 9 rfl 2 klaw Try.underlying71 _ mb w.heap.size n _ _ _ rfl hrg1 _ _ rfl hkx ?_; intro w2 cnt2 hrg2 hle hturn; try go_frame)
          | go_in)
        rw [strike_twice] at hrg2
        go_roundw
        case rel => exact ⟨_, cnt2, by rw [← onWay_del hap hk hlx hat (decide_eq_false (show ¬ now < c from by omega))]; exact hrg2, hgw1.andThen hturn.grown (fun j hj => by cases hj; exact Or.inr rfl)⟩
        case measure => rw [hrg2.left_eq, hrg.left_eq]; omega
      · have hd : decide (c ≤ now) = false := decide_eq_false hcn
        go_wp2
        go_roundw
        case rel => exact ⟨_, cnt1, by rw [← onWay_keep hap hk hlx hat (decide_eq_true (show now < c from by omega))]; exact hrg1, hgw1⟩
        case measure => rw [hrg1.left_eq, hrg.left_eq]; exact hlt
end Go.Proofs.Ytlngbpipmaaedaa.Ba
