/-
  cache: Near, the document's Near, New; items held one against the other; Index and Contains.
-/
import Derived.Test.YtpdbdlaoeidflaaChp
import Derived.Test.YtpdbdlaoeidflaaProg
import Derived.Shelf.SlicesQ.Load
import Derived.Shelf.SlicesE.Kit
import Derived.BigQuiet
namespace Go.Proofs.Ytpdbdlaoeidflaa.Ch
open Go.RowKit
open Go.Proofs.Ytpdbdlaoeidflaa.Kit
set_option linter.unusedVariables false

theorem isTime_any (n : Int) (w : World) : Calls Try.prog 17 #[.int .i64 n] w fun e w' => e = .returned (.bool (isT n)) ∧ w = w' := by
  by_cases h1 : 0 ≤ n
  · by_cases h2 : n ≤ 1099511627776
    · have e : isT n = true := by simp [isT]; omega
      rw [e]
      go_enter Try.func17, Try.ntmps17
      go_wp2
      go_ret
      exact ⟨rfl, rfl⟩
    · have e : isT n = false := by simp [isT]; omega
      rw [e]
      go_enter Try.func17, Try.ntmps17
      go_wp2
      go_ret
      exact ⟨rfl, rfl⟩
  · have e : isT n = false := by simp [isT]; omega
    rw [e]
    go_enter Try.func17, Try.ntmps17
    go_wp2
    go_ret
    exact ⟨rfl, rfl⟩
theorem near_any (a b : Int) (w : World) : Calls Try.prog 12 #[.int .i64 a, .int .i64 b] w fun e w' => e = .returned (.bool (nearS a b)) ∧ w = w' := by
  have ha := isTime_any a w
  have hb := isTime_any b w
  rcases ea : isT a with _ | _
  · have e : nearS a b = false := by simp [nearS, ea]
    rw [ea] at ha
    rw [e]
    go_enter Try.func12, Try.ntmps12
    go_wp2_with fail
    refine ha.mono ?_
    rintro e w1 ⟨rfl, rfl⟩
    go_wp2
    go_ret
    exact ⟨rfl, rfl⟩
  · rcases eb : isT b with _ | _
    · have e : nearS a b = false := by simp [nearS, ea, eb]
      rw [ea] at ha
      rw [eb] at hb
      rw [e]
      go_enter Try.func12, Try.ntmps12
      go_wp2_with fail
      refine ha.mono ?_
      rintro e w1 ⟨rfl, rfl⟩
      go_wp2_with fail
      refine hb.mono ?_
      rintro e w1 ⟨rfl, rfl⟩
      go_wp2
      go_ret
      exact ⟨rfl, rfl⟩
    · have ra : 0 ≤ a ∧ a ≤ 1099511627776 := by simpa [isT] using ea
      have rb : 0 ≤ b ∧ b ≤ 1099511627776 := by simpa [isT] using eb
      rw [ea] at ha
      rw [eb] at hb
      have hw : IntKind.i64.wrap (max a b - min a b) = max a b - min a b := by rw [IntKind.wrap_i64]; omega
      have hn : nearS a b = decide (max a b - min a b ≤ 30) := by
        rw [Bool.eq_iff_iff, nearS_iff, decide_eq_true_iff]
        omega
      obtain ⟨X, hX⟩ : ∃ x, x = nearS a b := ⟨_, rfl⟩
      rw [← hX] at hn ⊢
      clear ea eb ra rb hX
      go_enter Try.func12, Try.ntmps12
      go_wp2_with fail
      refine ha.mono ?_
      rintro e w1 ⟨rfl, rfl⟩
      go_wp2_with fail
      refine hb.mono ?_
      rintro e w1 ⟨rfl, rfl⟩
      go_wp2
      go_ret
      first
        | exact ⟨by rw [hn]; rfl, rfl⟩
        | exact ⟨by rw [hn, hw], rfl⟩
        | exact ⟨by rw [hn]; simp_all, rfl⟩
theorem near_no {a b : Int} (h : ¬ ((0 ≤ a ∧ a ≤ 1099511627776) ∧ (0 ≤ b ∧ b ≤ 1099511627776) ∧ a - b ≤ 30 ∧ b - a ≤ 30)) : nearS a b = false := Bool.eq_false_iff.2 fun h2 => h (nearS_iff.1 h2)
theorem refnear_any (a b : Int) (w : World) : Calls Try.prog 13 #[.int .i64 a, .int .i64 b] w fun e w' => e = .returned (.bool (nearS a b)) ∧ w = w' := by
  obtain ⟨X, hX⟩ : ∃ x, x = nearS a b := ⟨_, rfl⟩
  rw [← hX]
  have HX := Lib.hid hX
  clear hX
  by_cases h1 : 0 ≤ b
  · by_cases h2 : b ≤ 1099511627776
    · by_cases h3 : 0 ≤ a
      · by_cases h4 : a ≤ 1099511627776
        · have w1 : IntKind.i64.wrap (a - b) = a - b := by rw [IntKind.wrap_i64]; omega
          have w2 : IntKind.i64.wrap (b - a) = b - a := by rw [IntKind.wrap_i64]; omega
          by_cases h5 : a - b ≤ 30
          · by_cases h6 : b - a ≤ 30
            · go_enter Try.func13, Try.ntmps13
              go_wp2
              go_ret
              exact ⟨by rw [HX.out, nearS_iff.2 ⟨⟨h3, h4⟩, ⟨h1, h2⟩, h5, h6⟩]; rfl, rfl⟩
            · go_enter Try.func13, Try.ntmps13
              go_wp2
              go_ret
              exact ⟨by rw [HX.out, near_no (by omega)]; rfl, rfl⟩
          · go_enter Try.func13, Try.ntmps13
            go_wp2
            go_ret
            exact ⟨by rw [HX.out, near_no (by omega)]; rfl, rfl⟩
        · go_enter Try.func13, Try.ntmps13
          go_wp2
          go_ret
          exact ⟨by rw [HX.out, near_no (by omega)]; rfl, rfl⟩
      · go_enter Try.func13, Try.ntmps13
        go_wp2
        go_ret
        exact ⟨by rw [HX.out, near_no (by omega)]; rfl, rfl⟩
    · go_enter Try.func13, Try.ntmps13
      go_wp2
      go_ret
      exact ⟨by rw [HX.out, near_no (by omega)]; rfl, rfl⟩
  · go_enter Try.func13, Try.ntmps13
    go_wp2
    go_ret
    exact ⟨by rw [HX.out, near_no (by omega)]; rfl, rfl⟩
theorem eqIt (x y : It) (w : World) : (binOp .eql 43 (.agg x.arr) (.agg y.arr)).run Try.prog w = .ok (.bool (It.eq x y)) w := by
  have u3 := Try.underlying2
  have a3 := Try.isAgg2
  have z3 := Try.sizeOf2
  have u9 := Try.underlying9
  have a9 := Try.isAgg9
  have z9 := Try.sizeOf9
  have hS : Try.prog.underlying 43 = some (.struct (Try.prog.fieldsOf 43)) := by kernel_rfl
  have hp : Try.prog.stoodInHeld 43 = false := by kernel_rfl
  simp only [It.arr]
  rw [run_eql_struct, show (10000 : Nat) = 9999 + 1 from rfl, run_equalIn_agg w 9999 43 _ _ hS hp]
  simp only [Program.fieldsOf, Try.underlying43]
  go_simp
  simp only [It.eq]
  by_cases h1 : x.cl.toList = y.cl.toList <;> by_cases h2 : x.tm = y.tm <;> by_cases h3 : x.sq = y.sq <;> simp [h1, h2, h3]
theorem guardIt : GuardAt Try.prog 43 (fun x : It => .agg x.arr) := GuardAt.agg _ (by kernel_rfl)
/-- items' cells, in a row of a block -/
def RdI (w : World) (A : Option Addr) (n c : Nat) (l : List It) : Prop :=
  l.length = n ∧ n ≤ c ∧ (c ≤ 9223372036854775807 ∧ n ≤ 1000000) ∧ (0 < n → ∃ b, A = some ⟨b, 0, none⟩ ∧ b < w.heap.size ∧ ∀ j (hj : j < l.length), w.cell? ⟨b, j * 3, none⟩ = some (.string l[j].cl) ∧ w.cell? ⟨b, j * 3 + 1, none⟩ = some (.int .i64 l[j].tm) ∧ w.cell? ⟨b, j * 3 + 2, none⟩ = some (.int .i64 l[j].sq))
theorem RdI.on {w w' : World} {A : Option Addr} {n c : Nat} {l : List It} (h : RdI w A n c l) (hb : Below w.heap.size w w') : RdI w' A n c l :=
  ⟨h.1, h.2.1, h.2.2.1, fun hn => by
    obtain ⟨b, e, hlt, hc⟩ := h.2.2.2 hn
    refine ⟨b, e, Nat.lt_of_lt_of_le hlt hb.size, fun j hj => ?_⟩
    obtain ⟨h1, h2, h3⟩ := hc j hj
    exact ⟨(hb.cell (p := ⟨b, j * 3, none⟩) hlt).trans h1, (hb.cell (p := ⟨b, j * 3 + 1, none⟩) hlt).trans h2, (hb.cell (p := ⟨b, j * 3 + 2, none⟩) hlt).trans h3⟩⟩
theorem RdI.of_own {w : World} {base n c : Nat} {A : Option Addr} {e : TypeId} {l : List It} (h : w.ownsRow base e 3 (.slice A n c) n (cellsI l)) (hc : n ≤ 1000000) : RdI w A n c l := by
  have hl : l.length = n := by have := h.1; rw [cellsI_len] at this; omega
  have hc9 : c ≤ 9223372036854775807 := by
    rcases h.2 with ⟨h1, h2⟩ | ⟨g, cap, cur, hv, _, _, _, hm, _⟩
    · cases h1; omega
    · cases hv; unfold maxLen at hm; exact hm
  refine ⟨hl, ?_, ⟨hc9, hc⟩, fun hn => ?_⟩
  · rcases h.2 with ⟨h1, h2⟩ | ⟨g, cap, cur, hv, _, _, hnc, _⟩
    · cases h1; exact Nat.zero_le _
    · cases hv; exact hnc
  · rcases h.2 with ⟨h1, h2⟩ | ⟨g, cap, cur, hv, hg⟩
    · omega
    · cases hv
      refine ⟨g, rfl, (h.lt g rfl).2, fun j hj => ?_⟩
      have k : ∀ i, i < 3 → w.cell? ⟨g, j * 3 + i, none⟩ = l[j].cells[i]? := fun i hi => by
        rw [h.cellAt (j * 3 + i) (by omega), cellsI_get l j hj i hi]
      exact ⟨k 0 (by omega), k 1 (by omega), k 2 (by omega)⟩
theorem RdI.ne {A : Option Addr} {n c : Nat} {l : List It} {w : World} (h : RdI w A n c l) (k : Nat) (hk : k < n) : ∃ y, l[k]? = some y := ⟨l[k]'(by rw [h.1]; exact hk), List.getElem?_eq_getElem _⟩
theorem RdI.get {A : Option Addr} {n c : Nat} {l : List It} {w : World} (h : RdI w A n c l) (k : Nat) (hk : k < n) : ∃ b y, A = some ⟨b, 0, none⟩ ∧ b < w.heap.size ∧ l[k]? = some y ∧ w.cell? ⟨b, k * 3, none⟩ = some (.string y.cl) ∧ w.cell? ⟨b, k * 3 + 1, none⟩ = some (.int .i64 y.tm) ∧ w.cell? ⟨b, k * 3 + 2, none⟩ = some (.int .i64 y.sq) := by
  obtain ⟨b, e, hlt, hc⟩ := h.2.2.2 (by omega)
  exact ⟨b, l[k]'(by rw [h.1]; exact hk), e, hlt, List.getElem?_eq_getElem _, hc k (by rw [h.1]; exact hk)⟩
theorem below_dn {B : Nat} {a w : World} (h : Below B a w) (q : Nat) : Below B a (w.drewN q) := ⟨h.os, h.tape, h.output, h.size, h.block⟩
theorem any_upto {p : It → Bool} {l : List It} (h : ∀ (j : Nat) (y : It), l[j]? = some y → p y = false) : l.any p = false := by
  rw [List.any_eq_false]
  intro y hy
  obtain ⟨j, hj, rfl⟩ := List.getElem_of_mem hy
  rw [h j _ (List.getElem?_eq_getElem hj)]
  simp
theorem any_at {p : It → Bool} {l : List It} {k : Nat} {y : It} (h : l[k]? = some y) (hp : p y = true) : l.any p = true := List.any_eq_true.2 ⟨y, List.mem_of_getElem? h, hp⟩
set_option maxRecDepth 100000 in
theorem index_any {w : World} {A : Option Addr} {n c : Nat} {l : List It} (h : RdI w A n c l) (x : It) :
    Calls Try.prog 18 #[.slice A n c, .agg x.arr] w fun e w' => (∃ k : Int, (0 ≤ k ↔ l.any (fun y => It.eq x y) = true) ∧ e = .returned (.int .i64 k)) ∧ Below w.heap.size w w' := by
  have hln := h.1
  have hc6 := h.2.2.1
  have hnc := h.2.1
  have HH := Lib.hid h
  have hbx : Below w.heap.size w (w.alloc (.cells x.arr 43)) := below_of_new _ _
  have hcell : (w.alloc (.cells x.arr 43)).heap[w.heap.size]? = some (.cells x.arr 43 (0, 0)) := heap_alloc_new w _
  have HB := Lib.hid hbx
  have HC := Lib.hid hcell
  clear h hbx hcell
  go_enter Try.func18, Try.ntmps18
  go_wp2
  go_loopw [5, 8] (fun _ v wr => ∃ k : Nat, k ≤ n ∧ v = .int .i64 k ∧ Below w.heap.size w wr ∧ wr.heap[w.heap.size]? = some (.cells x.arr 43 (0, 0)) ∧ ∀ (j : Nat) (y : It), j < k → l[j]? = some y → It.eq x y = false) (fun _ v _ => n - (intOf v).toNat)
  case atStart => exact ⟨0, by omega, rfl, HB.out, HC.out, fun j y h => absurd h (by omega)⟩
  case round =>
    obtain ⟨k, hk, rfl, hbw, hx, hno⟩ := hrel
    have HBW := Lib.hid hbw
    have HNO := Lib.hid hno
    have HX := Lib.hid hx
    clear hbw hno hx
    by_cases hlt : k < n
    · obtain ⟨b, y, rfl, hb, hly, c0, c1, c2⟩ := (HH.out.on HBW.out).get k hlt
      have e0 : wr.cell? ⟨w.heap.size, 0, none⟩ = some (.string x.cl) := by rw [cell_of_row _ _ _ _ _ _ HX.out]; rfl
      have e1 : wr.cell? ⟨w.heap.size, 1, none⟩ = some (.int .i64 x.tm) := by rw [cell_of_row _ _ _ _ _ _ HX.out]; rfl
      have e2 : wr.cell? ⟨w.heap.size, 2, none⟩ = some (.int .i64 x.sq) := by rw [cell_of_row _ _ _ _ _ _ HX.out]; rfl
      have heq := fun w => eqIt x y w
      have hgd := fun op a b w => guardIt op a b x y w
      simp only [It.arr] at heq hgd
      have HLY := Lib.hid hly
      clear hb hly
      rcases hq : It.eq x y with _ | _
      · rw [hq] at heq
        have HQ := Lib.hid hq
        clear hq
        go_wp2_with fail
        go_quiet (fail)
        go_wp2
        go_roundw
        case rel =>
          refine ⟨k + 1, by omega, by go_num, below_dn HBW.out _, HX.out, fun j z hj hz => ?_⟩
          rcases (by omega : j < k ∨ j = k) with h | rfl
          · exact HNO.out j z h hz
          · obtain rfl : y = z := Option.some.inj (HLY.out.symm.trans hz)
            exact HQ.out
        case measure => simp [intOf]; omega
      · rw [hq] at heq
        have HQ := Lib.hid hq
        clear hq
        go_wp2_with fail
        go_quiet (fail)
        go_wp2
        go_ret
        exact ⟨⟨k, ⟨fun _ => any_at (p := fun y => It.eq x y) HLY.out HQ.out, fun _ => by omega⟩, rfl⟩, below_dn HBW.out _⟩
    · go_wp2
      go_ret
      exact ⟨⟨-1, ⟨fun h => absurd h (by omega), fun h => absurd (any_upto (p := fun y => It.eq x y) (l := l) (fun j y hj => HNO.out j y (by have := (List.getElem?_eq_some_iff.1 hj).1; omega) hj)) (by rw [h]; simp)⟩, rfl⟩, HBW.out⟩
set_option maxRecDepth 100000 in
theorem contains_any {w : World} {A : Option Addr} {n c : Nat} {l : List It} (h : RdI w A n c l) (x : It) :
    Calls Try.prog 14 #[.slice A n c, .agg x.arr] w fun e w' => e = .returned (.bool (l.any (fun y => It.eq x y))) ∧ Below w.heap.size w w' := by
  have hb := below_of_new w (.cells x.arr 43)
  have hi := index_any (h.on hb) x
  have HB := Lib.hid hb
  obtain ⟨V, hV⟩ : ∃ z, z = l.any (fun y => It.eq x y) := ⟨_, rfl⟩
  rw [← hV] at hi ⊢
  have e0 : (w.alloc (.cells x.arr 43)).cell? ⟨w.heap.size, 0, none⟩ = some (.string x.cl) := by rw [cell_of_row _ _ _ _ _ _ (heap_alloc_new w _)]; rfl
  have e1 : (w.alloc (.cells x.arr 43)).cell? ⟨w.heap.size, 1, none⟩ = some (.int .i64 x.tm) := by rw [cell_of_row _ _ _ _ _ _ (heap_alloc_new w _)]; rfl
  have e2 : (w.alloc (.cells x.arr 43)).cell? ⟨w.heap.size, 2, none⟩ = some (.int .i64 x.sq) := by rw [cell_of_row _ _ _ _ _ _ (heap_alloc_new w _)]; rfl
  clear h hb hV
  go_enter Try.func14, Try.ntmps14
  go_wp2_with fail
  refine hi.mono ?_
  rintro e w1 ⟨⟨k, hk, rfl⟩, hb1⟩
  have HB1 := Lib.hid (below_seq HB.out hb1)
  clear hb1
  rcases hv : V with _ | _
  · rw [hv] at hk
    have hd : ¬ 0 ≤ k := fun h => by simpa using hk.1 h
    go_wp2
    go_ret
    exact ⟨by first | rfl | simp_all, HB1.out⟩
  · rw [hv] at hk
    have hd : 0 ≤ k := hk.2 rfl
    go_wp2
    go_ret
    exact ⟨by first | rfl | simp_all, HB1.out⟩
theorem old_wrap {now tm : Int} (h1 : 0 ≤ now ∧ now ≤ 1099511627776) (h2 : 0 ≤ tm ∧ tm ≤ 1099511627776) : IntKind.i64.wrap (now - tm) = now - tm := by rw [IntKind.wrap_i64]; omega
theorem clos_any {w : World} {p : Nat} {now : Int} (x : It) (hp : w.cell? ⟨p, 0, none⟩ = some (.int .i64 now)) (h1 : 0 ≤ now ∧ now ≤ 1099511627776) (h2 : 0 ≤ x.tm ∧ x.tm ≤ 1099511627776) :
    Calls Try.prog 16 #[.agg x.arr, .pointer (some ⟨p, 0, none⟩)] w fun e w' => e = .returned (.bool (old now x)) ∧ Below w.heap.size w w' := by
  have hb := below_of_new w (.cells x.arr 43)
  have hlt := block_lt_of_cell hp
  have hw := old_wrap h1 h2
  have e1 : (w.alloc (.cells x.arr 43)).cell? ⟨w.heap.size, 1, none⟩ = some (.int .i64 x.tm) := by rw [cell_of_row _ _ _ _ _ _ (heap_alloc_new w _)]; rfl
  have e2 : (w.alloc (.cells x.arr 43)).cell? ⟨p, 0, none⟩ = some (.int .i64 now) := (World.cell?_alloc_lt w _ ⟨p, 0, none⟩ hlt).trans hp
  obtain ⟨V, hV⟩ : ∃ z, z = old now x := ⟨_, rfl⟩
  rw [← hV]
  have hV' : V = decide (now - x.tm > 30) := hV
  clear hp hV h1 h2
  by_cases hd : now - x.tm > 30
  · rw [decide_eq_true hd] at hV'
    subst hV'
    go_enter Try.func16, Try.ntmps16
    go_wp2
    go_ret
    exact ⟨by first | rfl | simp_all, hb⟩
  · rw [decide_eq_false hd] at hV'
    subst hV'
    go_enter Try.func16, Try.ntmps16
    go_wp2
    go_ret
    exact ⟨by first | rfl | simp_all, hb⟩
set_option maxRecDepth 100000 in
theorem idxf_any {w : World} {p : Nat} {A : Option Addr} {n c : Nat} {l : List It} {now : Int} (h : RdI w A n c l) (hp : w.cell? ⟨p, 0, none⟩ = some (.int .i64 now)) (h1 : 0 ≤ now ∧ now ≤ 1099511627776) (h2 : okT l) :
    Calls Try.prog 19 #[.slice A n c, .func (Fn.func 16) #[] #[.pointer (some ⟨p, 0, none⟩)]] w fun e w' => Below w.heap.size w w' ∧
      ((∃ (k : Nat) (y : It), k < n ∧ l[k]? = some y ∧ old now y = true ∧ (∀ (j : Nat) (y : It), j < k → l[j]? = some y → old now y = false) ∧ e = .returned (.int .i64 (k : Int))) ∨ ((∀ (j : Nat) (y : It), l[j]? = some y → old now y = false) ∧ e = .returned (.int .i64 (-1)))) := by
  have hln := h.1
  have hc6 := h.2.2.1
  have hnc := h.2.1
  have hlp := block_lt_of_cell hp
  have HH := Lib.hid h
  have HP := Lib.hid hp
  have HO := Lib.hid h2
  clear h hp h2
  go_enter Try.func19, Try.ntmps19
  go_wp2
  go_loopw [5, 8] (fun _ v wr => ∃ k : Nat, k ≤ n ∧ v = .int .i64 k ∧ Below w.heap.size w wr ∧ ∀ (j : Nat) (y : It), j < k → l[j]? = some y → old now y = false) (fun _ v _ => n - (intOf v).toNat)
  case atStart => exact ⟨0, by omega, rfl, Below.refl _ _, fun j y h => absurd h (by omega)⟩
  case round =>
    obtain ⟨k, hk, rfl, hbw, hno⟩ := hrel
    have HBW := Lib.hid hbw
    have HNO := Lib.hid hno
    clear hbw hno
    by_cases hlt : k < n
    · obtain ⟨b, y, rfl, hb, hly, c0, c1, c2⟩ := (HH.out.on HBW.out).get k hlt
      have hcl := clos_any y ((HBW.out.cell (p := ⟨p, 0, none⟩) hlp).trans HP.out) h1 (HO.out y (List.mem_of_getElem? hly))
      simp only [It.arr] at hcl
      have HLY := Lib.hid hly
      clear hb hly
      rcases hq : old now y with _ | _
      · rw [hq] at hcl
        have HQ := Lib.hid hq
        clear hq
        go_wp2_with fail
        refine hcl.mono ?_
        rintro e w1 ⟨rfl, hb1⟩
        have HB1 := Lib.hid (below_seq HBW.out hb1)
        clear hb1
        go_wp2
        go_roundw
        case rel =>
          refine ⟨k + 1, by omega, by go_num, HB1.out, fun j z hj hz => ?_⟩
          rcases (by omega : j < k ∨ j = k) with h | rfl
          · exact HNO.out j z h hz
          · obtain rfl : y = z := Option.some.inj (HLY.out.symm.trans hz)
            exact HQ.out
        case measure => simp [intOf]; omega
      · rw [hq] at hcl
        have HQ := Lib.hid hq
        clear hq
        go_wp2_with fail
        refine hcl.mono ?_
        rintro e w1 ⟨rfl, hb1⟩
        have HB1 := Lib.hid (below_seq HBW.out hb1)
        clear hb1
        go_wp2
        go_ret
        exact ⟨HB1.out, .inl ⟨k, y, hlt, HLY.out, HQ.out, HNO.out, rfl⟩⟩
    · go_wp2
      go_ret
      exact ⟨HBW.out, .inr ⟨fun j y hj => HNO.out j y (by have := (List.getElem?_eq_some_iff.1 hj).1; omega) hj, rfl⟩⟩
theorem new_any (m : Int) (w : World) : Calls Try.prog 7 #[.int .i64 m] w fun e w' => e = .returned (.pointer (some ⟨w.heap.size, 0, none⟩)) ∧ w' = w.alloc (.cells #[.int .i64 (most m), .slice none 0 0] 41) := by
  have hm : (most m : Int) = min (max m 1) 64 := by unfold most; omega
  rw [hm]
  go_enter Try.func7, Try.ntmps7
  go_wp2
  go_ret
  exact ⟨rfl, rfl⟩
end Go.Proofs.Ytpdbdlaoeidflaa.Ch
