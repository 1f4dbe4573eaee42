/-
  OctetNumbers holds: of all numbers the bytes, and of all bytes the number, are as said. No condition.
-/
import Derived.Test.YtijhobnnjepfaaaRows
import Derived.Test.YtijhobnnjepfaaaAlive
import Derived.Test.YtijhobnnjepfaaaFin
namespace Go.Proofs.Ytijhobnnjepfaaa.Nums
open Go.ChangeShapes Go.WideShapes Go.ChangeAt Go.RowKit
open Go.Proofs.Ytijhobnnjepfaaa.Kit
open Go.Proofs.Ytijhobnnjepfaaa.Oct
set_option linter.unusedVariables false

def gok (bs : List UInt8) : Bool := decide (1 ≤ bs.length ∧ bs.length ≤ 8)
def gval (bs : List UInt8) : Nat := if 1 ≤ bs.length ∧ bs.length ≤ 8 then num bs else 0
theorem get_all (A : Option Addr) (n c B : Nat) (bs : List UInt8) (w : World) (h : RdB w B A n c bs) :
    Calls Try.prog 10 #[.slice A n c] w fun e w' => e = .returned (.tuple #[.int .u64 (gval bs), .bool (gok bs)]) ∧ w = w' := by
  have hl := h.len
  have hr := h.room
  by_cases h1 : 1 ≤ n ∧ n ≤ 8
  · have e1 : gok bs = true := by simp [gok, hl]; exact h1
    have e2 : gval bs = num bs := by rw [gval, if_pos (by rw [hl]; exact h1)]
    rw [e1, e2]
    exact get_yes A n c B bs w h h1.1 h1.2
  · have e1 : gok bs = false := by simp [gok, hl]; omega
    have e2 : gval bs = 0 := by rw [gval, if_neg (by rw [hl]; exact h1)]
    rw [e1, e2]
    exact get_no A n c w (by omega) (by omega)
theorem rget_all (A : Option Addr) (n c B : Nat) (bs : List UInt8) (w : World) (h : RdB w B A n c bs) :
    Calls Try.prog 11 #[.slice A n c] w fun e w' => e = .returned (.tuple #[.int .u64 (gval bs), .bool (gok bs)]) ∧ w = w' := by
  have hl := h.len
  have hr := h.room
  by_cases h1 : 1 ≤ n ∧ n ≤ 8
  · have e1 : gok bs = true := by simp [gok, hl]; exact h1
    have e2 : gval bs = num bs := by rw [gval, if_pos (by rw [hl]; exact h1)]
    rw [e1, e2]
    exact rget_yes A n c B bs w h h1.1 h1.2
  · have e1 : gok bs = false := by simp [gok, hl]; omega
    have e2 : gval bs = 0 := by rw [gval, if_neg (by rw [hl]; exact h1)]
    rw [e1, e2]
    exact rget_no A n c w (by omega) (by omega)

theorem walk (n : Nat) (A : Option Addr) (len cap : Nat) (bs : List UInt8) (w : World) (hn : n < 18446744073709551616) (hb : RdB w w.heap.size A len cap bs) :
    Calls Try.prog 3 #[.int .u64 n, .slice A len cap] w fun e w' => e = .returned (.bool true) ∧ Below w.heap.size w w' := by
  have hrm := hb.room
  have hbd := nb_bd n
  by_cases h40 : len ≤ 40
  · go_enter Try.func3, Try.ntmps3
    go_wp2_with fail
    refine (alive_any _).mono ?_
    rintro e w1 ⟨rfl, hb1⟩
    have hbb := hb.on hb1
    go_wp2_with fail
    refine (get_all _ _ _ _ _ _ hbb).mono ?_
    rintro e w2 ⟨rfl, rfl⟩
    go_wp2_with fail
    refine (rget_all _ _ _ _ _ _ hbb).mono ?_
    rintro e w2 ⟨rfl, rfl⟩
    go_wp2_with fail
    refine (put_new n _ hn).mono ?_
    rintro e w2 ⟨A2, c2, rfl, hn2⟩
    have hB2 := below_seq hb1 hn2.bl
    have hr2 := hn2.rd
    clear hb1 hn2
    go_wp2_with fail
    refine (rput_new n _ hn).mono ?_
    rintro e w3 ⟨A3, c3, rfl, hn3⟩
    have hB3 := below_seq hB2 hn3.bl
    have hr3 := hr2.on hn3.bl
    have hr3' := hn3.rd
    clear hB2 hr2 hn3
    go_wp2_with fail
    refine (rsame_new _ _ _ _ _ _ _ _ _ hr3 hr3').mono ?_
    rintro e w4 ⟨rfl, hb4⟩
    rw [show decide (be 8 n = be 8 n) = true from by simp]
    have hB4 := below_seq hB3 hb4
    clear hB3 hr3 hr3' hb4
    go_wp2_with fail
    refine (short_new n _ hn).mono ?_
    rintro e w5 ⟨A5, c5, rfl, hn5⟩
    have hB5 := below_seq hB4 hn5.bl
    have hr5 := hn5.rd
    clear hB4 hn5
    go_wp2_with fail
    refine (rshort_new n _ hn).mono ?_
    rintro e w6 ⟨A6, c6, rfl, hn6⟩
    have hB6 := below_seq hB5 hn6.bl
    have hr6 := hr5.on hn6.bl
    have hr6' := hn6.rd
    clear hB5 hr5 hn6
    go_wp2_with fail
    refine (rsame_new _ _ _ _ _ _ _ _ _ hr6 hr6').mono ?_
    rintro e w7 ⟨rfl, hb7⟩
    rw [show decide (short n = short n) = true from by simp]
    have hB7 := below_seq hB6 hb7
    clear hB6 hr6 hr6' hb7
    go_wp2
    go_ret
    exact ⟨rfl, hB7⟩
  · go_enter Try.func3, Try.ntmps3
    go_wp2_with fail
    refine (alive_any _).mono ?_
    rintro e w1 ⟨rfl, hb1⟩
    go_wp2
    go_ret
    exact ⟨rfl, hb1⟩

theorem own : ownKnob Try.prog.godebug = none := by kernel_rfl
theorem laidOut : laidOutB Try.prog = true := by kernel_rfl

set_option maxRecDepth 100000 in
theorem lifted (os : Os) (started : os.Started) (H : Type) (enc : TypeId × Value → H) :
    ReturnsInHanded {} Try.checked os 3 .any (Rows.octetNumbersSpec.pre6 enc Try.prog Try.f3 Rows.octetNumbersRow.domain false) (Rows.octetNumbersSpec.post enc Try.prog Try.f3 false true false false) := by
  refine returnsInHanded_of_change (C := Try.checked) own started (by kernel_rfl) Try.func3
    (ChangeSpec.witness6 (enc := enc) (C := Try.checked) false ⟨#[], #[.int .u64 0, .slice none 0 0], []⟩ 8 (by kernel_rfl) (by kernel_rfl) (by kernel_rfl) (by kernel_rfl)) ?_
  intro W base args ds gs before hval0 hW hcnd _
  have hval : ∀ (j : Nat) t v, Try.f3.params[j]? = some t → args[j]? = some v → Value.okWide Try.prog W .any base t v := hval0
  have hW' := hW
  obtain ⟨p, q, hA0, hV, rfl, hfz, hnd⟩ := hW
  have hA : DataW.TrodAll enc Try.prog W 0 (fun _ => true) true Try.f3.params.toList args.toList ds p := hA0
  rw [Try.params3] at hA hval
  obtain ⟨v0, vs0, d0, ds0, p0, q0, hargs, rfl, rfl, h0, r0⟩ := trodAll_cons hA
  obtain ⟨v1, vs1, d1, ds1, p1, q1, rfl, rfl, rfl, h1, r1⟩ := trodAll_cons r0
  obtain ⟨rfl, rfl, rfl⟩ := trodAll_nil r1
  obtain rfl : args = #[v0, v1] := by cases args; simp_all
  obtain ⟨rfl, rfl⟩ := trodVars_none hV
  obtain ⟨a0, rfl, rfl, rfl, w0⟩ := open_int Try.underlying22 (hval 0 22 v0 rfl rfl) h0
  obtain ⟨n0, rfl, hn0⟩ := nat_u64 w0
  obtain ⟨a1, len1, cap1, rfl⟩ := okWide_slice Try.underlying23 (hval 1 23 v1 rfl rfl)
  have lt1 : ∀ x ∈ p1, x.block < W.heap.size := by obtain ⟨m, hm⟩ := h1; exact DataW.trod_lt m _ _ _ hm
  obtain ⟨bs1, hb1⟩ := rd_in Try.underlying23 Try.underlying5 (by kernel_rfl) rfl h1
  clear hA0 hval0
  refine (walk n0 a1 len1 cap1 bs1 W hn0 hb1).mono fun e W' ⟨he, bel⟩ => ?_
  subst he
  exact ⟨_, rfl, _, _, _, [], _, [], hW', trodAll_mk1 (shut_bool Try.underlying4 _), (trodAll_cons_mk (shut_int Try.underlying22 w0) (trodAll_cons_mk (Below.trod laidOut (by kernel_rfl) (of_decide_eq_true (by kernel_rfl)) h1 bel lt1) trodAll_mk0)), rfl, bel.frame _, fun h => by cases h⟩

theorem over : Rows.octetNumbersRow.holds Try.pinned (OpenSpec.ofChange Rows.octetNumbersSpec) :=
  OpenClaim.holds_of_wide 3 Try.f3 rfl rfl rfl rfl rfl rfl rfl ⟨rfl, rfl, rfl, rfl, rfl⟩ rfl rfl rfl rfl rfl (by kernel_rfl) Try.func3 (by kernel_rfl)
    (of_decide_eq_true (by kernel_rfl)) (by unfold Func.isWrapper; first | (rw [if_pos (by decide +kernel)]; kernel_rfl) | (rw [if_neg (by decide +kernel)]; exact ⟨rfl, rfl⟩))
    (fun os started H enc _ => lifted os started H enc)

theorem proved : Rows.OctetNumbersSaid := over
end Go.Proofs.Ytijhobnnjepfaaa.Nums
