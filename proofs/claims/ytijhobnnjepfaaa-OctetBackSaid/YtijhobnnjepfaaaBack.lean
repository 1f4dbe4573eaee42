/-
  OctetBack holds: the eight bytes of a number, and its fewest bytes, have it, whatever the number. No condition.
-/
import Derived.Test.YtijhobnnjepfaaaRows
import Derived.Test.YtijhobnnjepfaaaAlive
import Derived.Test.YtijhobnnjepfaaaKit2
import Derived.Test.YtijhobnnjepfaaaFin
namespace Go.Proofs.Ytijhobnnjepfaaa.Back
open Go.ChangeShapes Go.WideShapes Go.ChangeAt Go.RowKit
open Go.Proofs.Ytijhobnnjepfaaa.Kit
open Go.Proofs.Ytijhobnnjepfaaa.Oct
set_option linter.unusedVariables false

theorem walk (n : Nat) (w : World) (hn : n < 18446744073709551616) :
    Calls Try.prog 5 #[.int .u64 n] w fun e w' => e = .returned (.bool true) ∧ Below w.heap.size w w' := by
  have hbd := nb_bd n
  go_enter Try.func5, Try.ntmps5
  go_wp2_with fail
  refine (alive_any _).mono ?_
  rintro e w1 ⟨rfl, hb1⟩
  go_wp2_with fail
  refine (put_new n _ hn).mono ?_
  rintro e w2 ⟨A2, c2, rfl, hn2⟩
  have hB2 := below_seq hb1 hn2.bl
  obtain ⟨b2, o2, rfl⟩ := hn2.rd.addr (by omega)
  have hrm := hn2.rd.room
  go_wp2_with fail
  refine (short_new n _ hn).mono ?_
  rintro e w3 ⟨A3, c3, rfl, hn3⟩
  have hB3 := below_seq hB2 hn3.bl
  have ha := hn2.rd.on hn3.bl
  have hb := hn3.rd
  obtain ⟨b3, o3, rfl⟩ := hb.addr (by omega)
  have hrm3 := hb.room
  clear hb1 hB2 hn2 hn3
  go_wp2_with fail
  refine (get_yes _ _ _ _ _ _ ha (by omega) (by omega)).mono ?_
  rintro e w4 ⟨rfl, rfl⟩
  rw [show num (be 8 n) = n from by rw [num_be]; exact Nat.mod_eq_of_lt hn]
  go_wp2_with fail
  refine (get_yes _ _ _ _ _ _ hb (by omega) (by omega)).mono ?_
  rintro e w4 ⟨rfl, rfl⟩
  rw [num_short hn]
  have hcut := ha.cut (k := 8 - nb n) (by omega) (by omega)
  rw [be_short] at hcut
  have t1 : decide ((1 : Int) ≤ (nb n : Int)) = true := by simp; omega
  by_cases h1 : nb n = 1
  · have t2 : ((nb n : Int) == 1) = true := by rw [beq_iff_eq]; omega
    have H1 := Lib.hid h1
    clear h1
    go_wp2_with fail
    refine (equal_any _ _ _ _ _ _ _ _ _ _ _ hcut hb).mono ?_
    rintro e w5 ⟨rfl, rfl⟩
    rw [show decide (short n = short n) = true from by simp]
    go_wp2
    go_ret
    exact ⟨rfl, hB3⟩
  · have t2 : ((nb n : Int) == 1) = false := by rw [beq_eq_false_iff_ne]; omega
    obtain ⟨hd, tl, hs, hd0⟩ := short_head hn h1
    have hcell := hb.cell0 (j := 0) (by rw [hs]; simp)
    simp only [hs, List.getElem_cons_zero, Nat.add_zero] at hcell
    have t3 : ((hd.toNat : Int) != 0) = true := by simp; omega
    have HS := Lib.hid hs
    clear hs
    go_wp2_with fail
    refine (equal_any _ _ _ _ _ _ _ _ _ _ _ hcut hb).mono ?_
    rintro e w5 ⟨rfl, rfl⟩
    rw [show decide (short n = short n) = true from by simp]
    go_wp2
    go_ret
    exact ⟨rfl, hB3⟩
theorem own : ownKnob Try.prog.godebug = none := by kernel_rfl
theorem laidOut : laidOutB Try.prog = true := by kernel_rfl

set_option maxRecDepth 100000 in
theorem lifted (os : Os) (started : os.Started) (H : Type) (enc : TypeId × Value → H) :
    ReturnsInHanded {} Try.checked os 5 .any (Rows.octetBackSpec.pre6 enc Try.prog Try.f5 Rows.octetBackRow.domain false) (Rows.octetBackSpec.post enc Try.prog Try.f5 false true false false) := by
  refine returnsInHanded_of_change (C := Try.checked) own started (by kernel_rfl) Try.func5
    (ChangeSpec.witness6 (enc := enc) (C := Try.checked) false ⟨#[], #[.int .u64 0], []⟩ 8 (by kernel_rfl) (by kernel_rfl) (by kernel_rfl) (by kernel_rfl)) ?_
  intro W base args ds gs before hval0 hW hcnd _
  have hval : ∀ (j : Nat) t v, Try.f5.params[j]? = some t → args[j]? = some v → Value.okWide Try.prog W .any base t v := hval0
  have hW' := hW
  obtain ⟨p, q, hA0, hV, rfl, hfz, hnd⟩ := hW
  have hA : DataW.TrodAll enc Try.prog W 0 (fun _ => true) true Try.f5.params.toList args.toList ds p := hA0
  rw [Try.params5] at hA hval
  obtain ⟨v0, vs0, d0, ds0, p0, q0, hargs, rfl, rfl, h0, r0⟩ := trodAll_cons hA
  obtain ⟨rfl, rfl, rfl⟩ := trodAll_nil r0
  obtain rfl : args = #[v0] := by cases args; simp_all
  obtain ⟨rfl, rfl⟩ := trodVars_none hV
  obtain ⟨a0, rfl, rfl, rfl, w0⟩ := open_int Try.underlying22 (hval 0 22 v0 rfl rfl) h0
  obtain ⟨n0, rfl, hn0⟩ := nat_u64 w0
  clear hA0 hval0
  refine (walk n0 W hn0).mono fun e W' ⟨he, bel⟩ => ?_
  subst he
  exact ⟨_, rfl, _, _, _, [], _, [], hW', trodAll_mk1 (shut_bool Try.underlying4 _), (trodAll_cons_mk (shut_int Try.underlying22 w0) trodAll_mk0), rfl, bel.frame _, fun h => by cases h⟩

theorem over : Rows.octetBackRow.holds Try.pinned (OpenSpec.ofChange Rows.octetBackSpec) :=
  OpenClaim.holds_of_wide 5 Try.f5 rfl rfl rfl rfl rfl rfl rfl ⟨rfl, rfl, rfl, rfl, rfl⟩ rfl rfl rfl rfl rfl (by kernel_rfl) Try.func5 (by kernel_rfl)
    (of_decide_eq_true (by kernel_rfl)) (by unfold Func.isWrapper; first | (rw [if_pos (by decide +kernel)]; kernel_rfl) | (rw [if_neg (by decide +kernel)]; exact ⟨rfl, rfl⟩))
    (fun os started H enc _ => lifted os started H enc)

theorem proved : Rows.OctetBackSaid := over
end Go.Proofs.Ytijhobnnjepfaaa.Back
