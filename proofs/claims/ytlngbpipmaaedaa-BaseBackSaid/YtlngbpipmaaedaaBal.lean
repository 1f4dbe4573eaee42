/-
  base's Book: NewBook, Find, Set.
-/
import Derived.Test.YtlngbpipmaaedaaBak
namespace Go.Proofs.Ytlngbpipmaaedaa.Ba
open Go.RowKit
open Go.Proofs.Ytlngbpipmaaedaa.Kit
open Go.Maps
set_option linter.unusedVariables false

/-- a book at kb that may be turned, rows R beside it; all that turned since w0 lies behind it -/
def Bk (w0 w : World) (kb n : Nat) (D : DM) (R : Nat → Prop) : Prop :=
  ∃ mb, BkAt w kb mb n D ∧ w0.heap.size ≤ mb ∧ (∀ b, R b → b ≠ mb ∧ b < w.heap.size) ∧ Below w0.heap.size w0 w
theorem Bk.bel {w0 w : World} {kb n : Nat} {D : DM} {R : Nat → Prop} (h : Bk w0 w kb n D R) : Below w0.heap.size w0 w := by
  obtain ⟨_, _, _, _, h⟩ := h
  exact h
theorem Bk.below {w0 w w' : World} {kb n : Nat} {D : DM} {R : Nat → Prop} (h : Bk w0 w kb n D R) (hb : Below w.heap.size w w') : Bk w0 w' kb n D R ∧ Rws R w w' := by
  obtain ⟨mb, h1, h2, h3, h4⟩ := h
  exact ⟨⟨mb, h1.below hb, h2, fun b hR => ⟨(h3 b hR).1, Nat.lt_of_lt_of_le (h3 b hR).2 hb.size⟩, below_seq h4 hb⟩, hb.size, fun b hR => hb.block b (h3 b hR).2⟩
theorem Bk.add {w0 w w' : World} {kb n : Nat} {D : DM} {R R' : Nat → Prop} (h : Bk w0 w kb n D R) (hb : Below w.heap.size w w') (hR : ∀ b, R' b → R b ∨ (w.heap.size ≤ b ∧ b < w'.heap.size)) : Bk w0 w' kb n D R' := by
  obtain ⟨mb, h1, h2, h3, h4⟩ := h
  refine ⟨mb, h1.below hb, h2, fun b hx => ?_, below_seq h4 hb⟩
  rcases hR b hx with hx | hx
  · exact ⟨(h3 b hx).1, Nat.lt_of_lt_of_le (h3 b hx).2 hb.size⟩
  · exact ⟨by have := h1.own.lt; omega, hx.2⟩
theorem Bk.turn {w0 w w' : World} {kb mb n n' : Nat} {D D' : DM} {R : Nat → Prop} (h1 : BkAt w kb mb n D) (h2 : w0.heap.size ≤ mb) (h3 : ∀ b, R b → b ≠ mb ∧ b < w.heap.size) (h4 : Below w0.heap.size w0 w) (hg : w.grownBy w' (some mb)) (ho : w'.ownsMap Try.prog 9 Pe mb n' D') : Bk w0 w' kb n' D' R ∧ Rws R w w' :=
  ⟨⟨mb, h1.turn hg ho, h2, fun b hR => ⟨(h3 b hR).1, Nat.lt_of_lt_of_le (h3 b hR).2 hg.size⟩, h4.grown hg h4.size (fun g e => by cases e; exact h2)⟩, hg.size, fun b hR => hg.block b (h3 b hR).2 (fun e => (h3 b hR).1 (Option.some.inj e))⟩
theorem newbook_any (w : World) : Calls Try.prog 17 #[] w fun e w' => ∃ kb, e = .returned (.pointer (some ⟨kb, 0, none⟩)) ∧ w.heap.size ≤ kb ∧ Bk w w' kb 0 (.map []) (fun _ => False) := by
  have hmm := @run_makeMap Try.prog
  obtain ⟨W1, hW1⟩ : ∃ q, q = w.alloc (.map #[] 0) := ⟨_, rfl⟩
  have hb1 : Below w.heap.size w W1 := by rw [hW1]; exact below_of_new _ _
  have hs1 : W1.heap.size = w.heap.size + 1 := by rw [hW1]; simp
  have ho : W1.ownsMap Try.prog 9 Pe w.heap.size 0 (.map []) := by rw [hW1]; exact World.ownsMap_made w _ _ _
  have hb2 := below_of_new W1 (.cells #[.map (some w.heap.size)] 73)
  have HK := Lib.hid (show w.heap.size ≤ W1.heap.size from by omega)
  have HR := Lib.hid (show Bk w (W1.alloc (.cells #[.map (some w.heap.size)] 73)) W1.heap.size 0 (.map []) (fun _ => False) from
    ⟨w.heap.size, ⟨heap_alloc_new _ _, ho.alloc _⟩, Nat.le_refl _, fun b hb => hb.elim, below_seq hb1 hb2⟩)
  have HW := Lib.hid hW1.symm
  clear hW1 hb1 hs1 ho hb2
  go_enter Try.func17, Try.ntmps17
  go_wp2_with (rw [HW.out])
  go_ret
  exact ⟨_, rfl, HK.out, HR.out⟩
def keyL (s : ByteArray) : Lit := .string s.data.toList
theorem key_of {s : ByteArray} (h : s.size ≤ 1000000) : keyOf Try.prog 9 (.string s) = some (keyL s) := Go.WideMaps.keyOf_string_mk Try.underlying9 (by unfold maxLen; omega)
def z0 : DM := .lit (.int .i64 0)
/-- until when somebody can be met; can they? -/
def findD (now : Int) (s : ByteArray) (D : DM) : Int × Bool := if Maps.has D (keyL s) = true ∧ now < till (D.atKey (keyL s) z0) then (till (D.atKey (keyL s) z0), true) else (0, false)
set_option maxRecDepth 100000 in
theorem find_any {w : World} {kb mb n : Nat} {D : DM} (h : BkAt w kb mb n D) (now : Int) {s : ByteArray} (hs : s.size ≤ 1000000) :
    Calls Try.prog 20 #[.pointer (some ⟨kb, 0, none⟩), .int .i64 now, .string s] w fun e w' => e = .returned (.tuple #[.int .i64 (findD now s D).1, .bool (findD now s D).2]) ∧ w = w' := by
  have hown := h.own
  have hkey := key_of hs
  have c0 : w.cell? ⟨kb, 0, none⟩ = some (.map (some mb)) := by rw [cell_of_row _ _ _ _ _ _ h.row]; rfl
  obtain ⟨G, hG⟩ : ∃ z, z = findD now s D := ⟨_, rfl⟩
  have HG := Lib.hid hG
  rw [← hG]
  clear hG
  go_enter Try.func20, Try.ntmps20
  go_wp2_with (first
    | (at_lookup; refine wpList_lookup_own_ok_int _ rfl _ _ 71 rfl 9 2 .i64 klaw Try.underlying71 Try.underlying2 (zeroE _) mb n D rfl hown _ _ rfl hkey ?_; intro c hat hwc; apply Hid.out)
    | go_in)
  refine Lib.hid ?_
  have e := HG.out
  unfold findD z0 at e
  rw [hat] at e
  rcases hh : Maps.has D (keyL s) with _ | _
  · rw [hh, if_neg (by simp)] at e
    subst e
    go_wp2
    go_ret2
    exact ⟨rfl, rfl⟩
  · by_cases hc : c ≤ now
    · have hd : decide (c ≤ now) = true := decide_eq_true hc
      rw [hh, if_neg (by rintro ⟨_, q⟩; have q2 : now < c := q; omega)] at e
      subst e
      go_wp2
      go_ret2
      exact ⟨rfl, rfl⟩
    · have hd : decide (c ≤ now) = false := decide_eq_false hc
      rw [hh, if_pos ⟨rfl, show now < c from by omega⟩] at e
      subst e
      go_wp2
      go_ret2
      exact ⟨rfl, rfl⟩
/-- all behind what was told, and the error's number -/
def setD (now : Int) (s : ByteArray) (t : Int) (es : Es) : DM × Int :=
  if Nam.rightS s = false then (.map es, 6)
  else if t ≤ now then ((DataW.map (gone now es)).del (keyL s), 12)
  else if Maps.has (.map (gone now es)) (keyL s) = false ∧ 32 ≤ (gone now es).length then (.map (gone now es), 8)
  else ((DataW.map (gone now es)).put (keyL s) (.lit (.int .i64 t)), 0)
set_option maxRecDepth 100000 in
set_option maxHeartbeats 2000000 in
theorem set_any {w0 w : World} {kb n : Nat} {es : Es} {R : Nat → Prop} (h : Bk w0 w kb n (.map es) R) (hn : n ≤ 100000) (now t : Int) (ht : -9223372036854775808 ≤ t ∧ t ≤ 9223372036854775807) {s : ByteArray} (hs : s.size ≤ 1000000) :
    Calls Try.prog 19 #[.pointer (some ⟨kb, 0, none⟩), .int .i64 now, .string s, .int .i64 t] w fun e w' => e = .returned (.int .i64 (setD now s t es).2) ∧ Bk w0 w' kb (n + 1) (setD now s t es).1 R ∧ Rws R w w' := by
  have h1 := Nam.right_any s (by omega) w
  have hkey := key_of hs
  obtain ⟨G, hG⟩ : ∃ z, z = setD now s t es := ⟨_, rfl⟩
  have HG := Lib.hid hG
  rw [← hG]
  have HH := Lib.hid h
  have HKEY := Lib.hid hkey
  have htw : (Lit.int .i64 t).wf = true := by simp [Lit.wf, IntKind.min, IntKind.max, IntKind.signed, IntKind.bits]; omega
  have HTW := Lib.hid htw
  clear hG h hkey htw
  rcases hr : Nam.rightS s with _ | _
  · have e := HG.out
    unfold setD at e
    rw [if_pos hr] at e
    subst e
    rw [hr] at h1
    go_enter Try.func19, Try.ntmps19
    go_wp2_with fail
    refine h1.mono ?_
    rintro e w2 ⟨rfl, hb2⟩
    obtain ⟨⟨mb, x1, x2, x3, x4⟩, hrw⟩ := HH.out.below hb2
    have HF := Lib.hid (And.intro (show Bk w0 w2 kb (n + 1) (.map es) R from ⟨mb, ⟨x1.row, x1.own.mono (by omega)⟩, x2, x3, x4⟩) hrw)
    clear x1 x2 x3 x4 hrw
    go_wp2
    go_ret
    exact ⟨rfl, HF.out⟩
  · rw [hr] at h1
    obtain ⟨gs, hgs⟩ : ∃ z, z = gone now es := ⟨_, rfl⟩
    have e := HG.out
    unfold setD at e
    rw [if_neg (by rw [hr]; decide), ← hgs] at e
    have HE := Lib.hid e
    have HGS := Lib.hid hgs
    clear hgs
    clear e
    by_cases htn : t ≤ now
    · have hd : decide (t ≤ now) = true := decide_eq_true htn
      have e := HE.out
      rw [if_pos htn] at e
      subst e
      go_enter Try.func19, Try.ntmps19
      go_wp2_with fail
      refine h1.mono ?_
      rintro e w2 ⟨rfl, hb2⟩
      obtain ⟨⟨mb, x1, x2, x3, x4⟩, hrw⟩ := HH.out.below hb2
      have hf := forget_any x1 now
      rw [← HGS.out] at hf
      have HX := Lib.hid (And.intro x1 (And.intro x2 (And.intro x3 x4)))
      have HRW := Lib.hid hrw
      clear x1 x2 x3 x4 hrw
      go_wp2_with fail
      refine hf.mono ?_
      rintro e w3 ⟨rfl, y1, y2⟩
      have hown := y1.own
      have c0 : w3.cell? ⟨kb, 0, none⟩ = some (.map (some mb)) := by rw [cell_of_row _ _ _ _ _ _ y1.row]; rfl
      have HY := Lib.hid (And.intro y1 y2)
      clear y1 y2 hf
      go_wp2_with (first
        | (at_delete; refine wpList_delete_own _ rfl _ _ 71 9 rfl 2 klaw Try.underlying71 _ mb n _ rfl hown _ _ rfl HKEY.out ?_; intro w4 hown4 hturn4)
        | go_in)
      have hg4 := HY.out.2.andThen hturn4.grown (fun j hj => by cases hj; exact Or.inr rfl)
      have hfin := Bk.turn HX.out.1 HX.out.2.1 HX.out.2.2.1 HX.out.2.2.2 hg4 (hown4.mono (Nat.le_succ n))
      have HF := Lib.hid hfin
      clear hfin hg4 hown4 hturn4
      first | go_ret | (go_wp2; go_ret)
      exact ⟨rfl, HF.out.1, Nat.le_trans HRW.out.1 HF.out.2.1, fun b hb => (HF.out.2.2 b hb).trans (HRW.out.2 b hb)⟩
    · have hd : decide (t ≤ now) = false := decide_eq_false htn
      have e := HE.out
      rw [if_neg htn] at e
      have HE2 := Lib.hid e
      clear e
      go_enter Try.func19, Try.ntmps19
      go_wp2_with fail
      refine h1.mono ?_
      rintro e w2 ⟨rfl, hb2⟩
      obtain ⟨⟨mb, x1, x2, x3, x4⟩, hrw⟩ := HH.out.below hb2
      have hf := forget_any x1 now
      rw [← HGS.out] at hf
      have HX := Lib.hid (And.intro x1 (And.intro x2 (And.intro x3 x4)))
      have HRW := Lib.hid hrw
      clear x1 x2 x3 x4 hrw
      go_wp2_with fail
      refine hf.mono ?_
      rintro e w3 ⟨rfl, y1, y2⟩
      have hown := y1.own
      have c0 : w3.cell? ⟨kb, 0, none⟩ = some (.map (some mb)) := by rw [cell_of_row _ _ _ _ _ _ y1.row]; rfl
      have HY := Lib.hid (And.intro y1 y2)
      clear y1 y2 hf
      go_wp2_with (first
        | (at_lookup; refine wpList_lookup_own_ok_int _ rfl _ _ 71 rfl 9 2 .i64 klaw Try.underlying71 Try.underlying2 (zeroE _) mb n _ rfl hown _ _ rfl HKEY.out ?_; intro c hat hwc; apply Hid.out)
        | go_in)
      refine Lib.hid ?_
      clear hat hwc
      have hlen := fun ty => hown.len Try.underlying71 ty
      have hsz : Maps.size (DataW.map gs) = gs.length := rfl
      rw [hsz] at hlen
      obtain ⟨m, hm⟩ : ∃ q, q = gs.length := ⟨_, rfl⟩
      rw [← hm] at hlen
      have HM := Lib.hid hm
      clear hsz hm
      rcases hh : Maps.has (DataW.map gs) (keyL s) with _ | _
      · by_cases h32 : 32 ≤ m
        · have hd32 : decide ((32 : Int) ≤ (m : Int)) = true := decide_eq_true (by omega)
          have hi32 : (32 : Int) ≤ (m : Int) := by omega
          have e := HE2.out
          rw [if_pos ⟨hh, by rw [← HM.out]; exact h32⟩] at e
          subst e
          have hfin := Bk.turn HX.out.1 HX.out.2.1 HX.out.2.2.1 HX.out.2.2.2 HY.out.2 (HY.out.1.own.mono (Nat.le_succ n))
          have HF := Lib.hid hfin
          clear hfin
          go_wp2
          go_ret
          exact ⟨rfl, HF.out.1, Nat.le_trans HRW.out.1 HF.out.2.1, fun b hb => (HF.out.2.2 b hb).trans (HRW.out.2 b hb)⟩
        · have hd32 : decide ((32 : Int) ≤ (m : Int)) = false := decide_eq_false (by omega)
          have hi32 : ¬ (32 : Int) ≤ (m : Int) := by omega
          have e := HE2.out
          rw [if_neg (by rintro ⟨_, q⟩; rw [← HM.out] at q; exact h32 q)] at e
          subst e
          go_wp2_with (first
            | (at_mapUpdate; refine wpList_mapUpdate_in _ rfl _ _ _ 71 rfl 9 2 klaw Try.underlying71 _ mb n _ rfl hown (by unfold maxLen; omega) _ _ _ rfl rfl HKEY.out _ [] (plainElem_int Try.underlying2 HTW.out) ?_; intro w4 hown4 hturn4)
            | go_in)
          have hg4 := HY.out.2.andThen hturn4.grown (fun j hj => by cases hj; exact Or.inr rfl)
          have hfin := Bk.turn HX.out.1 HX.out.2.1 HX.out.2.2.1 HX.out.2.2.2 hg4 hown4
          have HF := Lib.hid hfin
          clear hfin hg4 hown4 hturn4
          first | go_ret | (go_wp2; go_ret)
          exact ⟨rfl, HF.out.1, Nat.le_trans HRW.out.1 HF.out.2.1, fun b hb => (HF.out.2.2 b hb).trans (HRW.out.2 b hb)⟩
      · have e := HE2.out
        rw [if_neg (by rintro ⟨q, _⟩; rw [hh] at q; cases q)] at e
        subst e
        go_wp2_with (first
          | (at_mapUpdate; refine wpList_mapUpdate_in _ rfl _ _ _ 71 rfl 9 2 klaw Try.underlying71 _ mb n _ rfl hown (by unfold maxLen; omega) _ _ _ rfl rfl HKEY.out _ [] (plainElem_int Try.underlying2 HTW.out) ?_; intro w4 hown4 hturn4)
          | go_in)
        have hg4 := HY.out.2.andThen hturn4.grown (fun j hj => by cases hj; exact Or.inr rfl)
        have hfin := Bk.turn HX.out.1 HX.out.2.1 HX.out.2.2.1 HX.out.2.2.2 hg4 hown4
        have HF := Lib.hid hfin
        clear hfin hg4 hown4 hturn4
        first | go_ret | (go_wp2; go_ret)
        exact ⟨rfl, HF.out.1, Nat.le_trans HRW.out.1 HF.out.2.1, fun b hb => (HF.out.2.2 b hb).trans (HRW.out.2 b hb)⟩
end Go.Proofs.Ytlngbpipmaaedaa.Ba
