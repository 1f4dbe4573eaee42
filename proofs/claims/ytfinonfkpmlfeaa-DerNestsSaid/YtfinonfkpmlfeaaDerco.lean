/-
  THE CONTRACT of der's copied.
-/
import Derived.Test.YtfinonfkpmlfeaaDerg
namespace Go.Proofs.Ytfinonfkpmlfeaa.Der
open Go.RowKit
open Go.Proofs.Ytfinonfkpmlfeaa.Kit
open Go.Proofs.Ytfinonfkpmlfeaa.Oct
set_option linter.unusedVariables false

def CopC (N : Nat) : Prop := ∀ (l : List V) (room : Int) (A : Option Addr) (n c : Nat) (w : World), V.size.sizes l < N → RdVs w w.heap.size l A n c → (V.size.sizes l : Int) < room → room ≤ 131072 →
  Calls Try.prog 38 #[.slice A n c, .int .i64 room] w fun e w' => ∃ A2 c2, e = .returned (.tuple #[.slice A2 n c2, .bool true]) ∧ RdVsS w' (fun b => w.heap.size ≤ b ∧ b < w'.heap.size) l A2 n c2 ∧ Below w.heap.size w w'

theorem set2_other {w3 : World} {g : Nat} (i j : Nat) (u v : Value) {b : Nat} (hb : b ≠ g) : ((w3.setCell ⟨g, i, none⟩ u).setCell ⟨g, j, none⟩ v).heap[b]? = w3.heap[b]? := by
  rw [heap_setCell_other _ _ _ _ (by simpa using hb), heap_setCell_other _ _ _ _ (by simpa using hb)]
theorem set2_size {w3 : World} {g : Nat} (i j : Nat) (u v : Value) : ((w3.setCell ⟨g, i, none⟩ u).setCell ⟨g, j, none⟩ v).heap.size = w3.heap.size := by simp [World.setCell]
theorem sizes_l (y : V) : V.size.sizes y.l < y.size := by cases y; simp only [V.l, V.size]; omega
theorem size_b (y : V) : y.b.length < y.size := by cases y; simp only [V.b, V.size]; omega

/-- what a round leaves -/
theorem cp_rel {w wr w2 w3 ws w5 : World} {q c1 cap gg : Nat} {B : Option Addr} {xs : List Value} {e : TypeId} {vs : List V} {y : V} {A2 A5 : Option Addr} {n5 c5 m2 c4 : Nat} {O : Obj}
    (hsz : w.heap.size ≤ wr.heap.size) (hown : wr.ownsRow w.heap.size e 5 (.slice B q c1) q xs)
    (hrows : Rows5 wr (fun b => w.heap.size ≤ b ∧ b < wr.heap.size ∧ (Value.slice B q c1).ownBlock ≠ some b) vs xs) (hb2 : Below wr.heap.size wr w2) (hs2 : wr.heap.size + 1 ≤ w2.heap.size)
    (hl2 : RdVsS w2 (fun b => wr.heap.size + 1 ≤ b ∧ b < w2.heap.size) y.l A2 m2 c4) (hb3 : Below w2.heap.size w2 w3) (ho : RdS w3 (fun b => w2.heap.size ≤ b ∧ b < w3.heap.size) A5 n5 c5 (y.b.map bv))
    (hws : ∀ b, b ≠ wr.heap.size → ws.heap[b]? = w3.heap[b]?) (hwz : ws.heap.size = w3.heap.size) (hbs : Below w.heap.size w ws)
    (hgrow : (ws.alloc O).grownBy w5 (Value.slice B q c1).ownBlock) (hat : (Value.slice B q c1).ownBlock = some gg ∨ gg = w3.heap.size + 1) (hlt : gg < w5.heap.size) :
    Rows5 w5 (fun b => w.heap.size ≤ b ∧ b < w5.heap.size ∧ (Value.slice (some ⟨gg, 0, none⟩) (q + 1) cap).ownBlock ≠ some b) (vs ++ [y]) (xs ++ [.int .i64 y.k, .int .i64 y.t, .int .u64 y.n, .slice A5 n5 c5, .slice A2 m2 c4]) ∧
    Below w.heap.size w w5 := by
  have hs3 := hb3.size
  have hs5 : w3.heap.size + 1 ≤ w5.heap.size := by have := hgrow.size; simp at this; omega
  have hbo := hown.lt
  have keep : ∀ b, b < w3.heap.size → b ≠ wr.heap.size → (Value.slice B q c1).ownBlock ≠ some b → w5.heap[b]? = w3.heap[b]? := by
    intro b hb hn hne
    rw [hgrow.block b (by simp; omega) (fun e => hne e.symm), heap_alloc_old ws O (by omega), hws b hn]
  have hlow : ∀ b, b < w.heap.size → (Value.slice B q c1).ownBlock ≠ some b := fun b hb e => by have := (hbo _ e).1; omega
  have hhigh : ∀ b, wr.heap.size ≤ b → (Value.slice B q c1).ownBlock ≠ some b := fun b hb e => by have := (hbo _ e).2; omega
  have hgg : ∀ b, b < w3.heap.size → (Value.slice B q c1).ownBlock ≠ some b → (Value.slice (some ⟨gg, 0, none⟩) (q + 1) cap).ownBlock ≠ some b := by
    intro b hb hne e
    have e' : gg = b := by simpa [Value.ownBlock] using e
    rcases hat with h | h
    · exact hne (by rw [h, e'])
    · omega
  refine ⟨rows_more hrows (fun p hp => World.cell?_of_block ?_) (fun b hb => ⟨hb.1, by have := hb.2.1; omega, hgg b (by have := hb.2.1; omega) hb.2.2⟩) (RdVS.join ?_ ?_), ?_⟩
  · rw [keep _ (by have := hp.2.1; omega) (by have := hp.2.1; omega) hp.2.2, hb3.block _ (by have := hp.2.1; omega), hb2.block _ hp.2.1]
  · exact ho.keep (fun p hp => World.cell?_of_block (keep _ hp.2 (by have := hp.1; omega) (hhigh _ (by have := hp.1; omega)))) (fun b hb => ⟨by have := hb.1; omega, by have := hb.2; omega, hgg b hb.2 (hhigh _ (by have := hb.1; omega))⟩)
  · exact hl2.keep (fun p hp => World.cell?_of_block ((keep _ (by have := hp.2; omega) (by have := hp.1; omega) (hhigh _ (by have := hp.1; omega))).trans (hb3.block _ hp.2))) (fun b hb => ⟨by have := hb.1; omega, by have := hb.2; omega, hgg b (by have := hb.2; omega) (hhigh _ (by have := hb.1; omega))⟩)
  · exact hbs.trans ⟨hgrow.os, hgrow.tape, hgrow.output, by rw [hwz]; omega, fun k hk => by
      rw [hgrow.block k (by have := hbs.size; simp; omega) (fun e => hlow k hk e.symm), heap_alloc_old ws O (by have := hbs.size; omega)]⟩

set_option maxRecDepth 100000 in
set_option maxHeartbeats 2000000 in
theorem cop_of {N : Nat} (hR : CopC N) : CopC (N + 1) := by
  intro l room A n c w hs hl hr1 hr2
  have HA := Lib.hid hR
  have HS := Lib.hid hs
  have HR1 := Lib.hid hr1
  have hle : n ≤ l.length ∧ l.length ≤ n := by have := hl.1; omega
  have hmax : n * 72 ≤ 140737488355328 := hl.2.2.2.1
  have p0 : 0 < room := by omega
  have g0 : (room == 0) = false := by simp; omega
  obtain ⟨i0, hi, hz0, hz1, hz2⟩ := info_parts info41
  clear hR hs hr1
  go_enter Try.func38, Try.ntmps38
  go_wp2_with fail
  go_loopw [6, 18] (fun b i wr => ∃ (q c1 : Nat) (B : Option Addr) (xs : List Value), q ≤ n ∧ i = .int .i64 q ∧ b = .slice B q c1 ∧ wr.ownsRow w.heap.size 26 5 (.slice B q c1) q xs ∧
      Rows5 wr (fun b => w.heap.size ≤ b ∧ b < wr.heap.size ∧ (Value.slice B q c1).ownBlock ≠ some b) (l.take q) xs ∧ Below w.heap.size w wr)
    (fun _ i _ => n - (intOf i).toNat)
  case atStart => exact ⟨0, 0, none, [], Nat.zero_le _, rfl, rfl, World.ownsRow_nil _ _ _ _, ⟨rfl, fun i hi => absurd hi (by simp)⟩, Below.refl _ _⟩
  case round =>
    obtain ⟨q, c1, B, xs, hq, rfl, rfl, hown, hrows, hbw⟩ := hrel
    by_cases hlt : q < n
    · have hlk : q < l.length := by omega
      obtain ⟨bb, o, rfl, hbb, hl2⟩ := hl.2.2.2.2 (by omega)
      obtain ⟨C, m2, c3, C', m2', c2, e0, e1, e2, e3, e4, hrd⟩ := RdVl.at_ l hl2 q hlk
      have f0 := (hbw.cell (p := ⟨bb, o + q * 5, none⟩) hbb).trans e0
      have f1 := (hbw.cell (p := ⟨bb, o + q * 5 + 1, none⟩) hbb).trans e1
      have f2 := (hbw.cell (p := ⟨bb, o + q * 5 + 2, none⟩) hbb).trans e2
      have f3 := (hbw.cell (p := ⟨bb, o + q * 5 + 3, none⟩) hbb).trans e3
      have f4 := (hbw.cell (p := ⟨bb, o + q * 5 + 4, none⟩) hbb).trans e4
      have hyz := V.size_mem (List.getElem_mem (l := l) (n := q) hlk)
      have hts := List.take_succ_eq_append_getElem hlk
      obtain ⟨y, hy⟩ : ∃ y, y = l[q] := ⟨_, rfl⟩
      rw [← hy] at f0 f1 f2 hrd hyz hts
      have hz1' := sizes_l y
      have hz2' := size_b y
      have HTS := Lib.hid hts
      have HYB := Lib.hid hz2'
      have HYZ := Lib.hid hyz
      obtain ⟨hbs, hls⟩ := hrd.split
      have hsz := hbw.size
      have hbx := below_seq hbw (below_of_new wr (.cells #[.int .i64 y.k, .int .i64 y.t, .int .u64 y.n, .slice C m2 c3, .slice C' m2' c2] 26))
      have HCALL := Lib.hid (HA.out y.l (room - 1) C' m2' c2 (wr.alloc (.cells #[.int .i64 y.k, .int .i64 y.t, .int .u64 y.n, .slice C m2 c3, .slice C' m2' c2] 26)) (by have := HS.out; omega) (hls.on hbx) (by have := HR1.out; omega) (by omega))
      have HBS := Lib.hid hbs
      have HBX := Lib.hid hbx
      have HOWN := Lib.hid hown
      have HROWS := Lib.hid hrows
      clear hy hl2 e0 e1 e2 e3 e4 hts hz1' hz2' hyz hbs hls hbx hown hrows hrd
      go_wp2_with fail
      refine HCALL.out.mono ?_
      rintro e w2 ⟨A2, c4, rfl, hrd2, hb2⟩
      have hx := box1 hb2
      obtain ⟨⟨r0, r1, r2, r3, r4⟩, ⟨z0, z1, z2, z3, z4⟩⟩ := cells5 hx
      have HX := Lib.hid hx
      have HB2 := Lib.hid hb2
      have HRD2 := Lib.hid hrd2
      have HW2 := Lib.hid (below_seq HBX.out hb2)
      have hsz2 : wr.heap.size + 1 ≤ w2.heap.size := by have := hb2.size; simpa using this
      clear hx hrd2 hb2 HCALL
      go_wp2_with fail
      refine (joined_any _ _ _ _ [⟨C, m2, c3, y.b⟩] _ ?h1 ?h2 (Nat.le_refl _) ?h3).mono ?_
      case h1 => exact rd_cells _ (by simp) rfl rfl (by simp)
      case h2 =>
        intro r hr
        simp only [List.mem_cons, List.not_mem_nil, or_false] at hr
        subst hr
        exact (HBS.out.on HW2.out).lit _
      case h3 =>
        have := HYB.out
        have := HYZ.out
        have := HR1.out
        simp [joinL]; omega
      rintro e w3 ⟨A5, c5, rfl, ho, hb3⟩
      have hj : joinL [⟨C, m2, c3, y.b⟩] = y.b := by simp [joinL]
      rw [hj] at ho ⊢
      obtain ⟨n5, hn5⟩ : ∃ n5, n5 = y.b.length := ⟨_, rfl⟩
      rw [← hn5] at ho ⊢
      have hb3' := below_seq (below_of_new _ _) hb3
      have hx3 := (hb3'.block _ (by omega)).trans HX.out
      obtain ⟨⟨d0, d1, d2, d3, d4⟩, ⟨y0, y1, y2, y3, y4⟩⟩ := cells5 hx3
      have hrs := (RdS.of_own ho).keep (S' := fun b => w2.heap.size ≤ b ∧ b < w3.heap.size) (fun _ _ => rfl) (fun b hb => ⟨by have := hb.1; simp at this; omega, hb.2⟩)
      have HRS := Lib.hid hrs
      have HB3 := Lib.hid hb3'
      have HOWN3 := Lib.hid (own_onN (own_onN HOWN.out (below_seq (below_of_new _ _) HB2.out)) hb3')
      have hsz3 := hb3'.size
      have HW3 := Lib.hid ((below_seq HW2.out hb3'))
      clear hj hn5 hb3 hb3' hx3 hrs ho r0 r1 r2 r3 r4 z0 z1 z2 z3 z4
      have hne : (Value.slice B q c1).ownBlock ≠ some wr.heap.size := fun e => by have := (HOWN.out.lt _ e).2; omega
      have hownS : ((w3.setCell ⟨wr.heap.size, 3, none⟩ (.slice A5 n5 c5)).setCell ⟨wr.heap.size, 4, none⟩ (.slice A2 m2' c4)).ownsRow w.heap.size 26 5 (.slice B q c1) q xs := HOWN3.out.kept (row := some wr.heap.size) ⟨rfl, rfl, rfl, by rw [set2_size]; exact Nat.le_refl _, fun b _ hb => set2_other _ _ _ _ (fun e => hb (by rw [e]))⟩ (.inr hne)
      have hnewS : (((w3.setCell ⟨wr.heap.size, 3, none⟩ (.slice A5 n5 c5)).setCell ⟨wr.heap.size, 4, none⟩ (.slice A2 m2' c4)).alloc (.cells #[.int .i64 y.k, .int .i64 y.t, .int .u64 y.n, .slice A5 n5 c5, .slice A2 m2' c4] 26)).heap[w3.heap.size]? = some (.cells #[.int .i64 y.k, .int .i64 y.t, .int .u64 y.n, .slice A5 n5 c5, .slice A2 m2' c4] 26 (0, 0)) := heap_new' _ _ (by rw [set2_size])
      have HOWNS := Lib.hid (hownS.alloc (.cells #[.int .i64 y.k, .int .i64 y.t, .int .u64 y.n, .slice A5 n5 c5, .slice A2 m2' c4] 26))
      have HNEWS := Lib.hid hnewS
      have HSZ := Lib.hid (set2_size (w3 := w3) (g := wr.heap.size) 3 4 (.slice A5 n5 c5) (.slice A2 m2' c4))
      have HBS2 := Lib.hid ((HW3.out.setCell (p := ⟨wr.heap.size, 3, none⟩) (by simp; omega) (.slice A5 n5 c5)).setCell (p := ⟨wr.heap.size, 4, none⟩) (by simp; omega) (.slice A2 m2' c4))
      clear hownS hnewS hne
      have hw3w : w.heap.size ≤ w3.heap.size := by omega
      go_wp2_with (at_builtin; go_loud (refine wpList_append_lies _ rfl (.tmp 39) (.tmp 41) 24 rfl w.heap.size 26 i0 _ 5 72 Try.underlying24 hi hz0 hz1 hz2 rfl (by omega) (.slice B q c1) q xs (by rfl) HOWNS.out ⟨w3.heap.size, 0, none⟩ 1 1 [.int .i64 y.k, .int .i64 y.t, .int .u64 y.n, .slice A5 n5 c5, .slice A2 m2' c4] (by rfl) (by rfl) (World.news_of_block HNEWS.out) (by simp [Value.oneCell']) (by omega) (by unfold maxLen; omega) (by omega) (by rw [World.size_alloc, HSZ.out]; omega) (w3.heap.size + 1) (by rw [World.size_alloc, HSZ.out]) ?_); intro gg cap w5 hown5 hgrow hat hlt5)
      have hR := cp_rel (cap := cap) hsz HOWN.out HROWS.out (below_seq (below_of_new _ _) HB2.out) hsz2 (HRD2.out.keep (fun _ _ => rfl) (fun b hb => ⟨by have := hb.1; simp at this; omega, hb.2⟩)) HB3.out HRS.out (fun b hb => set2_other _ _ _ _ hb) HSZ.out HBS2.out hgrow hat hlt5
      rw [← HTS.out] at hR
      go_roundw
      case rel => exact ⟨q + 1, cap, some ⟨gg, 0, none⟩, _, by omega, by go_num, rfl, hown5, hR.1, hR.2⟩
      case measure => simp [intOf]; omega
    · obtain rfl : q = n := by omega
      rw [List.take_of_length_le hle.2] at hrows
      have HFIN := Lib.hid (all_fin hown hrows (by omega) hmax)
      clear hown hrows
      go_wp2
      go_ret2
      exact ⟨B, c1, rfl, HFIN.out, hbw⟩
end Go.Proofs.Ytfinonfkpmlfeaa.Der
