/-
  THE CONTRACT of der's all.
-/
import Derived.Test.YtfinonfkpmlfeaaDera
namespace Go.Proofs.Ytfinonfkpmlfeaa.Der
open Go.RowKit
open Go.Proofs.Ytfinonfkpmlfeaa.Kit
open Go.Proofs.Ytfinonfkpmlfeaa.Oct
set_option linter.unusedVariables false

def lenOf : Value → Nat
  | .slice _ n _ => n
  | _ => 0
theorem AlPost.err {d : Nat} {bs : List UInt8} {w w' : World} {e : Ending} {x : Nat} (hr : rdAll (rd d) bs.length bs = .err x) (hb : Below w.heap.size w w') (hx : 0 < x) (he : e = .returned (.tuple #[.slice none 0 0, .int .i64 x])) : AlPost d bs w e w' := by
  refine ⟨hb, ?_⟩
  rw [hr]; exact ⟨hx, he⟩
theorem AlPost.ok {d : Nat} {bs : List UInt8} {w w' : World} {e : Ending} {l : List V} (hr : rdAll (rd d) bs.length bs = .ok l) (hb : Below w.heap.size w w')
    (he : ∃ A n c, e = .returned (.tuple #[.slice A n c, .int .i64 0]) ∧ RdVsS w' (fun b => w.heap.size ≤ b ∧ b < w'.heap.size) l A n c) : AlPost d bs w e w' := by
  refine ⟨hb, ?_⟩
  rw [hr]; exact he

theorem info41 : (Try.prog.info? 26).map (fun i => (i.zero, i.size, i.bytes)) = some (some (.agg #[.int .i64 0, .int .i64 0, .int .u64 0, .slice none 0 0, .slice none 0 0]), 5, 72) := by kernel_rfl
theorem all_fin {wr : World} {base q c1 : Nat} {B : Option Addr} {xs : List Value} {e : TypeId} {l : List V} (hown : wr.ownsRow base e 5 (.slice B q c1) q xs)
    (hrows : Rows5 wr (fun b => base ≤ b ∧ b < wr.heap.size ∧ (Value.slice B q c1).ownBlock ≠ some b) l xs) (hql : q = l.length) (hmax : q * 72 ≤ 140737488355328) :
    RdVsS wr (fun b => base ≤ b ∧ b < wr.heap.size) l B q c1 := by
  have hc : q ≤ c1 ∧ c1 ≤ 9223372036854775807 := by
    rcases hown.2 with ⟨h1, h2⟩ | ⟨g, cap, cur, h1, _, _, h3, h4, _⟩
    · injection h1 with e1 e2 e3
      omega
    · injection h1 with e1 e2 e3
      subst e3
      unfold maxLen at h4
      exact ⟨h3, h4⟩
  refine ⟨hql, hc.1, hc.2, hmax, fun hp => ?_⟩
  have hform : ∃ g, B = some ⟨g, 0, none⟩ := by
    rcases hown.2 with ⟨h1, h2, _⟩ | ⟨g, cap, cur, h1, _⟩
    · omega
    · injection h1 with e1 e2 e3
      exact ⟨g, e1⟩
  obtain ⟨g, rfl⟩ := hform
  have hlt := hown.lt g rfl
  have hcell : ∀ j u, xs[j]? = some u → wr.cell? ⟨g, 0 + j, none⟩ = some u := by
    intro j u hu
    have h1 := hown.cells (g := g) rfl j u hu
    rw [add_off] at h1
    rw [← h1]
  refine ⟨g, 0, rfl, ⟨by omega, by omega⟩, RdVlS.of l fun i hi => ?_⟩
  obtain ⟨A, m, c, A', m', c', h0, h1, h2, h3, h4, h5⟩ := hrows.2 i hi
  exact ⟨A, m, c, A', m', c', hcell _ _ h0, hcell _ _ h1, hcell _ _ h2, hcell _ _ h3, hcell _ _ h4, RdVS.keep (fun p hp => rfl) (fun b hb => ⟨hb.1, hb.2.1⟩) _ h5⟩

theorem all_rel {w wr w2 w3 : World} {q c1 cap gg m c2 : Nat} {A2 B : Option Addr} {xs : List Value} {e : TypeId} {vs : List V} {x : V} {A3 A4 : Option Addr} {m3 c3 m4 c4 : Nat} {O O' : Obj} {rest : List UInt8}
    (hsz : w.heap.size ≤ wr.heap.size) (hown : wr.ownsRow w.heap.size e 5 (.slice B q c1) q xs)
    (hrows : Rows5 wr (fun b => w.heap.size ≤ b ∧ b < wr.heap.size ∧ (Value.slice B q c1).ownBlock ≠ some b) vs xs) (hb2 : Below wr.heap.size wr w2) (hbw2 : Below w.heap.size w w2)
    (hrv : RdVS w2 (fun b => wr.heap.size ≤ b ∧ b < w2.heap.size) x A3 m3 c3 A4 m4 c4) (hrr : RdB w2 w.heap.size A2 m c2 rest)
    (hgrow : ((w2.alloc O).alloc O').grownBy w3 (Value.slice B q c1).ownBlock) (hat : (Value.slice B q c1).ownBlock = some gg ∨ gg = w2.heap.size + 2) (hlt3 : gg < w3.heap.size) :
    Rows5 w3 (fun b => w.heap.size ≤ b ∧ b < w3.heap.size ∧ (Value.slice (some ⟨gg, 0, none⟩) (q + 1) cap).ownBlock ≠ some b) (vs ++ [x]) (xs ++ [.int .i64 x.k, .int .i64 x.t, .int .u64 x.n, .slice A3 m3 c3, .slice A4 m4 c4]) ∧
    RdB w3 w.heap.size A2 m c2 rest ∧ Below w.heap.size w w3 := by
  have hs3 : w2.heap.size + 2 ≤ w3.heap.size := by have := hgrow.size; simpa using this
  have hs2 := hb2.size
  have hbo := hown.lt
  have keep : ∀ b, b < w2.heap.size → (Value.slice B q c1).ownBlock ≠ some b → w3.heap[b]? = w2.heap[b]? := by
    intro b hb hne
    rw [hgrow.block b (by simp; omega) (fun e => hne e.symm), heap_alloc_old _ O' (by simp; omega), heap_alloc_old w2 O hb]
  have hlow : ∀ b, b < w.heap.size → (Value.slice B q c1).ownBlock ≠ some b := fun b hb e => by have := (hbo _ e).1; omega
  have hhigh : ∀ b, wr.heap.size ≤ b → (Value.slice B q c1).ownBlock ≠ some b := fun b hb e => by have := (hbo _ e).2; omega
  refine ⟨rows_more hrows (fun p hp => World.cell?_of_block ((keep _ (by have := hp.2.1; omega) hp.2.2).trans (hb2.block _ hp.2.1))) (fun b hb => ⟨hb.1, by have := hb.2.1; omega, ?_⟩)
    (RdVS.keep (fun p hp => World.cell?_of_block (keep _ hp.2 (hhigh _ hp.1))) (fun b hb => ⟨by have := hb.1; omega, by have := hb.2; omega, ?_⟩) _ hrv), ?_, ?_⟩
  · intro e
    have e' : gg = b := by simpa [Value.ownBlock] using e
    rcases hat with h | h
    · exact hb.2.2 (by rw [h, e'])
    · have := hb.2.1; omega
  · exact hrr.keep fun p hp => World.cell?_of_block (keep _ (by omega) (hlow _ hp))
  · exact hbw2.trans ⟨hgrow.os, hgrow.tape, hgrow.output, by omega, fun k hk => keep k (by omega) (hlow _ hk)⟩
  · intro e
    have e' : gg = b := by simpa [Value.ownBlock] using e
    rcases hat with h | h
    · exact hhigh b hb.1 (by rw [h, e'])
    · have := hb.2; omega

set_option maxRecDepth 100000 in
set_option maxHeartbeats 1000000 in
theorem all_of {d : Nat} (hd8 : d ≤ 8) (hF : FirstC d) : AllC d := by
  intro lists A n c bs w hd hn hbs
  have HF := Lib.hid hF
  have HB := Lib.hid hbs
  have HL := Lib.hid hbs.len
  obtain ⟨i0, hi, hz0, hz1, hz2⟩ := info_parts info41
  clear hF hbs
  go_enter Try.func50, Try.ntmps50
  go_wp2_with fail
  go_loopw [0, 6] (fun b l wr => ∃ (q m cr c1 : Nat) (A B : Option Addr) (vs : List V) (rest : List UInt8) (xs : List Value), b = .slice A m cr ∧ l = .slice B q c1 ∧ q = vs.length ∧ wr.ownsRow w.heap.size 26 5 (.slice B q c1) q xs ∧
      Rows5 wr (fun b => w.heap.size ≤ b ∧ b < wr.heap.size ∧ (Value.slice B q c1).ownBlock ≠ some b) vs xs ∧ RdB wr w.heap.size A m cr rest ∧ AllRel d bs vs rest ∧ Below w.heap.size w wr)
    (fun b _ _ => lenOf b)
  case atStart =>
    exact ⟨0, n, c, 0, A, none, [], bs, [], rfl, rfl, rfl, World.ownsRow_nil _ _ _ _, ⟨rfl, fun i hi => absurd hi (by simp)⟩, HB.out, AllRel.start _ _, Below.refl _ _⟩
  case round =>
    obtain ⟨q, m, cr, c1, A, B, vs, rest, xs, rfl, rfl, hq, hown, hrows, hrd, hrel, hbw⟩ := hrel
    have hml := hrd.len
    have hgl : vs.length * 2 + rest.length ≤ bs.length := by obtain ⟨g, _, _, h⟩ := hrel; exact h
    have hq2 : q ≤ 2048 := by have := HL.out; omega
    have hm2 : m ≤ 4096 := by have := HL.out; omega
    by_cases hm0 : m = 0
    · subst hm0
      have hre : rest = [] := List.length_eq_zero_iff.1 hml
      rw [hre] at hrel
      have HFIN := Lib.hid (all_fin hown hrows hq (by omega))
      have HDONE := Lib.hid hrel.done
      clear hrows hown hrel hml hgl hq hre
      go_wp2
      go_ret2
      exact AlPost.ok HDONE.out hbw ⟨B, q, c1, rfl, HFIN.out⟩
    · have hne : rest ≠ [] := fun e => hm0 (by rw [← hml, e]; rfl)
      have hsz := hbw.size
      have hcall := HF.out lists A m cr rest w.heap.size wr hd hm2 hrd hsz
      have HCALL := Lib.hid hcall
      have HREL := Lib.hid hrel
      have HNE := Lib.hid hne
      have HQ := Lib.hid hq
      have g0 : decide (0 < m) = true := by simp; omega
      have g0' : decide ((0 : Int) < (m : Int)) = true := by simp; omega
      have p0 : (0 : Int) < (m : Int) := by omega
      clear hrel hne hcall hml hgl hm0 hq
      go_wp2_with fail
      refine HCALL.out.mono ?_
      rintro e w2 ⟨hb2, hres⟩
      have hbw2 := below_seq hbw hb2
      cases hx : rd d rest with
      | err z =>
        rw [hx] at hres
        obtain ⟨hz, rfl⟩ := hres
        have HE := Lib.hid (HREL.out.err HNE.out hx)
        have g3 : ((z : Int) != 0) = true := by simp; omega
        have hz' : (z : Int) ≠ 0 := by omega
        clear hx HCALL
        unfold zeroV
        go_wp2
        go_ret2
        exact AlPost.err HE.out (below_alloc hbw2 _) hz rfl
      | ok x k =>
        rw [hx] at hres
        obtain ⟨hkm, A3, m3, c3, A4, m4, c4, A2, c2, rfl, hrv, hrr⟩ := hres
        have HSTEP := Lib.hid (HREL.out.step hd8 HNE.out hx)
        have hk2 := rd_two hd8 hx
        clear hx HCALL
        have hown2 : ((w2.alloc (.cells #[.int .i64 x.k, .int .i64 x.t, .int .u64 x.n, .slice A3 m3 c3, .slice A4 m4 c4] 26)).alloc (.cells #[.int .i64 x.k, .int .i64 x.t, .int .u64 x.n, .slice A3 m3 c3, .slice A4 m4 c4] 26)).ownsRow w.heap.size 26 5 (.slice B q c1) q xs := ((own_onN hown hb2).alloc _).alloc _
        have hnew2 : ((w2.alloc (.cells #[.int .i64 x.k, .int .i64 x.t, .int .u64 x.n, .slice A3 m3 c3, .slice A4 m4 c4] 26)).alloc (.cells #[.int .i64 x.k, .int .i64 x.t, .int .u64 x.n, .slice A3 m3 c3, .slice A4 m4 c4] 26)).heap[w2.heap.size + 1]? = some (.cells #[.int .i64 x.k, .int .i64 x.t, .int .u64 x.n, .slice A3 m3 c3, .slice A4 m4 c4] 26 (0, 0)) := by
          have := heap_alloc_new (w2.alloc (.cells #[.int .i64 x.k, .int .i64 x.t, .int .u64 x.n, .slice A3 m3 c3, .slice A4 m4 c4] 26)) (.cells #[.int .i64 x.k, .int .i64 x.t, .int .u64 x.n, .slice A3 m3 c3, .slice A4 m4 c4] 26)
          rw [World.size_alloc] at this
          exact this
        have HOWN := Lib.hid hown
        have HROWS := Lib.hid hrows
        have HOWN2 := Lib.hid hown2
        have HNEW2 := Lib.hid hnew2
        have HRV := Lib.hid hrv
        have hs2 := hbw2.size
        clear hown hrows hown2 hnew2 hrv
        go_wp2_with (at_builtin; go_loud (refine wpList_append_lies _ rfl (.tmp 23) (.tmp 25) 24 rfl w.heap.size 26 i0 _ 5 72 Try.underlying24 hi hz0 hz1 hz2 rfl (by omega) (.slice B q c1) q xs (by rfl) HOWN2.out ⟨w2.heap.size + 1, 0, none⟩ 1 1 [.int .i64 x.k, .int .i64 x.t, .int .u64 x.n, .slice A3 m3 c3, .slice A4 m4 c4] (by rfl) (by rfl) (World.news_of_block HNEW2.out) (by simp [Value.oneCell']) (by omega) (by unfold maxLen; omega) (by omega) (by simp; omega) (w2.heap.size + 2) (by simp) ?_); intro gg cap w3 hown3 hgrow hat hlt3)
        have hR := all_rel (cap := cap) hsz HOWN.out HROWS.out hb2 hbw2 HRV.out hrr hgrow hat hlt3
        exact ⟨⟨q + 1, m - k, c2, cap, A2, some ⟨gg, 0, none⟩, vs ++ [x], rest.drop k, _, rfl, rfl, by rw [HQ.out]; simp, hown3, hR.1, hR.2.1, HSTEP.out, hR.2.2⟩, by simp only [lenOf]; omega⟩
end Go.Proofs.Ytfinonfkpmlfeaa.Der
