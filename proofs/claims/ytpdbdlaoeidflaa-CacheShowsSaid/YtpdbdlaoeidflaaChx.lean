/-
  cache: CacheShows' walk.
-/
import Derived.Test.YtpdbdlaoeidflaaChw
namespace Go.Proofs.Ytpdbdlaoeidflaa.Ch
open Go.RowKit
open Go.Proofs.Ytpdbdlaoeidflaa.Kit
set_option linter.unusedVariables false

set_option maxRecDepth 100000 in
set_option maxHeartbeats 4000000 in
theorem shows_walk (m : Int) (A : Option Addr) (n c : Nat) (st : List Stp) (w : World) (hx : RdP w A n c st) : Calls Try.prog 3 #[.int .i64 m, .slice A n c] w fun e w' => e = .returned (.bool true) ∧ Below w.heap.size w w' := by
  have hln := hx.len
  have hnc := hx.le
  have hc9 := hx.lim
  have HX := Lib.hid hx
  clear hx
  by_cases hbig : 200 < n
  · have hd : (200 : Int) < (n : Int) := by omega
    go_enter Try.func3, Try.ntmps3
    go_wp2_with fail
    refine (alive12_any w).mono ?_
    rintro e w1 ⟨rfl, hb1⟩
    go_wp2
    go_ret
    exact ⟨rfl, hb1⟩
  · have hd : ¬ (200 : Int) < (n : Int) := by omega
    have hmo := most_bd m
    go_enter Try.func3, Try.ntmps3
    go_wp2_with fail
    refine (alive12_any w).mono ?_
    rintro e w1 ⟨rfl, hb1⟩
    have HB1 := Lib.hid hb1
    clear hb1
    go_wp2_with fail
    refine (new_any m w1).mono ?_
    rintro e w2 ⟨rfl, hw2⟩
    have HC2 := Lib.hid (show ChAt w2 w.heap.size w1.heap.size (most m) none 0 [] from by rw [hw2]; exact made_at HB1.out.size hmo.1 hmo.2)
    have HB2 := Lib.hid (show Below w.heap.size w w2 from by rw [hw2]; exact below_alloc HB1.out _)
    obtain ⟨cb, hcb⟩ : ∃ q, q = w1.heap.size := ⟨_, rfl⟩
    rw [← hcb] at HC2 ⊢
    clear hw2 hcb HB1
    go_wp2_with fail
    obtain ⟨W3, hW3⟩ : ∃ W, W = w2.alloc (.cells #[] 32) := ⟨_, rfl⟩
    have HB3 := Lib.hid (show Below w.heap.size w W3 from by rw [hW3]; exact below_alloc HB2.out _)
    have HC3 := Lib.hid (show ChAt W3 w.heap.size cb (most m) none 0 [] from by rw [hW3]; exact HC2.out.on (below_of_new _ _))
    have HR3 := Lib.hid (show RdI W3 (some ⟨w2.heap.size, 0, none⟩) 0 0 [] from ⟨rfl, Nat.le_refl _, ⟨by omega, by omega⟩, fun h => absurd h (by omega)⟩)
    have HNE3 := Lib.hid (show w2.heap.size ≠ cb from Nat.ne_of_gt HC2.out.lt)
    have HL3 := Lib.hid (show w2.heap.size < W3.heap.size from by rw [hW3]; simp)
    rw [← hW3]
    clear hW3
    go_loopw [6, 7, 22] (fun vl vn vi wr => ∃ (k nw : Nat) (l : List It) (A1 AL : Option Addr) (c1 nL cL : Nat), k ≤ n ∧ nw ≤ 63 * k ∧ vl = .slice AL nL cL ∧ vn = .int .i64 nw ∧ vi = .int .i64 k ∧ ChAt wr w.heap.size cb (most m) A1 c1 l ∧ RdI wr AL nL cL l ∧
      ob AL ≠ some cb ∧ (∀ g, ob AL = some g → ob A1 ≠ some g) ∧ Below w.heap.size w wr ∧ ∀ g, ob AL = some g → g < wr.heap.size) (fun _ _ i _ => n - (intOf i).toNat)
    case atStart => exact ⟨0, 0, [], none, some ⟨w2.heap.size, 0, none⟩, 0, 0, 0, by omega, by omega, rfl, rfl, rfl, HC3.out, HR3.out, fun e => HNE3.out (Option.some.inj e), fun g _ e => (by cases e), HB3.out, fun g hg => by obtain rfl : w2.heap.size = g := Option.some.inj hg; exact HL3.out⟩
    case round =>
      obtain ⟨k, nw, l, A1, AL, c1, nL, cL, hk, hnw, rfl, rfl, rfl, hC, hR, hn1, hn2, hbw, hgl⟩ := hrel
      have HGL := Lib.hid hgl
      have HC := Lib.hid hC
      have HR := Lib.hid hR
      have HN1 := Lib.hid hn1
      have HN2 := Lib.hid hn2
      have HBW := Lib.hid hbw
      clear hC hR hn1 hn2 hbw hgl
      by_cases hlt : k < n
      · obtain ⟨b, o, s, rfl, _, _, c0, c1', c2, c3⟩ := HX.out.get (w' := wr) (Below.mono HBW.out (Nat.le_refl _)) k hlt
        obtain ⟨t, ht63, hta⟩ := and63 s.later
        have hck : (k : Int) < (n : Int) := by omega
        have hwr : IntKind.i64.wrap ((nw : Int) + (t : Int)) = ((nw + t : Nat) : Int) := by rw [IntKind.wrap_i64]; omega
        have hA := below_of_new wr (.cells #[.int .i64 s.later, .string s.it.cl, .int .i64 s.it.tm, .int .i64 s.it.sq] 28)
        have hgA := heap_alloc_new wr (.cells #[.int .i64 s.later, .string s.it.cl, .int .i64 s.it.tm, .int .i64 s.it.sq] 28)
        have hsz : (wr.alloc (.cells #[.int .i64 s.later, .string s.it.cl, .int .i64 s.it.tm, .int .i64 s.it.sq] 28)).heap.size = wr.heap.size + 1 := by simp
        have hl64 : l.length ≤ 64 := Nat.le_trans HC.out.ll hmo.2
        have hrs := refshow_any (HR.out.on hA) (by rw [← HR.out.1]; exact hl64) HC.out.ok m ((nw : Int) + (t : Int)) s.it
        obtain ⟨RR, hRR⟩ : ∃ q, q = showS (most m) l ((nw : Int) + (t : Int)) s.it := ⟨_, rfl⟩
        rw [← hRR] at hrs
        have HA := Lib.hid hA
        have HGA := Lib.hid hgA
        have HSZ := Lib.hid hsz
        have HRR := Lib.hid hRR
        clear hA hgA hRR hsz hl64
        go_wp2_with fail
        refine hrs.mono ?_
        rintro e w4 ⟨AL', nL', cL', rfl, hr4, hto4, hb4⟩
        have hgx := (hb4.block wr.heap.size (by rw [HSZ.out]; omega)).trans HGA.out
        have d1 : w4.cell? ⟨wr.heap.size, 1, none⟩ = some (.string s.it.cl) := by rw [cell_of_row _ _ _ _ _ _ hgx]; rfl
        have d2 : w4.cell? ⟨wr.heap.size, 2, none⟩ = some (.int .i64 s.it.tm) := by rw [cell_of_row _ _ _ _ _ _ hgx]; rfl
        have d3 : w4.cell? ⟨wr.heap.size, 3, none⟩ = some (.int .i64 s.it.sq) := by rw [cell_of_row _ _ _ _ _ _ hgx]; rfl
        have hb4' := below_seq HA.out hb4
        have hC4 := HC.out.on hb4'
        have hbw4 := below_seq HBW.out hb4'
        have hsh := show_any hC4 hbw4.size ((nw : Int) + (t : Int)) s.it
        rw [← HRR.out] at hsh
        have HC4 := Lib.hid hC4
        have HB4 := Lib.hid hbw4
        have HS4 := Lib.hid (show wr.heap.size ≤ w4.heap.size from hb4'.size)
        have HR4 := Lib.hid hr4
        have HTO := Lib.hid (show ∀ g, ob AL' = some g → (ob AL = some g ∨ wr.heap.size ≤ g) ∧ g < w4.heap.size from fun g hg => by
          rcases hto4 g hg with h | h
          · exact ⟨.inl h, Nat.lt_of_lt_of_le (HGL.out g h) hb4'.size⟩
          · exact ⟨.inr (by have := h.1; rw [HSZ.out] at this; omega), h.2⟩)
        clear hrs hr4 hto4 hb4 hgx hb4' hC4 hbw4
        go_wp2_with fail
        refine hsh.mono ?_
        rintro e w5 ⟨rfl, A2, c2', hc5, hs5⟩
        have hlen := len_any hc5
        have hne1 : ob AL' ≠ some cb := fun e => by
          rcases (HTO.out cb e).1 with h | h
          · exact HN1.out h
          · have := HC.out.lt; omega
        have hne2 : ∀ g, ob AL' = some g → ob A1 ≠ some g := fun g hg e => by
          rcases (HTO.out g hg).1 with h | h
          · exact HN2.out g h e
          · have := (HC.out.olt e).2; omega
        have hr5 := HR4.out.stay hs5 hne1 hne2
        have HR5 := Lib.hid hr5
        have HC5 := Lib.hid hc5
        have HB5 := Lib.hid (below_stay HB4.out HC4.out hs5)
        have HN5 := Lib.hid (show ∀ g, ob AL' = some g → ob A2 ≠ some g from fun g hg e => by
          rcases hs5.to g e with h | h
          · exact hne2 g hg h
          · have := (HTO.out g hg).2; omega)
        have HG5 := Lib.hid (show ∀ g, ob AL' = some g → g < w5.heap.size from fun g hg => Nat.lt_of_lt_of_le (HTO.out g hg).2 hs5.size)
        have HN6 := Lib.hid hne1
        have hll := hr5.1
        rw [hll] at hlen
        clear hsh hc5 hs5 hne1 hne2 hr5 hll d1 d2 d3
        go_wp2_with fail
        refine hlen.mono ?_
        rintro e w6 ⟨rfl, rfl⟩
        go_wp2
        go_roundw
        case rel => exact ⟨k + 1, nw + t, RR.1, A2, AL', c2', nL', cL', by omega, by omega, rfl, by first | rfl | go_num, by go_num, HC5.out, HR5.out, HN6.out, HN5.out, HB5.out, HG5.out⟩
        case measure => simp [intOf]; omega
      · obtain rfl : k = n := by omega
        have hcl := clear_any HC.out
        go_wp2_with fail
        refine hcl.mono ?_
        rintro e w4 ⟨rfl, hc4, hs4⟩
        have hlen := len_any hc4
        have HB4 := Lib.hid (below_stay HBW.out HC.out hs4)
        clear hcl hc4 hs4
        go_wp2_with fail
        refine hlen.mono ?_
        rintro e w6 ⟨rfl, rfl⟩
        go_wp2
        go_ret
        exact ⟨rfl, HB4.out⟩
end Go.Proofs.Ytpdbdlaoeidflaa.Ch
