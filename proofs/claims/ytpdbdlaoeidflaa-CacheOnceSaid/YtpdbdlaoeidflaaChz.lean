/-
  cache: CacheOnce's walk.
-/
import Derived.Test.YtpdbdlaoeidflaaChm
import Derived.Deep.RegionHeld3
namespace Go.Proofs.Ytpdbdlaoeidflaa.Ch
open Go.RowKit
open Go.Proofs.Ytpdbdlaoeidflaa.Kit
open Go.Maps
set_option linter.unusedVariables false

theorem ChAt.but {w w' : World} {B cb mb M c : Nat} {A : Option Addr} {l : List It} (h : ChAt w B cb M A c l) (hg : w.grownBy w' (some mb)) (h1 : mb ≠ cb) (h2 : ob A ≠ some mb) : ChAt w' B cb M A c l :=
  { h with
    box := (hg.block cb h.lt (fun e => h1 (Option.some.inj e).symm)).trans h.box
    own := h.own.kept hg (.inr (by rw [ob_slice]; exact h2)) }
set_option maxRecDepth 100000 in
set_option maxHeartbeats 4000000 in
theorem once_walk (m : Int) (A : Option Addr) (n c : Nat) (st : List Stp) (w : World) (hx : RdP w A n c st) : Calls Try.prog 4 #[.int .i64 m, .slice A n c] w fun e w' => e = .returned (.bool true) ∧ Below w.heap.size w w' := by
  have hln := hx.len
  have hnc := hx.le
  have hc9 := hx.lim
  have HX := Lib.hid hx
  clear hx
  by_cases hbig : 200 < n
  · have hd : (200 : Int) < (n : Int) := by omega
    go_enter Try.func4, Try.ntmps4
    go_wp2_with fail
    refine (alive12_any w).mono ?_
    rintro e w1 ⟨rfl, hb1⟩
    go_wp2
    go_ret
    exact ⟨rfl, hb1⟩
  · have hd : ¬ (200 : Int) < (n : Int) := by omega
    have hmo := most_bd m
    have hmk : ∀ W : World, (Instr.makeMap 37 none).run Try.prog W = .ok (.map (some W.heap.size)) (W.alloc (.map #[] 0)) := fun _ => by kernel_rfl
    go_enter Try.func4, Try.ntmps4
    go_wp2_with fail
    refine (alive12_any w).mono ?_
    rintro e w1 ⟨rfl, hb1⟩
    have HB1 := Lib.hid hb1
    clear hb1
    go_wp2_with fail
    refine (new_any m w1).mono ?_
    rintro e w2 ⟨rfl, hw2⟩
    have HC2 := Lib.hid (show ChAt w2 w.heap.size w1.heap.size (most m) none 0 [] from by rw [hw2]; exact made_at HB1.out.size hmo.1 hmo.2)
    have HB2 := Lib.hid (show Below w.heap.size w w2 from by rw [hw2]; exact below_alloc HB1.out _)
    obtain ⟨cb, hcb⟩ : ∃ q, q = w1.heap.size := ⟨_, rfl⟩
    rw [← hcb] at HC2 ⊢
    clear hw2 hcb HB1
    go_wp2_with fail
    obtain ⟨W3, hW3⟩ : ∃ W, W = w2.alloc (.map #[] 0) := ⟨_, rfl⟩
    obtain ⟨mb, hmb⟩ : ∃ q, q = w2.heap.size := ⟨_, rfl⟩
    have HB3 := Lib.hid (show Below w.heap.size w W3 from by rw [hW3]; exact below_alloc HB2.out _)
    have HC3 := Lib.hid (show ChAt W3 w.heap.size cb (most m) none 0 [] from by rw [hW3]; exact HC2.out.on (below_of_new _ _))
    have HM3 := Lib.hid (show MapO W3 mb 0 (fun _ => False) from by rw [hW3, hmb]; exact MapO.made w2)
    have HNE := Lib.hid (show mb ≠ cb from by rw [hmb]; exact Nat.ne_of_gt HC2.out.lt)
    have HMB := Lib.hid (show w.heap.size ≤ mb from by rw [hmb]; exact HB2.out.size)
    rw [← hW3, ← hmb]
    clear hW3 hmb hmk
    go_loopw [6, 22] (fun vn vi wr => ∃ (k nw : Nat) (l : List It) (A1 : Option Addr) (c1 : Nat) (S : It → Prop), k ≤ n ∧ nw ≤ 63 * k ∧ vn = .int .i64 nw ∧ vi = .int .i64 k ∧ ChAt wr w.heap.size cb (most m) A1 c1 l ∧ MapO wr mb k S ∧ ob A1 ≠ some mb ∧
      Below w.heap.size w wr ∧ ∀ y, S y → y ∈ l ∨ (nw : Int) - y.tm > 30) (fun _ i _ => n - (intOf i).toNat)
    case atStart => exact ⟨0, 0, [], none, 0, fun _ => False, by omega, by omega, rfl, rfl, HC3.out, HM3.out, fun e => (by cases e), HB3.out, fun y h => absurd h id⟩
    case round =>
      obtain ⟨k, nw, l, A1, c1, S, hk, hnw, rfl, rfl, hC, hM, hn1, hbw, hS⟩ := hrel
      have HC := Lib.hid hC
      have HM := Lib.hid hM
      have HN1 := Lib.hid hn1
      have HS := Lib.hid hS
      have HBW := Lib.hid hbw
      clear hC hM hn1 hS hbw
      by_cases hlt : k < n
      · obtain ⟨b, o, s, rfl, _, hsf, c0, c1', c2, c3⟩ := HX.out.get (w' := wr) (Below.mono HBW.out (Nat.le_refl _)) k hlt
        obtain ⟨t, ht63, hta⟩ := and63 s.later
        have hck : (k : Int) < (n : Int) := by omega
        have hwr : IntKind.i64.wrap ((nw : Int) + (t : Int)) = ((nw + t : Nat) : Int) := by rw [IntKind.wrap_i64]; omega
        obtain ⟨SV, hSV⟩ : ∃ q : Array Value, q = #[.int .i64 s.later, .string s.it.cl, .int .i64 s.it.tm, .int .i64 s.it.sq] := ⟨_, rfl⟩
        have hA := below_of_new wr (.cells #[.int .i64 s.later, .string s.it.cl, .int .i64 s.it.tm, .int .i64 s.it.sq] 28)
        have hgA := heap_alloc_new wr (.cells #[.int .i64 s.later, .string s.it.cl, .int .i64 s.it.tm, .int .i64 s.it.sq] 28)
        have hCA := HC.out.on hA
        have hmlt := HM.out.lt
        have hMA := HM.out.kept (w' := wr.alloc (.cells #[.int .i64 s.later, .string s.it.cl, .int .i64 s.it.tm, .int .i64 s.it.sq] 28)) (hA.block mb hmlt)
        have hbA := below_seq HBW.out hA
        obtain ⟨RR, hRR⟩ : ∃ q, q = showS (most m) l ((nw : Int) + (t : Int)) s.it := ⟨_, rfl⟩
        have hsh := show_any hCA hbA.size ((nw : Int) + (t : Int)) s.it
        rw [← hRR] at hsh
        have d1 : (wr.alloc (.cells #[.int .i64 s.later, .string s.it.cl, .int .i64 s.it.tm, .int .i64 s.it.sq] 28)).cell? ⟨wr.heap.size, 1, none⟩ = some (.string s.it.cl) := by rw [cell_of_row _ _ _ _ _ _ hgA]; rfl
        have HRR := Lib.hid hRR
        have HF := Lib.hid hsf
        have HCA := Lib.hid hCA
        have HMA := Lib.hid hMA
        have HBA := Lib.hid hbA
        have HGA := Lib.hid hgA
        have HLT := Lib.hid (show cb < wr.heap.size ∧ mb < wr.heap.size ∧ ∀ g, ob A1 = some g → g < wr.heap.size from ⟨HC.out.lt, hmlt, fun g hg => (HC.out.olt hg).2⟩)
        clear hA hgA hCA hMA hbA hRR hsf hmlt hSV d1
        go_wp2_with fail
        refine hsh.mono ?_
        rintro e w4 ⟨rfl, A2, c2', hc4, hs4⟩
        have hgx := (hs4.block wr.heap.size (by simp) (by have := HLT.out.1; omega) (fun e => by have := HLT.out.2.2 _ e; omega)).trans HGA.out
        have hm4 := HMA.out.kept (w' := w4) (hs4.block mb (by simp; have := HLT.out.2.1; omega) HNE.out HN1.out)
        have hb4 := below_stay HBA.out HCA.out hs4
        have hn2 : ob A2 ≠ some mb := fun e => by
          rcases hs4.to mb e with h | h
          · exact HN1.out h
          · simp at h; have := HLT.out.2.1; omega
        have HC4 := Lib.hid hc4
        have HG4 := Lib.hid hgx
        have HM4 := Lib.hid hm4
        have HB4 := Lib.hid hb4
        have HN2 := Lib.hid hn2
        have hlen := len_any hc4
        have hl64 : (RR.1.length : Int) ≤ 64 := by have := hc4.ll; omega
        have hsz : wr.heap.size < w4.heap.size := (Array.getElem?_eq_some_iff.1 hgx).1
        clear hsh hc4 hs4 hgx hm4 hb4 hn2
        by_cases hz : RR.2 = 0
        · have hzz : (RR.2 == 0) = true := by simpa using hz
          obtain ⟨hnear, hnany, hr1⟩ := show_zero (by rw [← HRR.out]; exact hz : (showS (most m) l ((nw : Int) + (t : Int)) s.it).2 = 0)
          have hnS : ¬ S s.it := fun h => by
            rcases HS.out _ h with h1 | h1
            · have := List.any_eq_false.1 hnany _ h1
              rw [It.eq_iff.2 rfl] at this
              exact this rfl
            · have := nearS_iff.1 hnear
              omega
          have hnr := fun W => near_any ((nw : Int) + (t : Int)) s.it.tm W
          rw [hnear] at hnr
          have hm5 := HM4.out.kept (w' := w4.drew) rfl
          obtain ⟨hlook, est, es1, clock1, hme, hstore⟩ := hm5.step (by omega) HF.out hnS
          have HS5 := Lib.hid (show ∀ y, (S y ∨ y = s.it) → y ∈ RR.1 ∨ ((nw + t : Nat) : Int) - y.tm > 30 from fun y hy => by
            rw [HRR.out]
            rcases hy with hy | rfl
            · rcases HS.out y hy with h1 | h1
              · rcases show_sub (M := most m) (now := (nw : Int) + (t : Int)) (x := s.it) h1 with h2 | h2
                · exact .inl h2
                · right; omega
              · right; omega
            · left; rw [hr1]; exact List.mem_append.2 (.inr (List.mem_singleton.2 rfl)))
          have hmlt4 := HM4.out.lt
          have hm5b : w4.drew.heap[mb]? ≠ none := fun h => by rw [Array.getElem?_eq_none_iff] at h; exact absurd hmlt4 (by simpa using h)
          obtain ⟨ws, hws⟩ : ∃ q, q = Go.ChangeMaps.setBlock w4.drew mb (.map es1 clock1) := ⟨_, rfl⟩
          have hwsm : ws.heap[mb]? = some (.map es1 clock1) := by rw [hws]; simp [Go.ChangeMaps.setBlock, hmlt4]
          have hwso : ∀ i, i ≠ mb → ws.heap[i]? = w4.heap[i]? := fun i hi => by rw [hws]; simp [Go.ChangeMaps.setBlock, Array.getElem?_setIfInBounds, Ne.symm hi]; rfl
          have hwsg : ws.os = w4.os ∧ ws.tape = w4.tape ∧ ws.output = w4.output ∧ w4.heap.size ≤ ws.heap.size := ⟨by rw [hws]; rfl, by rw [hws]; rfl, by rw [hws]; rfl, by rw [hws]; simp [Go.ChangeMaps.setBlock]⟩
          obtain ⟨hlk2, oo, hst, hm6⟩ := hstore ws hwsm
          rw [← hws] at hme
          have hst' : (Instr.entryStore 37 (.map (some mb)) (.int .i64 (est : Int)) (.int .i64 1)).run Try.prog ws = .ok () (Go.ChangeMaps.setBlock ws mb oo) := hst
          have hme' : (Instr.mapEntry 37 (.map (some mb)) (.agg #[.string s.it.cl, .int .i64 s.it.tm, .int .i64 s.it.sq])).run Try.prog w4.drew = .ok (.tuple #[.int .i64 0, .int .i64 (est : Int)]) ws := hme
          have hlook' : (Instr.lookup 37 (.map (some mb)) (.agg #[.string s.it.cl, .int .i64 s.it.tm, .int .i64 s.it.sq]) false).run Try.prog w4.drew = .ok (.int .i64 0) w4.drew := hlook
          have hlk2' : (Instr.lookup 37 (.map (some mb)) (.agg #[.string s.it.cl, .int .i64 s.it.tm, .int .i64 s.it.sq]) false).run Try.prog ws = .ok (.int .i64 0) ws := hlk2
          have hneq : wr.heap.size ≠ mb := by have := HLT.out.2.1; omega
          have HM6 := Lib.hid hm6
          have HWSO := Lib.hid hwso
          have HWSG := Lib.hid hwsg
          clear hlk2 hstore hst hme hlook hm6 hwsm hws hm5b hnear hnany hr1 hwso hwsg hm5
          go_wp2_with fail
          refine wp_region_held_drew (S := fun w' => w'.heap[wr.heap.size]? = some (.cells #[.int .i64 s.later, .string s.it.cl, .int .i64 s.it.tm, .int .i64 s.it.sq] 28 (0, 0))) (by kernel_rfl) HG4.out (fun hHeld => ?_)
          refine wpAnyH_take (i := 0) (v := .map (some mb)) rfl (by kernel_rfl) (by kernel_rfl) (by kernel_rfl) (fun _ _ _ h => h) (Or.inl ⟨by rfl, fun wq hSw => by go_simp⟩) (by assumption) ?_
          go_simp
          refine wpAnyH_take (i := 1) (v := .pointer (some ⟨wr.heap.size, 1, none⟩)) rfl (by kernel_rfl) (by kernel_rfl) (by kernel_rfl) (fun _ _ _ h => h) (Or.inl ⟨by rfl, fun wq hSw => by go_simp⟩) (by assumption) ?_
          go_simp
          refine wpAnyH_take (i := 2) (v := .string s.it.cl) rfl (by kernel_rfl) (by kernel_rfl) (by kernel_rfl) (fun _ _ _ h => h) (Or.inl ⟨by rfl, fun wq hSw => by (have hq := cell_of_row wq wr.heap.size 1 _ _ (0, 0) hSw; simp only [List.getElem?_toArray, List.getElem?_cons_zero, List.getElem?_cons_succ] at hq; go_simp)⟩) (by assumption) ?_
          go_simp
          refine wpAnyH_take (i := 3) (v := .pointer (some ⟨wr.heap.size, 2, none⟩)) rfl (by kernel_rfl) (by kernel_rfl) (by kernel_rfl) (fun _ _ _ h => h) (Or.inl ⟨by rfl, fun wq hSw => by go_simp⟩) (by assumption) ?_
          go_simp
          refine wpAnyH_take (i := 4) (v := .int .i64 s.it.tm) rfl (by kernel_rfl) (by kernel_rfl) (by kernel_rfl) (fun _ _ _ h => h) (Or.inl ⟨by rfl, fun wq hSw => by (have hq := cell_of_row wq wr.heap.size 2 _ _ (0, 0) hSw; simp only [List.getElem?_toArray, List.getElem?_cons_zero, List.getElem?_cons_succ] at hq; go_simp)⟩) (by assumption) ?_
          go_simp
          refine wpAnyH_take (i := 5) (v := .pointer (some ⟨wr.heap.size, 3, none⟩)) rfl (by kernel_rfl) (by kernel_rfl) (by kernel_rfl) (fun _ _ _ h => h) (Or.inl ⟨by rfl, fun wq hSw => by go_simp⟩) (by assumption) ?_
          go_simp
          refine wpAnyH_take (i := 6) (v := .int .i64 s.it.sq) rfl (by kernel_rfl) (by kernel_rfl) (by kernel_rfl) (fun _ _ _ h => h) (Or.inl ⟨by rfl, fun wq hSw => by (have hq := cell_of_row wq wr.heap.size 3 _ _ (0, 0) hSw; simp only [List.getElem?_toArray, List.getElem?_cons_zero, List.getElem?_cons_succ] at hq; go_simp)⟩) (by assumption) ?_
          go_simp
          refine wpAnyH_take (i := 7) (v := .agg #[.string s.it.cl, .int .i64 s.it.tm, .int .i64 s.it.sq]) rfl (by kernel_rfl) (by kernel_rfl) (by kernel_rfl) (fun _ _ _ h => h) (Or.inl ⟨by rfl, fun wq hSw => by go_simp⟩) (by assumption) ?_
          go_simp
          refine wpAnyH_ready (rs := [8, 10]) (by kernel_rfl) (by simp) ?_
          refine AllReadyH.cons rfl (fun K hK => ?_) (AllReadyH.cons rfl (fun K hK => ?_) AllReadyH.nil)
          · go_simp
            refine hK.out _ _ HG4.out (fun hHeld2 => ?_)
            clear hK K
            refine wpAnyH_take (i := 9) (v := .int .i64 1) rfl (by kernel_rfl) (by kernel_rfl) (by kernel_rfl) (fun _ _ _ h => h) (Or.inl ⟨by rfl, fun wq hSw => by (go_simp; rfl)⟩) (by assumption) ?_
            go_simp
            refine wpAnyH_ready (rs := [10]) (by kernel_rfl) (by simp) ?_
            refine AllReadyH.cons rfl (fun K hK => ?_) AllReadyH.nil
            go_simp
            refine hK.out _ _ ((HWSO.out _ hneq).trans HG4.out) (fun hHeld3 => ?_)
            clear hK K
            refine wpAnyH_take (i := 11) (v := .int .i64 (est : Int)) rfl (by kernel_rfl) (by kernel_rfl) (by kernel_rfl) (fun _ _ _ h => h) (Or.inl ⟨by rfl, fun wq hSw => by go_simp⟩) (by assumption) ?_
            go_simp
            refine wpAnyH_ready (rs := [12]) (by kernel_rfl) (by simp) ?_
            refine AllReadyH.cons rfl (fun K hK => ?_) AllReadyH.nil
            go_simp
            have hwo : ∀ i, i ≠ mb → (Go.ChangeMaps.setBlock ws mb oo).heap[i]? = w4.heap[i]? := fun i hi => by rw [← HWSO.out i hi]; simp [Go.ChangeMaps.setBlock, Array.getElem?_setIfInBounds, Ne.symm hi]
            refine hK.out _ _ ((hwo _ hneq).trans HG4.out) (fun hHeld4 => ?_)
            clear hK K
            refine wpAnyH_done (by kernel_rfl) ?_ _
            clear hHeld hHeld2 hHeld3 hHeld4
            have hgr6 : w4.grownBy (Go.ChangeMaps.setBlock ws mb oo) (some mb) := ⟨HWSG.out.1, HWSG.out.2.1, HWSG.out.2.2.1, by have := HWSG.out.2.2.2; simpa [Go.ChangeMaps.setBlock] using this, fun i _ hi => hwo i (fun e => hi (by rw [e]))⟩
            obtain ⟨W6, hW6⟩ : ∃ q, q = Go.ChangeMaps.setBlock ws mb oo := ⟨_, rfl⟩
            rw [← hW6] at hwo HM6 hgr6 ⊢
            have hgx6 := (hwo _ hneq).trans HG4.out
            have d2 : W6.cell? ⟨wr.heap.size, 2, none⟩ = some (.int .i64 s.it.tm) := by rw [cell_of_row _ _ _ _ _ _ hgx6]; rfl
            have hC6 := HC4.out.but hgr6 HNE.out HN2.out
            have hlen6 := len_any hC6
            have HC6 := Lib.hid hC6
            have HB6 := Lib.hid (HB4.out.grown hgr6 HB4.out.size (fun j hj => by obtain rfl : mb = j := Option.some.inj hj; exact HMB.out))
            clear hwo hgr6 hW6 hgx6 hC6 hlen
            go_wp2_with fail
            refine (hnr _).mono ?_
            rintro e w7 ⟨rfl, rfl⟩
            go_wp2_with fail
            refine hlen6.mono ?_
            rintro e w7 ⟨rfl, rfl⟩
            go_wp2
            go_roundw
            case rel => exact ⟨k + 1, nw + t, RR.1, A2, c2', fun y => S y ∨ y = s.it, by omega, by omega, by first | rfl | go_num, by go_num, HC6.out, HM6.out, HN2.out, HB6.out, HS5.out⟩
            case measure => simp [intOf]; omega
          · go_simp
            refine hK.out _ _ ((HWSO.out _ hneq).trans HG4.out) (fun hHeld2 => ?_)
            clear hK K
            refine wpAnyH_take (i := 11) (v := .int .i64 (est : Int)) rfl (by kernel_rfl) (by kernel_rfl) (by kernel_rfl) (fun _ _ _ h => h) (Or.inl ⟨by rfl, fun wq hSw => by go_simp⟩) (by assumption) ?_
            go_simp
            refine wpAnyH_ready (rs := [8]) (by kernel_rfl) (by simp) ?_
            refine AllReadyH.cons rfl (fun K hK => ?_) AllReadyH.nil
            go_simp
            refine hK.out _ _ ((HWSO.out _ hneq).trans HG4.out) (fun hHeld3 => ?_)
            clear hK K
            refine wpAnyH_take (i := 9) (v := .int .i64 1) rfl (by kernel_rfl) (by kernel_rfl) (by kernel_rfl) (fun _ _ _ h => h) (Or.inl ⟨by rfl, fun wq hSw => by (go_simp; rfl)⟩) (by assumption) ?_
            go_simp
            refine wpAnyH_ready (rs := [12]) (by kernel_rfl) (by simp) ?_
            refine AllReadyH.cons rfl (fun K hK => ?_) AllReadyH.nil
            go_simp
            have hwo : ∀ i, i ≠ mb → (Go.ChangeMaps.setBlock ws mb oo).heap[i]? = w4.heap[i]? := fun i hi => by rw [← HWSO.out i hi]; simp [Go.ChangeMaps.setBlock, Array.getElem?_setIfInBounds, Ne.symm hi]
            refine hK.out _ _ ((hwo _ hneq).trans HG4.out) (fun hHeld4 => ?_)
            clear hK K
            refine wpAnyH_done (by kernel_rfl) ?_ _
            clear hHeld hHeld2 hHeld3 hHeld4
            have hgr6 : w4.grownBy (Go.ChangeMaps.setBlock ws mb oo) (some mb) := ⟨HWSG.out.1, HWSG.out.2.1, HWSG.out.2.2.1, by have := HWSG.out.2.2.2; simpa [Go.ChangeMaps.setBlock] using this, fun i _ hi => hwo i (fun e => hi (by rw [e]))⟩
            obtain ⟨W6, hW6⟩ : ∃ q, q = Go.ChangeMaps.setBlock ws mb oo := ⟨_, rfl⟩
            rw [← hW6] at hwo HM6 hgr6 ⊢
            have hgx6 := (hwo _ hneq).trans HG4.out
            have d2 : W6.cell? ⟨wr.heap.size, 2, none⟩ = some (.int .i64 s.it.tm) := by rw [cell_of_row _ _ _ _ _ _ hgx6]; rfl
            have hC6 := HC4.out.but hgr6 HNE.out HN2.out
            have hlen6 := len_any hC6
            have HC6 := Lib.hid hC6
            have HB6 := Lib.hid (HB4.out.grown hgr6 HB4.out.size (fun j hj => by obtain rfl : mb = j := Option.some.inj hj; exact HMB.out))
            clear hwo hgr6 hW6 hgx6 hC6 hlen
            go_wp2_with fail
            refine (hnr _).mono ?_
            rintro e w7 ⟨rfl, rfl⟩
            go_wp2_with fail
            refine hlen6.mono ?_
            rintro e w7 ⟨rfl, rfl⟩
            go_wp2
            go_roundw
            case rel => exact ⟨k + 1, nw + t, RR.1, A2, c2', fun y => S y ∨ y = s.it, by omega, by omega, by first | rfl | go_num, by go_num, HC6.out, HM6.out, HN2.out, HB6.out, HS5.out⟩
            case measure => simp [intOf]; omega
        · have hzz : (RR.2 == 0) = false := by simpa using hz
          clear hz
          have HS5 := Lib.hid (show ∀ y, S y → y ∈ RR.1 ∨ ((nw + t : Nat) : Int) - y.tm > 30 from fun y hy => by
            rw [HRR.out]
            rcases HS.out y hy with h1 | h1
            · rcases show_sub (M := most m) (now := (nw : Int) + (t : Int)) (x := s.it) h1 with h2 | h2
              · exact .inl h2
              · right; omega
            · right; omega)
          go_wp2_with fail
          refine hlen.mono ?_
          rintro e w7 ⟨rfl, rfl⟩
          go_wp2
          go_roundw
          case rel => exact ⟨k + 1, nw + t, RR.1, A2, c2', S, by omega, by omega, by first | rfl | go_num, by go_num, HC4.out, HM4.out.more (by omega), HN2.out, HB4.out, HS5.out⟩
          case measure => simp [intOf]; omega
      · obtain rfl : k = n := by omega
        obtain ⟨D, hown, hD⟩ := HM.out
        have HOWN := Lib.hid hown
        clear hown hD
        go_wp2_with (first
          | (at_range; refine wpList_range_own _ rfl _ 37 rfl 32 3 sh_law Try.underlying37 ROne mb _ D rfl HOWN.out ?_; intro w0 hrg0 hg0 hs0)
          | go_in)
        go_frame
        obtain ⟨rn, hrn⟩ : ∃ q, q = wr.heap.size := ⟨_, rfl⟩
        rw [← hrn] at hrg0 ⊢
        have HB0 := Lib.hid (show Below w.heap.size w w0 from HBW.out.grown hg0 HBW.out.size (fun j hj => by cases hj))
        have HR0 := Lib.hid hrg0
        have HRS := Lib.hid (show w.heap.size ≤ rn from by rw [hrn]; exact HBW.out.size)
        clear hrg0 hg0 hrn
        go_loopw [11] (fun _ wx => ∃ (left : Lit → Bool) (cnt : Nat), wx.ranges Try.prog 32 ROne mb rn k D left cnt ∧ Below w.heap.size w wx) (fun _ wx => wx.rangeLeft mb rn)
        case atStart => exact ⟨_, _, HR0.out, HB0.out⟩
        case round =>
          obtain ⟨left, cnt, hrg, hbx⟩ := hrel
          have HBX := Lib.hid hbx
          clear hbx
          go_wp2_with (first
            | (at_next; refine wpList_next_ranges (α := Value) (β := Unit) _ rfl _ rfl 32 sh_law ROne id (fun _ => .int .i64 1) (fun key kl _ => ⟨key, rfl⟩) (fun v y hv => ⟨(), one_inv hv⟩) mb rn _ _ _ _ rfl hrg ?_ ?_)
            | go_in)
          · intro _ hl0
            go_wp2
            go_ret
            exact ⟨rfl, HBX.out⟩
          · intro x u kl y w7 cnt7 hkx hlx hRx hat hrg7 hlt7 hg7 hs7 hen
            have HB7 := Lib.hid (HBX.out.grown hg7 HBX.out.size (fun j hj => by obtain rfl : rn = j := Option.some.inj hj; exact HRS.out))
            clear hat hRx hlx hkx
            go_wp2
            go_roundw
            case rel => exact ⟨_, cnt7, hrg7, HB7.out⟩
            case measure => rw [hrg7.left_eq, hrg.left_eq]; exact hlt7
end Go.Proofs.Ytpdbdlaoeidflaa.Ch
