/-
  The document's Words.
-/
import Derived.Test.YtlkokljlghlldaaDoorNamz
import Derived.Test.YtlkokljlghlldaaDoorKit3
namespace Go.Proofs.YtlkokljlghlldaaDoor.Nam
open Go.RowKit
open Go.Proofs.YtlkokljlghlldaaDoor.Kit
set_option linter.unusedVariables false

theorem below_gb' {B : Nat} {w W w' : World} {row : Option Nat} (h : Below B w W) (hg : W.grownBy w' row) (hB : ∀ g, row = some g → B ≤ g) (hs : B ≤ w.heap.size) : Below B w w' :=
  h.trans ⟨hg.os, hg.tape, hg.output, hg.size, fun k hk => hg.block k (by have := h.size; omega) (fun e => by have := hB k e.symm; omega)⟩
theorem str_one (l : List ByteArray) : ∀ u ∈ l.map Value.string, u.oneCell' = true := by
  intro u hu
  obtain ⟨x, _, rfl⟩ := List.mem_map.1 hu
  rfl
theorem infoStr : (Tryd.prog.info? 9).map (fun i => (i.zero, i.size, i.bytes)) = some (some (.string ⟨#[]⟩), 1, 16) := by kernel_rfl
theorem map_data_inj {a b : List ByteArray} (h : a.map (·.data.toList) = b.map (·.data.toList)) : a = b := by
  induction a generalizing b with
  | nil =>
    cases b with
    | nil => rfl
    | cons y t => simp at h
  | cons x t ih =>
    cases b with
    | nil => simp at h
    | cons y u =>
      simp only [List.map_cons, List.cons.injEq] at h
      rw [ba_ext h.1, ih h.2]

set_option maxRecDepth 100000 in
set_option maxHeartbeats 4000000 in
theorem refWords_any (s : ByteArray) (hz : s.size ≤ 1000000) (w : World) : Calls Tryd.prog 9 #[.string s] w fun e w' => ∃ A n c, e = .returned (.slice A n c) ∧ w'.ownsRow w.heap.size 9 1 (.slice A n c) n ((wordsS s).map Value.string) ∧ (wordsS s).length = n ∧ Below w.heap.size w w' := by
  obtain ⟨ti, hti, htz, hts, htb⟩ := info_parts infoStr
  go_enter Tryd.func9, Tryd.ntmps9
  go_wp2
  go_loopw [3, 4] (fun v3 v4 wr => ∃ (pos n c : Nat) (A : Option Addr) (L : List ByteArray), v3 = .slice A n c ∧ v4 = .int .i64 pos ∧ wr.ownsRow w.heap.size 9 1 (.slice A n c) n (L.map Value.string) ∧ L.length = n ∧ 1 ≤ n ∧ n ≤ pos + 1 ∧ (∀ x ∈ L, x.size ≤ pos) ∧ L.map (·.data.toList) = (s.data.toList.take pos).foldl wadd [[]] ∧ Below w.heap.size w wr ∧ pos ≤ s.size) (fun _ v4 _ => s.size - (intOf v4).toNat)
  case atStart =>
    refine ⟨0, 1, 1, _, [⟨#[]⟩], rfl, rfl, own_new w (arr := #[.string ⟨#[]⟩]) (Nat.le_refl _) rfl (by omega), rfl, by omega, by omega, ?_, rfl, (Below.refl _ w).alloc (Nat.le_refl _) _, by omega⟩
    intro x hx
    simp only [List.mem_singleton] at hx
    rw [hx]
    exact Nat.le_refl _
  case round =>
    obtain ⟨pos, n, c, A, L, e3, e4, hown, hln, hn1, hnp, hsz, hdat, hbw, hpl⟩ := hrel
    subst e3 e4
    by_cases hp : pos < s.size
    · have hd : decide ((pos : Int) < (s.size : Int)) = true := decide_eq_true (by omega)
      have htk : s.data.toList.take (pos + 1) = s.data.toList.take pos ++ [s.get! pos] := by
        rw [List.take_add_one, get_list s pos hp]
        rfl
      obtain ⟨b, hb⟩ : ∃ b, b = s.get! pos := ⟨_, rfl⟩
      have gi : (s[pos]'hp).toNat = b.toNat := by rw [get_at, hb]
      have hstep : (s.data.toList.take (pos + 1)).foldl wadd [[]] = wadd (L.map (·.data.toList)) b := by
        rw [htk, List.foldl_append, ← hdat, ← hb]
        rfl
      have HD := Lib.hid hdat
      have HST := Lib.hid hstep
      have HOW := Lib.hid hown
      have HSZ := Lib.hid hsz
      have HBW := Lib.hid hbw
      clear hdat hstep hown hsz hbw htk
      by_cases h32 : b = 32
      · have q1 : ((b.toNat : Int) == 32) = true := by rw [h32]; rfl
        have HB := Lib.hid h32
        clear h32 hb
        go_wp2_with (refine wpList_app _ rfl (.tmp 16) (.tmp 17) 25 rfl w.heap.size 9 ti (.string ⟨#[]⟩) 16 Tryd.underlying25 hti htz hts htb rfl _ n (L.map Value.string) rfl (own_on HOW.out (below_of_new wr _)) (wr.heap.size + 1) (some ⟨wr.heap.size, 0, none⟩) 1 1 [.string ⟨#[]⟩] rfl ?hr ?h1 (by omega) (by omega) ?hbase ?_)
        case hr =>
          have h := Rd.of_own (own_new wr (base := 0) (e := 9) (n := 1) (arr := #[.string ⟨#[]⟩]) (Nat.zero_le _) rfl (by omega))
          rw [World.size_alloc] at h
          exact h
        case h1 =>
          intro u hu
          simp only [List.mem_singleton] at hu
          rw [hu]
          rfl
        case hbase => have := HBW.out.size; simp; omega
        intro A' c' w' ho' hg' _
        go_wp2
        go_roundw
        case rel =>
          refine ⟨pos + 1, n + 1, c', A', L ++ [⟨#[]⟩], rfl, by go_num, by rw [List.map_append]; exact ho', by rw [List.length_append, hln]; rfl, by omega, by omega, ?_, ?_, ?_, by omega⟩
          · intro x hx
            rcases List.mem_append.1 hx with h | h
            · have := HSZ.out x h; omega
            · simp only [List.mem_singleton] at h
              rw [h]
              exact Nat.zero_le _
          · rw [HST.out, HB.out, List.map_append]
            rfl
          · have hs0 := HBW.out.size
            exact below_gb' (below_seq HBW.out (below_of_new wr _)) hg' (fun g hg => (HOW.out.lt g hg).1) (Nat.le_refl _)
        case measure => simp [intOf]; omega
      · have q1 : ((b.toNat : Int) == 32) = false := by
          simp
          intro e
          exact h32 (UInt8.toNat_inj.1 (by show b.toNat = 32; omega))
        obtain ⟨L0, x, rfl⟩ : ∃ L0 x, L = L0 ++ [x] := ⟨L.dropLast, L.getLast (by intro e; rw [e] at hln; simp at hln; omega), (List.dropLast_concat_getLast _).symm⟩
        obtain rfl : n = L0.length + 1 := by rw [← hln, List.length_append]; rfl
        rcases own_cases HOW.out with ⟨_, _, h0⟩ | ⟨g, rfl⟩
        · omega
        obtain ⟨hcells, hfz⟩ := own_cells HOW.out
        have hcell := hcells L0.length (.string x) (by simp)
        have hfz' := hfz L0.length
        have hxs := HSZ.out x (by simp)
        have hex : (s.extract pos (pos + 1)).data.toList = [b] := by
          rw [Lib.extract_data, Nat.add_sub_cancel_left, hb]
          apply List.ext_getElem?
          intro j
          match j with
          | 0 => rw [List.getElem?_take, if_pos (by omega), List.getElem?_drop]; exact get_list s pos hp
          | j + 1 => rw [List.getElem?_take, if_neg (by omega)]; simp
        have hes : (s.extract pos (pos + 1)).size = 1 := by
          have := congrArg List.length hex
          rw [← Lib.size_eq] at this
          exact this
        have hst := HOW.out.stored L0.length (.string (x ++ s.extract pos (pos + 1)))
        have hset : ((L0 ++ [x]).map Value.string).set L0.length (.string (x ++ s.extract pos (pos + 1))) = (L0 ++ [x ++ s.extract pos (pos + 1)]).map Value.string := by simp
        rw [hset] at hst
        have HSN := Lib.hid hst
        have HEX := Lib.hid hex
        have HNE := Lib.hid h32
        have hge := (HOW.out.lt g rfl).1
        clear hst hset hcells hfz hex h32 hln hb
        go_wp2
        go_region
        go_wp2
        go_roundw
        case rel =>
          have HSN' := HSN.out
          refine ⟨pos + 1, L0.length + 1, c, _, L0 ++ [x ++ s.extract pos (pos + 1)], rfl, by go_num, HSN'.1, by rw [List.length_append]; rfl, by omega, by omega, ?_, ?_, ?_, by omega⟩
          · intro y hy
            rcases List.mem_append.1 hy with h | h
            · have := HSZ.out y (List.mem_append_left _ h); omega
            · simp only [List.mem_singleton] at h
              rw [h, ByteArray.size_append, hes]
              omega
          · rw [HST.out, wadd, if_neg HNE.out, List.map_append, List.map_append]
            simp only [List.map_cons, List.map_nil]
            rw [app_list, HEX.out]
            simp
          · exact (HBW.out.setCell (p := ⟨g, L0.length, none⟩) hge _).drew
        case measure => simp [intOf]; omega
    · have hd : decide ((pos : Int) < (s.size : Int)) = false := decide_eq_false (by omega)
      have hL : L = wordsS s := by
        apply map_data_inj
        rw [hdat, words_data, List.take_of_length_le (by rw [← Lib.size_eq]; omega), wadd_all]
      subst hL
      have HOW := Lib.hid hown
      have HBW := Lib.hid hbw
      clear hdat hown hsz hbw
      go_wp2
      go_ret
      exact ⟨A, n, c, rfl, HOW.out, hln, HBW.out⟩
end Go.Proofs.YtlkokljlghlldaaDoor.Nam
