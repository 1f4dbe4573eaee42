/-
  base: Names: all names, sorted.
-/
import Derived.Test.YtlngbpipmaaedaaBad
import Derived.Test.YtlngbpipmaaedaaBsort
import Derived.Sort.OwnSorted
namespace Go.Proofs.Ytlngbpipmaaedaa.Ba
open Go.RowKit
open Go.Proofs.Ytlngbpipmaaedaa.Kit
set_option linter.unusedVariables false

/-- a name's bytes -/
def Us.nl (u : Us) : List UInt8 := u.nm.data.toList
theorem enc_nl (u : Us) : encStr u.nl = .string u.nm := rfl
/-- all names, sorted -/
def namesU (L : List Us) : List (List UInt8) := (L.map Us.nl).mergeSort fun x y => decide (x ≤ y)
theorem namesU_len (L : List Us) : (namesU L).length = L.length := by rw [namesU, List.length_mergeSort, List.length_map]
theorem infoStr : (Try.prog.info? 9).map (fun i => (i.zero, i.size, i.bytes)) = some (some (.string ⟨#[]⟩), 1, 16) := by kernel_rfl
/-- the sort, over a row of one's own -/
theorem sort_own {w : World} {base n c : Nat} {A : Option Addr} {ss : List (List UInt8)} (hn : ss.length = n) (h : w.ownsRow base 9 1 (.slice A n c) n (ss.map encStr)) (hz : n ≤ 1000000) :
    Calls Try.prog 27 #[.slice A n c] w fun e w' => e = .returned (.tuple #[]) ∧ w'.ownsRow base 9 1 (.slice A n c) n ((ss.mergeSort fun x y => decide (x ≤ y)).map encStr) ∧ w.grownBy w' (A.map (·.block)) := by
  subst hn
  have h0 := h
  rcases h.2 with ⟨hv, hn0⟩ | ⟨g, cap, cur, hv, hb, hh, hc, hm, hs, ht⟩
  · injection hv with h1 h2 h3
    subst h1 h3
    obtain rfl : ss = [] := List.eq_nil_of_length_eq_zero hn0
    refine (Try.slices_Sort_string_none none 0 w).mono fun e w' ⟨he, hw⟩ => ?_
    subst hw
    exact ⟨he, by rw [List.mergeSort_nil]; exact h0, ⟨rfl, rfl, rfl, Nat.le_refl _, fun _ _ _ => rfl⟩⟩
  · injection hv with h1 h2 h3
    subst h1 h3
    have hsl : (ss.mergeSort fun x y => decide (x ≤ y)).length = ss.length := List.length_mergeSort _
    refine (Try.slices_Sort_string g 0 c ss w (holds_of_block hh (by simpa using ht)) (Array.getElem?_eq_some_iff.1 hh).1 (by omega)).mono fun e w' ⟨he, m, os, hw⟩ => ?_
    subst hw
    exact ⟨he, ownsRow_sorted hsl hb hh hc hm hs, grownBy_sorted _⟩

set_option maxRecDepth 100000 in
set_option maxHeartbeats 4000000 in
theorem names_any {w : World} {bb B c : Nat} {A : Option Addr} {L : List Us} (h : BsAt w bb B A c L) (hz : L.length ≤ 100000) :
    Calls Try.prog 15 #[.pointer (some ⟨bb, 0, none⟩)] w fun e w' => ∃ A' c', e = .returned (.slice A' L.length c') ∧ w'.ownsRow w.heap.size 9 1 (.slice A' L.length c') L.length ((namesU L).map encStr) ∧ Below w.heap.size w w' := by
  obtain ⟨n, hn⟩ : ∃ q, q = L.length := ⟨_, rfl⟩
  have c0 : w.cell? ⟨bb, 0, none⟩ = some (.slice A n c) := by rw [cell_of_row _ _ _ _ _ _ h.row, hn]; rfl
  obtain ⟨ZV, hZ⟩ : ∃ q, q = ZU := ⟨_, rfl⟩
  have hz30 : ∀ w, (zeroValue 30).run Try.prog w = .ok (.agg ZV) w := fun w => by rw [hZ]; exact zU_zero w
  have HZV := Lib.hid hZ
  obtain ⟨i0, hi, hi0, hi1, hi2⟩ := info_parts infoStr
  have HL := Lib.hid (show ∀ (j : Nat) (u : Us), L[j]? = some u → u.key.length = 16 ∧ ∃ g, A = some ⟨g, 0, none⟩ ∧ g < w.heap.size ∧ w.rangeAt g (j * 20) u.cells from fun j u hj => ⟨h.k16 u (List.mem_of_getElem? hj), own_us h.own h.k16 hj⟩)
  rw [← hn] at hz ⊢
  have HN := Lib.hid hn
  clear h hZ hn
  go_enter Try.func15, Try.ntmps15
  go_wp2
  go_loopw [3, 11] (fun v3 v11 wr => ∃ (j : Nat) (A' : Option Addr) (c' : Nat), j ≤ n ∧ v11 = .int .i64 j ∧ v3 = .slice A' j c' ∧ wr.ownsRow w.heap.size 9 1 (.slice A' j c') j (((L.map Us.nl).take j).map encStr) ∧ Below w.heap.size w wr) (fun _ v11 _ => n - (intOf v11).toNat)
  case atStart => exact ⟨0, none, 0, by omega, rfl, rfl, ⟨rfl, .inl ⟨rfl, rfl⟩⟩, Below.refl _ _⟩
  case round =>
    obtain ⟨j, A', c', hj, rfl, rfl, hown, hb⟩ := hrel
    have HO := Lib.hid hown
    have HB := Lib.hid hb
    clear hown hb
    by_cases hlt : j < n
    · have hd : decide ((j : Int) < (n : Int)) = true := decide_eq_true (by omega)
      obtain ⟨u, hu⟩ : ∃ u, L[j]? = some u := ⟨L[j]'(by have := HN.out; omega), List.getElem?_eq_getElem _⟩
      obtain ⟨hu16, g, rfl, hg, hrg⟩ := HL.out j u hu
      have HR := Lib.hid (show wr.rangeAt g (j * 20) u.cells from fun i v hi => (HB.out.cell (p := ⟨g, j * 20 + i, none⟩) hg).trans (hrg i v hi))
      have HUI := Lib.hid (show (Try.prog.info? 30).map (·.size) = some u.cells.length from by rw [Us.len hu16]; exact infoU)
      obtain ⟨UV, hUV⟩ : ∃ z, z = u.arr := ⟨_, rfl⟩
      have hu2 : u.cells.toArray = UV := hUV.symm
      have hU20 : UV.size = 20 := by rw [hUV]; exact Us.size hu16
      have HI := Lib.hid (show (Try.prog.info? 30).map (·.size) = some UV.size from by rw [hU20]; exact infoU)
      have HZ2 := Lib.hid (show ZV.size = UV.size from by rw [hU20, HZV.out]; rfl)
      have HON := Lib.hid (show UV.all (·.oneCell') = true from by rw [hUV]; exact all_oneCell_toArray (Us.one _))
      obtain ⟨W8, hW8⟩ : ∃ q, q = wr.alloc (.cells UV 30) := ⟨_, rfl⟩
      have hb8 : Below wr.heap.size wr W8 := by rw [hW8]; exact below_of_new _ _
      have hr8 : W8.heap[wr.heap.size]? = some (.cells u.arr 30 (0, 0)) := by rw [hW8, hUV]; exact heap_alloc_new _ _
      obtain ⟨q0, r1, r2, r3, r4⟩ := us_row hr8 hu16
      have HG8 := Lib.hid (show ∀ z, (wr.alloc (.cells z 30)).heap[wr.heap.size]? = some (.cells z 30 (0, 0)) from fun z => heap_alloc_new wr _)
      have HW8 := Lib.hid (show wr.alloc (.cells UV 30) = W8 from hW8.symm)
      have hb9 : Below wr.heap.size wr (W8.alloc (.cells #[.string u.nm] 9)) := below_seq hb8 (below_of_new _ _)
      have HO9 := Lib.hid (show (W8.alloc (.cells #[.string u.nm] 9)).ownsRow w.heap.size 9 1 (.slice A' j c') j (((L.map Us.nl).take j).map encStr) from own_sameB HO.out hb9.os hb9.tape hb9.output hb9.size fun g hg => hb9.block g (HO.out.lt g hg).2)
      have HB9 := Lib.hid (below_seq HB.out hb9)
      have HS9 := Lib.hid (show w.heap.size ≤ (W8.alloc (.cells #[.string u.nm] 9)).heap.size from (below_seq HB.out hb9).size)
      have HU := Lib.hid hu
      have hOL := fun g (e : ob A' = some g) => (HO.out.lt g (by rw [ob_slice]; exact e)).1
      have HOL := Lib.hid hOL
      clear hrg hg hU20 hUV hW8 hb8 hr8 hb9 r1 r2 r3 r4 hu hOL
      go_wp2_with (first
        | (refine wpList_load_mid (op := ⟨some 14, _, _, _, _, _⟩) rfl 30 (.tmp 13) rfl g (j * 20) rfl u.cells _ HR.out Try.underlying30 rfl HUI.out ?_; rw [hu2])
        | (refine wpList_store_row (o := ⟨none, _, _, _, _, _⟩) rfl 30 (.tmp 5) (.tmp 14) rfl wr.heap.size UV rfl rfl 30 _ (HG8.out _) HI.out HZ2.out HON.out ?_; rw [World.setRow_alloc_new, HW8.out])
        | (at_builtin; go_loud (refine wpList_append_lies _ rfl (.tmp 15) (.tmp 18) 45 rfl w.heap.size 9 i0 _ 1 16 Try.underlying45 hi hi0 hi1 hi2 rfl (by omega) (.slice A' j c') j (((L.map Us.nl).take j).map encStr) (by rfl) HO9.out ⟨W8.heap.size, 0, none⟩ 1 1 [.string u.nm] (by rfl) (by rfl) (World.news_of_block (cs := #[.string u.nm]) (t := 9) (fr := (0, 0)) (heap_alloc_new W8 _)) (by intro v hv; simp only [List.mem_cons, List.not_mem_nil, or_false] at hv; subst hv; rfl) (by omega) (by unfold maxLen; omega) (by omega) HS9.out (W8.heap.size + 1) (by simp) ?_); intro gg cap w5 hown5 hgrow5 hat5 hlt5))
      rw [ob_slice] at hgrow5
      have hbe := HB9.out.grown hgrow5 HS9.out (fun g e => HOL.out g e)
      have hown6 : w5.ownsRow w.heap.size 9 1 (.slice (some ⟨gg, 0, none⟩) (j + 1) cap) (j + 1) (((L.map Us.nl).take (j + 1)).map encStr) := by
        have e : (L.map Us.nl)[j]? = some u.nl := by rw [List.getElem?_map, HU.out]; rfl
        rw [List.take_add_one, e, List.map_append]
        exact hown5
      have HF := Lib.hid (And.intro hown6 hbe)
      clear hown6 hbe hown5 hgrow5 hat5 hlt5
      go_wp2
      go_roundw
      case rel => exact ⟨j + 1, _, _, by omega, by go_num, by go_num, HF.out.1, HF.out.2⟩
      case measure => simp [intOf]; omega
    · obtain rfl : j = n := by omega
      have hlt : ¬ (j : Int) < (j : Int) := by omega
      have hso := sort_own (w := wr) (base := w.heap.size) (n := j) (c := c') (A := A') (ss := L.map Us.nl) (by rw [List.length_map]; exact HN.out.symm) (by have := HO.out; rwa [List.take_of_length_le (by rw [List.length_map, ← HN.out]; exact Nat.le_refl _)] at this) (by omega)
      go_wp2_with fail
      refine hso.mono ?_
      rintro e w' ⟨rfl, ho', hg'⟩
      go_wp2
      go_ret
      exact ⟨_, _, rfl, ho', HB.out.grown hg' HB.out.size (fun g e => (HO.out.lt g (by rw [ob_slice]; exact e)).1)⟩
end Go.Proofs.Ytlngbpipmaaedaa.Ba
