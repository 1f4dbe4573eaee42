/-
  sym's Fresh, Text, Derive.
-/
import Derived.Test.YtbfcdlfjlailjaaSymy
import Derived.Test.YtbfcdlfjlailjaaSymz
namespace Go.Proofs.Ytbfcdlfjlailjaa.Sym
open Go.RowKit
open Go.Proofs.Ytbfcdlfjlailjaa.Kit
open Go.Proofs.Ytbfcdlfjlailjaa.Oct
set_option linter.unusedVariables false

theorem once_any (tb : Nat) (L : Lay) (O S : Nat → Prop) (T : Tab) (o : Og) (w : World) (h : TabAt w tb L O S T) (ho : o.ok) (hlen : T.ks.length < 100000) :
    Calls Try.prog 42 #[.pointer (some ⟨tb, 0, none⟩), o.val] w fun e w' => e = .returned (.agg (kv (mk 107 (onceT T o).1))) ∧ Went w w' tb O S (onceT T o).2 := by
  cases hk : T.fd o with
  | none => exact once_no tb L O S T o w h ho hlen hk
  | some k => exact once_yes tb L O S T o w h ho hlen hk
def Fr.none : Fr := ⟨List.replicate 16 0, ⟨#[]⟩, false⟩
def Fr.text : Fr := ⟨List.replicate 16 0, ⟨#[]⟩, true⟩
theorem Fr.none_ok : Fr.none.ok := ⟨rfl, by decide⟩
theorem Fr.text_ok : Fr.text.ok := ⟨rfl, by decide⟩
theorem Fr.none_cells : Fr.none.cells.toArray = #[.int .u8 0, .int .u8 0, .int .u8 0, .int .u8 0, .int .u8 0, .int .u8 0, .int .u8 0, .int .u8 0, .int .u8 0, .int .u8 0, .int .u8 0, .int .u8 0, .int .u8 0, .int .u8 0, .int .u8 0, .int .u8 0, .string ⟨#[]⟩, .bool false] := rfl
theorem Fr.text_cells : Fr.text.cells.toArray = #[.int .u8 0, .int .u8 0, .int .u8 0, .int .u8 0, .int .u8 0, .int .u8 0, .int .u8 0, .int .u8 0, .int .u8 0, .int .u8 0, .int .u8 0, .int .u8 0, .int .u8 0, .int .u8 0, .int .u8 0, .int .u8 0, .string ⟨#[]⟩, .bool true] := rfl
theorem Went.keep {w W w2 : World} {tb g : Nat} {L : Lay} {O S : Nat → Prop} {T T' : Tab} (h : TabAt w tb L O S T) (hW : Below w.heap.size w W) (h2 : Went W w2 tb O S T') (hg : w.heap.size ≤ g) (hg2 : g < W.heap.size) : w2.heap[g]? = W.heap[g]? := by
  obtain ⟨L', O', S', h1, hk, ho, hs⟩ := h2
  exact hk.2.2.2.2 g hg2 (fun hO => by have := h.lt g (.inl hO); omega)

set_option maxRecDepth 100000 in
set_option maxHeartbeats 2000000 in
theorem fresh_any (tb : Nat) (L : Lay) (O S : Nat → Prop) (T : Tab) (w : World) (h : TabAt w tb L O S T) (hlen : T.ks.length < 100000) :
    Calls Try.prog 12 #[.pointer (some ⟨tb, 0, none⟩)] w fun e w' => e = .returned (.agg (kv (mk 107 (T.ks.length + 1)))) ∧ Went w w' tb O S { T with ks := T.ks ++ [Fr.none] } := by
  obtain ⟨ZA, hZA⟩ : ∃ q : Array Value, q = #[.int .u8 0, .int .u8 0, .int .u8 0, .int .u8 0, .int .u8 0, .int .u8 0, .int .u8 0, .int .u8 0, .int .u8 0, .int .u8 0, .int .u8 0, .int .u8 0, .int .u8 0, .int .u8 0, .int .u8 0, .int .u8 0] := ⟨_, rfl⟩
  obtain ⟨PV, hPV⟩ : ∃ q, q = kv (mk 107 (T.ks.length + 1)) := ⟨_, rfl⟩
  have hPs : PV.size = 16 := by rw [hPV, kv_size, mk_len]
  have HPI := Lib.hid (show (Try.prog.info? 36).map (·.size) = some PV.size from by rw [hPs]; exact infoK)
  have HPA := Lib.hid (show PV.all (·.oneCell') = true from by rw [hPV]; exact kv_one _)
  have HZS := Lib.hid (show ZA.size = PV.size from by rw [hZA, hPs]; rfl)
  have HM := Lib.hid (show Calls Try.prog 41 #[.pointer (some ⟨tb, 0, none⟩), .agg #[.int .u8 0, .int .u8 0, .int .u8 0, .int .u8 0, .int .u8 0, .int .u8 0, .int .u8 0, .int .u8 0, .int .u8 0, .int .u8 0, .int .u8 0, .int .u8 0, .int .u8 0, .int .u8 0, .int .u8 0, .int .u8 0, .string ⟨#[]⟩, .bool false]] (w.alloc (.cells ZA 36)) fun e w' => e = .returned (.agg PV) ∧ Went (w.alloc (.cells ZA 36)) w' tb O S { T with ks := T.ks ++ [Fr.none] } from by
    have := made_any tb L O S T Fr.none (w.alloc (.cells ZA 36)) (h.below (below_of_new w _)) Fr.none_ok hlen
    rw [Fr.none_cells, ← hPV] at this
    exact this.mono fun e w' ⟨L', O', h1, h2, h3, h4, h5⟩ => ⟨h1, L', O', S, h2, h4, h5, fun _ hb => .inl hb⟩)
  have HZA := Lib.hid hZA
  have HPV := Lib.hid hPV
  have HH := Lib.hid h
  clear hZA hPV hPs h
  go_enter Try.func12, Try.ntmps12
  go_wp2_with fail
  rw [← HZA.out]
  refine HM.out.mono ?_
  rintro e w1 ⟨rfl, hw1⟩
  have HW := Lib.hid hw1
  have HG := Lib.hid ((Went.keep HH.out (below_of_new w _) hw1 (g := w.heap.size) (by omega) (by simp)).trans (heap_alloc_new w _))
  clear hw1
  go_wp2_with (refine wpList_store_row (o := ⟨none, _, _, _, _, _⟩) rfl 36 (.tmp 2) (.tmp 5) rfl (w.heap.size) PV rfl rfl 36 _ HG.out HPI.out HZS.out HPA.out ?_)
  have hres := setRow_heap _ (w.heap.size) _ PV _ _ HG.out
  refine bodyPost_ret (v := .agg PV) (results_cell_row Try.results12 _ _ (w.heap.size) 36 PV (0, 0) _ (by rfl) hres Try.underlying36 rfl HPI.out) rfl ?_
  exact ⟨by rw [HPV.out], Went.ret HH.out (below_of_new w _) (by omega) (by simp) HW.out PV⟩

set_option maxRecDepth 100000 in
set_option maxHeartbeats 2000000 in
theorem text_any (tb : Nat) (L : Lay) (O S : Nat → Prop) (T : Tab) {p s : ByteArray} (hp : p.size ≤ 1000000) (hs : s.size ≤ 1000000) (w : World) (h : TabAt w tb L O S T) (hlen : T.ks.length < 100000) :
    Calls Try.prog 14 #[.pointer (some ⟨tb, 0, none⟩), .string p, .string s] w fun e w' => e = .returned (.agg (kv (mk 107 (onceT T ⟨Fr.text, p, s⟩).1))) ∧ Went w w' tb O S (onceT T ⟨Fr.text, p, s⟩).2 := by
  obtain ⟨ZA, hZA⟩ : ∃ q : Array Value, q = #[.int .u8 0, .int .u8 0, .int .u8 0, .int .u8 0, .int .u8 0, .int .u8 0, .int .u8 0, .int .u8 0, .int .u8 0, .int .u8 0, .int .u8 0, .int .u8 0, .int .u8 0, .int .u8 0, .int .u8 0, .int .u8 0] := ⟨_, rfl⟩
  obtain ⟨PV, hPV⟩ : ∃ q, q = kv (mk 107 (onceT T ⟨Fr.text, p, s⟩).1) := ⟨_, rfl⟩
  have hPs : PV.size = 16 := by rw [hPV, kv_size, mk_len]
  have HPI := Lib.hid (show (Try.prog.info? 36).map (·.size) = some PV.size from by rw [hPs]; exact infoK)
  have HPA := Lib.hid (show PV.all (·.oneCell') = true from by rw [hPV]; exact kv_one _)
  have HZS := Lib.hid (show ZA.size = PV.size from by rw [hZA, hPs]; rfl)
  have HM := Lib.hid (show Calls Try.prog 42 #[.pointer (some ⟨tb, 0, none⟩), .agg #[.int .u8 0, .int .u8 0, .int .u8 0, .int .u8 0, .int .u8 0, .int .u8 0, .int .u8 0, .int .u8 0, .int .u8 0, .int .u8 0, .int .u8 0, .int .u8 0, .int .u8 0, .int .u8 0, .int .u8 0, .int .u8 0, .string ⟨#[]⟩, .bool true, .string p, .string s]] (w.alloc (.cells ZA 36)) fun e w' => e = .returned (.agg PV) ∧ Went (w.alloc (.cells ZA 36)) w' tb O S (onceT T ⟨Fr.text, p, s⟩).2 from by
    rw [hPV]
    exact once_any tb L O S T ⟨Fr.text, p, s⟩ (w.alloc (.cells ZA 36)) (h.below (below_of_new w _)) ⟨Fr.text_ok, hp, hs⟩ hlen)
  have HZA := Lib.hid hZA
  have HPV := Lib.hid hPV
  have HH := Lib.hid h
  clear hZA hPV hPs h
  go_enter Try.func14, Try.ntmps14
  go_wp2_with fail
  rw [← HZA.out]
  refine HM.out.mono ?_
  rintro e w1 ⟨rfl, hw1⟩
  have HW := Lib.hid hw1
  have HG := Lib.hid ((Went.keep HH.out (below_of_new w _) hw1 (g := w.heap.size) (by omega) (by simp)).trans (heap_alloc_new w _))
  clear hw1
  go_wp2_with (refine wpList_store_row (o := ⟨none, _, _, _, _, _⟩) rfl 36 (.tmp 6) (.tmp 12) rfl (w.heap.size) PV rfl rfl 36 _ HG.out HPI.out HZS.out HPA.out ?_)
  have hres := setRow_heap _ (w.heap.size) _ PV _ _ HG.out
  refine bodyPost_ret (v := .agg PV) (results_cell_row Try.results14 _ _ (w.heap.size) 36 PV (0, 0) _ (by rfl) hres Try.underlying36 rfl HPI.out) rfl ?_
  exact ⟨by rw [HPV.out], Went.ret HH.out (below_of_new w _) (by omega) (by simp) HW.out PV⟩

set_option maxRecDepth 100000 in
set_option maxHeartbeats 2000000 in
theorem derive_any (tb : Nat) (L : Lay) (O S : Nat → Prop) (T : Tab) {k : List UInt8} {lab : ByteArray} (hk : k.length = 16) (hs : lab.size ≤ 1000000) (w : World) (h : TabAt w tb L O S T) (hlen : T.ks.length < 100000) :
    Calls Try.prog 13 #[.pointer (some ⟨tb, 0, none⟩), .agg (kv k), .string lab] w fun e w' => e = .returned (.agg (kv (mk 107 (onceT T ⟨⟨k, lab, false⟩, ⟨#[]⟩, ⟨#[]⟩⟩).1))) ∧ Went w w' tb O S (onceT T ⟨⟨k, lab, false⟩, ⟨#[]⟩, ⟨#[]⟩⟩).2 := by
  obtain ⟨ZA, hZA⟩ : ∃ q : Array Value, q = #[.int .u8 0, .int .u8 0, .int .u8 0, .int .u8 0, .int .u8 0, .int .u8 0, .int .u8 0, .int .u8 0, .int .u8 0, .int .u8 0, .int .u8 0, .int .u8 0, .int .u8 0, .int .u8 0, .int .u8 0, .int .u8 0] := ⟨_, rfl⟩
  obtain ⟨PV, hPV⟩ : ∃ q, q = kv (mk 107 (onceT T ⟨⟨k, lab, false⟩, ⟨#[]⟩, ⟨#[]⟩⟩).1) := ⟨_, rfl⟩
  have hPs : PV.size = 16 := by rw [hPV, kv_size, mk_len]
  have HPI := Lib.hid (show (Try.prog.info? 36).map (·.size) = some PV.size from by rw [hPs]; exact infoK)
  have HPA := Lib.hid (show PV.all (·.oneCell') = true from by rw [hPV]; exact kv_one _)
  have HZS := Lib.hid (show ZA.size = PV.size from by rw [hZA, hPs]; rfl)
  obtain ⟨KV, hKV⟩ : ∃ q, q = kv k := ⟨_, rfl⟩
  have hKs : KV.size = 16 := by rw [hKV, kv_size, hk]
  obtain ⟨a0, a1, a2, a3, a4, a5, a6, a7, a8, a9, a10, a11, a12, a13, a14, a15, rfl⟩ := size16 hKs
  rw [← hKV]
  have HKI := Lib.hid (show (Try.prog.info? 36).map (·.size) = some (#[a0, a1, a2, a3, a4, a5, a6, a7, a8, a9, a10, a11, a12, a13, a14, a15] : Array Value).size from by exact infoK)
  have hOV : (⟨⟨k, lab, false⟩, ⟨#[]⟩, ⟨#[]⟩⟩ : Og).val = .agg #[a0, a1, a2, a3, a4, a5, a6, a7, a8, a9, a10, a11, a12, a13, a14, a15, .string lab, .bool false, .string ⟨#[]⟩, .string ⟨#[]⟩] := by
    have h2 : k.map bv = [a0, a1, a2, a3, a4, a5, a6, a7, a8, a9, a10, a11, a12, a13, a14, a15] := by have := congrArg Array.toList hKV; simpa [kv] using this.symm
    simp [Og.val, Og.cells, Fr.cells, h2]
  have HM := Lib.hid (show Calls Try.prog 42 #[.pointer (some ⟨tb, 0, none⟩), .agg #[a0, a1, a2, a3, a4, a5, a6, a7, a8, a9, a10, a11, a12, a13, a14, a15, .string lab, .bool false, .string ⟨#[]⟩, .string ⟨#[]⟩]] ((w.alloc (.cells #[a0, a1, a2, a3, a4, a5, a6, a7, a8, a9, a10, a11, a12, a13, a14, a15] 36)).alloc (.cells ZA 36)) fun e w' => e = .returned (.agg PV) ∧ Went ((w.alloc (.cells #[a0, a1, a2, a3, a4, a5, a6, a7, a8, a9, a10, a11, a12, a13, a14, a15] 36)).alloc (.cells ZA 36)) w' tb O S (onceT T ⟨⟨k, lab, false⟩, ⟨#[]⟩, ⟨#[]⟩⟩).2 from by
    rw [hPV, ← hOV]
    exact once_any tb L O S T ⟨⟨k, lab, false⟩, ⟨#[]⟩, ⟨#[]⟩⟩ ((w.alloc (.cells #[a0, a1, a2, a3, a4, a5, a6, a7, a8, a9, a10, a11, a12, a13, a14, a15] 36)).alloc (.cells ZA 36)) (h.below (below_seq (below_of_new w _) (below_of_new _ _))) ⟨⟨hk, hs⟩, by show (0 : Nat) ≤ 1000000; omega, by show (0 : Nat) ≤ 1000000; omega⟩ hlen)
  have HGK := Lib.hid (show ((w.alloc (.cells #[a0, a1, a2, a3, a4, a5, a6, a7, a8, a9, a10, a11, a12, a13, a14, a15] 36)).alloc (.cells ZA 36)).heap[w.heap.size]? = some (.cells #[a0, a1, a2, a3, a4, a5, a6, a7, a8, a9, a10, a11, a12, a13, a14, a15] 36 (0, 0)) from by rw [heap_alloc_old _ _ (by simp)]; exact heap_alloc_new w _)
  have HGZ := Lib.hid (show ((w.alloc (.cells #[a0, a1, a2, a3, a4, a5, a6, a7, a8, a9, a10, a11, a12, a13, a14, a15] 36)).alloc (.cells ZA 36)).heap[w.heap.size + 1]? = some (.cells ZA 36 (0, 0)) from heap_new' _ _ (by simp))
  obtain ⟨W2, hW2⟩ : ∃ q, q = ((w.alloc (.cells #[a0, a1, a2, a3, a4, a5, a6, a7, a8, a9, a10, a11, a12, a13, a14, a15] 36)).alloc (.cells ZA 36)) := ⟨_, rfl⟩
  clear hKV hOV hk hKs
  have HZA := Lib.hid hZA
  have HPV := Lib.hid hPV
  have HH := Lib.hid h
  clear hZA hPV hPs h
  go_enter Try.func13, Try.ntmps13
  go_wp2_with fail
  rw [← HZA.out, ← hW2]
  rw [← hW2] at HGK HGZ HM
  have HW2 := Lib.hid hW2
  clear hW2
  go_wp2_with (refine wpList_load_row rfl 36 (.tmp 4) rfl w.heap.size rfl 36 _ (0, 0) _ HGK.out Try.underlying36 rfl HKI.out ?_)
  refine HM.out.mono ?_
  rintro e w1 ⟨rfl, hw1⟩
  have HW := Lib.hid hw1
  have hb2 : Below w.heap.size w W2 := by rw [HW2.out]; exact below_seq (below_of_new w _) (below_of_new _ _)
  have hs2 : W2.heap.size = w.heap.size + 2 := by rw [HW2.out]; simp
  have HG := Lib.hid ((Went.keep HH.out hb2 hw1 (g := w.heap.size + 1) (by omega) (by omega)).trans HGZ.out)
  have HB2 := Lib.hid hb2
  have HS2 := Lib.hid hs2
  clear hw1 hb2 hs2
  go_wp2_with (refine wpList_store_row (o := ⟨none, _, _, _, _, _⟩) rfl 36 (.tmp 6) (.tmp 12) rfl (w.heap.size + 1) PV rfl rfl 36 _ HG.out HPI.out HZS.out HPA.out ?_)
  have hres := setRow_heap _ (w.heap.size + 1) _ PV _ _ HG.out
  refine bodyPost_ret (v := .agg PV) (results_cell_row Try.results13 _ _ (w.heap.size + 1) 36 PV (0, 0) _ (by rfl) hres Try.underlying36 rfl HPI.out) rfl ?_
  exact ⟨by rw [HPV.out], Went.ret HH.out HB2.out (by omega) (by have := HS2.out; omega) HW.out PV⟩
end Go.Proofs.Ytbfcdlfjlailjaa.Sym
