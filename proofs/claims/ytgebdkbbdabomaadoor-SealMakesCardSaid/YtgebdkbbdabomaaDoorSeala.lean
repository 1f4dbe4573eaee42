/-
  SEAL, plainly; and the contract of subkey.
-/
import Derived.Test.YtgebdkbbdabomaaDoorMach
import Derived.Test.YtgebdkbbdabomaaDoorAesy
import Derived.Stop.BytesEq
import Derived.Deep.RegionHeld3
import Derived.Deep.RegionHeldLaw
import Derived.Laws.IdiomCopy
import Derived.Orders
namespace Go.Proofs.YtgebdkbbdabomaaDoor.Seal
open Go.RowKit
open Go.Proofs.YtgebdkbbdabomaaDoor.Kit
open Go.Proofs.YtgebdkbbdabomaaDoor.Oct
open Go.Proofs.YtgebdkbbdabomaaDoor.Sha
open Go.Proofs.YtgebdkbbdabomaaDoor.Mac (derS derS_len macS macS_len strL strL_len derive_any sum_any text_any textS textS_len infoKz rd_str keyK keyK_len)
open Go.Proofs.YtgebdkbbdabomaaDoor.Aes (row row_len row_at row_of at_ strF strF_len strF_back CipherAt A16 A16_size A16_one Arr Ag16 There16 ag16 stream_any strF_row)
set_option linter.unusedVariables false

/-- what Stream answers, as bytes that can be read -/
theorem stream_new (G : Nat) (key from_ : Nat → UInt8) (A : Option Addr) (n c : Nat) (bs : List UInt8) (w : World) (hC : CipherAt w G key) (hb : RdB w w.heap.size A n c bs) (hn : n ≤ 1000000000) :
    Calls Tryd.prog 57 #[.pointer (some ⟨G, 0, none⟩), .agg (A16 from_), .slice A n c] w fun e w' => ∃ S, e = .returned (.slice (some ⟨S, 0, none⟩) n n) ∧ RdB w' w'.heap.size (some ⟨S, 0, none⟩) n n (strF key from_ bs) ∧ Below w.heap.size w w' :=
  (stream_any G key from_ A n c bs w hC hb hn).mono fun e w' ⟨S, he, _, ha, hbl⟩ => ⟨S, he, by
    have h := rd_block ha (row_len _ _) (show n ≤ 9223372036854775807 by omega)
    rw [strF_row, hb.len]
    exact h, hbl⟩

/-- the key for a letter and a usage, of which the digits are D -/
def subS (k : List UInt8) (l D : ByteArray) : List UInt8 := derS k (strL l ++ strL D)
theorem subS_len (k : List UInt8) (l D : ByteArray) : (subS k l D).length = 16 := derS_len _ _
def lE : ByteArray := ⟨#[101]⟩
def lM : ByteArray := ⟨#[109]⟩
/-- what hides bytes, and finds hidden ones again -/
def hidS (k : List UInt8) (D : ByteArray) (number b : List UInt8) : List UInt8 := strF (at_ (subS k lE D)) (at_ number) b
theorem hidS_len (k : List UInt8) (D : ByteArray) (number b : List UInt8) : (hidS k D number b).length = b.length := strF_len _ _ _
theorem hidS_back (k : List UInt8) (D : ByteArray) (number b : List UInt8) : hidS k D number (hidS k D number b) = b := strF_back _ _ _
def codS (k : List UInt8) (D : ByteArray) (text : List UInt8) : List UInt8 := (macS (subS k lM D) text).take 16
theorem codS_len (k : List UInt8) (D : ByteArray) (text : List UInt8) : (codS k D text).length = 16 := by rw [codS, List.length_take, macS_len]; rfl
def txtS (k : List UInt8) (D : ByteArray) (number b : List UInt8) : List UInt8 := number ++ hidS k D number b
def boxS (k : List UInt8) (D : ByteArray) (number b : List UInt8) : List UInt8 := txtS k D number b ++ codS k D (txtS k D number b)

theorem st16_run {w : World} {g o : Nat} {cs : Array Value} (ht : w.there g o 16) (hl : cs.size = 16) (h1 : cs.all (·.oneCell') = true) : Sem.run Tryd.prog (storeCells ⟨g, o, none⟩ cs.toList) w = .ok () (w.setCells g o cs.toList) := by
  have hl' : cs.toList.length = 16 := by rw [Array.length_toList]; exact hl
  have := run_storeCells_cells (P := Tryd.prog) g o cs.toList 0 w (fun j hj => by simpa using (ht j (by omega)).1) (fun j hj => by simpa using (ht j (by omega)).2)
    (fun v hv => (Array.all_eq_true_iff_forall_mem.1 h1) v (by simpa using hv))
  simpa using this
/-- a whole block that is stored into is what was stored -/
theorem store_all {w : World} {g : Nat} {t : TypeId} {cur cs : Array Value} (h : w.heap[g]? = some (.cells cur t (0, 0))) (hc : cur.size = 16) (hs : cs.size = 16) : (w.setCells g 0 cs.toList).heap[g]? = some (.cells cs t (0, 0)) := by
  have h1 := Go.Proofs.YtgebdkbbdabomaaDoor.Aes.setCells_heap cs.toList 0 cur.toList w (by simpa using h) (by simp [hc, hs])
  rw [h1]
  have e : splice cur.toList 0 cs.toList = cs.toList := by
    rw [splice, List.take_zero, List.nil_append, Nat.zero_add, List.drop_eq_nil_of_le (by simp [hc, hs]), List.append_nil]
  rw [e]
theorem there_block {w : World} {g : Nat} {t : TypeId} {cur : Array Value} (h : w.heap[g]? = some (.cells cur t (0, 0))) (hc : cur.size = 16) : w.there g 0 16 := fun i hi => by
  refine ⟨?_, frozen_of_row w g _ _ _ h⟩
  rw [cell_of_row w g _ _ _ (0, 0) h, Nat.zero_add, Array.getElem?_eq_getElem (by omega)]; rfl
theorem range_block {w : World} {g : Nat} {t : TypeId} {L : List Value} (h : w.heap[g]? = some (.cells L.toArray t (0, 0))) : w.rangeAt g 0 L := fun j u hu => by
  rw [cell_of_row w g _ _ _ (0, 0) h, Nat.zero_add, List.getElem?_toArray]; exact hu

/-- a number's digits, as the library tells them from a world on, while its table stands -/
def Ito (w : World) (u : Int) (D : ByteArray) : Prop := ∀ W : World, (1 < w.heap.size → W.heap[1]? = w.heap[1]?) → Calls Tryd.prog 72 #[.int .i64 u] W fun e w' => e = .returned (.string D) ∧ Below W.heap.size W w'
theorem Ito.on {w W : World} {u : Int} {D : ByteArray} (h : Ito w u D) (hb : Below w.heap.size w W) : Ito W u D := fun X hx => h X (fun hl => (hx (Nat.lt_of_lt_of_le hl hb.size)).trans (hb.block _ hl))
theorem Ito.now {w : World} {u : Int} {D : ByteArray} (h : Ito w u D) : Calls Tryd.prog 72 #[.int .i64 u] w fun e w' => e = .returned (.string D) ∧ Below w.heap.size w w' := h w (fun _ => rfl)
set_option maxRecDepth 100000 in
theorem ito_5 (w : World) : Ito w 5 ⟨#[53]⟩ := fun W _ => by
  go_enter Tryd.func72, Tryd.ntmps72
  go_wp2
  go_ret
  exact ⟨by rfl, Below.refl _ _⟩
set_option maxRecDepth 100000 in
theorem ito_2 (w : World) : Ito w 2 ⟨#[50]⟩ := fun W _ => by
  go_enter Tryd.func72, Tryd.ntmps72
  go_wp2
  go_ret
  exact ⟨by rfl, Below.refl _ _⟩

theorem strL_app (a b : ByteArray) : strL (a ++ b) = strL a ++ strL b := by
  show (a ++ b).data.toList = a.data.toList ++ b.data.toList
  rw [ByteArray.data_append, Array.toList_append]

set_option maxRecDepth 100000 in
set_option maxHeartbeats 2000000 in
theorem subkey_any (k : List UInt8) (hk : k.length = 16) (l D : ByteArray) (u : Int) (hl : l.size ≤ 100) (hD : D.size ≤ 100) (w : World) (hR : Roots w) (hI : Ito w u D) :
    Calls Tryd.prog 56 #[.agg (k.map bv).toArray, .string l, .int .i64 u] w fun e w' => e = .returned (.agg ((subS k l D).map bv).toArray) ∧ Below w.heap.size w w' := by
  obtain ⟨ZV, hZ⟩ : ∃ q, q = Mac.Z16 := ⟨_, rfl⟩
  have hz : ∀ w, (zeroValue 30).run Tryd.prog w = .ok (.agg ZV) w := by rw [hZ]; exact Mac.z16
  have hzl : ZV.size = 16 := by rw [hZ]; rfl
  obtain ⟨KL, hKL⟩ : ∃ q, q = k.map bv := ⟨_, rfl⟩
  have hKl : KL.length = 16 := by rw [hKL, List.length_map, hk]
  obtain ⟨PV, hPV⟩ : ∃ q, q = ((subS k l D).map bv).toArray := ⟨_, rfl⟩
  have hPs : PV.size = 16 := by rw [hPV]; simp [subS_len]
  have hP1 : PV.all (·.oneCell') = true := by rw [hPV]; exact all_oneCell_toArray (bv_one _)
  have hIP : (Tryd.prog.info? 30).map (·.size) = some PV.size := by rw [hPs]; exact infoKz
  have hiK : (Tryd.prog.info? 30).map (·.size) = some KL.length := by rw [hKl]; exact infoKz
  obtain ⟨W1, hW1⟩ : ∃ q, q = (w.alloc (.cells KL.toArray 30)).alloc (.cells ZV 30) := ⟨_, rfl⟩
  have hg0 : W1.heap[w.heap.size]? = some (.cells KL.toArray 30 (0, 0)) := by rw [hW1]; exact (Mac.heap2 w _ _).1
  have hg1 : W1.heap[w.heap.size + 1]? = some (.cells ZV 30 (0, 0)) := by rw [hW1]; exact (Mac.heap2 w _ _).2
  have hbw : Below w.heap.size w W1 := by rw [hW1]; exact below_alloc (below_of_new w _) _
  have HAR := Lib.hid (show ∀ W, Below W1.heap.size W1 W → W.rangeAt w.heap.size 0 KL from fun W h => range_block ((h.block _ (block_lt_of_heap hg0)).trans hg0))
  have HZ1 := Lib.hid (show ∀ W, Below W1.heap.size W1 W → W.heap[w.heap.size + 1]? = some (.cells ZV 30 (0, 0)) from fun W h => (h.block _ (block_lt_of_heap hg1)).trans hg1)
  have hD2 : (l ++ D).size ≤ 1000000000 := by rw [ByteArray.size_append]; omega
  have HDER := Lib.hid (show ∀ W, Below W1.heap.size W1 W → Calls Tryd.prog 13 #[.agg KL.toArray, .string (l ++ D)] W fun e w' => e = .returned (.agg PV) ∧ Below W.heap.size W w' from fun W h => by
    have h1 := derive_any k hk (l ++ D) hD2 W ((hR.on hbw).on h)
    rw [strL_app] at h1
    rw [hPV, hKL]
    exact h1)
  rw [← hKL, ← hPV]
  have HW1 := Lib.hid hW1
  have HB1 := Lib.hid hbw
  have HI := Lib.hid hI
  have HP1 := Lib.hid hP1
  have HPS := Lib.hid hPs
  have HIP := Lib.hid hIP
  have HZL := Lib.hid hzl
  have hsz : l.size + D.size ≤ 9223372036854775807 := by omega
  have hbd : Below W1.heap.size W1 W1.drew := below_of_drew ⟨1, rfl⟩ _
  clear hZ hKL hPV hW1 hg0 hg1 hbw hI hP1 hPs hIP hzl hR
  go_enter Tryd.func56, Tryd.ntmps56
  go_wp2_with fail
  rw [← HW1.out]
  refine wp_region_held_drew (S := fun W => W.rangeAt w.heap.size 0 KL) (by kernel_rfl) (HAR.out _ hbd) (fun hHeld => ?_)
  refine wpAnyH_take (i := 0) (v := .agg KL.toArray) rfl (by kernel_rfl) (by kernel_rfl) (by kernel_rfl) (fun _ _ _ h => h) (yieldsIf_load_mid (by rfl) _ (.tmp 3) rfl w.heap.size 0 rfl KL _ (fun _ h => h) Tryd.underlying30 rfl hiK) (by assumption) ?_
  go_simp
  refine wpAnyH_take (i := 1) (v := .string l) rfl (by kernel_rfl) (by kernel_rfl) (by kernel_rfl) (fun _ _ _ h => h) (Or.inl ⟨by rfl, fun w _ => by go_simp⟩) (by assumption) ?_
  go_simp
  refine wpAnyH_take (i := 2) (v := .int .i64 u) rfl (by kernel_rfl) (by kernel_rfl) (by kernel_rfl) (fun _ _ _ h => h) (Or.inl ⟨by rfl, fun w _ => by go_simp⟩) (by assumption) ?_
  go_simp
  refine wpAnyH_ready (rs := [3]) (by kernel_rfl) (by simp) ?_
  refine AllReadyH.cons rfl (fun K hK => ?_) AllReadyH.nil
  (go_simp; go_at_call 72; refine (HI.out.on (below_seq HB1.out hbd)).now.mono ?_; rintro e wi ⟨rfl, hbi⟩)
  have hbd2 : Below W1.heap.size W1 wi := below_seq hbd hbi
  try go_simp
  refine hK.out _ _ (HAR.out _ hbd2) (fun hHeld2 => ?_)
  clear hK K
  refine wpAnyH_take (i := 4) (v := .string (l ++ D)) rfl (by kernel_rfl) (by kernel_rfl) (by kernel_rfl) (fun _ _ _ h => h) (Or.inl ⟨by rfl, fun w _ => by go_simp⟩) (by assumption) ?_
  go_simp
  refine wpAnyH_ready (rs := [5]) (by kernel_rfl) (by simp) ?_
  refine AllReadyH.cons rfl (fun K hK => ?_) AllReadyH.nil
  (go_simp; go_at_call 13; refine (HDER.out _ hbd2).mono ?_; rintro e w5 ⟨rfl, hb5⟩)
  have hc5 := below_seq hbd2 hb5
  try go_simp
  refine hK.out _ _ (HAR.out _ hc5) (fun hHeld5 => ?_)
  clear hK K
  have hg5 := HZ1.out w5 hc5
  have th := there_block hg5 HZL.out
  have hs16 := HPS.out
  have hsr := st16_run th hs16 HP1.out
  refine wpAnyH_ready (rs := [6]) (by kernel_rfl) (by simp) ?_
  refine AllReadyH.cons rfl (fun K hK => ?_) AllReadyH.nil
  go_simp
  refine hK.out _ _ (World.rangeAt_setCells_apart hHeld5 _ _ _ (Or.inl (by omega))) (fun hHeld6 => ?_)
  clear hK K
  refine wpAnyH_done (by kernel_rfl) ?_ _
  have hres := store_all hg5 HZL.out HPS.out
  have hbe := Go.Proofs.YtgebdkbbdabomaaDoor.Aes.setCells_below (below_seq HB1.out hc5) (show w.heap.size ≤ w.heap.size + 1 by omega) PV.toList 0
  go_wp2_with fail
  refine bodyPost_ret (v := .agg PV) (results_cell_row Tryd.results56 _ _ (w.heap.size + 1) 30 PV (0, 0) _ (by rfl) hres Tryd.underlying30 rfl HIP.out) rfl ?_
  exact ⟨rfl, hbe⟩
end Go.Proofs.YtgebdkbbdabomaaDoor.Seal
