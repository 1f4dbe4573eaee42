/-
  sym's Digest, where the bytes have a sum.
-/
import Derived.Test.YtbfcdlfjlailjaaSydmg
namespace Go.Proofs.Ytbfcdlfjlailjaa.Sym
open Go.RowKit
open Go.Proofs.Ytbfcdlfjlailjaa.Kit
open Go.Proofs.Ytbfcdlfjlailjaa.Oct
set_option linter.unusedVariables false

/-- at which place bytes stand among sums -/
def idxS : List (List UInt8) → List UInt8 → Nat
  | [], _ => 0
  | x :: r, b => if x = b then 0 else idxS r b + 1
theorem idxS_at : ∀ (l : List (List UInt8)) (b : List UInt8) (k : Nat), l[k]? = some b → (∀ j : Nat, j < k → l[j]? ≠ some b) → idxS l b = k
  | [], b, k, h, _ => by simp at h
  | x :: r, b, 0, h, _ => by
    have h : x = b := by simpa using h
    unfold idxS
    rw [if_pos h]
  | x :: r, b, k + 1, h, hn => by
    have h0 : ¬ x = b := fun e => hn 0 (by omega) (by rw [e]; rfl)
    unfold idxS
    rw [if_neg h0, idxS_at r b k (by simpa using h) (fun j hj e => hn (j + 1) (by omega) (by simpa using e))]
theorem idxS_no : ∀ (l : List (List UInt8)) (b : List UInt8), (∀ j : Nat, l[j]? ≠ some b) → idxS l b = l.length
  | [], b, _ => rfl
  | x :: r, b, hn => by
    have h0 : ¬ x = b := fun e => hn 0 (by rw [e]; rfl)
    unfold idxS
    rw [if_neg h0, idxS_no r b (fun j e => hn (j + 1) (by simpa using e)), List.length_cons]
/-- where the sums lie -/
theorem TabAt.sum_at {w : World} {tb : Nat} {L : Lay} {O S : Nat → Prop} {T : Tab} (h : TabAt w tb L O S T) : ∀ i (hi : i < T.sm.length), ∃ g X cx, L.A3 = some ⟨g, 0, none⟩ ∧ w.cell? ⟨g, i, none⟩ = some (.slice X T.sm[i].length cx) ∧ RdB w w.heap.size X T.sm[i].length cx T.sm[i] := fun i hi => by
  have ho := h.o3
  rw [Lay.v3] at ho
  rcases own_cases ho with ⟨_, _, h0⟩ | ⟨g, hA⟩
  · omega
  obtain ⟨X, cx, hx, hr⟩ := SmRow.at_ T.sm h.r3 i hi
  rw [hA] at ho
  refine ⟨g, X, cx, hA, (own_cells ho).1 i _ hx, hr.1, hr.2.1, hr.2.2.1, fun hn => ?_⟩
  obtain ⟨b, o, e, hb, hc⟩ := hr.2.2.2 hn
  exact ⟨b, o, e, h.lt b (.inr hb), hc⟩
theorem TabAt.sum_room {w : World} {tb : Nat} {L : Lay} {O S : Nat → Prop} {T : Tab} (h : TabAt w tb L O S T) : T.sm.length ≤ L.c3 := by
  have ho := h.o3
  rw [Lay.v3] at ho
  exact (Rd.of_own ho).room.1

set_option maxRecDepth 100000 in
set_option maxHeartbeats 4000000 in
theorem digest_yes {tb : Nat} {L : Lay} {O S : Nat → Prop} {T : Tab} {w : World} {b : List UInt8} {A : Option Addr} {n c : Nat} (h : TabAt w tb L O S T) (hrd : RdB w w.heap.size A n c b) (hin : ∃ k : Nat, T.sm[k]? = some b) :
    Calls Try.prog 19 #[.pointer (some ⟨tb, 0, none⟩), .slice A n c] w fun e w' => ∃ g, e = .returned (.slice (some ⟨g, 0, none⟩) 16 16) ∧ w'.heap[g]? = some (.cells (kv (mk 100 (idxS T.sm b + 1))) 36 (0, 0)) ∧ w.heap.size ≤ g ∧ Below w.heap.size w w' := by
  obtain ⟨W1, hW1⟩ : ∃ z, z = w.alloc (.cells #[.slice A n c] 29) := ⟨_, rfl⟩
  have hb1 : Below w.heap.size w W1 := by rw [hW1]; exact below_of_new w _
  have hp1 : W1.cell? ⟨w.heap.size, 0, none⟩ = some (.slice A n c) := (cell_of_row W1 w.heap.size 0 _ _ (0, 0) (by rw [hW1]; exact heap_alloc_new w _)).trans rfl
  have h1 := h.below hb1
  have hc2 : W1.cell? ⟨tb, 2, none⟩ = some (.slice L.A3 T.sm.length L.c3) := (cell_of_row W1 tb 2 _ _ (0, 0) h1.box).trans rfl
  have hix := idx_any (w := W1) (p := w.heap.size) (A := L.A3) (c := L.c3) (n := T.sm.length) (l := T.sm) rfl h.kle.2.2 h1.sum_at h1.sum_room (hrd.on hb1) hp1
  obtain ⟨ns, hns⟩ : ∃ z, z = T.sm.length := ⟨_, rfl⟩
  have hnz : ns ≤ 1000000 := by rw [hns]; exact h.kle.2.2
  obtain ⟨I, hI⟩ : ∃ z, z = idxS T.sm b := ⟨_, rfl⟩
  have hix2 : Calls Try.prog 44 #[.slice L.A3 ns L.c3, .func (Fn.func 45) #[] #[.pointer (some ⟨w.heap.size, 0, none⟩)]] W1 fun e w' => e = .returned (.int .i64 (I : Int)) ∧ W1 = w' := by
    rw [hns]
    refine hix.mono fun e w' ⟨hw, hc⟩ => ?_
    rcases hc with ⟨k, hk, hkb, hno, he⟩ | ⟨hno, _⟩
    · exact ⟨by rw [he, hI, idxS_at T.sm b k hkb hno], hw⟩
    · obtain ⟨k, hk⟩ := hin
      exact absurd hk (hno k)
  have hIz : I < 1000000 := by
    obtain ⟨k, hk⟩ := hin
    have hlt : ∀ (l : List (List UInt8)), (∃ k : Nat, l[k]? = some b) → idxS l b < l.length := fun l => by
      induction l with
      | nil => rintro ⟨k, hk⟩; simp at hk
      | cons x r ih =>
        rintro ⟨k, hk⟩
        unfold idxS
        split
        · simp
        · rename_i hx
          cases k with
          | zero => exact absurd (by simpa using hk) hx
          | succ k =>
            have := ih ⟨k, by simpa using hk⟩
            rw [List.length_cons]
            omega
    have := hlt T.sm ⟨k, hk⟩
    rw [← hI, ← hns] at this
    omega
  have hsm : ∀ w : World, Calls Try.prog 43 #[.int .u8 100, .int .i64 ((I : Int) + 1)] w fun e w' => e = .returned (.agg (kv (mk 100 (I + 1)))) ∧ Below w.heap.size w w' := fun w => smark_any 100 (I + 1) w (by omega)
  obtain ⟨KV, hKV⟩ : ∃ z, z = kv (mk 100 (I + 1)) := ⟨_, rfl⟩
  have hKs : KV.size = 16 := by rw [hKV, kv_size, mk_len]
  have hKi : (Try.prog.info? 36).map (·.size) = some KV.size := by rw [hKs]; exact info16K
  have hK1 : KV.all (·.oneCell') = true := by rw [hKV]; exact kv_one _
  rw [← hI, ← hKV]
  rw [← hKV] at hsm
  obtain ⟨ZK, hZK⟩ : ∃ z : Array Value, z = #[.int .u8 0, .int .u8 0, .int .u8 0, .int .u8 0, .int .u8 0, .int .u8 0, .int .u8 0, .int .u8 0, .int .u8 0, .int .u8 0, .int .u8 0, .int .u8 0, .int .u8 0, .int .u8 0, .int .u8 0, .int .u8 0] := ⟨_, rfl⟩
  have hz : ∀ w, (zeroValue 36).run Try.prog w = .ok (.agg ZK) w := fun w => by rw [hZK]; kernel_rfl
  have hzl : ZK.size = KV.size := by rw [hZK, hKs]; rfl
  have HIX := Lib.hid hix2
  have HSM := Lib.hid hsm
  have HB1 := Lib.hid hb1
  rw [← hns, hW1] at hc2
  have hmf : ∀ (fn : Fn) (first cap : Array Value) (w : World), (Instr.makeFunc fn first cap).run Try.prog w = .ok (.func fn first cap) w := fun _ _ _ _ => by first | rfl | kernel_rfl
  clear hix hix2 hsm hI hin h h1 hrd hb1 hp1 hKV hKs hZK hns
  go_enter Try.func19, Try.ntmps19
  go_wp2_with fail
  rw [← hW1]
  clear hW1
  refine HIX.out.mono ?_
  rintro e wx ⟨rfl, rfl⟩
  have hI0 : decide ((I : Int) < 0) = false := decide_eq_false (by omega)
  go_wp2_with fail
  refine (HSM.out W1).mono ?_
  rintro e w2 ⟨rfl, hb2⟩
  have HGN := Lib.hid (heap_alloc_new w2 (.cells ZK 36))
  obtain ⟨W3, hW3⟩ : ∃ z, z = (w2.alloc (.cells ZK 36)).setRow w2.heap.size KV := ⟨_, rfl⟩
  have hg3 : W3.heap[w2.heap.size]? = some (.cells KV 36 (0, 0)) := by rw [hW3]; exact setRow_heap _ w2.heap.size _ KV _ _ (heap_alloc_new w2 _)
  have hb3 : Below w2.heap.size w2 W3 := by rw [hW3]; exact below_setRow (below_of_new w2 _) (Nat.le_refl _) _
  have HG3 := Lib.hid hg3
  have HB3 := Lib.hid (below_seq (below_seq HB1.out hb2) hb3)
  have hs2 : w.heap.size ≤ w2.heap.size := by have h1 := HB1.out.size; have h2 := hb2.size; omega
  clear hg3 hb3 hb2
  go_wp2_with (refine wpList_store_row (o := ⟨none, _, _, _, _, _⟩) rfl 36 (.tmp 6) (.tmp 34) rfl w2.heap.size KV rfl rfl 36 _ HGN.out hKi hzl hK1 ?_; apply Hid.out)
  refine Lib.hid ?_
  rw [← hW3]
  clear hW3 HGN
  go_wp2
  go_ret
  exact ⟨w2.heap.size, rfl, HG3.out, hs2, HB3.out⟩
end Go.Proofs.Ytbfcdlfjlailjaa.Sym
