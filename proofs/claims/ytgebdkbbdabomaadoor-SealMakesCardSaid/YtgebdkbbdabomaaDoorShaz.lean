/-
  THE CONTRACT of sha's Of.
-/
import Derived.Test.YtgebdkbbdabomaaDoorShad
namespace Go.Proofs.YtgebdkbbdabomaaDoor.Sha
open Go.RowKit
open Go.Proofs.YtgebdkbbdabomaaDoor.Kit
open Go.Proofs.YtgebdkbbdabomaaDoor.Oct
set_option linter.unusedVariables false

/-- bytes that could be read before, handed to a Sum that was made since -/
theorem rds_of {w wr : World} {G n c : Nat} {A : Option Addr} {bs : List UInt8} (h : RdB w w.heap.size A n c bs) (hG : w.heap.size ≤ G) (hk : ∀ b, b < w.heap.size → wr.heap[b]? = w.heap[b]?) (hs : w.heap.size ≤ wr.heap.size) : RdS wr (fun b => b < wr.heap.size ∧ b ≠ G) A n c (bs.map bv) := by
  obtain ⟨h1, h2, h3, h4⟩ := h
  refine ⟨h1, h2, h3, fun hn => ?_⟩
  obtain ⟨b, o, e, hb, hc⟩ := h4 hn
  exact ⟨b, o, e, ⟨by omega, by omega⟩, fun j u hu => (World.cell?_of_block (hk b hb)).trans (hc j u hu)⟩

set_option maxRecDepth 100000 in
set_option maxHeartbeats 1000000 in
theorem of_own (A : Option Addr) (n c : Nat) (R : List Row) (w : World) (h : Rd w w.heap.size A n c (R.map Row.v)) (hR : ∀ r ∈ R, RdB w w.heap.size r.A r.n r.c r.bs) (hRt : Roots w) (hT : (joinL R).length ≤ 576460752303423488) :
    Calls Tryd.prog 33 #[.slice A n c] w fun e w' => ∃ A' c' B, e = .returned (.slice A' 32 c') ∧ w.heap.size ≤ B ∧ w'.ownsRow B 5 1 (.slice A' 32 c') 32 ((dig (joinL R)).map bv) ∧ Below w.heap.size w w' := by
  obtain ⟨hle, hge⟩ : n ≤ R.length ∧ R.length ≤ n := by have := h.len; simp at this; omega
  have hr := h.room
  have HT := Lib.hid hT
  have HH := Lib.hid h
  have HR := Lib.hid hR
  have HRT := Lib.hid hRt
  have hne : w.heap.size ≠ 0 := by have := hRt.lt; omega
  clear hT h hR hRt
  go_enter Tryd.func33, Tryd.ntmps33
  go_wp2_with fail
  refine (new_any _).mono ?_
  rintro e w1 ⟨rfl, hs1, hb1, hlt1⟩
  have HS1 := Lib.hid hs1
  have HB1 := Lib.hid hb1
  clear hs1 hb1
  go_wp2_with fail
  go_loopw [5, 9] (fun _ i wr => ∃ k : Nat, k ≤ n ∧ i = .int .i64 k ∧ SumAt wr w.heap.size (joinL (R.take k)) ∧ w1.grownBy wr (some w.heap.size)) (fun _ i _ => n - (intOf i).toNat)
  case atStart => exact ⟨0, Nat.zero_le _, rfl, HS1.out, World.grownBy.refl _ _⟩
  case round =>
    obtain ⟨k, hk, rfl, hs, hgb⟩ := hrel
    have hkeep : ∀ b, b < w.heap.size → wr.heap[b]? = w.heap[b]? := fun b hb => (gb_block hgb (by omega) (by omega)).trans (HB1.out.block b hb)
    have hsz : w.heap.size ≤ wr.heap.size := by have := hgb.size; omega
    have hrt : Roots wr := fun i hi => (World.cell?_of_block (hkeep _ HRT.out.lt)).trans (HRT.out i hi)
    have hbw : Below w.heap.size w wr := HB1.out.trans (below_of_gb hgb (Nat.le_refl _) (by omega))
    have HS := Lib.hid hs
    have HRTW := Lib.hid hrt
    have HKP := Lib.hid hkeep
    clear hs hrt hkeep
    by_cases hlt : k < n
    · obtain ⟨b, o, rfl, hb, hc⟩ := HH.out.2.2.2 (by omega)
      have hcell := (World.cell?_of_block (HKP.out b hb) : wr.cell? ⟨b, o + k, none⟩ = w.cell? ⟨b, o + k, none⟩).trans (hc k _ (by rw [List.getElem?_map, List.getElem?_eq_getElem (by omega)]; rfl))
      have hrd := HR.out R[k] (List.getElem_mem _)
      have hts := joinL_take_succ R k (by omega)
      have htl := Nat.le_trans (joinL_take_le R (k + 1)) HT.out
      rw [hts, List.length_append, RdB.len hrd] at htl
      obtain ⟨r, hrk⟩ : ∃ r, r = R[k] := ⟨_, rfl⟩
      rw [← hrk] at hcell hrd hts htl
      have HTS := Lib.hid hts
      have HRD := Lib.hid (rds_of hrd (Nat.le_refl _) HKP.out hsz)
      clear hts hrk hrd hc
      unfold Row.v at hcell
      go_wp2_with fail
      refine (write_any w.heap.size r.n r.c r.A (joinL (R.take k)) r.bs wr HS.out HRD.out HRTW.out hne (by omega)).mono ?_
      rintro e w2 ⟨rfl, hs2, hgb2⟩
      rw [← HTS.out] at hs2
      have hgbw := grown_trans hgb hgb2
      go_wp2
      go_roundw
      case rel => exact ⟨k + 1, by omega, by go_num, hs2, hgbw⟩
      case measure => simp [intOf]; omega
    · obtain rfl : k = n := by omega
      have e : R.take k = R := List.take_of_length_le (by omega)
      have hsf := HS.out
      rw [e] at hsf
      have HSF := Lib.hid hsf
      clear e hsf HS
      go_wp2_with fail
      refine (digest_own w.heap.size (joinL R) wr HSF.out HRTW.out HT.out).mono ?_
      rintro e w2 ⟨A2, c2, B2, rfl, hB2, ho2, hbl2⟩
      have HN2 := Lib.hid ho2
      clear ho2
      go_wp2
      go_ret
      exact ⟨A2, c2, B2, rfl, Nat.le_trans hsz hB2, HN2.out, below_seq hbw hbl2⟩
theorem of_any (A : Option Addr) (n c : Nat) (R : List Row) (w : World) (h : Rd w w.heap.size A n c (R.map Row.v)) (hR : ∀ r ∈ R, RdB w w.heap.size r.A r.n r.c r.bs) (hRt : Roots w) (hT : (joinL R).length ≤ 576460752303423488) :
    Calls Tryd.prog 33 #[.slice A n c] w fun e w' => ∃ A' c', e = .returned (.slice A' 32 c') ∧ New w w' A' 32 c' (dig (joinL R)) :=
  (of_own A n c R w h hR hRt hT).mono fun e w' ⟨A', c', B, he, _, ho, hbl⟩ => ⟨A', c', he, .of_own ho hbl⟩
end Go.Proofs.YtgebdkbbdabomaaDoor.Sha

/-
  DIGESTS of layer 3 at given bytes: the kernel reckons them, word by word. No program.
-/
namespace Go.Proofs.YtgebdkbbdabomaaDoor.Sha
open Go.RowKit
open Go.Proofs.YtgebdkbbdabomaaDoor.Kit
open Go.Proofs.YtgebdkbbdabomaaDoor.Oct
set_option linter.unusedVariables false

/-- a number is reckoned before it is handed on -/
def force {α : Type} (n : Nat) (k : Nat → α) : α := match n with
  | 0 => k 0
  | m + 1 => k (m + 1)
theorem force_eq {α : Type} (n : Nat) (k : Nat → α) : force n k = k n := by cases n <;> rfl
def fU {α : Type} (x : UInt32) (k : UInt32 → α) : α := force x.toNat fun n => k (UInt32.ofNat n)
theorem fU_eq {α : Type} (x : UInt32) (k : UInt32 → α) : fU x k = k x := by rw [fU, force_eq, UInt32.ofNat_toNat]
def stepF {α : Type} (v : S8) (k w : UInt32) (c : S8 → α) : α := match v with
  | ⟨a, b, cc, d, e, f, g, h⟩ => fU (h + la1 e + cho e f g + k + w) fun t1 => fU (t1 + (la0 a + mst a b cc)) fun a' => fU (d + t1) fun e' => c ⟨a', a, b, cc, e', e, f, g⟩
theorem stepF_eq {α : Type} (v : S8) (k w : UInt32) (c : S8 → α) : stepF v k w c = c (stepS v k w) := by
  cases v
  simp only [stepF, fU_eq, stepS, t1of, t2of]
def runF {α : Type} (c : S8 → α) : List UInt32 → List UInt32 → S8 → α
  | k :: ks, w :: ws, v => stepF v k w fun v' => runF c ks ws v'
  | _, _, v => c v
theorem runF_from {α : Type} (c : S8 → α) (ws : List UInt32) (v : S8) (hl : ws.length = 64) : ∀ m n, n + m = 64 → runF c (shaK.drop n) (ws.drop n) (runS ws v n) = c (runS ws v 64) := by
  intro m
  induction m with
  | zero =>
    intro n hn
    obtain rfl : n = 64 := by omega
    rw [List.drop_eq_nil_of_le (show shaK.length ≤ 64 from Nat.le_refl _)]
    cases ws.drop 64 <;> rfl
  | succ m ih =>
    intro n hn
    have hk : n < shaK.length := by show n < 64; omega
    have hw : n < ws.length := by omega
    rw [List.drop_eq_getElem_cons hk, List.drop_eq_getElem_cons hw, runF, stepF_eq]
    rw [← ih (n + 1) (by omega), runS_succ]
    congr 1
    rw [wd, wd, List.getD_eq_getElem?_getD, List.getD_eq_getElem?_getD, List.getElem?_eq_getElem hk, List.getElem?_eq_getElem hw]
    rfl
theorem runF_eq {α : Type} (c : S8 → α) (ws : List UInt32) (v : S8) (hl : ws.length = 64) : runF c shaK ws v = c (runS ws v 64) := by
  have h := runF_from c ws v hl 64 0 rfl
  rw [runS_zero] at h
  exact h
/-- the words, the newest first -/
def nextR (l : List UInt32) : UInt32 := wd l 15 + sm0 (wd l 14) + wd l 6 + sm1 (wd l 1)
def schedF {α : Type} (b : List UInt8) (c : List UInt32 → α) : Nat → Nat → List UInt32 → α
  | 0, _, l => c l
  | m + 1, n, l => fU (if n < 16 then word b n else nextR l) fun x => schedF b c m (n + 1) (x :: l)
theorem wd_rev (l : List UInt32) (i : Nat) (hi : i < l.length) : wd l.reverse i = wd l (l.length - 1 - i) := by
  rw [wd, wd, List.getD_eq_getElem?_getD, List.getD_eq_getElem?_getD, List.getElem?_reverse hi]
theorem schedF_from {α : Type} (b : List UInt8) (c : List UInt32 → α) : ∀ m n, schedF b c m n (sched b n).reverse = c (sched b (n + m)).reverse := by
  intro m
  induction m with
  | zero => intro n; rfl
  | succ m ih =>
    intro n
    rw [schedF, fU_eq]
    have e : (if n < 16 then word b n else nextR (sched b n).reverse) :: (sched b n).reverse = (sched b (n + 1)).reverse := by
      rw [sched_succ, List.reverse_append]
      congr 1
      by_cases h : n < 16
      · rw [if_pos h, if_pos h]
      · rw [if_neg h, if_neg h, nextR, nextW]
        have hl := sched_len b n
        rw [wd_rev _ _ (by omega), wd_rev _ _ (by omega), wd_rev _ _ (by omega), wd_rev _ _ (by omega), hl]
        rw [show n - 1 - 15 = n - 16 from by omega, show n - 1 - 14 = n - 15 from by omega, show n - 1 - 6 = n - 7 from by omega, show n - 1 - 1 = n - 2 from by omega]
    rw [e, ih, show n + 1 + m = n + (m + 1) from by omega]
def compF {α : Type} (v : S8) (b : List UInt8) (c : S8 → α) : α :=
  schedF b (fun l => runF (fun r => match r, v with
    | ⟨a, b, cc, d, e, f, g, h⟩, ⟨a2, b2, c2, d2, e2, f2, g2, h2⟩ => fU (a + a2) fun a => fU (b + b2) fun b => fU (cc + c2) fun cc => fU (d + d2) fun d => fU (e + e2) fun e => fU (f + f2) fun f => fU (g + g2) fun g => fU (h + h2) fun h => c ⟨a, b, cc, d, e, f, g, h⟩) shaK l.reverse v) 64 0 []
theorem compF_eq {α : Type} (v : S8) (b : List UInt8) (c : S8 → α) : compF v b c = c (comp v b) := by
  have h := schedF_from b (fun l => runF (fun r => match r, v with
    | ⟨a, b, cc, d, e, f, g, h⟩, ⟨a2, b2, c2, d2, e2, f2, g2, h2⟩ => fU (a + a2) fun a => fU (b + b2) fun b => fU (cc + c2) fun cc => fU (d + d2) fun d => fU (e + e2) fun e => fU (f + f2) fun f => fU (g + g2) fun g => fU (h + h2) fun h => c ⟨a, b, cc, d, e, f, g, h⟩) shaK l.reverse v) 64 0
  rw [sched_zero] at h
  rw [compF]
  refine h.trans ?_
  rw [List.reverse_reverse, runF_eq _ _ _ (sched_len b _), comp_eq]
  cases runS (sched b 64) v 64
  cases v
  simp only [fU_eq, S8.add]
def blocksF {α : Type} (c : S8 → α) : S8 → Nat → List UInt8 → α
  | v, 0, _ => c v
  | v, n + 1, b => compF v (b.take 64) fun v' => blocksF c v' n (b.drop 64)
theorem blocksF_eq {α : Type} (c : S8 → α) (n : Nat) : ∀ (v : S8) (b : List UInt8), blocksF c v n b = c (blocksS v n b) := by
  induction n with
  | zero => intro v b; rw [blocksS_zero]; rfl
  | succ n ih => intro v b; rw [blocksF, compF_eq, ih, blocksS_succ]
def digF (b : List UInt8) : List UInt8 := blocksF outB H0 ((b ++ padB b.length).length / 64) (b ++ padB b.length)
theorem dig_eq (b : List UInt8) : dig b = digF b := by rw [digF, blocksF_eq, dig]
set_option maxRecDepth 100000 in
theorem dig_abc : (dig [97, 98, 99]).take 4 = [0xba, 0x78, 0x16, 0xbf] := by rw [dig_eq]; decide +kernel
end Go.Proofs.YtgebdkbbdabomaaDoor.Sha
