/-
  THE CONTRACTS of der's number, long and split.
-/
import Derived.Test.YtfinonfkpmlfeaaOctn
import Derived.Test.YtfinonfkpmlfeaaValm
namespace Go.Proofs.Ytfinonfkpmlfeaa.Der
open Go.RowKit
open Go.Proofs.Ytfinonfkpmlfeaa.Kit
open Go.Proofs.Ytfinonfkpmlfeaa.Oct
set_option linter.unusedVariables false

def numOk (b : List UInt8) : Bool := decide (1 ≤ b.length ∧ b.length ≤ 8 ∧ (b.length = 1 ∨ (b.headD 0).toNat ≠ 0))
def numV (b : List UInt8) : Nat := if numOk b = true then num b else 0
def numE (b : List UInt8) : Int := if numOk b = true then 0 else 4
theorem num_nb {b : List UInt8} (h1 : 1 ≤ b.length) (h8 : b.length ≤ 8) : (nb (num b) = b.length ↔ numOk b = true) := by
  rw [numOk, decide_eq_true_iff]
  constructor
  · intro h
    refine ⟨h1, h8, ?_⟩
    by_cases hl : b.length = 1
    · exact .inl hl
    · right
      match b, hl, h1 with
      | c :: r, hl, h1 =>
        simp only [List.headD_cons]
        intro h0
        have hlt : num (c :: r) < 256 ^ r.length := by
          have hc : c = 0 := UInt8.toNat_inj.1 (by simpa using h0)
          subst hc
          have := num_noughts 1 r
          rw [show (List.replicate 1 (0 : UInt8) ++ r) = 0 :: r from rfl] at this
          rw [this]
          exact num_lt r
        have hge := nb_ge (n := num (c :: r))
        rw [h] at hge
        rcases hge with hg | hg
        · exact hl hg
        · simp only [List.length_cons, Nat.add_sub_cancel] at hg
          omega
  · rintro ⟨_, _, h⟩
    have := congrArg List.length (short_num h1 h8 h)
    rw [short_len] at this
    exact this

set_option maxRecDepth 100000 in
theorem number_any (A : Option Addr) (n c : Nat) (bs : List UInt8) (w : World) (h : RdB w w.heap.size A n c bs) :
    Calls Try.prog 49 #[.slice A n c] w fun e w' => e = .returned (.tuple #[.int .u64 (numV bs), .int .i64 (numE bs)]) ∧ Below w.heap.size w w' := by
  have hl := h.len
  have hr := h.room
  by_cases h1 : 1 ≤ n ∧ n ≤ 8
  · have hb8 : bs.length ≤ 8 := by omega
    have hnum := num_fit hb8
    have hiff := num_nb (b := bs) (by omega) (by omega)
    have HF := Lib.hid hnum
    have HIFF := Lib.hid hiff
    have HL := Lib.hid hl
    clear hnum hiff hl
    go_enter Try.func49, Try.ntmps49
    go_wp2_with fail
    refine (get_yes _ _ _ _ _ _ h (by omega) (by omega)).mono ?_
    rintro e w1 ⟨rfl, rfl⟩
    go_wp2_with fail
    refine (short_new _ _ HF.out).mono ?_
    rintro e w2 ⟨A2, c2, rfl, hn2⟩
    have hB2 := hn2.bl
    have hnb := nb_bd (num bs)
    clear hn2 h
    cases hok : numOk bs
    · have hne : nb (num bs) ≠ n := fun e => by have := HIFF.out.1 (by rw [HL.out]; exact e); rw [hok] at this; cases this
      have g1 : ((nb (num bs) : Int) != n) = true := by simp; omega
      have HOK := Lib.hid (show numV bs = 0 ∧ numE bs = 4 by rw [numV, numE, hok]; exact ⟨rfl, rfl⟩)
      clear hok hne
      go_wp2
      go_ret2
      exact ⟨by rw [HOK.out.1, HOK.out.2]; rfl, hB2⟩
    · have heq : nb (num bs) = n := by have := HIFF.out.2 hok; rw [HL.out] at this; exact this
      have g1 : ((nb (num bs) : Int) != n) = false := by simp; omega
      have HOK := Lib.hid (show numV bs = num bs ∧ numE bs = 0 by rw [numV, numE, hok]; exact ⟨rfl, rfl⟩)
      clear hok heq
      go_wp2
      go_ret2
      exact ⟨by rw [HOK.out.1, HOK.out.2]; rfl, hB2⟩
  · have hok : numOk bs = false := by rw [numOk, decide_eq_false_iff_not]; omega
    have HOK := Lib.hid (show numV bs = 0 ∧ numE bs = 4 by rw [numV, numE, hok]; exact ⟨rfl, rfl⟩)
    clear hok
    go_enter Try.func49, Try.ntmps49
    go_wp2_with fail
    refine (get_no _ _ _ _ (by omega) (by omega)).mono ?_
    rintro e w1 ⟨rfl, rfl⟩
    go_wp2
    go_ret2
    exact ⟨by rw [HOK.out.1, HOK.out.2]; rfl, Below.refl _ _⟩
/-- what long answers: an error, or a length behind so many bytes -/
def lgE (count : Nat) (b : List UInt8) : Int :=
  if count < 1 ∨ 2 < count then 3 else if b.length < count then 1 else if num (b.take count) < 128 ∨ nb (num (b.take count)) < count then 3 else 0

set_option maxRecDepth 100000 in
set_option maxHeartbeats 1000000 in
theorem long_any (count : Nat) (A : Option Addr) (n c : Nat) (bs : List UInt8) (B : Nat) (w : World) (h : RdB w B A n c bs) (hB : B ≤ w.heap.size) (hc : count ≤ 200) :
    Calls Try.prog 48 #[.int .i64 count, .slice A n c] w fun e w' => Below w.heap.size w w' ∧ (lgE count bs ≠ 0 → e = .returned (.tuple #[.int .i64 0, .slice none 0 0, .int .i64 (lgE count bs)])) ∧
      (lgE count bs = 0 → ∃ b2 o2, e = .returned (.tuple #[.int .i64 (num (bs.take count)), .slice (some ⟨b2, o2, none⟩) (n - count) (c - count), .int .i64 0]) ∧ RdB w' B (some ⟨b2, o2, none⟩) (n - count) (c - count) (bs.drop count)) := by
  have hl := h.len
  have hr := h.room
  have HL := Lib.hid hl
  clear hl
  by_cases h1 : count < 1 ∨ 2 < count
  · have E := Lib.hid (show lgE count bs = 3 by rw [lgE, if_pos h1])
    rcases h1 with h1 | h1
    · go_enter Try.func48, Try.ntmps48
      go_wp2
      go_ret3
      exact ⟨Below.refl _ _, fun _ => by rw [E.out]; rfl, fun hh => absurd (E.out.symm.trans hh) (by omega)⟩
    · have g0 : decide (count < 1) = false := by simp; omega
      have g1 : decide ((2 : Int) < count) = true := by simp; omega
      go_enter Try.func48, Try.ntmps48
      go_wp2
      go_ret3
      exact ⟨Below.refl _ _, fun _ => by rw [E.out]; rfl, fun hh => absurd (E.out.symm.trans hh) (by omega)⟩
  · have hcnt : 1 ≤ count ∧ count ≤ 2 := by omega
    have g0 : decide ((count : Int) < 1) = false := by simp; omega
    have g1 : decide ((2 : Int) < count) = false := by simp; omega
    by_cases h2 : n < count
    · have E := Lib.hid (show lgE count bs = 1 by rw [lgE, if_neg h1, if_pos (by rw [HL.out]; exact h2)])
      clear h1
      go_enter Try.func48, Try.ntmps48
      go_wp2
      go_ret3
      exact ⟨Below.refl _ _, fun _ => by rw [E.out]; rfl, fun hh => absurd (E.out.symm.trans hh) (by omega)⟩
    · obtain ⟨b, o, rfl⟩ := h.addr (by omega)
      have hfr : RdB w B (some ⟨b, o, none⟩) count c (bs.take count) := by
        have := Rd.front (k := count) h (by omega)
        rw [← List.map_take] at this
        exact this
      have hcut := Rd.cut (k := count) h (by omega)
      rw [← List.map_drop] at hcut
      have hnum : num (bs.take count) < 65536 := by
        have h3 := num_lt (bs.take count)
        have h4 : 256 ^ (bs.take count).length ≤ 256 ^ 2 := Nat.pow_le_pow_right (by omega) (by rw [List.length_take]; omega)
        omega
      obtain ⟨N, hN⟩ : ∃ N, N = num (bs.take count) := ⟨_, rfl⟩
      have hE : lgE count bs = if N < 128 ∨ nb N < count then 3 else 0 := by rw [lgE, if_neg h1, if_neg (by rw [HL.out]; exact h2), hN]
      rw [← hN] at hnum ⊢
      have HN := Lib.hid hN
      have HCUT := Lib.hid hcut
      have HE := Lib.hid hE
      have hnb := nb_bd N
      clear hN h1 hcut hE h
      go_enter Try.func48, Try.ntmps48
      go_wp2_with fail
      refine (get_yes _ _ _ _ _ _ (hfr.more hB) (by omega) (by omega)).mono ?_
      rintro e w1 ⟨rfl, rfl⟩
      rw [← HN.out]
      clear hfr
      by_cases h3 : N < 128
      · have g2 : decide (N < 128) = true := by simp; omega
        have g2' : decide ((N : Int) < 128) = true := by simp; omega
        have E := Lib.hid (show lgE count bs = 3 by rw [HE.out, if_pos (.inl h3)])
        go_wp2
        go_ret3
        exact ⟨Below.refl _ _, fun _ => by rw [E.out]; rfl, fun hh => absurd (E.out.symm.trans hh) (by omega)⟩
      · have g2' : decide ((N : Int) < 128) = false := by simp; omega
        go_wp2_with fail
        refine (short_new N _ (by omega)).mono ?_
        rintro e w2 ⟨A2, c2, rfl, hn2⟩
        have hB2 := hn2.bl
        clear hn2
        by_cases h4 : nb N < count
        · have g3 : decide ((nb N : Int) < count) = true := by simp; omega
          have E := Lib.hid (show lgE count bs = 3 by rw [HE.out, if_pos (.inr h4)])
          go_wp2
          go_ret3
          exact ⟨hB2, fun _ => by rw [E.out]; rfl, fun hh => absurd (E.out.symm.trans hh) (by omega)⟩
        · have g3 : decide ((nb N : Int) < count) = false := by simp; omega
          have E := Lib.hid (show lgE count bs = 0 by rw [HE.out, if_neg (by omega)])
          have i1 : (0 : Int) ≤ (count : Int) := by omega
          have i2 : (count : Int) ≤ (n : Int) := by omega
          have i3 : (n : Int) ≤ (c : Int) := by omega
          have i4 : (count : Int) ≤ (c : Int) := by omega
          by_cases hcc : c = count
          · obtain rfl : n = count := by omega
            subst hcc
            have HC := Lib.hid (show RdB w B (some ⟨b, o, none⟩) (c - c) (c - c) (bs.drop c) by
              have := HCUT.out
              rw [if_pos rfl] at this
              exact this)
            clear HCUT
            go_wp2_with fail
            go_quiet (fail)
            go_wp2
            go_ret3
            refine ⟨below_seq hB2 (below_of_drew ⟨_, rfl⟩ _), fun hh => absurd E.out hh, fun _ => ⟨b, o, ?_, ?_⟩⟩
            · rw [Nat.sub_self]; rfl
            · exact HC.out.below ((below_seq hB2 (below_of_drew ⟨_, rfl⟩ _)).mono hB)
          · have HC := Lib.hid (show RdB w B (some ⟨b, o + count, none⟩) (n - count) (c - count) (bs.drop count) by
              have := HCUT.out
              rw [if_neg hcc] at this
              have hcn : count ≠ 0 := by omega
              rw [show Option.map (fun x : Addr => x.add count) (some ⟨b, o, none⟩) = some ⟨b, o + count, none⟩ by simp [Addr.add, hcn]] at this
              exact this)
            clear HCUT
            go_wp2_with fail
            go_quiet (fail)
            go_wp2
            go_ret3
            refine ⟨below_seq hB2 (below_of_drew ⟨_, rfl⟩ _), fun hh => absurd E.out hh, fun _ => ⟨b, o + count, ?_, ?_⟩⟩
            · rfl
            · exact HC.out.below ((below_seq hB2 (below_of_drew ⟨_, rfl⟩ _)).mono hB)
end Go.Proofs.Ytfinonfkpmlfeaa.Der
