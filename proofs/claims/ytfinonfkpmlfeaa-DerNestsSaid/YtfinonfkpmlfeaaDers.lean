/-
  THE CONTRACT of der's split: contents, and what is left.
-/
import Derived.Test.YtfinonfkpmlfeaaDerl
import Derived.Deep.DeepCutAuto
namespace Go.Proofs.Ytfinonfkpmlfeaa.Der
open Go.RowKit
open Go.Proofs.Ytfinonfkpmlfeaa.Kit
open Go.Proofs.Ytfinonfkpmlfeaa.Oct
set_option linter.unusedVariables false

theorem num_one (x : UInt8) : num [x] = x.toNat := by simp [num]
theorem num_two (x y : UInt8) : num [x, y] = x.toNat * 256 + y.toNat := by simp [num]
theorem rdLen_small (x y : UInt8) (r : List UInt8) (h : y.toNat < 128) : rdLen (x :: y :: r) = .ok 2 y.toNat := by
  match r with
  | [] => simp only [rdLen]; rw [if_pos h]
  | [a] => simp only [rdLen]; rw [if_pos h]
  | a :: b :: r' => simp only [rdLen]; rw [if_pos h]
theorem lgE_one (a : UInt8) (r : List UInt8) : lgE 1 (a :: r) = if a.toNat < 128 then 3 else 0 := by
  have ht : (a :: r).take 1 = [a] := rfl
  rw [lgE, if_neg (by omega), if_neg (by simp), ht, num_one]
  have := nb_bd a.toNat
  by_cases g : a.toNat < 128
  · rw [if_pos (.inl g), if_pos g]
  · rw [if_neg (by omega), if_neg g]
theorem lgE_two (a b : UInt8) (r : List UInt8) : lgE 2 (a :: b :: r) = if a.toNat * 256 + b.toNat < 256 then 3 else 0 := by
  have ht : (a :: b :: r).take 2 = [a, b] := rfl
  have ha := a.toNat_lt
  have hb := b.toNat_lt
  rw [lgE, if_neg (by omega), if_neg (by simp), ht, num_two]
  by_cases g : a.toNat * 256 + b.toNat < 256
  · rw [if_pos (.inr (by rw [nb_small1 g]; omega)), if_pos g]
  · rw [if_neg (by rw [nb_small2 (by omega) (by omega)]; omega), if_neg g]
theorem lgE_out {k : Nat} (r : List UInt8) (h : k < 1 ∨ 2 < k) : lgE k r = 3 := by rw [lgE, if_pos h]
theorem rdLen_long (x y : UInt8) (r : List UInt8) (h : ¬ y.toNat < 128) : rdLen (x :: y :: r) = if lgE (y.toNat - 128) r = 0 then .ok (2 + (y.toNat - 128)) (num (r.take (y.toNat - 128))) else .err (lgE (y.toNat - 128) r).toNat := by
  by_cases h1 : y.toNat = 129
  · have hk : y.toNat - 128 = 1 := by omega
    rw [hk]
    match r with
    | [] => simp only [rdLen]; rw [if_neg h, if_pos h1]; rfl
    | [a] =>
      simp only [rdLen]; rw [if_neg h, if_pos h1, lgE_one]
      by_cases g : a.toNat < 128
      · rw [if_pos g, if_pos g]; rfl
      · rw [if_neg g, if_neg g]; simp [num]
    | a :: b :: r' =>
      simp only [rdLen]; rw [if_neg h, if_pos h1, lgE_one]
      by_cases g : a.toNat < 128
      · rw [if_pos g, if_pos g]; rfl
      · rw [if_neg g, if_neg g]; simp [num]
  · by_cases h2 : y.toNat = 130
    · have hk : y.toNat - 128 = 2 := by omega
      rw [hk]
      match r with
      | [] => simp only [rdLen]; rw [if_neg h, if_neg h1, if_pos h2]; rfl
      | [a] => simp only [rdLen]; rw [if_neg h, if_neg h1, if_pos h2]; rfl
      | a :: b :: r' =>
        simp only [rdLen]; rw [if_neg h, if_neg h1, if_pos h2, lgE_two]
        by_cases g : a.toNat * 256 + b.toNat < 256
        · rw [if_pos g, if_pos g]; rfl
        · rw [if_neg g, if_neg g]; simp [num]
    · rw [lgE_out r (by omega)]
      match r with
      | [] => simp only [rdLen]; rw [if_neg h, if_neg h1, if_neg h2]; rfl
      | [a] => simp only [rdLen]; rw [if_neg h, if_neg h1, if_neg h2]; rfl
      | a :: b :: r' => simp only [rdLen]; rw [if_neg h, if_neg h1, if_neg h2]; rfl

/-- what split answers -/
def SpPost (B : Nat) (bs : List UInt8) (n : Nat) (w : World) (e : Ending) (w' : World) : Prop :=
  Below w.heap.size w w' ∧ match rdLen bs with
    | .err x => e = .returned (.tuple #[.slice none 0 0, .slice none 0 0, .int .i64 x])
    | .ok a s => if n - a < s then e = .returned (.tuple #[.slice none 0 0, .slice none 0 0, .int .i64 1])
      else a ≤ n ∧ ∃ A1 c1 A2 c2, e = .returned (.tuple #[.slice A1 s c1, .slice A2 (n - a - s) c2, .int .i64 0]) ∧ RdB w' B A1 s c1 ((bs.drop a).take s) ∧ RdB w' B A2 (n - a - s) c2 (bs.drop (a + s))
theorem SpPost.err {B : Nat} {bs : List UInt8} {n : Nat} {w w' : World} {e : Ending} {x : Nat} (hr : rdLen bs = .err x) (hb : Below w.heap.size w w') (he : e = .returned (.tuple #[.slice none 0 0, .slice none 0 0, .int .i64 x])) : SpPost B bs n w e w' := by
  refine ⟨hb, ?_⟩
  rw [hr]; exact he
theorem SpPost.few {B : Nat} {bs : List UInt8} {n : Nat} {w w' : World} {e : Ending} {a s : Nat} (hr : rdLen bs = .ok a s) (hb : Below w.heap.size w w') (hs : n - a < s) (he : e = .returned (.tuple #[.slice none 0 0, .slice none 0 0, .int .i64 1])) : SpPost B bs n w e w' := by
  refine ⟨hb, ?_⟩
  rw [hr]; simp only []; rw [if_pos hs]; exact he
theorem SpPost.ok {B : Nat} {bs : List UInt8} {n : Nat} {w w' : World} {e : Ending} {a s : Nat} (hr : rdLen bs = .ok a s) (hb : Below w.heap.size w w') (hs : ¬ n - a < s) (ha : a ≤ n)
    (he : ∃ A1 c1 A2 c2, e = .returned (.tuple #[.slice A1 s c1, .slice A2 (n - a - s) c2, .int .i64 0]) ∧ RdB w' B A1 s c1 ((bs.drop a).take s) ∧ RdB w' B A2 (n - a - s) c2 (bs.drop (a + s))) : SpPost B bs n w e w' := by
  refine ⟨hb, ?_⟩
  rw [hr]; simp only []; rw [if_neg hs]; exact ⟨ha, he⟩

set_option maxRecDepth 100000 in
set_option maxHeartbeats 1000000 in
theorem split_any (A : Option Addr) (n c : Nat) (bs : List UInt8) (B : Nat) (w : World) (h : RdB w B A n c bs) (hBw : B ≤ w.heap.size) :
    Calls Try.prog 46 #[.slice A n c] w (SpPost B bs n w) := by
  have hl := h.len
  have hr := h.room
  by_cases h2 : n < 2
  · have hR : rdLen bs = .err 1 := by
      match bs, hl with
      | [], _ => rfl
      | [a], _ => rfl
      | a :: b :: r, hl => simp at hl; omega
    have HR := Lib.hid hR
    clear hR hl h
    have g0 : decide (n < 2) = true := by simp; omega
    have g0' : decide ((n : Int) < 2) = true := by simp; omega
    go_enter Try.func46, Try.ntmps46
    go_wp2
    go_ret3
    exact SpPost.err HR.out (Below.refl _ _) rfl
  · obtain ⟨x, y, r, rfl⟩ : ∃ x y r, bs = x :: y :: r := by
      match bs, hl with
      | [], hl => simp at hl; omega
      | [a], hl => simp at hl; omega
      | a :: b :: r, _ => exact ⟨a, b, r, rfl⟩
    obtain ⟨b, o, rfl⟩ := h.addr (by omega)
    have hc1 := h.cell0 (j := 1) (by simp)
    simp only [List.getElem_cons_succ, List.getElem_cons_zero] at hc1
    have hy := y.toNat_lt
    have hB : b < B := by
      obtain ⟨b', o', e, hb, _⟩ := h.at_ (k := 0) (by omega)
      injection e with e; injection e with e1 e2; subst e1; exact hb
    have hH := Lib.hid h
    have HL := Lib.hid hl
    have g0 : decide ((n : Int) < 2) = false := by simp; omega
    have i1 : (2 : Int) ≤ (n : Int) := by omega
    have i2 : (n : Int) ≤ (c : Int) := by omega
    have i3 : (2 : Int) ≤ (c : Int) := by omega
    have i4 : (1 : Int) < (n : Int) := by omega
    clear hl h
    go_enter Try.func46, Try.ntmps46
    go_upto_region 3 with fail
    go_cut [5, 6] (fun s r6 wx => s = .int .i64 (y.toNat : Int) ∧ ∃ o2, r6 = .slice (some ⟨b, o2, none⟩) (n - 2) (c - 2) ∧ RdB wx B (some ⟨b, o2, none⟩) (n - 2) (c - 2) r ∧ Below w.heap.size w wx)
    case first =>
      by_cases hcc : c = 2
      · obtain rfl : n = 2 := by omega
        subst hcc
        go_quiet (fail)
        go_wp2
        go_meet
        refine ⟨rfl, o, rfl, ?_, below_of_drew ⟨_, rfl⟩ _⟩
        have := Rd.cut (k := 2) hH.out (by omega)
        exact Rd.below this (below_of_drew ⟨_, rfl⟩ _)
      · go_quiet (fail)
        go_wp2
        go_meet
        exact ⟨rfl, o + 2, rfl, Rd.below (hH.out.cut (k := 2) (by omega) (by omega)) (below_of_drew ⟨_, rfl⟩ _), below_of_drew ⟨_, rfl⟩ _⟩
    case rest =>
      obtain ⟨rfl, o2, rfl, hrd, hbl⟩ := hcut
      clear hH hc1 hB g0 i1 i4
      go_upto_if 18 with fail
      go_cut [5, 6] (fun s r6 wx => ∃ (a S c' b' o' : Nat), s = .int .i64 (S : Int) ∧ r6 = .slice (some ⟨b', o', none⟩) (n - a) c' ∧ RdB wx B (some ⟨b', o', none⟩) (n - a) c' ((x :: y :: r).drop a) ∧ rdLen (x :: y :: r) = .ok a S ∧ Below w.heap.size w wx ∧ a ≤ n ∧ S < 65536)
      case first =>
        by_cases hs : y.toNat < 128
        · have g1 : decide (128 ≤ y.toNat) = false := by simp; omega
          have g1' : decide ((128 : Int) ≤ (y.toNat : Int)) = false := by simp; omega
          have HR := Lib.hid (rdLen_small x y r hs)
          go_wp2
          go_meet
          exact ⟨2, y.toNat, _, _, _, rfl, rfl, hrd, HR.out, hbl, by omega, by omega⟩
        · have g1 : decide (128 ≤ y.toNat) = true := by simp; omega
          have g1' : decide ((128 : Int) ≤ (y.toNat : Int)) = true := by simp; omega
          obtain ⟨k, hk⟩ : ∃ k, y.toNat = 128 + k := ⟨y.toNat - 128, by omega⟩
          have HR := rdLen_long x y r hs
          rw [show y.toNat - 128 = k by omega] at HR
          have HR := Lib.hid HR
          have hw : IntKind.i64.wrap ((y.toNat : Int) - 128) = (k : Int) := by
            rw [IntWalk.i64_in _ (by omega)]; omega
          have hk2 : k ≤ 200 := by omega
          have HK := Lib.hid hk
          have hs' : ¬ ((y.toNat : Int) < 128) := by omega
          clear hk
          go_wp2_with fail
          refine (long_any k _ _ _ _ B wc hrd (Nat.le_trans hBw hbl.size) hk2).mono ?_
          rintro e w3 ⟨hb3, herr, hok⟩
          have hbl3 : Below w.heap.size w w3 := below_seq hbl hb3
          by_cases hE : lgE k r = 0
          · obtain ⟨b2, o3, rfl, hrd3⟩ := hok hE
            have HR2 := Lib.hid (show rdLen (x :: y :: r) = .ok (2 + k) (num (r.take k)) by rw [HR.out, if_pos hE])
            have hlr : r.length = n - 2 := by have := HL.out; simp only [List.length_cons] at this; omega
            have hkn : k ≤ n - 2 := by
              by_cases hh : k ≤ n - 2
              · exact hh
              · exfalso
                rw [lgE] at hE
                by_cases q1 : k < 1 ∨ 2 < k
                · rw [if_pos q1] at hE; omega
                · rw [if_neg q1, if_pos (by omega)] at hE; omega
            have hS : num (r.take k) < 65536 := by
              have q : k ≤ 2 := by
                by_cases q1 : k < 1 ∨ 2 < k
                · rw [lgE, if_pos q1] at hE; omega
                · omega
              have h3 := num_lt (r.take k)
              have h4 : 256 ^ (r.take k).length ≤ 256 ^ 2 := Nat.pow_le_pow_right (by omega) (by rw [List.length_take]; omega)
              omega
            obtain ⟨N, hN⟩ : ∃ N, N = num (r.take k) := ⟨_, rfl⟩
            rw [← hN] at hS HR2 ⊢
            have HN := Lib.hid (show n - 2 - k = n - (2 + k) ∧ c - 2 - k = c - (2 + k) by omega)
            have HD := Lib.hid (show r.drop k = (x :: y :: r).drop (2 + k) by rw [Nat.add_comm]; rfl)
            clear hE herr hok hN hlr HR hrd hw
            go_wp2
            go_meet
            rw [HN.out.1, HD.out] at hrd3
            exact ⟨2 + k, N, c - 2 - k, b2, o3, rfl, by rw [HN.out.1], hrd3, HR2.out, hbl3, by omega, hS⟩
          · have hh := herr hE
            subst hh
            have HR2 := Lib.hid (show rdLen (x :: y :: r) = .err (lgE k r).toNat by rw [HR.out, if_neg hE])
            have hnn : 0 ≤ lgE k r := by unfold lgE; (repeat' split) <;> omega
            obtain ⟨E, hEE⟩ : ∃ E, E = lgE k r := ⟨_, rfl⟩
            rw [← hEE] at hE HR2 hnn ⊢
            have g2 : (E != 0) = true := by simp; omega
            have g3 : (E == 0) = false := by simp; omega
            clear herr hok HR hrd hw hEE
            go_wp2
            go_ret3
            refine SpPost.err HR2.out hbl3 ?_
            rw [Int.toNat_of_nonneg hnn]; rfl
      case rest =>
        obtain ⟨a, S, c', b', o', rfl, rfl, hrd2, hR, hbl2, ha, hS⟩ := hcut
        have HR := Lib.hid hR
        have hr2 := hrd2.room
        clear hR hrd hbl
        by_cases hs : n - a < S
        · have g1 : decide (n - a < S) = true := by simp; omega
          have g1' : decide (((n - a : Nat) : Int) < (S : Int)) = true := by simp; omega
          go_wp2
          go_ret3
          exact SpPost.few HR.out hbl2 hs rfl
        · have g1 : decide (n - a < S) = false := by simp; omega
          have g1' : decide (((n - a : Nat) : Int) < (S : Int)) = false := by simp; omega
          obtain ⟨N, hN⟩ : ∃ N, N = n - a := ⟨_, rfl⟩
          rw [← hN] at hs g1 g1' hrd2 hr2 ⊢
          have i1 : (0 : Int) ≤ (S : Int) := by omega
          have i4 : (S : Int) ≤ (N : Int) := by omega
          have i5 : (N : Int) ≤ (c' : Int) := by omega
          have i6 : (S : Int) ≤ (c' : Int) := by omega
          have HN := Lib.hid hN
          clear hN
          have hfr : RdB wc B (some ⟨b', o', none⟩) S c' (((x :: y :: r).drop a).take S) := by
            have := Rd.front (k := S) hrd2 (by omega)
            rw [← List.map_take] at this
            exact this
          have hdd : ((x :: y :: r).drop a).drop S = (x :: y :: r).drop (a + S) := by rw [List.drop_drop]
          by_cases hcc : c' = S
          · obtain rfl : N = S := by omega
            subst hcc
            have hcut2 : RdB wc B (some ⟨b', o', none⟩) (c' - c') (c' - c') ((x :: y :: r).drop (a + c')) := by
              have := Rd.cut (k := c') hrd2 (by omega)
              rw [if_pos rfl, ← List.map_drop, hdd] at this
              exact this
            have HF := Lib.hid hfr
            have HC := Lib.hid hcut2
            have HRD := Lib.hid hrd2
            clear hfr hcut2 hdd hrd2
            go_wp2_with fail
            go_quiet (fail)
            go_wp2
            go_ret3
            refine SpPost.ok HR.out (below_seq hbl2 (below_of_drew ⟨_, rfl⟩ _)) (by rw [← HN.out]; omega) ha ⟨some ⟨b', o', none⟩, c', some ⟨b', o', none⟩, c' - c', ?_, ?_, ?_⟩
            · rw [← HN.out, Nat.sub_self]; rfl
            · exact HF.out.below (below_of_drew ⟨_, rfl⟩ _)
            · rw [← HN.out]; exact HC.out.below (below_of_drew ⟨_, rfl⟩ _)
          · have hcut2 : RdB wc B (some ⟨b', o' + S, none⟩) (N - S) (c' - S) ((x :: y :: r).drop (a + S)) := by
              have := hrd2.cut (k := S) (by omega) (by omega)
              rw [hdd] at this
              exact this
            have HF := Lib.hid hfr
            have HC := Lib.hid hcut2
            have HRD := Lib.hid hrd2
            clear hfr hcut2 hdd hrd2
            go_wp2_with fail
            go_quiet (fail)
            go_wp2
            go_ret3
            refine SpPost.ok HR.out (below_seq hbl2 (below_of_drew ⟨_, rfl⟩ _)) (by rw [← HN.out]; omega) ha ⟨some ⟨b', o', none⟩, c', some ⟨b', o' + S, none⟩, c' - S, ?_, ?_, ?_⟩
            · rw [← HN.out]; rfl
            · exact HF.out.below (below_of_drew ⟨_, rfl⟩ _)
            · rw [← HN.out]; exact HC.out.below (below_of_drew ⟨_, rfl⟩ _)
end Go.Proofs.Ytfinonfkpmlfeaa.Der
