/-
  sym's sums looked through: bytes.Equal, the closure, slices.IndexFunc.
-/
import Derived.Test.YtcgkjcfckbplmaaSydm
import Derived.Laws.BytesArg
import Derived.Laws.BytesString
namespace Go.Proofs.Ytcgkjcfckbplmaa.Sym
open Go.RowKit
open Go.Proofs.Ytcgkjcfckbplmaa.Kit
open Go.Proofs.Ytcgkjcfckbplmaa.Oct
set_option linter.unusedVariables false

/-- bytes as a string -/
theorem conv_rd {w : World} {B n c : Nat} {A : Option Addr} {bs : List UInt8} (h : RdB w B A n c bs) : (convert 29 9 (.slice A n c)).run Try.prog w = .ok (.string ⟨bs.toArray⟩) w := by
  have hl : bs.length = n := h.len
  rcases Nat.eq_zero_or_pos n with h0 | h0
  · subst h0
    obtain rfl : bs = [] := List.eq_nil_of_length_eq_zero hl
    rw [run_convert_bytes_string w _ _ 5 _ 0 c Try.underlying29 Try.underlying5 Try.underlying9]
    cases A <;> simp [Conv.bytesToString, loadCells] <;> rfl
  · obtain ⟨b, o, rfl, _, hc⟩ := h.2.2.2 h0
    have h2 := run_convert_bytes_arg (P := Try.prog) w 29 5 Try.underlying29 Try.underlying5 b o n c (bs.map fun x => (x.toNat : Int)) (by rw [List.length_map, hl]) (fun i hi => by
      have hib : i < bs.length := by omega
      rw [hc i (bv bs[i]) (by rw [List.getElem?_map, List.getElem?_eq_getElem hib]; rfl)]
      rw [List.getD_eq_getElem?_getD, List.getElem?_map, List.getElem?_eq_getElem hib]
      rfl) 9 Try.underlying9
    rw [h2]
    have e : strOfNums (bs.map fun x => (x.toNat : Int)) = ⟨bs.toArray⟩ := by
      unfold strOfNums
      rw [List.map_map]
      have : ((fun n : Int => UInt8.ofNat n.toNat) ∘ fun x : UInt8 => (x.toNat : Int)) = id := by
        funext x
        show UInt8.ofNat ((x.toNat : Int)).toNat = x
        rw [Int.toNat_natCast, UInt8.ofNat_toNat]
      rw [this, List.map_id]
    rw [e]
theorem str_eq (xs ys : List UInt8) : ((⟨xs.toArray⟩ : ByteArray).toList == (⟨ys.toArray⟩ : ByteArray).toList) = decide (xs = ys) := by
  have e : ∀ l : List UInt8, (⟨l.toArray⟩ : ByteArray).toList = l := fun l => by
    rw [show (⟨l.toArray⟩ : ByteArray).toList = (⟨l.toArray⟩ : ByteArray).data.toList from by first | exact ByteArray.toList_eq _ | simp [ByteArray.toList] | rfl]
  rw [e, e]
  by_cases h : xs = ys
  · subst h; simp
  · rw [decide_eq_false h]; simpa using h
theorem eqb_any {w : World} {B B' n c n' c' : Nat} {A A' : Option Addr} {xs ys : List UInt8} (hx : RdB w B A n c xs) (hy : RdB w B' A' n' c' ys) :
    Calls Try.prog 46 #[.slice A n c, .slice A' n' c'] w fun e w' => e = .returned (.bool (decide (xs = ys))) ∧ w = w' := by
  have k1 := conv_rd hx
  have k2 := conv_rd hy
  have k3 := str_eq xs ys
  obtain ⟨X, hX⟩ : ∃ z, z = (⟨xs.toArray⟩ : ByteArray) := ⟨_, rfl⟩
  obtain ⟨Y, hY⟩ : ∃ z, z = (⟨ys.toArray⟩ : ByteArray) := ⟨_, rfl⟩
  obtain ⟨V, hV⟩ : ∃ z, z = decide (xs = ys) := ⟨_, rfl⟩
  rw [← hX] at k1 k3
  rw [← hY] at k2 k3
  rw [← hV] at k3 ⊢
  clear hX hY hV hx hy
  go_enter Try.func46, Try.ntmps46
  go_wp2
  go_ret
  exact ⟨rfl, rfl⟩
/-- the closure: are these the bytes? -/
theorem clos_any {w : World} {p B n c m d : Nat} {A A' : Option Addr} {xs ys : List UInt8} (hx : RdB w B A n c xs) (hy : RdB w B A' m d ys) (hp : w.cell? ⟨p, 0, none⟩ = some (.slice A' m d)) :
    Calls Try.prog 45 #[.slice A n c, .pointer (some ⟨p, 0, none⟩)] w fun e w' => e = .returned (.bool (decide (xs = ys))) ∧ w = w' := by
  have he := eqb_any hx hy
  go_enter Try.func45, Try.ntmps45
  go_wp2_with fail
  refine he.mono ?_
  rintro e w' ⟨rfl, rfl⟩
  go_wp2
  go_ret
  exact ⟨rfl, rfl⟩

set_option maxRecDepth 100000 in
set_option maxHeartbeats 2000000 in
theorem idx_any {w : World} {p B n c m d : Nat} {A A' : Option Addr} {l : List (List UInt8)} {ys : List UInt8} (hn : l.length = n) (hz : n ≤ 1000000)
    (hl : ∀ i (hi : i < l.length), ∃ g X cx, A = some ⟨g, 0, none⟩ ∧ w.cell? ⟨g, i, none⟩ = some (.slice X l[i].length cx) ∧ RdB w B X l[i].length cx l[i]) (hnc : n ≤ c)
    (hy : RdB w B A' m d ys) (hp : w.cell? ⟨p, 0, none⟩ = some (.slice A' m d)) :
    Calls Try.prog 44 #[.slice A n c, .func (Fn.func 45) #[] #[.pointer (some ⟨p, 0, none⟩)]] w fun e w' => w = w' ∧
      ((∃ k : Nat, k < n ∧ l[k]? = some ys ∧ (∀ j : Nat, j < k → l[j]? ≠ some ys) ∧ e = .returned (.int .i64 (k : Int))) ∨ ((∀ j : Nat, l[j]? ≠ some ys) ∧ e = .returned (.int .i64 (-1)))) := by
  have HL := Lib.hid hl
  have HY := Lib.hid hy
  have HP := Lib.hid hp
  clear hl hy hp
  go_enter Try.func44, Try.ntmps44
  go_wp2
  go_loopw [8] (fun v wr => ∃ k : Nat, k ≤ n ∧ v = .int .i64 k ∧ w = wr ∧ ∀ j : Nat, j < k → l[j]? ≠ some ys) (fun v _ => n - (intOf v).toNat)
  case atStart => exact ⟨0, by omega, rfl, rfl, fun j h => absurd h (by omega)⟩
  case round =>
    obtain ⟨k, hk, e8, ew, hno⟩ := hrel
    subst e8 ew
    have HNO := Lib.hid hno
    clear hno
    by_cases hlt : k < n
    · have hd : decide ((k : Int) < (n : Int)) = true := decide_eq_true (by omega)
      obtain ⟨g, X, cx, rfl, hc, hr⟩ := HL.out k (by omega)
      have hcl := clos_any hr HY.out HP.out
      have hkl : l[k]? = some l[k] := List.getElem?_eq_getElem (by omega)
      obtain ⟨Q, hQ⟩ : ∃ z, z = l[k] := ⟨_, rfl⟩
      rw [← hQ] at hcl hkl hc
      have HK := Lib.hid hkl
      by_cases hq : Q = ys
      · rw [decide_eq_true hq] at hcl
        have HQ := Lib.hid hq
        clear hr hkl hQ hq
        go_wp2_with fail
        refine hcl.mono ?_
        rintro e w' ⟨rfl, rfl⟩
        go_wp2
        go_ret
        exact ⟨rfl, .inl ⟨k, hlt, by rw [HK.out, HQ.out], HNO.out, rfl⟩⟩
      · rw [decide_eq_false hq] at hcl
        have HQ := Lib.hid hq
        clear hr hkl hQ hq
        go_wp2_with fail
        refine hcl.mono ?_
        rintro e w' ⟨rfl, rfl⟩
        go_wp2
        go_roundw
        case rel =>
          refine ⟨k + 1, by omega, by go_num, by first | rfl | trivial, fun j hj => ?_⟩
          rcases (by omega : j < k ∨ j = k) with h | rfl
          · exact HNO.out j h
          · rw [HK.out]
            exact fun e => HQ.out (Option.some.inj e)
        case measure => simp [intOf]; omega
    · have hd : decide ((k : Int) < (n : Int)) = false := decide_eq_false (by omega)
      go_wp2
      go_ret
      refine ⟨rfl, .inr ⟨fun j => ?_, rfl⟩⟩
      rcases (by omega : j < k ∨ l.length ≤ j) with h | h
      · exact HNO.out j h
      · rw [List.getElem?_eq_none h]
        exact fun e => by cases e
end Go.Proofs.Ytcgkjcfckbplmaa.Sym
