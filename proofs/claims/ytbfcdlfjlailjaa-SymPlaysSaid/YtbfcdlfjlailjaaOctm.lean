/-
  THE CONTRACTS of octet's functions and of the document's own of layer 1.
-/
import Derived.Test.YtbfcdlfjlailjaaChecked
import Derived.Test.YtbfcdlfjlailjaaKit
import Derived.Deep.LoopGhost
import Derived.Deep.QuietTactic
import Derived.BigQuiet
import Derived.Handy
import Derived.Lib.SliceRun
import Derived.Laws.CopyOwn
import Derived.Laws.ResultCell
import Derived.Deep.WholeRow
namespace Go.Proofs.Ytbfcdlfjlailjaa.Oct
open Go.RowKit Go.Proofs.Ytbfcdlfjlailjaa.Kit
set_option linter.unusedVariables false

theorem get_yes (A : Option Addr) (n c B : Nat) (bs : List UInt8) (w : World) (h : RdB w B A n c bs) (h1 : 1 ≤ n) (h8 : n ≤ 8) :
    Calls Try.prog 50 #[.slice A n c] w fun e w' => e = .returned (.tuple #[.int .u64 (num bs), .bool true]) ∧ w = w' := by
  obtain ⟨hle, hge⟩ : n ≤ bs.length ∧ bs.length ≤ n := by have := h.len; omega
  obtain ⟨b, o, rfl, hb, hc⟩ := h.at_ (k := 0) (by omega)
  clear h
  have H1 : ((n : Int) == 0) = false := by rw [beq_eq_false_iff_ne]; omega
  have H2 : decide ((8 : Int) < n) = false := by simp; omega
  go_enter Try.func50, Try.ntmps50
  go_wp2
  go_loop [4, 17] (fun x i => ∃ k : Nat, k ≤ n ∧ i = .int .i64 k ∧ x = .int .u64 (num (bs.take k))) (fun _ i => n - (intOf i).toNat)
  case atStart => exact ⟨0, Nat.zero_le _, rfl, rfl⟩
  case round =>
    obtain ⟨k, hk, rfl, rfl⟩ := hrel
    by_cases hlt : k < n
    · have hb' : bs[k].toNat < 256 := bs[k].toNat_lt
      have hn' := num_take_lt bs k (by omega)
      have hor := or_byte _ _ hn' hb'
      rw [← num_take_succ bs k (by omega)] at hor
      have hcell := hc k (by omega)
      go_wp2
      go_round
      case rel => exact ⟨k + 1, by omega, by go_num, rfl⟩
      case measure => simp [intOf]; omega
    · obtain rfl : k = n := by omega
      go_wp2
      go_ret2
      exact ⟨congrArg (fun x : List UInt8 => Ending.returned (.tuple #[.int .u64 (num x), .bool true])) (List.take_of_length_le (by omega)), rfl⟩
theorem get_no (A : Option Addr) (n c : Nat) (w : World) (h : n = 0 ∨ 8 < n) (hm : n ≤ 9223372036854775807) :
    Calls Try.prog 50 #[.slice A n c] w fun e w' => e = .returned (.tuple #[.int .u64 0, .bool false]) ∧ w = w' := by
  rcases h with rfl | h
  · go_enter Try.func50, Try.ntmps50
    go_wp2
    go_ret2
    exact ⟨rfl, rfl⟩
  · have H1 : ((n : Int) == 0) = false := by rw [beq_eq_false_iff_ne]; omega
    have H2 : decide ((8 : Int) < n) = true := by simp; omega
    go_enter Try.func50, Try.ntmps50
    go_wp2
    go_ret2
    exact ⟨rfl, rfl⟩

theorem rget_yes (A : Option Addr) (n c B : Nat) (bs : List UInt8) (w : World) (h : RdB w B A n c bs) (h1 : 1 ≤ n) (h8 : n ≤ 8) :
    Calls Try.prog 47 #[.slice A n c] w fun e w' => e = .returned (.tuple #[.int .u64 (num bs), .bool true]) ∧ w = w' := by
  obtain ⟨hle, hge⟩ : n ≤ bs.length ∧ bs.length ≤ n := by have := h.len; omega
  obtain ⟨b, o, rfl, hb, hc⟩ := h.at_ (k := 0) (by omega)
  clear h
  have H1 : decide ((n : Int) < 1) = false := by simp; omega
  have H2 : decide ((8 : Int) < n) = false := by simp; omega
  go_enter Try.func47, Try.ntmps47
  go_wp2
  go_loop [4, 5] (fun x i => ∃ k : Nat, k ≤ n ∧ i = .int .i64 k ∧ x = .int .u64 (num (bs.take k))) (fun _ i => n - (intOf i).toNat)
  case atStart => exact ⟨0, Nat.zero_le _, rfl, rfl⟩
  case round =>
    obtain ⟨k, hk, rfl, rfl⟩ := hrel
    by_cases hlt : k < n
    · have hb' : bs[k].toNat < 256 := bs[k].toNat_lt
      have hn' := num_take_lt bs k (by omega)
      have hor := num_take_succ bs k (by omega)
      have hcell := hc k (by omega)
      have HS := Lib.hid hor
      clear hor hc
      go_wp2
      go_round
      case rel => exact ⟨k + 1, by omega, by go_num, by rw [HS.out]; go_num⟩
      case measure => simp [intOf]; omega
    · obtain rfl : k = n := by omega
      go_wp2
      go_ret2
      exact ⟨congrArg (fun x : List UInt8 => Ending.returned (.tuple #[.int .u64 (num x), .bool true])) (List.take_of_length_le (by omega)), rfl⟩

theorem rget_no (A : Option Addr) (n c : Nat) (w : World) (h : n = 0 ∨ 8 < n) (hm : n ≤ 9223372036854775807) :
    Calls Try.prog 47 #[.slice A n c] w fun e w' => e = .returned (.tuple #[.int .u64 0, .bool false]) ∧ w = w' := by
  rcases h with rfl | h
  · go_enter Try.func47, Try.ntmps47
    go_wp2
    go_ret2
    exact ⟨rfl, rfl⟩
  · have H1 : decide ((n : Int) < 1) = false := by simp; omega
    have H2 : decide ((8 : Int) < n) = true := by simp; omega
    go_enter Try.func47, Try.ntmps47
    go_wp2
    go_ret2
    exact ⟨rfl, rfl⟩
theorem put_any (n : Nat) (w : World) (hn : n < 18446744073709551616) :
    Calls Try.prog 52 #[.int .u64 n] w fun e w' => e = .returned (.slice (some ⟨w.heap.size, 0, none⟩) 8 8) ∧ w.alloc (.cells (Cput 0 n) 5) = w' := by
  have hmk : ∀ W : World, (Instr.makeSlice 29 (.int .i64 8) (.int .i64 8)).run Try.prog W = .ok (.slice (some ⟨W.heap.size, 0, none⟩) 8 8) (W.alloc (.cells (Cput 8 n) 5)) := fun _ => by kernel_rfl
  go_enter Try.func52, Try.ntmps52
  go_wp2
  go_loopw [0, 4] (fun x i wr => ∃ m : Nat, m ≤ 8 ∧ i = .int .i64 ((m : Int) - 1) ∧ x = .int .u64 ((n / 256 ^ (8 - m) : Nat) : Int) ∧ wr = w.alloc (.cells (Cput m n) 5)) (fun _ i _ => (intOf i + 1).toNat)
  case atStart => exact ⟨8, Nat.le_refl _, rfl, by simp, rfl⟩
  case round =>
    obtain ⟨m, hm, rfl, rfl, rfl⟩ := hrel
    rcases m with _ | m
    · go_wp2
      go_ret
      exact ⟨rfl, rfl⟩
    · rw [show ((m + 1 : Nat) : Int) - 1 = m from by omega]
      have hat := Cput_at m n
      have hset := Cput_set' m n hm
      go_wp2
      go_roundw
      case rel => exact ⟨m, by omega, by go_num, int_eq (div_step n m hm), rfl⟩
      case measure => simp [intOf]

theorem rsame_any (A A' : Option Addr) (n c n' c' B B' : Nat) (xs ys : List UInt8) (w : World) (ha : RdB w B A n c xs) (hb : RdB w B' A' n' c' ys) :
    Calls Try.prog 15 #[.slice A n c, .slice A' n' c'] w fun e w' => e = .returned (.bool (decide (xs = ys))) ∧ Drew w w' := by
  obtain ⟨hle, hge⟩ : n ≤ xs.length ∧ xs.length ≤ n := by have := ha.len; omega
  obtain ⟨hle', hge'⟩ : n' ≤ ys.length ∧ ys.length ≤ n' := by have := hb.len; omega
  have hr := ha.room
  have hr' := hb.room
  by_cases hn : n = n'
  · subst hn
    have H1 : ((n : Int) != n) = false := by simp
    go_enter Try.func15, Try.ntmps15
    go_wp2
    go_loopw [5] (fun i wr => ∃ k d : Nat, k ≤ n ∧ i = .int .i64 k ∧ wr = w.drewN d ∧ xs.take k = ys.take k) (fun i _ => n - (intOf i).toNat)
    case atStart => exact ⟨0, 0, Nat.zero_le _, rfl, rfl, rfl⟩
    case round =>
      obtain ⟨k, d, hk, rfl, rfl, ht⟩ := hrel
      have HT := Lib.hid ht
      clear ht
      by_cases hlt : k < n
      · obtain ⟨b, o, rfl, hB, hc⟩ := ha.at_ (k := 0) (by omega)
        obtain ⟨b', o', rfl, hB', hc'⟩ := hb.at_ (k := 0) (by omega)
        clear ha hb
        have c1 := hc k (by omega)
        have c2 := hc' k (by omega)
        clear hc hc'
        by_cases heq : xs[k] = ys[k]
        · have H2 : ((xs[k].toNat : Int) != ys[k].toNat) = false := by simp [heq]
          have HE := Lib.hid heq
          clear heq
          go_wp2
          go_quiet (fail)
          go_wp2
          go_roundw
          case rel => exact ⟨k + 1, _, by omega, by go_num, rfl, take_eq_succ (by omega) (by omega) HT.out HE.out⟩
          case measure => simp [intOf]; omega
        · have H2 : ((xs[k].toNat : Int) != ys[k].toNat) = true := byte_ne heq
          have e : decide (xs = ys) = false := by simp; rintro rfl; exact heq rfl
          have E := Lib.hid e
          clear e heq
          go_wp2
          go_quiet (fail)
          go_wp2
          go_ret
          exact ⟨by rw [E.out]; rfl, by first | exact .refl _ | exact .of _ _ | exact .of2 _ _ _⟩
      · obtain rfl : k = n := by omega
        have e : decide (xs = ys) = true := by
          have h := HT.out
          rw [List.take_of_length_le hge, List.take_of_length_le hge'] at h
          simpa using h
        have E := Lib.hid e
        clear e
        go_wp2
        go_ret
        exact ⟨by rw [E.out]; rfl, by first | exact .refl _ | exact .of _ _ | exact .of2 _ _ _⟩
  · have H1 : ((n : Int) != n') = true := by simp; omega
    have e : decide (xs = ys) = false := by simp; rintro rfl; omega
    have E := Lib.hid e
    clear e
    go_enter Try.func15, Try.ntmps15
    go_wp2
    go_ret
    exact ⟨by rw [E.out]; rfl, by first | exact .refl _ | exact .of _ _ | exact .of2 _ _ _⟩
end Go.Proofs.Ytbfcdlfjlailjaa.Oct

/-
  THE CONTRACTS of octet's other functions, and of the document's own.
-/
namespace Go.Proofs.Ytbfcdlfjlailjaa.Oct
open Go.RowKit
open Go.Proofs.Ytbfcdlfjlailjaa.Kit
set_option linter.unusedVariables false

theorem info5 : (Try.prog.info? 5).map (fun i => (i.zero, i.size, i.bytes)) = some (some (.int .u8 0), 1, 1) := by kernel_rfl

set_option maxRecDepth 100000 in
theorem rput_any (n : Nat) (w : World) (hn : n < 18446744073709551616) :
    Calls Try.prog 40 #[.int .u64 n] w fun e w' => ∃ A c, e = .returned (.slice A 8 c) ∧ w'.ownsRow w.heap.size 5 1 (.slice A 8 c) 8 ((be 8 n).map bv) ∧ Below w.heap.size w w' := by
  obtain ⟨i0, hi, hz0, hz1, hz2⟩ := info_parts info5
  go_enter Try.func40, Try.ntmps40
  go_wp2
  go_loopw [0, 3, 4] (fun x v i wr => ∃ k A c, k ≤ 8 ∧ i = .int .i64 (k : Nat) ∧ x = .int .u64 ((n / 256 ^ k : Nat) : Int) ∧ v = .slice A k c ∧ wr.ownsRow w.heap.size 5 1 (.slice A k c) k ((be k n).map bv) ∧ Below w.heap.size w wr)
    (fun _ _ i _ => 8 - (intOf i).toNat)
  case atStart => exact ⟨0, _, _, by omega, rfl, by simp, rfl, own_new w (Nat.le_refl _) rfl (by omega), (Below.refl _ _).alloc (Nat.le_refl _) _⟩
  case round =>
    obtain ⟨k, A, c, hk, rfl, rfl, rfl, hown, hbw⟩ := hrel
    by_cases hlt : k < 8
    · obtain ⟨x, hx⟩ : ∃ x, x = n / 256 ^ k := ⟨_, rfl⟩
      rw [← hx]
      have hx64 : x < 18446744073709551616 := by rw [hx]; exact Nat.lt_of_le_of_lt (Nat.div_le_self _ _) hn
      have HX := Lib.hid hx
      clear hx
      go_wp2_with (at_builtin; refine wpList_app _ rfl (.tmp 13) (.tmp 14) 29 rfl w.heap.size 5 i0 _ 1 Try.underlying29 hi hz0 hz1 hz2 rfl _ 1 _ rfl (own_new wr hbw.size rfl (by omega)) wr.heap.size A k c _ rfl ((Rd.of_own hown).alloc (Nat.le_refl _) _) (bv_one _) (by omega) (by omega) (Nat.le_trans hbw.size (by simp)) ?_; intro A' c' w' hown' hg hat)
      have hb' := below_lit hbw hg
      rw [be_front n k x HX.out, slice_comm, Nat.add_comm 1 k] at hown'
      clear hg hat hown
      go_wp2
      go_roundw
      case rel => exact ⟨k + 1, A', c', by omega, by go_num, int_eq (div_next n k x HX.out), slice_comm _ _ _, hown', hb'⟩
      case measure => simp [intOf]; omega
    · obtain rfl : k = 8 := by omega
      go_wp2
      go_ret
      exact ⟨A, c, rfl, hown, hbw⟩
end Go.Proofs.Ytbfcdlfjlailjaa.Oct

/-
  THE CONTRACTS of octet.Key, Zero and Joined.
-/
namespace Go.Proofs.Ytbfcdlfjlailjaa.Oct
open Go.RowKit
open Go.Proofs.Ytbfcdlfjlailjaa.Kit
set_option linter.unusedVariables false

def zero16 : Value := .agg (Array.replicate 16 (.int .u8 0))
theorem key_no (A : Option Addr) (n c : Nat) (w : World) (h : n ≠ 16) (hm : n ≤ 9223372036854775807) :
    Calls Try.prog 48 #[.slice A n c] w fun e w' => e = .returned (.tuple #[zero16, .bool false]) ∧ Below w.heap.size w w' := by
  have h1 : ((n : Int) != 16) = true := by simp; omega
  go_enter Try.func48, Try.ntmps48
  go_wp2
  refine bodyPost_ret (v := .tuple #[zero16, .bool false]) (by simp [results, Try.results48, go_sem]; rfl) rfl ⟨rfl, ?_⟩
  exact ((Below.refl _ _).alloc (Nat.le_refl _) _).alloc (by simp) _
end Go.Proofs.Ytbfcdlfjlailjaa.Oct

/-
  THE CONTRACT of octet.Key at sixteen bytes.
-/
namespace Go.Proofs.Ytbfcdlfjlailjaa.Oct
open Go.RowKit
open Go.Proofs.Ytbfcdlfjlailjaa.Kit
set_option linter.unusedVariables false

theorem key_copy (w : World) (b o c : Nat) (b0 b1 b2 b3 b4 b5 b6 b7 b8 b9 b10 b11 b12 b13 b14 b15 : UInt8)
    (hc : ∀ (j : Nat) (u : Value), ([b0, b1, b2, b3, b4, b5, b6, b7, b8, b9, b10, b11, b12, b13, b14, b15].map bv)[j]? = some u → w.cell? ⟨b, o + j, none⟩ = some u) (hb : b < w.heap.size) :
    (Builtin.copy_ #[29, 29] 3 #[.slice (some ⟨w.heap.size + 1, 0, none⟩) 16 16, .slice (some ⟨b, o, none⟩) 16 c]).run Try.prog
      ((w.alloc (.cells #[Value.int .u8 0, Value.int .u8 0, Value.int .u8 0, Value.int .u8 0, Value.int .u8 0, Value.int .u8 0, Value.int .u8 0, Value.int .u8 0, Value.int .u8 0, Value.int .u8 0, Value.int .u8 0, Value.int .u8 0, Value.int .u8 0, Value.int .u8 0, Value.int .u8 0, Value.int .u8 0] 36)).alloc (.cells #[Value.int .u8 0, Value.int .u8 0, Value.int .u8 0, Value.int .u8 0, Value.int .u8 0, Value.int .u8 0, Value.int .u8 0, Value.int .u8 0, Value.int .u8 0, Value.int .u8 0, Value.int .u8 0, Value.int .u8 0, Value.int .u8 0, Value.int .u8 0, Value.int .u8 0, Value.int .u8 0] 36)) =
    .ok (.int .i64 16) ((w.alloc (.cells #[Value.int .u8 0, Value.int .u8 0, Value.int .u8 0, Value.int .u8 0, Value.int .u8 0, Value.int .u8 0, Value.int .u8 0, Value.int .u8 0, Value.int .u8 0, Value.int .u8 0, Value.int .u8 0, Value.int .u8 0, Value.int .u8 0, Value.int .u8 0, Value.int .u8 0, Value.int .u8 0] 36)).alloc (.cells #[Value.int .u8 (b0.toNat : Int), Value.int .u8 (b1.toNat : Int), Value.int .u8 (b2.toNat : Int), Value.int .u8 (b3.toNat : Int), Value.int .u8 (b4.toNat : Int), Value.int .u8 (b5.toNat : Int), Value.int .u8 (b6.toNat : Int), Value.int .u8 (b7.toNat : Int), Value.int .u8 (b8.toNat : Int), Value.int .u8 (b9.toNat : Int), Value.int .u8 (b10.toNat : Int), Value.int .u8 (b11.toNat : Int), Value.int .u8 (b12.toNat : Int), Value.int .u8 (b13.toNat : Int), Value.int .u8 (b14.toNat : Int), Value.int .u8 (b15.toNat : Int)] 36)) := by
  have hw1 : ((w.alloc (.cells #[Value.int .u8 0, Value.int .u8 0, Value.int .u8 0, Value.int .u8 0, Value.int .u8 0, Value.int .u8 0, Value.int .u8 0, Value.int .u8 0, Value.int .u8 0, Value.int .u8 0, Value.int .u8 0, Value.int .u8 0, Value.int .u8 0, Value.int .u8 0, Value.int .u8 0, Value.int .u8 0] 36)).alloc (.cells #[Value.int .u8 0, Value.int .u8 0, Value.int .u8 0, Value.int .u8 0, Value.int .u8 0, Value.int .u8 0, Value.int .u8 0, Value.int .u8 0, Value.int .u8 0, Value.int .u8 0, Value.int .u8 0, Value.int .u8 0, Value.int .u8 0, Value.int .u8 0, Value.int .u8 0, Value.int .u8 0] 36)).heap[w.heap.size + 1]? = some (.cells #[Value.int .u8 0, Value.int .u8 0, Value.int .u8 0, Value.int .u8 0, Value.int .u8 0, Value.int .u8 0, Value.int .u8 0, Value.int .u8 0, Value.int .u8 0, Value.int .u8 0, Value.int .u8 0, Value.int .u8 0, Value.int .u8 0, Value.int .u8 0, Value.int .u8 0, Value.int .u8 0] 36 (0, 0)) := by
    have := heap_alloc_new (w.alloc (.cells #[Value.int .u8 0, Value.int .u8 0, Value.int .u8 0, Value.int .u8 0, Value.int .u8 0, Value.int .u8 0, Value.int .u8 0, Value.int .u8 0, Value.int .u8 0, Value.int .u8 0, Value.int .u8 0, Value.int .u8 0, Value.int .u8 0, Value.int .u8 0, Value.int .u8 0, Value.int .u8 0] 36)) (.cells #[Value.int .u8 0, Value.int .u8 0, Value.int .u8 0, Value.int .u8 0, Value.int .u8 0, Value.int .u8 0, Value.int .u8 0, Value.int .u8 0, Value.int .u8 0, Value.int .u8 0, Value.int .u8 0, Value.int .u8 0, Value.int .u8 0, Value.int .u8 0, Value.int .u8 0, Value.int .u8 0] 36)
    simpa using this
  have h := run_copy_row (P := Try.prog) ((w.alloc (.cells #[Value.int .u8 0, Value.int .u8 0, Value.int .u8 0, Value.int .u8 0, Value.int .u8 0, Value.int .u8 0, Value.int .u8 0, Value.int .u8 0, Value.int .u8 0, Value.int .u8 0, Value.int .u8 0, Value.int .u8 0, Value.int .u8 0, Value.int .u8 0, Value.int .u8 0, Value.int .u8 0] 36)).alloc (.cells #[Value.int .u8 0, Value.int .u8 0, Value.int .u8 0, Value.int .u8 0, Value.int .u8 0, Value.int .u8 0, Value.int .u8 0, Value.int .u8 0, Value.int .u8 0, Value.int .u8 0, Value.int .u8 0, Value.int .u8 0, Value.int .u8 0, Value.int .u8 0, Value.int .u8 0, Value.int .u8 0] 36)) 29 29 3 5 (w.heap.size + 1) 0 16 16 ⟨b, o, none⟩ 16 c #[Value.int .u8 0, Value.int .u8 0, Value.int .u8 0, Value.int .u8 0, Value.int .u8 0, Value.int .u8 0, Value.int .u8 0, Value.int .u8 0, Value.int .u8 0, Value.int .u8 0, Value.int .u8 0, Value.int .u8 0, Value.int .u8 0, Value.int .u8 0, Value.int .u8 0, Value.int .u8 0] 36 ([b0, b1, b2, b3, b4, b5, b6, b7, b8, b9, b10, b11, b12, b13, b14, b15].map bv) Try.underlying29 (by kernel_rfl) hw1 rfl
    (fun j u hj => by
      rw [add_off, World.cell?_alloc_lt _ _ _ (by simp; omega), World.cell?_alloc_lt _ _ _ (by simpa using hb)]
      exact hc j u hj) (Nat.le_refl _) (bv_one _)
  rw [h]
  have e := World.setRow_alloc_new (w.alloc (.cells #[Value.int .u8 0, Value.int .u8 0, Value.int .u8 0, Value.int .u8 0, Value.int .u8 0, Value.int .u8 0, Value.int .u8 0, Value.int .u8 0, Value.int .u8 0, Value.int .u8 0, Value.int .u8 0, Value.int .u8 0, Value.int .u8 0, Value.int .u8 0, Value.int .u8 0, Value.int .u8 0] 36)) #[Value.int .u8 0, Value.int .u8 0, Value.int .u8 0, Value.int .u8 0, Value.int .u8 0, Value.int .u8 0, Value.int .u8 0, Value.int .u8 0, Value.int .u8 0, Value.int .u8 0, Value.int .u8 0, Value.int .u8 0, Value.int .u8 0, Value.int .u8 0, Value.int .u8 0, Value.int .u8 0] #[Value.int .u8 (b0.toNat : Int), Value.int .u8 (b1.toNat : Int), Value.int .u8 (b2.toNat : Int), Value.int .u8 (b3.toNat : Int), Value.int .u8 (b4.toNat : Int), Value.int .u8 (b5.toNat : Int), Value.int .u8 (b6.toNat : Int), Value.int .u8 (b7.toNat : Int), Value.int .u8 (b8.toNat : Int), Value.int .u8 (b9.toNat : Int), Value.int .u8 (b10.toNat : Int), Value.int .u8 (b11.toNat : Int), Value.int .u8 (b12.toNat : Int), Value.int .u8 (b13.toNat : Int), Value.int .u8 (b14.toNat : Int), Value.int .u8 (b15.toNat : Int)] 36
  rw [World.size_alloc] at e
  exact congrArg (Result.ok _) e
theorem key_yes (A : Option Addr) (c B : Nat) (bs : List UInt8) (w : World) (h : RdB w B A 16 c bs) (hB : B ≤ w.heap.size) :
    Calls Try.prog 48 #[.slice A 16 c] w fun e w' => e = .returned (.tuple #[.agg (bs.map bv).toArray, .bool true]) ∧ Below w.heap.size w w' := by
  have h1 : ((16 : Int) != 16) = false := rfl
  have hl := h.len
  obtain ⟨b, o, rfl, hb, hc⟩ := h.2.2.2 (by omega)
  clear h
  match bs, hl with
  | [b0, b1, b2, b3, b4, b5, b6, b7, b8, b9, b10, b11, b12, b13, b14, b15], _ =>
    have hcp := key_copy w b o c b0 b1 b2 b3 b4 b5 b6 b7 b8 b9 b10 b11 b12 b13 b14 b15 hc (by omega)
    clear hc
    go_enter Try.func48, Try.ntmps48
    go_wp2
    refine bodyPost_ret (v := .tuple #[.agg ([b0, b1, b2, b3, b4, b5, b6, b7, b8, b9, b10, b11, b12, b13, b14, b15].map bv).toArray, .bool true]) (by simp [results, Try.results48, go_sem, bv]) rfl ⟨rfl, ?_⟩
    exact ((Below.refl _ _).alloc (Nat.le_refl _) _).alloc (by simp) _
end Go.Proofs.Ytbfcdlfjlailjaa.Oct

/-
  THE CONTRACT of octet.Joined, and of octet.Zero.
-/
namespace Go.Proofs.Ytbfcdlfjlailjaa.Oct
open Go.RowKit
open Go.Proofs.Ytbfcdlfjlailjaa.Kit
set_option linter.unusedVariables false

theorem joined_any (A : Option Addr) (n c B : Nat) (R : List Row) (w : World) (h : Rd w B A n c (R.map Row.v)) (hR : ∀ r ∈ R, RdB w B r.A r.n r.c r.bs) (hB : B ≤ w.heap.size) (hT : (joinL R).length ≤ 70368744177664) :
    Calls Try.prog 32 #[.slice A n c] w fun e w' => ∃ A' c', e = .returned (.slice A' (joinL R).length c') ∧ w'.ownsRow w.heap.size 5 1 (.slice A' (joinL R).length c') (joinL R).length ((joinL R).map bv) ∧ Below w.heap.size w w' := by
  obtain ⟨i0, hi, hz0, hz1, hz2⟩ := info_parts info5
  obtain ⟨hle, hge⟩ : n ≤ R.length ∧ R.length ≤ n := by have := h.len; simp at this; omega
  have hr := h.room
  have HT := Lib.hid hT
  clear hT
  go_enter Try.func32, Try.ntmps32
  go_wp2
  go_loopw [3, 8] (fun v i wr => ∃ k A' c', k ≤ n ∧ i = .int .i64 (k : Nat) ∧ v = .slice A' (joinL (R.take k)).length c' ∧ wr.ownsRow w.heap.size 5 1 (.slice A' (joinL (R.take k)).length c') (joinL (R.take k)).length ((joinL (R.take k)).map bv) ∧ Below w.heap.size w wr)
    (fun _ i _ => n - (intOf i).toNat)
  case atStart => exact ⟨0, none, 0, Nat.zero_le _, rfl, rfl, World.ownsRow_nil _ _ _ _, Below.refl _ _⟩
  case round =>
    obtain ⟨k, A', c', hk, rfl, rfl, hown, hbw⟩ := hrel
    obtain ⟨m, hm⟩ : ∃ m, m = (joinL (R.take k)).length := ⟨_, rfl⟩
    rw [← hm] at hown ⊢
    have HM := Lib.hid hm
    clear hm
    by_cases hlt : k < n
    · obtain ⟨b, o, rfl, hb, hc⟩ := h.2.2.2 (by omega)
      have hcell := (hbw.cell (p := ⟨b, o + k, none⟩) (Nat.lt_of_lt_of_le hb hB)).trans (hc k _ (by rw [List.getElem?_map, List.getElem?_eq_getElem (by omega)]; rfl))
      have hrd := (hR R[k] (List.getElem_mem _)).more hB
      have hrd2 := hrd.below hbw
      have hts := joinL_take_succ R k (by omega)
      have htl := Nat.le_trans (joinL_take_le R (k + 1)) HT.out
      rw [hts, List.length_append, ← HM.out, RdB.len hrd] at htl
      obtain ⟨r, hrk⟩ : ∃ r, r = R[k] := ⟨_, rfl⟩
      rw [← hrk] at hcell hrd hrd2 hts htl
      have HS := Lib.hid hts
      have hlr := Lib.hid (RdB.len hrd2)
      clear hts hrk hrd hc
      unfold Row.v at hcell
      go_wp2_with (at_builtin; refine wpList_app _ rfl (.tmp 12) (.tmp 13) 29 rfl w.heap.size 5 i0 _ 1 Try.underlying29 hi hz0 hz1 hz2 rfl _ m _ rfl hown w.heap.size r.A r.n r.c _ rfl hrd2 (bv_one _) (by omega) (by omega) hbw.size ?_; intro A2 c2 w' hown' hg hat)
      have hb' := hbw.grown hg hbw.size (fun g hg => (hown.lt g hg).1)
      have HS2 : m + r.n = (joinL (R.take (k + 1))).length := by rw [HS.out, List.length_append, hlr.out, ← HM.out]
      rw [← List.map_append, ← HS.out, HS2] at hown'
      have HS3 := Lib.hid HS2
      clear HS2 hg hat hown
      go_wp2
      go_roundw
      case rel => exact ⟨k + 1, A2, c2, by omega, by go_num, by rw [HS3.out], hown', hb'⟩
      case measure => simp [intOf]; omega
    · obtain rfl : k = n := by omega
      have e : R.take k = R := List.take_of_length_le (by omega)
      rw [e] at hown HM
      have HE := Lib.hid HM.out
      clear HM e
      go_wp2
      go_ret
      have he := HE.out
      subst he
      exact ⟨A', c', rfl, hown, hbw⟩
theorem zero5 (w : World) : (zeroValue 5).run Try.prog w = .ok (.int .u8 0) w := by kernel_rfl
end Go.Proofs.Ytbfcdlfjlailjaa.Oct

/-
  THE CONTRACTS of octet's functions that hand back bytes, said alike.
-/
namespace Go.Proofs.Ytbfcdlfjlailjaa.Oct
open Go.RowKit
open Go.Proofs.Ytbfcdlfjlailjaa.Kit
set_option linter.unusedVariables false

theorem put_new (n : Nat) (w : World) (hn : n < 18446744073709551616) :
    Calls Try.prog 52 #[.int .u64 n] w fun e w' => ∃ A c, e = .returned (.slice A 8 c) ∧ New w w' A 8 c (be 8 n) :=
  (put_any n w hn).mono fun e w' ⟨he, hw⟩ => ⟨_, _, he, hw ▸ new_put w n 5⟩
theorem rput_new (n : Nat) (w : World) (hn : n < 18446744073709551616) :
    Calls Try.prog 40 #[.int .u64 n] w fun e w' => ∃ A c, e = .returned (.slice A 8 c) ∧ New w w' A 8 c (be 8 n) :=
  (rput_any n w hn).mono fun e w' ⟨A, c, he, ho, hb⟩ => ⟨A, c, he, .of_own ho hb⟩
theorem joined_new (A : Option Addr) (n c B : Nat) (R : List Row) (w : World) (h : Rd w B A n c (R.map Row.v)) (hR : ∀ r ∈ R, RdB w B r.A r.n r.c r.bs) (hB : B ≤ w.heap.size) (hT : (joinL R).length ≤ 70368744177664) :
    Calls Try.prog 32 #[.slice A n c] w fun e w' => ∃ A' c', e = .returned (.slice A' (joinL R).length c') ∧ New w w' A' (joinL R).length c' (joinL R) :=
  (joined_any A n c B R w h hR hB hT).mono fun e w' ⟨A, c, he, ho, hb⟩ => ⟨A, c, he, .of_own ho hb⟩
theorem rsame_new (A A' : Option Addr) (n c n' c' : Nat) (xs ys : List UInt8) (w : World) (ha : RdB w w.heap.size A n c xs) (hb : RdB w w.heap.size A' n' c' ys) :
    Calls Try.prog 15 #[.slice A n c, .slice A' n' c'] w fun e w' => e = .returned (.bool (decide (xs = ys))) ∧ Below w.heap.size w w' :=
  (rsame_any A A' n c n' c' _ _ xs ys w ha hb).mono fun e w' ⟨he, hw⟩ => ⟨he, below_of_drew hw _⟩
theorem key_yes' (A : Option Addr) (n c B : Nat) (bs : List UInt8) (w : World) (hn : n = 16) (h : RdB w B A n c bs) (hB : B ≤ w.heap.size) :
    Calls Try.prog 48 #[.slice A n c] w fun e w' => e = .returned (.tuple #[.agg (bs.map bv).toArray, .bool true]) ∧ Below w.heap.size w w' := by
  subst hn
  exact key_yes A c B bs w h hB
end Go.Proofs.Ytbfcdlfjlailjaa.Oct
