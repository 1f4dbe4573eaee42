/-
  cache: a Cache as it stands in memory; Len, Clear.
-/
import Derived.Test.YtpdbdlaoeidflaaChq
import Derived.Deep.RegionHeld3
import Derived.Deep.RegionLaw
import Derived.Deep.AppendLies
import Derived.Great.BuildSlice
namespace Go.Proofs.Ytpdbdlaoeidflaa.Ch
open Go.RowKit
open Go.Proofs.Ytpdbdlaoeidflaa.Kit
set_option linter.unusedVariables false

def ob (A : Option Addr) : Option Nat := A.map (·.block)
theorem ob_slice (A : Option Addr) (n c : Nat) : (Value.slice A n c).ownBlock = ob A := by cases A <;> rfl
structure ChAt (w : World) (B cb M : Nat) (A : Option Addr) (c : Nat) (l : List It) : Prop where
  box : w.heap[cb]? = some (.cells #[.int .i64 M, .slice A l.length c] 41 (0, 0))
  own : w.ownsRow B 43 3 (.slice A l.length c) l.length (cellsI l)
  ne : ob A ≠ some cb
  le : B ≤ cb
  ok : okT l
  m1 : 1 ≤ M
  m64 : M ≤ 64
  ll : l.length ≤ M
structure Stay (w w' : World) (cb : Nat) (A A' : Option Addr) : Prop where
  os : w'.os = w.os
  tape : w'.tape = w.tape
  output : w'.output = w.output
  size : w.heap.size ≤ w'.heap.size
  block : ∀ b, b < w.heap.size → b ≠ cb → ob A ≠ some b → w'.heap[b]? = w.heap[b]?
  to : ∀ g, ob A' = some g → ob A = some g ∨ w.heap.size ≤ g
theorem Stay.of_below {w w' : World} {cb : Nat} {A : Option Addr} (h : Below w.heap.size w w') : Stay w w' cb A A := ⟨h.os, h.tape, h.output, h.size, fun b hb _ _ => h.block b hb, fun g hg => .inl hg⟩
theorem ChAt.lt {w : World} {B cb M c : Nat} {A : Option Addr} {l : List It} (h : ChAt w B cb M A c l) : cb < w.heap.size := by
  rcases Nat.lt_or_ge cb w.heap.size with h1 | h1
  · exact h1
  · have := h.box
    rw [Array.getElem?_eq_none h1] at this
    cases this
theorem ChAt.olt {w : World} {B cb M c : Nat} {A : Option Addr} {l : List It} (h : ChAt w B cb M A c l) {g : Nat} (hg : ob A = some g) : B ≤ g ∧ g < w.heap.size := h.own.lt g (by rw [ob_slice]; exact hg)
theorem ChAt.on {w w' : World} {B cb M c : Nat} {A : Option Addr} {l : List It} (h : ChAt w B cb M A c l) (hb : Below w.heap.size w w') : ChAt w' B cb M A c l :=
  { h with
    box := (hb.block cb h.lt).trans h.box
    own := own_onN h.own hb }
theorem Stay.below {w w' : World} {B cb M c : Nat} {A A' : Option Addr} {l : List It} (h : Stay w w' cb A A') (hc : ChAt w B cb M A c l) (hB : B ≤ w.heap.size) : Below B w w' :=
  ⟨h.os, h.tape, h.output, h.size, fun k hk => h.block k (by omega) (fun e => by have := hc.le; omega) (fun e => by have := (hc.olt e).1; omega)⟩
theorem made_at {w : World} {B M : Nat} (hB : B ≤ w.heap.size) (h1 : 1 ≤ M) (h64 : M ≤ 64) : ChAt (w.alloc (.cells #[.int .i64 M, .slice none 0 0] 41)) B w.heap.size M none 0 [] :=
  { box := heap_alloc_new w _
    own := World.ownsRow_nil _ _ _ _
    ne := fun h => by cases h
    le := hB
    ok := fun x hx => by cases hx
    m1 := h1
    m64 := h64
    ll := Nat.zero_le _ }
theorem len_any {w : World} {B cb M c : Nat} {A : Option Addr} {l : List It} (h : ChAt w B cb M A c l) :
    Calls Try.prog 10 #[.pointer (some ⟨cb, 0, none⟩)] w fun e w' => e = .returned (.int .i64 (l.length : Int)) ∧ w = w' := by
  have h1 : w.cell? ⟨cb, 1, none⟩ = some (.slice A l.length c) := by rw [cell_of_row _ _ _ _ _ _ h.box]; rfl
  obtain ⟨n, hn⟩ : ∃ n, n = l.length := ⟨_, rfl⟩
  rw [← hn] at h1 ⊢
  clear h hn
  go_enter Try.func10, Try.ntmps10
  go_wp2
  go_ret
  exact ⟨rfl, rfl⟩
theorem clear_any {w : World} {B cb M c : Nat} {A : Option Addr} {l : List It} (h : ChAt w B cb M A c l) :
    Calls Try.prog 11 #[.pointer (some ⟨cb, 0, none⟩)] w fun e w' => e = .returned (.tuple #[]) ∧ ChAt w' B cb M none 0 [] ∧ Stay w w' cb A none := by
  have h1 : w.cell? ⟨cb, 1, none⟩ = some (.slice A l.length c) := by rw [cell_of_row _ _ _ _ _ _ h.box]; rfl
  have f1 : w.frozen? ⟨cb, 1, none⟩ = false := frozen_of_row w cb 1 _ _ h.box
  have HC := Lib.hid h
  obtain ⟨n, hn⟩ : ∃ n, n = l.length := ⟨_, rfl⟩
  rw [← hn] at h1
  clear h hn
  go_enter Try.func11, Try.ntmps11
  go_wp2_with fail
  go_end0
  have h := HC.out
  have hs := heap_setCell_same w cb 1 _ 41 (.slice none 0 0) h.box
  refine ⟨by first | rfl | simp_all, ⟨hs, World.ownsRow_nil _ _ _ _, fun e => (by cases e), h.le, fun x hx => (by cases hx), h.m1, h.m64, Nat.zero_le _⟩, ⟨rfl, rfl, rfl, by simp, fun b _ hne _ => heap_setCell_other w ⟨cb, 1, none⟩ b _ hne, fun g hg => (by cases hg)⟩⟩
end Go.Proofs.Ytpdbdlaoeidflaa.Ch
