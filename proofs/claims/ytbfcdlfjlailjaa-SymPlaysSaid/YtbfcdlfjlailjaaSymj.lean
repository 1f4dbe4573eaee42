/-
  sym's Seal: what it leaves, plainly.
-/
import Derived.Test.YtbfcdlfjlailjaaSymi
import Derived.Deep.Onto
namespace Go.Proofs.Ytbfcdlfjlailjaa.Sym
open Go.RowKit
open Go.Proofs.Ytbfcdlfjlailjaa.Kit
open Go.Proofs.Ytbfcdlfjlailjaa.Oct
set_option linter.unusedVariables false

theorem join1 (A1 : Option Addr) (n1 c1 : Nat) (xs : List UInt8) (W : World) (h1 : RdB W W.heap.size A1 n1 c1 xs) (hn : n1 ≤ 1000000) :
    Calls Try.prog 32 #[.slice (some ⟨W.heap.size, 0, none⟩) 1 1] (W.alloc (.cells #[.slice A1 n1 c1] 29)) fun e w' => ∃ A' c', e = .returned (.slice A' n1 c') ∧ w'.ownsRow W.heap.size 5 1 (.slice A' n1 c') n1 (xs.map bv) ∧ Below W.heap.size W w' := by
  have hj : joinL [⟨A1, n1, c1, xs⟩] = xs := by simp [joinL]
  have hl : xs.length = n1 := h1.len
  have h := joined_any (some ⟨W.heap.size, 0, none⟩) 1 1 _ [⟨A1, n1, c1, xs⟩] (W.alloc (.cells #[.slice A1 n1 c1] 29)) (rd_cells (n := 1) W rfl rfl rfl (by omega))
    (by
      intro r hr
      simp only [List.mem_cons, List.not_mem_nil, or_false] at hr
      subst hr
      exact h1.lit _) (Nat.le_refl _) (by rw [hj, hl]; omega)
  rw [hj, hl] at h
  exact h.mono fun e w' ⟨A', c', he, ho, hb⟩ => ⟨A', c', he, World.ownsRow.mono ho (by simp), below_seq (below_of_new W _) hb⟩

theorem TabAt.more2 {w w5 : World} {tb gg cap : Nat} {L : Lay} {O S S' : Nat → Prop} {T : Tab} {s : Sl} {A : Option Addr} {c : Nat} (h : TabAt w tb L O S T) (hs : s.ok) (hlen : T.bs.length < 1000000)
    (hbx : w5.heap[tb]? = some (.cells #[L.v1 T, .slice (some ⟨gg, 0, none⟩) (T.bs.length + 1) cap, L.v3 T, .map (some L.mb)] 87 (0, 0)))
    (hown : w5.ownsRow 0 41 18 (.slice (some ⟨gg, 0, none⟩) (T.bs.length + 1) cap) (T.bs.length + 1) (L.x2 ++ (s.key.map bv ++ [.int .i64 s.us, .slice A s.body.length c])))
    (hrd : RdS w5 S' A s.body.length c (s.body.map bv)) (hSS : ∀ b, S b → S' b) (hSn : ∀ b, S' b → S b ∨ (w.heap.size ≤ b ∧ b < w5.heap.size ∧ b ≠ gg))
    (hat : (L.v2 T).ownBlock = some gg ∨ w.heap.size ≤ gg) (hgl : gg < w5.heap.size) (hk : w5.os = w.os ∧ w5.tape = w.tape ∧ w5.output = w.output ∧ w.heap.size ≤ w5.heap.size)
    (hb : ∀ b, b < w.heap.size → b ≠ tb → (L.v2 T).ownBlock ≠ some b → w5.heap[b]? = w.heap[b]?) :
    TabAt w5 tb { L with A2 := some ⟨gg, 0, none⟩, c2 := cap, x2 := L.x2 ++ (s.key.map bv ++ [.int .i64 s.us, .slice A s.body.length c]) } (fun b => O b ∨ b = gg) S' { T with bs := T.bs ++ [s] } ∧ Kept O w w5 := by
  have hl : (T.bs ++ [s]).length = T.bs.length + 1 := by simp
  obtain ⟨L', hL'⟩ : ∃ q, q = ({ L with A2 := some ⟨gg, 0, none⟩, c2 := cap, x2 := L.x2 ++ (s.key.map bv ++ [.int .i64 s.us, .slice A s.body.length c]) } : Lay) := ⟨_, rfl⟩
  have hv1 : L'.v1 { T with bs := T.bs ++ [s] } = L.v1 T := by rw [hL']; rfl
  have hv2 : L'.v2 { T with bs := T.bs ++ [s] } = .slice (some ⟨gg, 0, none⟩) (T.bs.length + 1) cap := by rw [hL']; simp only [Lay.v2, hl]
  have hv3 : L'.v3 { T with bs := T.bs ++ [s] } = L.v3 T := by rw [hL']; rfl
  have hmb : L'.mb = L.mb := by rw [hL']
  have hm : L'.m = L.m := by rw [hL']
  have hx2 : L'.x2 = L.x2 ++ (s.key.map bv ++ [.int .i64 s.us, .slice A s.body.length c]) := by rw [hL']
  have hx3 : L'.x3 = L.x3 := by rw [hL']
  rw [← hL']
  have hgO : ∀ b, b < w.heap.size → b = gg → O b := fun b hbl e => by
    rcases hat with ha | ha
    · exact e ▸ h.ov2 gg ha
    · omega
  have hgne : ∀ b, b < w.heap.size → (L.v2 T).ownBlock ≠ some b → gg ≠ b := fun b hbl hne e => by
    rcases hat with ha | ha
    · exact hne (by rw [ha, e])
    · omega
  have l1 : ∀ g, (L.v1 T).ownBlock = some g → g < w.heap.size := fun g hg => h.lt g (.inl (h.ov1 g hg))
  have l3 : ∀ g, (L.v3 T).ownBlock = some g → g < w.heap.size := fun g hg => h.lt g (.inl (h.ov3 g hg))
  have hS : ∀ b, S b → w5.heap[b]? = w.heap[b]? := fun b hb' => hb b (h.lt b (.inr hb')) (fun e => h.dis b hb' (e ▸ h.otb)) (fun e => h.dis b hb' (h.ov2 b e))
  have hmn : (L.v2 T).ownBlock ≠ some L.mb := fun e => (h.d2 _ e).2.1 rfl
  refine ⟨?_, hk.1, hk.2.1, hk.2.2.1, hk.2.2.2, fun b hbl hn => hb b hbl (fun e => hn (e ▸ h.otb)) (fun e => hn (h.ov2 b e))⟩
  exact {
    box := by rw [hv1, hv2, hv3, hmb]; exact hbx
    o1 := by
      rw [hv1]
      exact own_same h.o1 hk.1 hk.2.1 hk.2.2.1 hk.2.2.2 fun g hg => hb g (l1 g hg) (h.d1 g hg).1 (fun e => (h.d1 g hg).2.2.1 e)
    o2 := by rw [hv2]; simp only [hl, hx2]; exact hown
    o3 := by
      rw [hv3, hx3]
      exact own_same h.o3 hk.1 hk.2.1 hk.2.2.1 hk.2.2.2 fun g hg => hb g (l3 g hg) (h.d3 g hg).1 (fun e => (h.d2 g e).2.2 hg)
    r2 := by
      rw [hx2]
      exact SlRow.snoc hrd _ (SlRow.keep (fun p hp => World.cell?_of_block (hS _ hp)) hSS _ h.r2)
    r3 := by
      rw [hx3]
      exact SmRow.keep (fun p hp => World.cell?_of_block (hS _ hp)) hSS _ h.r3
    map := by
      rw [hmb, hm]
      exact h.map.kept (hb _ h.map.lt (fun e => h.dtm e.symm) hmn)
    mle := by rw [hm]; exact h.mle
    otb := .inl h.otb
    omb := by rw [hmb]; exact .inl h.omb
    ov1 := fun g hg => by rw [hv1] at hg; exact .inl (h.ov1 g hg)
    ov2 := fun g hg => by
      rw [hv2] at hg
      exact .inr (by simpa [Value.ownBlock] using hg.symm)
    ov3 := fun g hg => by rw [hv3] at hg; exact .inl (h.ov3 g hg)
    dtm := by rw [hmb]; exact h.dtm
    d1 := fun g hg => by
      rw [hv1] at hg
      rw [hmb, hv2, hv3]
      refine ⟨(h.d1 g hg).1, (h.d1 g hg).2.1, fun e => ?_, (h.d1 g hg).2.2.2⟩
      have e2 : gg = g := by simpa [Value.ownBlock] using e
      exact hgne g (l1 g hg) (h.d1 g hg).2.2.1 e2
    d2 := fun g hg => by
      rw [hv2] at hg
      obtain rfl : gg = g := by simpa [Value.ownBlock] using hg
      rw [hmb, hv3]
      refine ⟨?_, ?_, ?_⟩
      · exact hgne tb (h.lt tb (.inl h.otb)) (fun e => (h.d2 _ e).1 rfl)
      · exact hgne L.mb h.map.lt hmn
      · intro e
        exact hgne gg (l3 gg e) (fun e2 => (h.d2 _ e2).2.2 e) rfl
    d3 := fun g hg => by
      rw [hv3] at hg
      rw [hmb]
      exact h.d3 g hg
    lt := fun b hbb => by
      rcases hbb with (h1 | h1) | h1
      · exact Nat.lt_of_lt_of_le (h.lt b (.inl h1)) hk.2.2.2
      · omega
      · rcases hSn b h1 with h2 | h2
        · exact Nat.lt_of_lt_of_le (h.lt b (.inr h2)) hk.2.2.2
        · exact h2.2.1
    dis := fun b hs' ho => by
      rcases hSn b hs' with h2 | h2
      · rcases ho with h1 | h1
        · exact h.dis b h2 h1
        · exact h.dis b h2 (hgO b (h.lt b (.inr h2)) h1)
      · rcases ho with h1 | h1
        · have := h.lt b (.inl h1); omega
        · exact h2.2.2 h1
    fok := h.fok
    sok := fun g hg => by
      rcases List.mem_append.1 hg with h1 | h1
      · exact h.sok g h1
      · rw [List.mem_singleton.1 h1]; exact hs
    mok := h.mok
    kle := ⟨h.kle.1, by show (T.bs ++ [s]).length ≤ 1000000; rw [hl]; omega, h.kle.2.2⟩ }
end Go.Proofs.Ytbfcdlfjlailjaa.Sym
