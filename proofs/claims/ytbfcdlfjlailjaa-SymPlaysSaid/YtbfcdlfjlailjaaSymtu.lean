/-
  sym's Table, as it stands in memory.
-/
import Derived.Test.YtbfcdlfjlailjaaSymmn
import Derived.Test.YtbfcdlfjlailjaaSymcd
import Derived.Test.YtbfcdlfjlailjaaValx
import Derived.Great.BuildSlice
import Derived.Deep.RegionHeld3
namespace Go.Proofs.Ytbfcdlfjlailjaa.Sym
open Go.RowKit
open Go.Proofs.Ytbfcdlfjlailjaa.Kit
open Go.Proofs.Ytbfcdlfjlailjaa.Oct
set_option linter.unusedVariables false

/-- what a box has -/
structure Sl where
  key : List UInt8
  us : Int
  body : List UInt8
def Sl.ok (s : Sl) : Prop := s.key.length = 16 ∧ (-9223372036854775808 ≤ s.us ∧ s.us ≤ 9223372036854775807) ∧ s.body.length ≤ 1000000
structure Tab where
  ks : List Fr
  bs : List Sl
  sm : List (List UInt8)
  fd : Og → Option Nat
def Tab.none : Tab := ⟨[], [], [], fun _ => Option.none⟩
def cellsF (l : List Fr) : List Value := l.flatMap Fr.cells
theorem cellsF_app (l m : List Fr) : cellsF (l ++ m) = cellsF l ++ cellsF m := by simp [cellsF]
theorem Fr.cells_len {f : Fr} (h : f.ok) : f.cells.length = 18 := by simp [Fr.cells, h.1]
theorem Fr.one (f : Fr) : ∀ u ∈ f.cells, u.oneCell' = true := by
  intro u hu
  simp only [Fr.cells, List.mem_append, List.mem_cons, List.not_mem_nil, or_false] at hu
  rcases hu with h | rfl | rfl
  · exact bv_one _ u h
  · rfl
  · rfl
/-- the cells of boxes -/
def SlRow (w : World) (S : Nat → Prop) : List Sl → List Value → Prop
  | [], xs => xs = []
  | s :: r, xs => ∃ A n c rest, xs = s.key.map bv ++ ([.int .i64 s.us, .slice A n c] ++ rest) ∧ RdS w S A n c (s.body.map bv) ∧ SlRow w S r rest
theorem SlRow.keep {w w' : World} {S S' : Nat → Prop} (hk : ∀ p : Addr, S p.block → w'.cell? p = w.cell? p) (hS : ∀ b, S b → S' b) : ∀ (l : List Sl) {xs : List Value}, SlRow w S l xs → SlRow w' S' l xs
  | [], _, h => h
  | s :: r, xs, h => by
    obtain ⟨A, n, c, rest, h1, h2, h3⟩ := h
    exact ⟨A, n, c, rest, h1, h2.keep hk hS, SlRow.keep hk hS r h3⟩
theorem SlRow.snoc {w : World} {S : Nat → Prop} {s : Sl} {A : Option Addr} {n c : Nat} (hr : RdS w S A n c (s.body.map bv)) : ∀ (l : List Sl) {xs : List Value}, SlRow w S l xs → SlRow w S (l ++ [s]) (xs ++ (s.key.map bv ++ [.int .i64 s.us, .slice A n c]))
  | [], xs, h => by
    have h' : xs = [] := h
    subst h'
    exact ⟨A, n, c, [], by simp, hr, rfl⟩
  | y :: r, xs, h => by
    obtain ⟨A1, n1, c1, rest, h1, h2, h3⟩ := h
    refine ⟨A1, n1, c1, _, ?_, h2, SlRow.snoc hr r h3⟩
    rw [h1]; simp
theorem SlRow.at_ {w : World} {S : Nat → Prop} : ∀ (l : List Sl) {xs : List Value}, (∀ s ∈ l, s.key.length = 16) → SlRow w S l xs → ∀ i (hi : i < l.length), ∃ A n c, (xs.drop (i * 18)).take 18 = l[i].key.map bv ++ [.int .i64 l[i].us, .slice A n c] ∧ RdS w S A n c (l[i].body.map bv)
  | [], _, _, _, i, hi => absurd hi (by simp)
  | s :: r, xs, hk, h, 0, _ => by
    obtain ⟨A, n, c, rest, h1, h2, h3⟩ := h
    have hl : (s.key.map bv).length = 16 := by rw [List.length_map, hk s (List.mem_cons_self ..)]
    refine ⟨A, n, c, ?_, h2⟩
    rw [h1, Nat.zero_mul, List.drop_zero, List.take_append, List.take_of_length_le (by omega), hl]
    rfl
  | s :: r, xs, hk, h, i + 1, hi => by
    obtain ⟨A, n, c, rest, h1, h2, h3⟩ := h
    have hl : (s.key.map bv ++ [Value.int .i64 s.us, Value.slice A n c]).length = 18 := by rw [List.length_append, List.length_map, hk s (List.mem_cons_self ..)]; rfl
    obtain ⟨A2, n2, c2, g1, g2⟩ := SlRow.at_ r (fun y hy => hk y (List.mem_cons_of_mem _ hy)) h3 i (by simpa using hi)
    refine ⟨A2, n2, c2, ?_, g2⟩
    have e : (s.key.map bv ++ [Value.int .i64 s.us, Value.slice A n c] ++ rest).drop 18 = rest := by rw [← hl, List.drop_left]
    rw [h1, ← List.append_assoc, show (i + 1) * 18 = 18 + i * 18 from by omega, ← List.drop_drop, e]
    exact g1
/-- the cells of rows of bytes -/
def SmRow (w : World) (S : Nat → Prop) : List (List UInt8) → List Value → Prop
  | [], xs => xs = []
  | s :: r, xs => ∃ A n c rest, xs = .slice A n c :: rest ∧ RdS w S A n c (s.map bv) ∧ SmRow w S r rest
theorem SmRow.keep {w w' : World} {S S' : Nat → Prop} (hk : ∀ p : Addr, S p.block → w'.cell? p = w.cell? p) (hS : ∀ b, S b → S' b) : ∀ (l : List (List UInt8)) {xs : List Value}, SmRow w S l xs → SmRow w' S' l xs
  | [], _, h => h
  | s :: r, xs, h => by
    obtain ⟨A, n, c, rest, h1, h2, h3⟩ := h
    exact ⟨A, n, c, rest, h1, h2.keep hk hS, SmRow.keep hk hS r h3⟩
/-- where the rows lie -/
structure Lay where
  A1 : Option Addr
  c1 : Nat
  A2 : Option Addr
  c2 : Nat
  A3 : Option Addr
  c3 : Nat
  mb : Nat
  x2 : List Value
  x3 : List Value
  m : Nat
def Lay.v1 (L : Lay) (T : Tab) : Value := .slice L.A1 T.ks.length L.c1
def Lay.v2 (L : Lay) (T : Tab) : Value := .slice L.A2 T.bs.length L.c2
def Lay.v3 (L : Lay) (T : Tab) : Value := .slice L.A3 T.sm.length L.c3
structure TabAt (w : World) (tb : Nat) (L : Lay) (O S : Nat → Prop) (T : Tab) : Prop where
  box : w.heap[tb]? = some (.cells #[L.v1 T, L.v2 T, L.v3 T, .map (some L.mb)] 87 (0, 0))
  o1 : w.ownsRow 0 51 18 (L.v1 T) T.ks.length (cellsF T.ks)
  o2 : w.ownsRow 0 41 18 (L.v2 T) T.bs.length L.x2
  o3 : w.ownsRow 0 29 1 (L.v3 T) T.sm.length L.x3
  r2 : SlRow w S T.bs L.x2
  r3 : SmRow w S T.sm L.x3
  map : MapAt w L.mb L.m T.fd
  mle : L.m ≤ T.ks.length
  otb : O tb
  omb : O L.mb
  ov1 : ∀ g, (L.v1 T).ownBlock = some g → O g
  ov2 : ∀ g, (L.v2 T).ownBlock = some g → O g
  ov3 : ∀ g, (L.v3 T).ownBlock = some g → O g
  dtm : tb ≠ L.mb
  d1 : ∀ g, (L.v1 T).ownBlock = some g → g ≠ tb ∧ g ≠ L.mb ∧ (L.v2 T).ownBlock ≠ some g ∧ (L.v3 T).ownBlock ≠ some g
  d2 : ∀ g, (L.v2 T).ownBlock = some g → g ≠ tb ∧ g ≠ L.mb ∧ (L.v3 T).ownBlock ≠ some g
  d3 : ∀ g, (L.v3 T).ownBlock = some g → g ≠ tb ∧ g ≠ L.mb
  lt : ∀ b, O b ∨ S b → b < w.heap.size
  dis : ∀ b, S b → ¬ O b
  fok : ∀ f ∈ T.ks, f.ok
  sok : ∀ s ∈ T.bs, s.ok
  mok : ∀ b ∈ T.sm, b.length ≤ 1000000
  kle : T.ks.length ≤ 1000000 ∧ T.bs.length ≤ 1000000 ∧ T.sm.length ≤ 1000000
/-- nothing turned but what is owned -/
def Kept (O : Nat → Prop) (w w' : World) : Prop := w'.os = w.os ∧ w'.tape = w.tape ∧ w'.output = w.output ∧ w.heap.size ≤ w'.heap.size ∧ ∀ b, b < w.heap.size → ¬ O b → w'.heap[b]? = w.heap[b]?
theorem Kept.of_below {O : Nat → Prop} {w w' : World} (h : Below w.heap.size w w') : Kept O w w' := ⟨h.os, h.tape, h.output, h.size, fun b hb _ => h.block b hb⟩
theorem Kept.trans {O O' : Nat → Prop} {a b c : World} (h : Kept O a b) (k : Kept O' b c) (hO : ∀ x, O' x → O x ∨ a.heap.size ≤ x) : Kept O a c :=
  ⟨k.1.trans h.1, k.2.1.trans h.2.1, k.2.2.1.trans h.2.2.1, Nat.le_trans h.2.2.2.1 k.2.2.2.1, fun x hx hn => by
    rw [k.2.2.2.2 x (by have := h.2.2.2.1; omega) (fun ho => by
      rcases hO x ho with h1 | h1
      · exact hn h1
      · omega), h.2.2.2.2 x hx hn]⟩
theorem Kept.below {O : Nat → Prop} {B : Nat} {w w' : World} (h : Kept O w w') (hB : B ≤ w.heap.size) (hO : ∀ b, O b → B ≤ b) : Below B w w' :=
  ⟨h.1, h.2.1, h.2.2.1, h.2.2.2.1, fun k hk => h.2.2.2.2 k (by omega) (fun ho => by have := hO k ho; omega)⟩
theorem own_same {w w' : World} {base n s : Nat} {v : Value} {e : TypeId} {xs : List Value} (h : w.ownsRow base e s v n xs) (ho : w'.os = w.os) (ht : w'.tape = w.tape) (hu : w'.output = w.output) (hz : w.heap.size ≤ w'.heap.size) (hb : ∀ g, v.ownBlock = some g → w'.heap[g]? = w.heap[g]?) : w'.ownsRow base e s v n xs := by
  refine ⟨h.1, ?_⟩
  rcases h.2 with h1 | ⟨g, cap, cur, h1, h2, h3, h4⟩
  · exact .inl h1
  · exact .inr ⟨g, cap, cur, h1, h2, (hb g (by rw [h1]; rfl)).trans h3, h4⟩
/-- a table that nobody touched -/
theorem TabAt.on {w w' : World} {tb : Nat} {L : Lay} {O S : Nat → Prop} {T : Tab} (h : TabAt w tb L O S T) (hk : w'.os = w.os ∧ w'.tape = w.tape ∧ w'.output = w.output ∧ w.heap.size ≤ w'.heap.size) (hb : ∀ b, O b ∨ S b → w'.heap[b]? = w.heap[b]?) : TabAt w' tb L O S T :=
  { h with
    box := (hb tb (.inl h.otb)).trans h.box
    o1 := own_same h.o1 hk.1 hk.2.1 hk.2.2.1 hk.2.2.2 fun g hg => hb g (.inl (h.ov1 g hg))
    o2 := own_same h.o2 hk.1 hk.2.1 hk.2.2.1 hk.2.2.2 fun g hg => hb g (.inl (h.ov2 g hg))
    o3 := own_same h.o3 hk.1 hk.2.1 hk.2.2.1 hk.2.2.2 fun g hg => hb g (.inl (h.ov3 g hg))
    r2 := SlRow.keep (fun p hp => World.cell?_of_block (hb _ (.inr hp))) (fun _ h => h) _ h.r2
    r3 := SmRow.keep (fun p hp => World.cell?_of_block (hb _ (.inr hp))) (fun _ h => h) _ h.r3
    map := h.map.kept (hb _ (.inl h.omb))
    lt := fun b hbb => Nat.lt_of_lt_of_le (h.lt b hbb) hk.2.2.2 }
theorem TabAt.below {w w' : World} {tb : Nat} {L : Lay} {O S : Nat → Prop} {T : Tab} (h : TabAt w tb L O S T) (hb : Below w.heap.size w w') : TabAt w' tb L O S T :=
  h.on ⟨hb.os, hb.tape, hb.output, hb.size⟩ fun b hbb => hb.block b (h.lt b hbb)

theorem infoT : (Try.prog.info? 87).map (·.size) = some 4 := by kernel_rfl
set_option maxRecDepth 100000 in
theorem new_any (w : World) : Calls Try.prog 10 #[] w fun e w' => ∃ tb L O S, e = .returned (.pointer (some ⟨tb, 0, none⟩)) ∧ TabAt w' tb L O S Tab.none ∧ (∀ b, O b ∨ S b → w.heap.size ≤ b) ∧ Below w.heap.size w w' := by
  have HM := Lib.hid (MapAt.made w)
  have hmk : ∀ W : World, (Instr.makeMap 84 none).run Try.prog W = .ok (.map (some W.heap.size)) (W.alloc (.map #[] 0)) := fun _ => by kernel_rfl
  go_enter Try.func10, Try.ntmps10
  go_wp2
  go_ret
  refine ⟨w.heap.size + 1, ⟨none, 0, none, 0, none, 0, w.heap.size, [], [], 0⟩, fun b => b = w.heap.size ∨ b = w.heap.size + 1, fun _ => False, rfl, ?_, fun b hb => ?_, (below_of_new _ _).alloc (by simp) _⟩
  · exact {
      box := heap_new' _ _ (by simp)
      o1 := World.ownsRow_nil _ _ _ _
      o2 := World.ownsRow_nil _ _ _ _
      o3 := World.ownsRow_nil _ _ _ _
      r2 := rfl
      r3 := rfl
      map := HM.out.kept (heap_alloc_old _ _ (by simp))
      mle := Nat.le_refl _
      otb := .inr rfl
      omb := .inl rfl
      ov1 := fun g hg => by cases hg
      ov2 := fun g hg => by cases hg
      ov3 := fun g hg => by cases hg
      dtm := by simp
      d1 := fun g hg => by cases hg
      d2 := fun g hg => by cases hg
      d3 := fun g hg => by cases hg
      lt := fun b hb => by
        rcases hb with (h | h) | h
        · simp; omega
        · simp; omega
        · exact absurd h id
      dis := fun b hb => absurd hb id
      fok := fun f hf => by cases hf
      sok := fun f hf => by cases hf
      mok := fun f hf => by cases hf
      kle := by simp [Tab.none] }
  · rcases hb with (h | h) | h
    · omega
    · omega
    · exact absurd h id
end Go.Proofs.Ytbfcdlfjlailjaa.Sym

/-
  sym's made: what it leaves, plainly.
-/
namespace Go.Proofs.Ytbfcdlfjlailjaa.Sym
open Go.RowKit
open Go.Proofs.Ytbfcdlfjlailjaa.Kit
open Go.Proofs.Ytbfcdlfjlailjaa.Oct
set_option linter.unusedVariables false

theorem TabAt.more1 {w w5 : World} {tb gg cap : Nat} {L : Lay} {O S : Nat → Prop} {T : Tab} {f : Fr} (h : TabAt w tb L O S T) (hf : f.ok) (hlen : T.ks.length < 1000000)
    (hbx : w5.heap[tb]? = some (.cells #[.slice (some ⟨gg, 0, none⟩) (T.ks.length + 1) cap, L.v2 T, L.v3 T, .map (some L.mb)] 87 (0, 0)))
    (hown : w5.ownsRow 0 51 18 (.slice (some ⟨gg, 0, none⟩) (T.ks.length + 1) cap) (T.ks.length + 1) (cellsF T.ks ++ f.cells))
    (hat : (L.v1 T).ownBlock = some gg ∨ w.heap.size ≤ gg) (hgl : gg < w5.heap.size) (hk : w5.os = w.os ∧ w5.tape = w.tape ∧ w5.output = w.output ∧ w.heap.size ≤ w5.heap.size)
    (hb : ∀ b, b < w.heap.size → b ≠ tb → (L.v1 T).ownBlock ≠ some b → w5.heap[b]? = w.heap[b]?) :
    TabAt w5 tb { L with A1 := some ⟨gg, 0, none⟩, c1 := cap } (fun b => O b ∨ b = gg) S { T with ks := T.ks ++ [f] } ∧ Kept O w w5 := by
  have hl : (T.ks ++ [f]).length = T.ks.length + 1 := by simp
  have hv1 : Lay.v1 { L with A1 := some ⟨gg, 0, none⟩, c1 := cap } { T with ks := T.ks ++ [f] } = .slice (some ⟨gg, 0, none⟩) (T.ks.length + 1) cap := by simp only [Lay.v1, hl]
  have hv2 : Lay.v2 { L with A1 := some ⟨gg, 0, none⟩, c1 := cap } { T with ks := T.ks ++ [f] } = L.v2 T := rfl
  have hv3 : Lay.v3 { L with A1 := some ⟨gg, 0, none⟩, c1 := cap } { T with ks := T.ks ++ [f] } = L.v3 T := rfl
  have hgO : ∀ b, b < w.heap.size → b = gg → O b := fun b hbl e => by
    rcases hat with ha | ha
    · exact e ▸ h.ov1 gg ha
    · omega
  have hgne : ∀ b, b < w.heap.size → (L.v1 T).ownBlock ≠ some b → gg ≠ b := fun b hbl hne e => by
    rcases hat with ha | ha
    · exact hne (by rw [ha, e])
    · omega
  have l2 : ∀ g, (L.v2 T).ownBlock = some g → g < w.heap.size := fun g hg => h.lt g (.inl (h.ov2 g hg))
  have l3 : ∀ g, (L.v3 T).ownBlock = some g → g < w.heap.size := fun g hg => h.lt g (.inl (h.ov3 g hg))
  have hS : ∀ b, S b → w5.heap[b]? = w.heap[b]? := fun b hb' => hb b (h.lt b (.inr hb')) (fun e => h.dis b hb' (e ▸ h.otb)) (fun e => h.dis b hb' (h.ov1 b e))
  have hmn : (L.v1 T).ownBlock ≠ some L.mb := fun e => (h.d1 _ e).2.1 rfl
  refine ⟨?_, hk.1, hk.2.1, hk.2.2.1, hk.2.2.2, fun b hbl hn => hb b hbl (fun e => hn (e ▸ h.otb)) (fun e => hn (h.ov1 b e))⟩
  exact {
    box := by rw [hv1, hv2, hv3]; exact hbx
    o1 := by rw [hv1]; simp only [hl, cellsF_app]; simpa [cellsF] using hown
    o2 := own_same h.o2 hk.1 hk.2.1 hk.2.2.1 hk.2.2.2 fun g hg => hb g (l2 g hg) (h.d2 g hg).1 (fun e => (h.d1 g e).2.2.1 hg)
    o3 := own_same h.o3 hk.1 hk.2.1 hk.2.2.1 hk.2.2.2 fun g hg => hb g (l3 g hg) (h.d3 g hg).1 (fun e => (h.d1 g e).2.2.2 hg)
    r2 := SlRow.keep (fun p hp => World.cell?_of_block (hS _ hp)) (fun _ h => h) _ h.r2
    r3 := SmRow.keep (fun p hp => World.cell?_of_block (hS _ hp)) (fun _ h => h) _ h.r3
    map := h.map.kept (hb _ h.map.lt (fun e => h.dtm e.symm) hmn)
    mle := by show L.m ≤ (T.ks ++ [f]).length; rw [hl]; have := h.mle; omega
    otb := .inl h.otb
    omb := .inl h.omb
    ov1 := fun g hg => by
      rw [hv1] at hg
      exact .inr (by simpa [Value.ownBlock] using hg.symm)
    ov2 := fun g hg => .inl (h.ov2 g hg)
    ov3 := fun g hg => .inl (h.ov3 g hg)
    dtm := h.dtm
    d1 := fun g hg => by
      rw [hv1] at hg
      obtain rfl : gg = g := by simpa [Value.ownBlock] using hg
      refine ⟨?_, ?_, ?_, ?_⟩
      · exact hgne tb (h.lt tb (.inl h.otb)) (fun e => (h.d1 _ e).1 rfl)
      · exact hgne L.mb h.map.lt hmn
      · intro e
        rw [hv2] at e
        exact hgne gg (l2 gg e) (fun e2 => (h.d1 _ e2).2.2.1 e) rfl
      · intro e
        rw [hv3] at e
        exact hgne gg (l3 gg e) (fun e2 => (h.d1 _ e2).2.2.2 e) rfl
    d2 := fun g hg => h.d2 g hg
    d3 := fun g hg => h.d3 g hg
    lt := fun b hbb => by
      rcases hbb with (h1 | h1) | h1
      · exact Nat.lt_of_lt_of_le (h.lt b (.inl h1)) hk.2.2.2
      · omega
      · exact Nat.lt_of_lt_of_le (h.lt b (.inr h1)) hk.2.2.2
    dis := fun b hs ho => by
      rcases ho with h1 | h1
      · exact h.dis b hs h1
      · exact h.dis b hs (hgO b (h.lt b (.inr hs)) h1)
    fok := fun g hg => by
      rcases List.mem_append.1 hg with h1 | h1
      · exact h.fok g h1
      · rw [List.mem_singleton.1 h1]; exact hf
    sok := h.sok
    mok := h.mok
    kle := ⟨by show (T.ks ++ [f]).length ≤ 1000000; rw [hl]; omega, h.kle.2⟩ }

theorem infoFr : (Try.prog.info? 51).map (fun i => (i.zero, i.size, i.bytes)) = some (some (.agg #[.int .u8 0, .int .u8 0, .int .u8 0, .int .u8 0, .int .u8 0, .int .u8 0, .int .u8 0, .int .u8 0, .int .u8 0, .int .u8 0, .int .u8 0, .int .u8 0, .int .u8 0, .int .u8 0, .int .u8 0, .int .u8 0, .string ⟨#[]⟩, .bool false]), 18, 40) := by kernel_rfl
theorem size18 {KV : Array Value} (h : KV.size = 18) : ∃ a0 a1 a2 a3 a4 a5 a6 a7 a8 a9 a10 a11 a12 a13 a14 a15 a16 a17, KV = #[a0, a1, a2, a3, a4, a5, a6, a7, a8, a9, a10, a11, a12, a13, a14, a15, a16, a17] := by
  obtain ⟨l⟩ := KV
  match l, h with
  | [a0, a1, a2, a3, a4, a5, a6, a7, a8, a9, a10, a11, a12, a13, a14, a15, a16, a17], _ => exact ⟨a0, a1, a2, a3, a4, a5, a6, a7, a8, a9, a10, a11, a12, a13, a14, a15, a16, a17, rfl⟩
theorem fill_from (z : Value) (hz : z = .agg #[.int .u8 0, .int .u8 0, .int .u8 0, .int .u8 0, .int .u8 0, .int .u8 0, .int .u8 0, .int .u8 0, .int .u8 0, .int .u8 0, .int .u8 0, .int .u8 0, .int .u8 0, .int .u8 0, .int .u8 0, .int .u8 0, .string ⟨#[]⟩, .bool false]) (KV : Array Value) (h : KV.size = 18) :
    Instr.fill (fun i => some (i * 18, 18)) ((Array.range (1 * 18)).map (z.cells[· % z.cells.size]!)) [(0, .agg KV)] = some KV := by
  obtain ⟨a0, a1, a2, a3, a4, a5, a6, a7, a8, a9, a10, a11, a12, a13, a14, a15, a16, a17, rfl⟩ := size18 h
  subst hz
  kernel_rfl
/-- a row of cells that is loaded whole, in a region -/
theorem run_load_row {w : World} {g : Nat} {t ty : TypeId} {cs : Array Value} {fr : Nat × Nat} {fs : Array Field} {a : Act} {x : Operand} {o : Oper} (hg : w.heap[g]? = some (.cells cs t fr))
    (hu : Try.prog.underlying ty = some (.struct fs)) (hi : (Try.prog.info? ty).map (·.size) = some cs.size) (ho : o.op = .load ty x) (hx : a.eval x = .pointer (some ⟨g, 0, none⟩)) :
    (execOp a.eval o).run Try.prog w = .ok (.value (.agg cs)) w := by
  unfold execOp
  simp only [ho, hx, Instr.loadAt, Instr.sureAddr, Sem.run_bind, Sem.run_pure, Result.andThen_ok, run_loadVar_row w g t ty cs fr _ hg hu rfl hi]
end Go.Proofs.Ytbfcdlfjlailjaa.Sym
