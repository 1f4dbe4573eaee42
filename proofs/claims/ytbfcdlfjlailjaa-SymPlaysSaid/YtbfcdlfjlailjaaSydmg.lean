/-
  sym's table: a digest more.
-/
import Derived.Test.YtbfcdlfjlailjaaSyam
import Derived.Laws.BytesArg
import Derived.Laws.BytesString
namespace Go.Proofs.Ytbfcdlfjlailjaa.Sym
open Go.RowKit
open Go.Proofs.Ytbfcdlfjlailjaa.Kit
open Go.Proofs.Ytbfcdlfjlailjaa.Oct
set_option linter.unusedVariables false

theorem SmRow.snoc {w : World} {S : Nat → Prop} {s : List UInt8} {A : Option Addr} {n c : Nat} (hr : RdS w S A n c (s.map bv)) : ∀ (l : List (List UInt8)) {xs : List Value}, SmRow w S l xs → SmRow w S (l ++ [s]) (xs ++ [.slice A n c])
  | [], xs, h => by
    have h : xs = [] := h
    subst h
    exact ⟨A, n, c, [], rfl, hr, rfl⟩
  | s0 :: r, xs, h => by
    obtain ⟨A0, n0, c0, rest, h1, h2, h3⟩ := h
    subst h1
    exact ⟨A0, n0, c0, rest ++ [.slice A n c], rfl, h2, SmRow.snoc hr r h3⟩
theorem SmRow.at_ {w : World} {S : Nat → Prop} : ∀ (l : List (List UInt8)) {xs : List Value}, SmRow w S l xs → ∀ i (hi : i < l.length), ∃ A c, xs[i]? = some (.slice A l[i].length c) ∧ RdS w S A l[i].length c (l[i].map bv)
  | [], _, _, i, hi => absurd hi (by simp)
  | s :: r, xs, h, 0, _ => by
    obtain ⟨A, n, c, rest, h1, h2, _⟩ := h
    have hn : s.length = n := by have := h2.1; rwa [List.length_map] at this
    subst hn
    exact ⟨A, c, by rw [h1]; rfl, h2⟩
  | s :: r, xs, h, i + 1, hi => by
    obtain ⟨A, n, c, rest, h1, _, h3⟩ := h
    obtain ⟨A', c', h4, h5⟩ := SmRow.at_ r h3 i (by simpa using hi)
    exact ⟨A', c', by rw [h1]; exact h4, h5⟩
theorem TabAt.more3 {w w5 : World} {tb gg cap : Nat} {L : Lay} {O S S' : Nat → Prop} {T : Tab} {s : List UInt8} {A : Option Addr} {c : Nat} (h : TabAt w tb L O S T) (hs : s.length ≤ 1000000) (hlen : T.sm.length < 1000000)
    (hbx : w5.heap[tb]? = some (.cells #[L.v1 T, L.v2 T, .slice (some ⟨gg, 0, none⟩) (T.sm.length + 1) cap, .map (some L.mb)] 87 (0, 0)))
    (hown : w5.ownsRow 0 29 1 (.slice (some ⟨gg, 0, none⟩) (T.sm.length + 1) cap) (T.sm.length + 1) (L.x3 ++ [.slice A s.length c]))
    (hrd : RdS w5 S' A s.length c (s.map bv)) (hSS : ∀ b, S b → S' b) (hSn : ∀ b, S' b → S b ∨ (w.heap.size ≤ b ∧ b < w5.heap.size ∧ b ≠ gg))
    (hat : (L.v3 T).ownBlock = some gg ∨ w.heap.size ≤ gg) (hgl : gg < w5.heap.size) (hk : w5.os = w.os ∧ w5.tape = w.tape ∧ w5.output = w.output ∧ w.heap.size ≤ w5.heap.size)
    (hb : ∀ b, b < w.heap.size → b ≠ tb → (L.v3 T).ownBlock ≠ some b → w5.heap[b]? = w.heap[b]?) :
    TabAt w5 tb { L with A3 := some ⟨gg, 0, none⟩, c3 := cap, x3 := L.x3 ++ [.slice A s.length c] } (fun b => O b ∨ b = gg) S' { T with sm := T.sm ++ [s] } ∧ Kept O w w5 := by
  have hl : (T.sm ++ [s]).length = T.sm.length + 1 := by simp
  obtain ⟨L', hL'⟩ : ∃ q, q = ({ L with A3 := some ⟨gg, 0, none⟩, c3 := cap, x3 := L.x3 ++ [.slice A s.length c] } : Lay) := ⟨_, rfl⟩
  have hv1 : L'.v1 { T with sm := T.sm ++ [s] } = L.v1 T := by rw [hL']; rfl
  have hv2 : L'.v2 { T with sm := T.sm ++ [s] } = L.v2 T := by rw [hL']; rfl
  have hv3 : L'.v3 { T with sm := T.sm ++ [s] } = .slice (some ⟨gg, 0, none⟩) (T.sm.length + 1) cap := by rw [hL']; simp only [Lay.v3, hl]
  have hmb : L'.mb = L.mb := by rw [hL']
  have hm : L'.m = L.m := by rw [hL']
  have hx2 : L'.x2 = L.x2 := by rw [hL']
  have hx3 : L'.x3 = L.x3 ++ [.slice A s.length c] := by rw [hL']
  rw [← hL']
  have hgO : ∀ b, b < w.heap.size → b = gg → O b := fun b hbl e => by
    rcases hat with ha | ha
    · exact e ▸ h.ov3 gg ha
    · omega
  have hgne : ∀ b, b < w.heap.size → (L.v3 T).ownBlock ≠ some b → gg ≠ b := fun b hbl hne e => by
    rcases hat with ha | ha
    · exact hne (by rw [ha, e])
    · omega
  have l1 : ∀ g, (L.v1 T).ownBlock = some g → g < w.heap.size := fun g hg => h.lt g (.inl (h.ov1 g hg))
  have l2 : ∀ g, (L.v2 T).ownBlock = some g → g < w.heap.size := fun g hg => h.lt g (.inl (h.ov2 g hg))
  have hS : ∀ b, S b → w5.heap[b]? = w.heap[b]? := fun b hb' => hb b (h.lt b (.inr hb')) (fun e => h.dis b hb' (e ▸ h.otb)) (fun e => h.dis b hb' (h.ov3 b e))
  have hmn : (L.v3 T).ownBlock ≠ some L.mb := fun e => (h.d3 _ e).2 rfl
  have htn : (L.v3 T).ownBlock ≠ some tb := fun e => (h.d3 _ e).1 rfl
  have d13 : ∀ g, (L.v1 T).ownBlock = some g → (L.v3 T).ownBlock ≠ some g := fun g hg => (h.d1 g hg).2.2.2
  have d23 : ∀ g, (L.v2 T).ownBlock = some g → (L.v3 T).ownBlock ≠ some g := fun g hg => (h.d2 g hg).2.2
  refine ⟨?_, hk.1, hk.2.1, hk.2.2.1, hk.2.2.2, fun b hbl hn => hb b hbl (fun e => hn (e ▸ h.otb)) (fun e => hn (h.ov3 b e))⟩
  exact {
    box := by rw [hv1, hv2, hv3, hmb]; exact hbx
    o1 := by
      rw [hv1]
      exact own_same h.o1 hk.1 hk.2.1 hk.2.2.1 hk.2.2.2 fun g hg => hb g (l1 g hg) (h.d1 g hg).1 (d13 g hg)
    o2 := by
      rw [hv2, hx2]
      exact own_same h.o2 hk.1 hk.2.1 hk.2.2.1 hk.2.2.2 fun g hg => hb g (l2 g hg) (h.d2 g hg).1 (d23 g hg)
    o3 := by rw [hv3]; simp only [hl, hx3]; exact hown
    r2 := by
      rw [hx2]
      exact SlRow.keep (fun p hp => World.cell?_of_block (hS _ hp)) hSS _ h.r2
    r3 := by
      rw [hx3]
      exact SmRow.snoc hrd _ (SmRow.keep (fun p hp => World.cell?_of_block (hS _ hp)) hSS _ h.r3)
    map := by
      rw [hmb, hm]
      exact h.map.kept (hb _ h.map.lt (fun e => h.dtm e.symm) hmn)
    mle := by rw [hm]; exact h.mle
    otb := .inl h.otb
    omb := by rw [hmb]; exact .inl h.omb
    ov1 := fun g hg => by rw [hv1] at hg; exact .inl (h.ov1 g hg)
    ov2 := fun g hg => by rw [hv2] at hg; exact .inl (h.ov2 g hg)
    ov3 := fun g hg => by
      rw [hv3] at hg
      exact .inr (by simpa [Value.ownBlock] using hg.symm)
    dtm := by rw [hmb]; exact h.dtm
    d1 := fun g hg => by
      rw [hv1] at hg
      rw [hmb, hv2, hv3]
      refine ⟨(h.d1 g hg).1, (h.d1 g hg).2.1, (h.d1 g hg).2.2.1, fun e => ?_⟩
      have e2 : gg = g := by simpa [Value.ownBlock] using e
      exact hgne g (l1 g hg) (d13 g hg) e2
    d2 := fun g hg => by
      rw [hv2] at hg
      rw [hmb, hv3]
      refine ⟨(h.d2 g hg).1, (h.d2 g hg).2.1, fun e => ?_⟩
      have e2 : gg = g := by simpa [Value.ownBlock] using e
      exact hgne g (l2 g hg) (d23 g hg) e2
    d3 := fun g hg => by
      rw [hv3] at hg
      obtain rfl : gg = g := by simpa [Value.ownBlock] using hg
      rw [hmb]
      exact ⟨hgne tb (h.lt tb (.inl h.otb)) htn, hgne L.mb h.map.lt hmn⟩
    lt := fun b hbb => by
      rcases hbb with (h1 | h1) | h1
      · exact Nat.lt_of_lt_of_le (h.lt b (.inl h1)) hk.2.2.2
      · omega
      · rcases hSn b h1 with h2 | h2
        · exact Nat.lt_of_lt_of_le (h.lt b (.inr h2)) hk.2.2.2
        · exact h2.2.1
    dis := fun b hs' ho => by
      rcases hSn b hs' with h2 | h2
      · rcases ho with h1 | h1
        · exact h.dis b h2 h1
        · exact h.dis b h2 (hgO b (h.lt b (.inr h2)) h1)
      · rcases ho with h1 | h1
        · have := h.lt b (.inl h1); omega
        · exact h2.2.2 h1
    fok := h.fok
    sok := h.sok
    mok := fun b hb' => by
      rcases List.mem_append.1 hb' with h1 | h1
      · exact h.mok b h1
      · simp only [List.mem_singleton] at h1
        rw [h1]
        exact hs
    kle := ⟨h.kle.1, h.kle.2.1, by simp only [hl]; omega⟩ }
theorem sum_fin {w w1 w3 w5 w8 : World} {tb gg g cap n c' : Nat} {A' : Option Addr} {L : Lay} {O S : Nat → Prop} {T : Tab} {s : List UInt8} {O1 : Obj} {e8 : TypeId} (h : TabAt w tb L O S T) (hs : s.length ≤ 1000000) (hlen : T.sm.length < 1000000)
    (hW : Below w.heap.size w w1) (hs1 : w1.heap.size = w.heap.size + 1) (h3 : Below w1.heap.size w1 w3) (hn : n = s.length)
    (ho3 : w3.ownsRow w1.heap.size e8 1 (.slice A' n c') n (s.map bv))
    (hg : (w3.alloc O1).grownBy w5 (L.v3 T).ownBlock) (hat : (L.v3 T).ownBlock = some gg ∨ gg = w3.heap.size + 1) (hlt : gg < w5.heap.size)
    (hown : w5.ownsRow 0 29 1 (.slice (some ⟨gg, 0, none⟩) (T.sm.length + 1) cap) (T.sm.length + 1) (L.x3 ++ [.slice A' n c']))
    (h8 : Below (w5.setCell ⟨tb, 2, none⟩ (.slice (some ⟨gg, 0, none⟩) (T.sm.length + 1) cap)).heap.size (w5.setCell ⟨tb, 2, none⟩ (.slice (some ⟨gg, 0, none⟩) (T.sm.length + 1) cap)) w8) (hgg : w5.heap.size ≤ g) (hgg8 : g < w8.heap.size) :
    ∃ L' O' S', TabAt w8 tb L' O' S' { T with sm := T.sm ++ [s] } ∧ Kept O w w8 ∧ (∀ b, O' b → O b ∨ w.heap.size ≤ b) ∧ (∀ b, S' b → S b ∨ w.heap.size ≤ b) ∧ ∀ b, O' b ∨ S' b → b ≠ g := by
  subst hn
  have htb : tb < w.heap.size := h.lt tb (.inl h.otb)
  have htn : (L.v3 T).ownBlock ≠ some tb := fun e => (h.d3 _ e).1 rfl
  have s0 : (w3.alloc O1).heap.size = w3.heap.size + 1 := by simp
  have s3 := h3.size
  have s5 := hg.size
  rw [s0] at s5
  have l3 : ∀ q, (L.v3 T).ownBlock = some q → q < w.heap.size := fun q hq => h.lt q (.inl (h.ov3 q hq))
  have hb1 : ∀ b, b < w3.heap.size → (L.v3 T).ownBlock ≠ some b → w5.heap[b]? = w3.heap[b]? := fun b hb hne => by
    rw [hg.block b (by omega) (fun e => hne e.symm), heap_alloc_old _ _ hb]
  have hb0 : ∀ b, b < w.heap.size → w3.heap[b]? = w.heap[b]? := fun b hb => by rw [h3.block b (by omega), hW.block b hb]
  have hgt : gg ≠ tb := fun e => by
    rcases hat with ha | ha
    · exact htn (by rw [ha, e])
    · omega
  have s8 := h8.size
  rw [World.size_setCell] at s8
  have hb5 : ∀ b, b < w5.heap.size → b ≠ tb → w8.heap[b]? = w5.heap[b]? := fun b hb h1 => by
    rw [h8.block b (by rw [World.size_setCell]; exact hb), heap_setCell_other _ _ _ _ h1]
  have hos : w8.os = w5.os := h8.os
  have hta : w8.tape = w5.tape := h8.tape
  have hou : w8.output = w5.output := h8.output
  have hgr : gg < w.heap.size ∨ gg = w3.heap.size + 1 := hat.imp_left (l3 gg)
  have key := h.more3 (w5 := w8) (gg := gg) (cap := cap) (s := s) (A := A') (c := c') (S' := fun b => S b ∨ (w1.heap.size ≤ b ∧ b < w3.heap.size)) hs hlen
    (by
      rw [h8.block tb (by rw [World.size_setCell]; omega)]
      have hq := (hb1 tb (by omega) htn).trans ((hb0 tb htb).trans h.box)
      exact heap_setCell_same _ _ _ _ _ _ hq)
    (own_same hown hos hta hou s8 fun q hq => by
      obtain rfl : gg = q := by simpa [Value.ownBlock] using hq
      exact hb5 gg hlt hgt)
    ((rdS_own (S := fun b => w1.heap.size ≤ b ∧ b < w3.heap.size) ho3 (fun b h1 h2 => ⟨h1, h2⟩)).keep (fun p hp => World.cell?_of_block (by
      rw [hb5 _ (by omega) (by omega), hb1 _ hp.2 (fun e => by have := l3 _ e; omega)])) (fun b hb => .inr hb))
    (fun b hb => .inl hb) (fun b hb => hb.imp_right fun h1 => ⟨by omega, by omega, by omega⟩)
    (hat.imp_right fun e => by omega) (by omega)
    ⟨hos.trans (hg.os.trans (h3.os.trans hW.os)), hta.trans (hg.tape.trans (h3.tape.trans hW.tape)), hou.trans (hg.output.trans (h3.output.trans hW.output)), by omega⟩
    (fun b hb h1 h2 => by rw [hb5 b (by omega) h1, hb1 b (by omega) h2, hb0 b hb])
  refine ⟨_, _, _, key.1, key.2, fun b hb => ?_, fun b hb => hb.imp_right fun h1 => by omega, fun b hb => ?_⟩
  · rcases hb with h1 | h1
    · exact .inl h1
    · rcases hat with ha | ha
      · exact .inl (h1 ▸ h.ov3 gg ha)
      · exact .inr (by omega)
  · rcases hb with (h1 | h1) | (h1 | h1)
    · have := h.lt b (.inl h1); omega
    · omega
    · have := h.lt b (.inr h1); omega
    · omega
end Go.Proofs.Ytbfcdlfjlailjaa.Sym

/-
  sym's sums looked through: bytes.Equal, the closure, slices.IndexFunc.
-/
namespace Go.Proofs.Ytbfcdlfjlailjaa.Sym
open Go.RowKit
open Go.Proofs.Ytbfcdlfjlailjaa.Kit
open Go.Proofs.Ytbfcdlfjlailjaa.Oct
set_option linter.unusedVariables false

/-- bytes as a string -/
theorem conv_rd {w : World} {B n c : Nat} {A : Option Addr} {bs : List UInt8} (h : RdB w B A n c bs) : (convert 29 9 (.slice A n c)).run Try.prog w = .ok (.string ⟨bs.toArray⟩) w := by
  have hl : bs.length = n := h.len
  rcases Nat.eq_zero_or_pos n with h0 | h0
  · subst h0
    obtain rfl : bs = [] := List.eq_nil_of_length_eq_zero hl
    rw [run_convert_bytes_string w _ _ 5 _ 0 c Try.underlying29 Try.underlying5 Try.underlying9]
    cases A <;> simp [Conv.bytesToString, loadCells] <;> rfl
  · obtain ⟨b, o, rfl, _, hc⟩ := h.2.2.2 h0
    have h2 := run_convert_bytes_arg (P := Try.prog) w 29 5 Try.underlying29 Try.underlying5 b o n c (bs.map fun x => (x.toNat : Int)) (by rw [List.length_map, hl]) (fun i hi => by
      have hib : i < bs.length := by omega
      rw [hc i (bv bs[i]) (by rw [List.getElem?_map, List.getElem?_eq_getElem hib]; rfl)]
      rw [List.getD_eq_getElem?_getD, List.getElem?_map, List.getElem?_eq_getElem hib]
      rfl) 9 Try.underlying9
    rw [h2]
    have e : strOfNums (bs.map fun x => (x.toNat : Int)) = ⟨bs.toArray⟩ := by
      unfold strOfNums
      rw [List.map_map]
      have : ((fun n : Int => UInt8.ofNat n.toNat) ∘ fun x : UInt8 => (x.toNat : Int)) = id := by
        funext x
        show UInt8.ofNat ((x.toNat : Int)).toNat = x
        rw [Int.toNat_natCast, UInt8.ofNat_toNat]
      rw [this, List.map_id]
    rw [e]
theorem str_eq (xs ys : List UInt8) : ((⟨xs.toArray⟩ : ByteArray).toList == (⟨ys.toArray⟩ : ByteArray).toList) = decide (xs = ys) := by
  have e : ∀ l : List UInt8, (⟨l.toArray⟩ : ByteArray).toList = l := fun l => by
    rw [show (⟨l.toArray⟩ : ByteArray).toList = (⟨l.toArray⟩ : ByteArray).data.toList from by first | exact ByteArray.toList_eq _ | simp [ByteArray.toList] | rfl]
  rw [e, e]
  by_cases h : xs = ys
  · subst h; simp
  · rw [decide_eq_false h]; simpa using h
theorem eqb_any {w : World} {B B' n c n' c' : Nat} {A A' : Option Addr} {xs ys : List UInt8} (hx : RdB w B A n c xs) (hy : RdB w B' A' n' c' ys) :
    Calls Try.prog 46 #[.slice A n c, .slice A' n' c'] w fun e w' => e = .returned (.bool (decide (xs = ys))) ∧ w = w' := by
  have k1 := conv_rd hx
  have k2 := conv_rd hy
  have k3 := str_eq xs ys
  obtain ⟨X, hX⟩ : ∃ z, z = (⟨xs.toArray⟩ : ByteArray) := ⟨_, rfl⟩
  obtain ⟨Y, hY⟩ : ∃ z, z = (⟨ys.toArray⟩ : ByteArray) := ⟨_, rfl⟩
  obtain ⟨V, hV⟩ : ∃ z, z = decide (xs = ys) := ⟨_, rfl⟩
  rw [← hX] at k1 k3
  rw [← hY] at k2 k3
  rw [← hV] at k3 ⊢
  clear hX hY hV hx hy
  go_enter Try.func46, Try.ntmps46
  go_wp2
  go_ret
  exact ⟨rfl, rfl⟩
/-- the closure: are these the bytes? -/
theorem clos_any {w : World} {p B n c m d : Nat} {A A' : Option Addr} {xs ys : List UInt8} (hx : RdB w B A n c xs) (hy : RdB w B A' m d ys) (hp : w.cell? ⟨p, 0, none⟩ = some (.slice A' m d)) :
    Calls Try.prog 45 #[.slice A n c, .pointer (some ⟨p, 0, none⟩)] w fun e w' => e = .returned (.bool (decide (xs = ys))) ∧ w = w' := by
  have he := eqb_any hx hy
  go_enter Try.func45, Try.ntmps45
  go_wp2_with fail
  refine he.mono ?_
  rintro e w' ⟨rfl, rfl⟩
  go_wp2
  go_ret
  exact ⟨rfl, rfl⟩

set_option maxRecDepth 100000 in
set_option maxHeartbeats 2000000 in
theorem idx_any {w : World} {p B n c m d : Nat} {A A' : Option Addr} {l : List (List UInt8)} {ys : List UInt8} (hn : l.length = n) (hz : n ≤ 1000000)
    (hl : ∀ i (hi : i < l.length), ∃ g X cx, A = some ⟨g, 0, none⟩ ∧ w.cell? ⟨g, i, none⟩ = some (.slice X l[i].length cx) ∧ RdB w B X l[i].length cx l[i]) (hnc : n ≤ c)
    (hy : RdB w B A' m d ys) (hp : w.cell? ⟨p, 0, none⟩ = some (.slice A' m d)) :
    Calls Try.prog 44 #[.slice A n c, .func (Fn.func 45) #[] #[.pointer (some ⟨p, 0, none⟩)]] w fun e w' => w = w' ∧
      ((∃ k : Nat, k < n ∧ l[k]? = some ys ∧ (∀ j : Nat, j < k → l[j]? ≠ some ys) ∧ e = .returned (.int .i64 (k : Int))) ∨ ((∀ j : Nat, l[j]? ≠ some ys) ∧ e = .returned (.int .i64 (-1)))) := by
  have HL := Lib.hid hl
  have HY := Lib.hid hy
  have HP := Lib.hid hp
  clear hl hy hp
  go_enter Try.func44, Try.ntmps44
  go_wp2
  go_loopw [8] (fun v wr => ∃ k : Nat, k ≤ n ∧ v = .int .i64 k ∧ w = wr ∧ ∀ j : Nat, j < k → l[j]? ≠ some ys) (fun v _ => n - (intOf v).toNat)
  case atStart => exact ⟨0, by omega, rfl, rfl, fun j h => absurd h (by omega)⟩
  case round =>
    obtain ⟨k, hk, e8, ew, hno⟩ := hrel
    subst e8 ew
    have HNO := Lib.hid hno
    clear hno
    by_cases hlt : k < n
    · have hd : decide ((k : Int) < (n : Int)) = true := decide_eq_true (by omega)
      obtain ⟨g, X, cx, rfl, hc, hr⟩ := HL.out k (by omega)
      have hcl := clos_any hr HY.out HP.out
      have hkl : l[k]? = some l[k] := List.getElem?_eq_getElem (by omega)
      obtain ⟨Q, hQ⟩ : ∃ z, z = l[k] := ⟨_, rfl⟩
      rw [← hQ] at hcl hkl hc
      have HK := Lib.hid hkl
      by_cases hq : Q = ys
      · rw [decide_eq_true hq] at hcl
        have HQ := Lib.hid hq
        clear hr hkl hQ hq
        go_wp2_with fail
        refine hcl.mono ?_
        rintro e w' ⟨rfl, rfl⟩
        go_wp2
        go_ret
        exact ⟨rfl, .inl ⟨k, hlt, by rw [HK.out, HQ.out], HNO.out, rfl⟩⟩
      · rw [decide_eq_false hq] at hcl
        have HQ := Lib.hid hq
        clear hr hkl hQ hq
        go_wp2_with fail
        refine hcl.mono ?_
        rintro e w' ⟨rfl, rfl⟩
        go_wp2
        go_roundw
        case rel =>
          refine ⟨k + 1, by omega, by go_num, by first | rfl | trivial, fun j hj => ?_⟩
          rcases (by omega : j < k ∨ j = k) with h | rfl
          · exact HNO.out j h
          · rw [HK.out]
            exact fun e => HQ.out (Option.some.inj e)
        case measure => simp [intOf]; omega
    · have hd : decide ((k : Int) < (n : Int)) = false := decide_eq_false (by omega)
      go_wp2
      go_ret
      refine ⟨rfl, .inr ⟨fun j => ?_, rfl⟩⟩
      rcases (by omega : j < k ∨ l.length ≤ j) with h | h
      · exact HNO.out j h
      · rw [List.getElem?_eq_none h]
        exact fun e => by cases e
end Go.Proofs.Ytbfcdlfjlailjaa.Sym
