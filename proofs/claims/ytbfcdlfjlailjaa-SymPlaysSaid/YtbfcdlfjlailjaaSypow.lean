/-
  SymPlays: the steps that came in.
-/
import Derived.Test.YtbfcdlfjlailjaaSypeg
import Derived.Test.YtbfcdlfjlailjaaFin
import Derived.Deep.Slices
import Derived.Test.YtbfcdlfjlailjaaSyam
import Derived.Great.BuildSlice
import Derived.Deep.AppendLies
namespace Go.Proofs.Ytbfcdlfjlailjaa.Sym
open Go.RowKit
open Go.Proofs.Ytbfcdlfjlailjaa.Kit
open Go.Proofs.Ytbfcdlfjlailjaa.Oct
set_option linter.unusedVariables false

/-- something that is asked -/
structure Ps where
  kind : Int
  a : Int
  b : Int
  text : ByteArray
  body : List UInt8
  A : Option Addr
  n : Nat
  c : Nat
def Ps.arr (s : Ps) : Array Value := #[.int .i64 s.kind, .int .i64 s.a, .int .i64 s.b, .string s.text, .slice s.A s.n s.c]
def Ps.ok (w : World) (s : Ps) : Prop := (-9223372036854775808 ≤ s.b ∧ s.b ≤ 9223372036854775807) ∧ RdB w w.heap.size s.A s.n s.c s.body
structure RdPs (w : World) (A : Option Addr) (n c : Nat) (l : List Ps) : Prop where
  len : l.length = n
  le : n ≤ c
  lim : c ≤ 9223372036854775807
  ok : ∀ s ∈ l, s.ok w
  row : 0 < n → ∃ b o, A = some ⟨b, o, none⟩ ∧ b < w.heap.size ∧ ∀ j (hj : j < l.length), w.cell? ⟨b, o + j * 5, none⟩ = some (.int .i64 l[j].kind) ∧ w.cell? ⟨b, o + j * 5 + 1, none⟩ = some (.int .i64 l[j].a) ∧ w.cell? ⟨b, o + j * 5 + 2, none⟩ = some (.int .i64 l[j].b) ∧ w.cell? ⟨b, o + j * 5 + 3, none⟩ = some (.string l[j].text) ∧ w.cell? ⟨b, o + j * 5 + 4, none⟩ = some (.slice l[j].A l[j].n l[j].c)
theorem RdPs.get {w w' : World} {A : Option Addr} {n c : Nat} {l : List Ps} (h : RdPs w A n c l) (hb : Below w.heap.size w w') (k : Nat) (hk : k < n) : ∃ (b o : Nat) (s : Ps), A = some ⟨b, o, none⟩ ∧ (-9223372036854775808 ≤ s.b ∧ s.b ≤ 9223372036854775807) ∧ (∀ W, Below w.heap.size w W → RdB W W.heap.size s.A s.n s.c s.body) ∧
    w'.cell? ⟨b, o + k * 5, none⟩ = some (.int .i64 s.kind) ∧ w'.cell? ⟨b, o + k * 5 + 1, none⟩ = some (.int .i64 s.a) ∧ w'.cell? ⟨b, o + k * 5 + 2, none⟩ = some (.int .i64 s.b) ∧ w'.cell? ⟨b, o + k * 5 + 3, none⟩ = some (.string s.text) ∧ w'.cell? ⟨b, o + k * 5 + 4, none⟩ = some (.slice s.A s.n s.c) := by
  obtain ⟨b, o, e, hlt, hc⟩ := h.row (by omega)
  have hkl : k < l.length := by rw [h.len]; exact hk
  obtain ⟨h0, h1, h2, h3, h4⟩ := hc k hkl
  have hok := h.ok _ (List.getElem_mem hkl)
  exact ⟨b, o, l[k], e, hok.1, fun W hW => hok.2.on hW, (hb.cell (p := ⟨b, o + k * 5, none⟩) hlt).trans h0, (hb.cell (p := ⟨b, o + k * 5 + 1, none⟩) hlt).trans h1, (hb.cell (p := ⟨b, o + k * 5 + 2, none⟩) hlt).trans h2, (hb.cell (p := ⟨b, o + k * 5 + 3, none⟩) hlt).trans h3, (hb.cell (p := ⟨b, o + k * 5 + 4, none⟩) hlt).trans h4⟩
theorem list_ofY {α : Type} {p : Nat → α → Prop} : ∀ (n : Nat), (∀ i, i < n → ∃ y, p i y) → ∃ l : List α, l.length = n ∧ ∀ i (hi : i < l.length), p i l[i]
  | 0, _ => ⟨[], rfl, fun i hi => absurd hi (by simp)⟩
  | n + 1, h => by
    obtain ⟨l, hl, hp⟩ := list_ofY n (fun i hi => h i (by omega))
    obtain ⟨y, hy⟩ := h n (by omega)
    refine ⟨l ++ [y], by simp [hl], fun i hi => ?_⟩
    by_cases hin : i < l.length
    · rw [List.getElem_append_left hin]; exact hp i hin
    · have : i = n := by simp at hi; omega
      subst this
      rw [List.getElem_append_right (by omega)]
      simpa [hl] using hy
section
variable {H : Type} {enc : TypeId × Value → H} {W : World} {hd : Bool}
theorem open_numY {P : Program} {sp : Nat → Bool} {k : IntKind} {t : TypeId} {u : Value} {x : DataW H × List MemPlace} {fuel : Nat} (ht : P.underlying t = some (.int k)) (h : DataW.trod enc P W 0 sp hd fuel t [u] = some x) : ∃ a, u = .int k a ∧ (Lit.int k a).wf = true := by
  cases fuel with
  | zero => simp [DataW.trod] at h
  | succ m =>
    unfold DataW.trod at h
    rw [ht] at h
    split at h <;> simp_all
theorem open_strY {P : Program} {sp : Nat → Bool} {t : TypeId} {u : Value} {x : DataW H × List MemPlace} {fuel : Nat} (ht : P.underlying t = some .string) (h : DataW.trod enc P W 0 sp hd fuel t [u] = some x) : ∃ s, u = .string s ∧ s.size ≤ maxLen := by
  cases fuel with
  | zero => simp [DataW.trod] at h
  | succ m =>
    unfold DataW.trod at h
    rw [ht] at h
    split at h <;> simp_all
theorem open_bytesY {fuel : Nat} {cs : List Value} {x : DataW H × List MemPlace} (h : DataW.trod enc Try.prog W 0 (fun _ => true) hd fuel 29 cs = some x) : ∃ (A : Option Addr) (m c : Nat) (bs : List UInt8), cs = [.slice A m c] ∧ RdB W W.heap.size A m c bs := by
  rcases Deep.open_slice Try.underlying29 h with ⟨rfl, _⟩ | ⟨a, len, cap, m, n, D, Pl, rfl, _, hl, hm, hmm, hx, _⟩
  · exact ⟨none, 0, 0, [], rfl, Rd.nil _ _⟩
  · obtain ⟨bs, hb⟩ := rd_in (W := W) (enc := enc) (a := some a) (len := len) (cap := cap) (d := x.1) (p := x.2) Try.underlying29 Try.underlying5 (by kernel_rfl) rfl ⟨fuel, h⟩
    exact ⟨some a, len, cap, bs, rfl, hb⟩
theorem cellsPs : Try.prog.cellsOf 31 = 5 := by kernel_rfl
set_option maxRecDepth 100000 in
theorem open_ps {fuel : Nat} {cs : List Value} {x : DataW H × List MemPlace} (h : DataW.trod enc Try.prog W 0 (fun _ => true) hd fuel 31 cs = some x) : ∃ s : Ps, cs = [.int .i64 s.kind, .int .i64 s.a, .int .i64 s.b, .string s.text, .slice s.A s.n s.c] ∧ s.ok W := by
  obtain ⟨xs, n, hn, hx, hcs, hxl, hf⟩ := DataW.trod_struct Try.underlying31 h
  obtain ⟨x0, x1, x2, x3, x4, rfl⟩ : ∃ x0 x1 x2 x3 x4, xs = [x0, x1, x2, x3, x4] := by
    match xs, hxl with
    | [x0, x1, x2, x3, x4], _ => exact ⟨x0, x1, x2, x3, x4, rfl⟩
  rw [cellsPs] at hcs
  obtain ⟨u0, u1, u2, u3, u4, rfl⟩ : ∃ u0 u1 u2 u3 u4, cs = [u0, u1, u2, u3, u4] := by
    match cs, hcs with
    | [x0, x1, x2, x3, x4], _ => exact ⟨x0, x1, x2, x3, x4, rfl⟩
  have f0 := hf 0 _ rfl
  have f1 := hf 1 _ rfl
  have f2 := hf 2 _ rfl
  have f3 := hf 3 _ rfl
  have f4 := hf 4 _ rfl
  have c3 : Try.prog.cellsOf 3 = 1 := by kernel_rfl
  have c9 : Try.prog.cellsOf 9 = 1 := by kernel_rfl
  have c2 : Try.prog.cellsOf 29 = 1 := by kernel_rfl
  simp only [List.getElem?_cons_zero, List.getElem?_cons_succ] at f0 f1 f2 f3 f4
  obtain ⟨k, rfl, _⟩ := open_numY Try.underlying3 f0
  obtain ⟨a, rfl, _⟩ := open_numY Try.underlying3 f1
  obtain ⟨b, rfl, hb⟩ := open_numY Try.underlying3 f2
  obtain ⟨t, rfl, _⟩ := open_strY Try.underlying9 f3
  obtain ⟨A, m, c, bs, hq, hr⟩ := open_bytesY f4
  change List.take (Try.prog.cellsOf 29) [u4] = _ at hq
  rw [c2] at hq
  obtain rfl : u4 = .slice A m c := by simpa using hq
  exact ⟨⟨k, a, b, t, bs, A, m, c⟩, rfl, int_i64 hb, hr⟩
set_option maxRecDepth 100000 in
theorem ps_in {a : Option Addr} {len cap : Nat} {d : DataW H} {p : List MemPlace} (h : DataW.Trod enc Try.prog W 0 (fun _ => true) hd 22 (.slice a len cap) d p) : ∃ l, RdPs W a len cap l := by
  obtain ⟨fuel, hf⟩ := h
  rcases Deep.open_slice Try.underlying22 hf with ⟨hcs, _⟩ | ⟨ad, l, c, m, n, D, Pl, hcs, _, hl, hm, hmm, hx, hel⟩
  · simp [Value.cells] at hcs
    obtain ⟨rfl, rfl, rfl⟩ := hcs
    exact ⟨[], rfl, Nat.le_refl _, by omega, fun s hs => (by cases hs), fun h => absurd h (by omega)⟩
  · simp [Value.cells] at hcs
    obtain ⟨rfl, rfl, rfl⟩ := hcs
    have hmm' : m = cap := by rw [hmm]; rfl
    have hsp0 : 0 < len → ∃ b o, ad = ⟨b, o, none⟩ := fun hp => by
      obtain ⟨cs', h1, h2⟩ := hel 0 (by omega)
      rw [cellsPs] at h1
      obtain ⟨s, rfl, _⟩ := open_ps h2
      obtain ⟨_, _, hcell⟩ := World.cells?_some h1
      have hs := World.cell?_spot (hcell 0 (by omega))
      obtain ⟨b, o, spot⟩ := ad
      simp [Addr.add] at hs
      subst hs
      exact ⟨b, o, rfl⟩
    have key : ∀ i, i < len → ∃ s : Ps, s.ok W ∧ ∃ b o, ad = ⟨b, o, none⟩ ∧ b < W.heap.size ∧ W.cell? ⟨b, o + i * 5, none⟩ = some (.int .i64 s.kind) ∧ W.cell? ⟨b, o + i * 5 + 1, none⟩ = some (.int .i64 s.a) ∧ W.cell? ⟨b, o + i * 5 + 2, none⟩ = some (.int .i64 s.b) ∧ W.cell? ⟨b, o + i * 5 + 3, none⟩ = some (.string s.text) ∧ W.cell? ⟨b, o + i * 5 + 4, none⟩ = some (.slice s.A s.n s.c) := by
      intro i hi
      obtain ⟨cs', h1, h2⟩ := hel i (by omega)
      obtain ⟨s, rfl, hs⟩ := open_ps h2
      rw [cellsPs] at h1
      obtain ⟨_, _, hcell⟩ := World.cells?_some h1
      obtain ⟨b, o, rfl⟩ := hsp0 (by omega)
      have hcc : ∀ j (hj : j < 5), W.cell? ⟨b, o + i * 5 + j, none⟩ = ([.int .i64 s.kind, .int .i64 s.a, .int .i64 s.b, .string s.text, .slice s.A s.n s.c] : List Value)[j]? := fun j hj => by
        have := hcell j hj
        rw [add_off, add_off] at this
        exact this
      exact ⟨s, hs, b, o, rfl, block_lt_of_cell (hcc 0 (by omega)), hcc 0 (by omega), hcc 1 (by omega), hcc 2 (by omega), hcc 3 (by omega), hcc 4 (by omega)⟩
    obtain ⟨l, hll, hlp⟩ := list_ofY len key
    refine ⟨l, hll, hl, by unfold maxLen at hm; exact hm, fun s hs => ?_, fun hn => ?_⟩
    · obtain ⟨j, hj, rfl⟩ := List.getElem_of_mem hs
      exact (hlp j hj).1
    · obtain ⟨_, b, o, e, hlt, _⟩ := hlp 0 (by omega)
      subst e
      refine ⟨b, o, rfl, hlt, fun j hj => ?_⟩
      obtain ⟨_, b', o', e, _, h⟩ := hlp j hj
      cases e
      exact h
end
end Go.Proofs.Ytbfcdlfjlailjaa.Sym

/-
  SymPlays: the loop's frame, and what holds at its head.
-/
namespace Go.Proofs.Ytbfcdlfjlailjaa.Sym
open Go.RowKit
open Go.Proofs.Ytbfcdlfjlailjaa.Kit
open Go.Proofs.Ytbfcdlfjlailjaa.Oct
set_option linter.unusedVariables false

def firstLoop : Code → Option Code
  | .loop c => some c
  | .seq a b => match firstLoop a with
    | some c => some c
    | none => firstLoop b
  | .block _ c => firstLoop c
  | .scope c => firstLoop c
  | .cond _ a b => match firstLoop a with
    | some c => some c
    | none => firstLoop b
  | _ => none
noncomputable def playsBody : Code := ((Try.f3.body.bind firstLoop).getD .skip)
set_option maxRecDepth 1000000 in
def FR (A : Option Addr) (n c tb : Nat) (x37 x39 x40 x41 : Value) (u : Nat → Value) (v4 v5 v6 : Value) (k : Nat) : Array Value := #[.slice A n c, undef, u 2, .pointer (some ⟨tb, 0, none⟩), v4, v5, v6, undef, u 8, u 9, u 10, u 11, u 12, u 13, u 14, u 15, u 16, u 17, u 18, u 19, u 20, u 21, u 22, u 23, u 24, u 25, u 26, undef, undef, undef, undef, undef, undef, .bool true, .bool false, .slice A n c, .int .i64 (n : Nat), x37, .pointer (some ⟨tb, 0, none⟩), x39, x40, x41, .slice A n c, .int .i64 (n : Nat), .int .i64 (k : Nat), u 45, u 46, u 47, u 48, u 49, u 50, u 51, u 52, u 53, u 54, u 55, u 56, u 57, u 58, u 59, u 60, u 61, u 62, u 63, u 64, u 65, u 66, u 67, u 68, u 69, u 70, u 71, u 72, u 73, u 74, u 75, u 76, u 77, u 78, u 79, u 80, u 81, u 82, u 83, u 84, u 85, u 86, u 87, u 88, u 89, u 90, u 91, u 92, u 93, u 94, u 95, u 96, u 97, u 98, u 99, u 100, u 101, u 102, u 103, u 104, u 105, u 106, u 107, u 108, u 109, u 110, u 111, u 112, u 113, u 114, u 115, u 116, u 117, u 118, u 119, u 120, u 121, u 122, u 123, u 124, u 125, u 126, u 127, u 128, u 129, u 130, u 131, u 132, u 133, u 134, u 135, u 136, u 137, u 138, u 139, u 140, u 141, u 142, u 143, u 144, u 145, u 146, u 147, u 148, u 149, u 150, u 151, u 152, u 153, u 154, u 155, u 156, u 157, u 158, u 159, u 160, u 161, u 162, u 163, u 164, u 165, u 166, u 167, u 168, u 169, u 170, u 171, u 172, u 173, u 174, u 175, u 176, u 177, u 178, u 179, u 180, u 181, u 182, u 183, u 184, u 185, u 186, u 187, u 188, u 189, u 190, u 191, u 192, u 193, u 194, u 195, u 196, u 197, u 198, u 199, u 200, u 201, u 202, u 203, u 204, u 205, u 206, u 207, u 208, u 209, u 210, u 211, u 212, u 213, u 214, u 215, u 216, u 217, u 218, u 219, u 220, u 221, u 222, u 223, u 224, u 225, u 226, u 227, u 228, u 229, u 230, u 231, u 232, u 233, u 234, u 235, u 236, u 237, u 238, u 239, u 240, u 241, u 242, u 243, u 244, u 245, u 246, u 247, u 248, u 249, u 250, u 251, u 252, u 253, u 254, u 255, u 256, u 257, u 258, u 259, u 260, u 261, u 262, u 263, u 264, u 265, u 266, u 267, u 268, u 269, u 270, u 271, u 272, u 273, u 274, u 275, u 276, u 277, u 278, u 279, u 280, u 281, u 282, u 283, u 284, u 285, u 286, u 287, u 288, u 289, u 290, u 291, u 292, u 293, u 294, u 295, u 296, u 297, u 298, u 299, u 300, u 301, u 302, u 303, u 304, u 305, u 306, u 307, u 308, u 309, u 310, u 311, u 312, u 313, u 314, u 315, u 316, u 317, u 318, u 319, u 320, u 321, u 322, u 323, u 324, u 325, u 326, u 327, u 328, u 329, u 330, u 331, u 332, undef, undef, undef, undef, undef, undef, undef, undef, undef, undef, undef, undef, undef, undef, undef, undef, undef, undef, undef, undef, undef, undef, undef, undef, undef, undef, undef, undef, undef, undef, undef, undef, undef, undef, undef, undef, undef, undef, undef, undef, undef, undef, undef, undef, undef, undef, undef, undef, undef, undef, undef, undef, undef, undef, undef, undef, undef, undef, undef, undef, undef, undef, undef, undef, undef, undef]
structure Pl (k : Nat) (K : List Fm) (B : List Sl) (M : List (List UInt8)) (T : Tab) : Prop where
  rel : Rel K T
  bs : T.bs = B
  sm : T.sm = M
  nd : M.Nodup
  kl : K.length ≤ k
  bl : B.length ≤ k
  ml : M.length ≤ k
def PI (w0 : World) (A : Option Addr) (n c tb : Nat) (x37 x39 x40 x41 : Value) (a : Act) (w : World) : Prop :=
  ∃ (u : Nat → Value) (k : Nat) (T : Tab) (R S : Nat → Prop) (A4 A5 A6 : Option Addr) (c4 c5 c6 : Nat) (K : List Fm) (B : List Sl) (M : List (List UInt8)) (x5 x6 : List Value), k ≤ n ∧ Mem w0 w tb T R S A4 A5 A6 c4 c5 c6 K B M x5 x6 ∧ Pl k K B M T ∧
    a = ⟨FR A n c tb x37 x39 x40 x41 u (.slice A4 K.length c4) (.slice A5 B.length c5) (.slice A6 M.length c6) k, []⟩
theorem PI.mk {w0 w : World} {A : Option Addr} {n c tb : Nat} {x37 x39 x40 x41 : Value} {lit : Array Value} {k : Nat} {T : Tab} {R S : Nat → Prop} {A4 A5 A6 : Option Addr} {c4 c5 c6 : Nat} {K : List Fm} {B : List Sl} {M : List (List UInt8)} {x5 x6 : List Value}
    (hk : k ≤ n) (hM : Mem w0 w tb T R S A4 A5 A6 c4 c5 c6 K B M x5 x6) (hP : Pl k K B M T) (he : lit = FR A n c tb x37 x39 x40 x41 (fun i => lit.getD i undef) (.slice A4 K.length c4) (.slice A5 B.length c5) (.slice A6 M.length c6) k) : PI w0 A n c tb x37 x39 x40 x41 ⟨lit, []⟩ w :=
  ⟨fun i => lit.getD i undef, k, T, R, S, A4, A5, A6, c4, c5, c6, K, B, M, x5, x6, hk, hM, hP, by rw [← he]⟩
theorem Pl.up {k : Nat} {K : List Fm} {B : List Sl} {M : List (List UInt8)} {T : Tab} (h : Pl k K B M T) : Pl (k + 1) K B M T := ⟨h.rel, h.bs, h.sm, h.nd, Nat.le_succ_of_le h.kl, Nat.le_succ_of_le h.bl, Nat.le_succ_of_le h.ml⟩
def mu (n : Nat) (a : Act) (_ : World) : Nat := n - (intOf (a.tmps.getD 44 undef)).toNat
theorem infoFm : (Try.prog.info? 35).map (fun i => (i.zero, i.size, i.bytes)) = some (some (.agg #[.int .i64 0, .int .u8 0, .int .u8 0, .int .u8 0, .int .u8 0, .int .u8 0, .int .u8 0, .int .u8 0, .int .u8 0, .int .u8 0, .int .u8 0, .int .u8 0, .int .u8 0, .int .u8 0, .int .u8 0, .int .u8 0, .int .u8 0, .string ⟨#[]⟩, .string ⟨#[]⟩]), 19, 56) := by kernel_rfl
theorem size19 {KV : Array Value} (h : KV.size = 19) : ∃ a0 a1 a2 a3 a4 a5 a6 a7 a8 a9 a10 a11 a12 a13 a14 a15 a16 a17 a18, KV = #[a0, a1, a2, a3, a4, a5, a6, a7, a8, a9, a10, a11, a12, a13, a14, a15, a16, a17, a18] := by
  obtain ⟨l⟩ := KV
  match l, h with
  | [a0, a1, a2, a3, a4, a5, a6, a7, a8, a9, a10, a11, a12, a13, a14, a15, a16, a17, a18], _ => exact ⟨a0, a1, a2, a3, a4, a5, a6, a7, a8, a9, a10, a11, a12, a13, a14, a15, a16, a17, a18, rfl⟩
def zFm : Value := .agg #[.int .i64 0, .int .u8 0, .int .u8 0, .int .u8 0, .int .u8 0, .int .u8 0, .int .u8 0, .int .u8 0, .int .u8 0, .int .u8 0, .int .u8 0, .int .u8 0, .int .u8 0, .int .u8 0, .int .u8 0, .int .u8 0, .int .u8 0, .string ⟨#[]⟩, .string ⟨#[]⟩]
theorem fill_fm (KV : Array Value) (h : KV.size = 19) (m : Nat) (hm : m = 19) :
    Instr.fill (fun i => some (i * m, m)) ((Array.range (1 * m)).map (zFm.cells[· % zFm.cells.size]!)) [(0, .agg KV)] = some KV := by
  subst hm
  obtain ⟨a0, a1, a2, a3, a4, a5, a6, a7, a8, a9, a10, a11, a12, a13, a14, a15, a16, a17, a18, rfl⟩ := size19 h
  kernel_rfl
theorem built_fm0 : Try.prog.built 35 [(0, .int .i64 0)] = some #[.int .i64 0, .int .u8 0, .int .u8 0, .int .u8 0, .int .u8 0, .int .u8 0, .int .u8 0, .int .u8 0, .int .u8 0, .int .u8 0, .int .u8 0, .int .u8 0, .int .u8 0, .int .u8 0, .int .u8 0, .int .u8 0, .int .u8 0, .string ⟨#[]⟩, .string ⟨#[]⟩] := by kernel_rfl
theorem eq_one (x : List UInt8) (hx : x.length = 16) (w : World) : (Op.equalIn 10000 36 (.agg (kv x)) (.agg (kv x))).run Try.prog w = .ok true w := (eq_keyY x x hx hx w).trans (by simp)
theorem and31 (a : Int) : ∃ t : Nat, t ≤ 31 ∧ bits .and .i64 a 31 = t := by
  have hle : (BitVec.ofInt 64 a &&& BitVec.ofInt 64 31).toNat ≤ 31 := by
    rw [BitVec.toNat_and]
    exact Nat.le_trans Nat.and_le_right (by decide)
  refine ⟨(BitVec.ofInt 64 a &&& BitVec.ofInt 64 31).toNat, hle, ?_⟩
  show IntKind.i64.wrap ((BitVec.ofInt 64 a &&& BitVec.ofInt 64 31).toNat : Int) = _
  rw [IntKind.wrap_i64]
  omega
end Go.Proofs.Ytbfcdlfjlailjaa.Sym
