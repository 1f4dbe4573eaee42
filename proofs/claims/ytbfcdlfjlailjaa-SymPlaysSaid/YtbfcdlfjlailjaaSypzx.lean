/-
  SymPlays: a round: a step that is too long.
-/
import Derived.Test.YtbfcdlfjlailjaaSypow
namespace Go.Proofs.Ytbfcdlfjlailjaa.Sym
open Go.RowKit
open Go.Proofs.Ytbfcdlfjlailjaa.Kit
open Go.Proofs.Ytbfcdlfjlailjaa.Oct
set_option linter.unusedVariables false

set_option maxRecDepth 1000000 in
set_option maxHeartbeats 8000000 in
theorem plays_skip {w0 w wr : World} {A : Option Addr} {n c tb k : Nat} {x37 x39 x40 x41 : Value} {u : Nat → Value} {T : Tab} {R S : Nat → Prop} {J4 J5 J6 : Option Addr} {c4 c5 c6 : Nat} {K : List Fm} {B : List Sl} {M : List (List UInt8)} {x5 x6 : List Value} {st : List Ps}
    (hx : RdPs w A n c st) (hb0 : Below w.heap.size w w0) (hk : k < n) (hn60 : n ≤ 60) (hM : Mem w0 wr tb T R S J4 J5 J6 c4 c5 c6 K B M x5 x6) (hP : Pl k K B M T)
    {b o : Nat} {s : Ps} (hA : A = some ⟨b, o, none⟩) (hsb : -9223372036854775808 ≤ s.b ∧ s.b ≤ 9223372036854775807) (hbody : ∀ W, Below w.heap.size w W → RdB W W.heap.size s.A s.n s.c s.body)
    (p0 : wr.cell? ⟨b, o + k * 5, none⟩ = some (.int .i64 s.kind)) (p1 : wr.cell? ⟨b, o + k * 5 + 1, none⟩ = some (.int .i64 s.a)) (p2 : wr.cell? ⟨b, o + k * 5 + 2, none⟩ = some (.int .i64 s.b)) (p3 : wr.cell? ⟨b, o + k * 5 + 3, none⟩ = some (.string s.text)) (p4 : wr.cell? ⟨b, o + k * 5 + 4, none⟩ = some (.slice s.A s.n s.c))
    (hl : 40 < s.text.size ∨ 40 < s.n) {Q : Exit → Act → World → Prop} (hend : ∀ a' w', PI w0 A n c tb x37 x39 x40 x41 a' w' ∧ mu n a' w' < n - k → Q .normal a' w') (hpan : ∀ c a a' w, Q (.panic c) a w → Q (.panic c) a' w) :
    Code.wp Try.prog playsBody Q ⟨FR A n c tb x37 x39 x40 x41 u (.slice J4 K.length c4) (.slice J5 B.length c5) (.slice J6 M.length c6) k, []⟩ wr := by
  subst hA
  obtain ⟨n4, hn4⟩ : ∃ q, q = K.length := ⟨_, rfl⟩
  obtain ⟨n5, hn5⟩ : ∃ q, q = B.length := ⟨_, rfl⟩
  obtain ⟨n6, hn6⟩ : ∃ q, q = M.length := ⟨_, rfl⟩
  rw [← hn4, ← hn5, ← hn6]
  have hlt : (k : Int) < (n : Int) := by omega
  have HM := Lib.hid hM
  have HP := Lib.hid hP
  have HX := Lib.hid hx
  have HB0 := Lib.hid hb0
  have HBODY := Lib.hid hbody
  have HEND := Lib.hid hend
  have HPAN := Lib.hid hpan
  have HN4 := Lib.hid hn4
  have HN5 := Lib.hid hn5
  have HN6 := Lib.hid hn6
  have h4k : n4 ≤ k := by rw [hn4]; exact hP.kl
  have h5k : n5 ≤ k := by rw [hn5]; exact hP.bl
  have h6k : n6 ≤ k := by rw [hn6]; exact hP.ml
  clear hM hP hx hb0 hbody hend hpan hn4 hn5 hn6
  simp only [FR]
  conv => arg 2; whnf
  have hA := below_of_new wr (.cells s.arr 31)
  rcases Nat.lt_or_ge 40 s.text.size with h1 | h1
  · have t1 : decide ((40 : Int) < (s.text.size : Int)) = true := decide_eq_true (by omega)
    go_wp2_with fail
    have e4 := HN4.out
    have e5 := HN5.out
    have e6 := HN6.out
    subst e4 e5 e6
    refine HEND.out _ _ ⟨PI.mk (k := k + 1) (by omega) (HM.out.below hA) HP.out.up (by rfl), ?_⟩
    simp only [mu]
    show n - (intOf (.int .i64 ((k : Int) + 1))).toNat < n - k
    simp [intOf]; omega
  · have t1 : decide ((40 : Int) < (s.text.size : Int)) = false := decide_eq_false (by omega)
    have t2 : decide ((40 : Int) < (s.n : Int)) = true := decide_eq_true (by omega)
    go_wp2_with fail
    have e4 := HN4.out
    have e5 := HN5.out
    have e6 := HN6.out
    subst e4 e5 e6
    refine HEND.out _ _ ⟨PI.mk (k := k + 1) (by omega) (HM.out.below hA) HP.out.up (by rfl), ?_⟩
    simp only [mu]
    show n - (intOf (.int .i64 ((k : Int) + 1))).toNat < n - k
    simp [intOf]; omega
end Go.Proofs.Ytbfcdlfjlailjaa.Sym

/-
  SymPlays: a round: a step of no kind.
-/
namespace Go.Proofs.Ytbfcdlfjlailjaa.Sym
open Go.RowKit
open Go.Proofs.Ytbfcdlfjlailjaa.Kit
open Go.Proofs.Ytbfcdlfjlailjaa.Oct
set_option linter.unusedVariables false

set_option maxRecDepth 1000000 in
set_option maxHeartbeats 8000000 in
theorem plays_other {w0 w wr : World} {A : Option Addr} {n c tb k : Nat} {x37 x39 x40 x41 : Value} {u : Nat → Value} {T : Tab} {R S : Nat → Prop} {J4 J5 J6 : Option Addr} {c4 c5 c6 : Nat} {K : List Fm} {B : List Sl} {M : List (List UInt8)} {x5 x6 : List Value} {st : List Ps}
    (hx : RdPs w A n c st) (hb0 : Below w.heap.size w w0) (hk : k < n) (hn60 : n ≤ 60) (hM : Mem w0 wr tb T R S J4 J5 J6 c4 c5 c6 K B M x5 x6) (hP : Pl k K B M T)
    {b o : Nat} {s : Ps} (hA : A = some ⟨b, o, none⟩) (hsb : -9223372036854775808 ≤ s.b ∧ s.b ≤ 9223372036854775807) (hbody : ∀ W, Below w.heap.size w W → RdB W W.heap.size s.A s.n s.c s.body)
    (p0 : wr.cell? ⟨b, o + k * 5, none⟩ = some (.int .i64 s.kind)) (p1 : wr.cell? ⟨b, o + k * 5 + 1, none⟩ = some (.int .i64 s.a)) (p2 : wr.cell? ⟨b, o + k * 5 + 2, none⟩ = some (.int .i64 s.b)) (p3 : wr.cell? ⟨b, o + k * 5 + 3, none⟩ = some (.string s.text)) (p4 : wr.cell? ⟨b, o + k * 5 + 4, none⟩ = some (.slice s.A s.n s.c))
    (hl : s.text.size ≤ 40 ∧ s.n ≤ 40) (hkd : s.kind ≠ 0 ∧ s.kind ≠ 1 ∧ s.kind ≠ 2 ∧ s.kind ≠ 3 ∧ s.kind ≠ 4 ∧ s.kind ≠ 5) {Q : Exit → Act → World → Prop} (hend : ∀ a' w', PI w0 A n c tb x37 x39 x40 x41 a' w' ∧ mu n a' w' < n - k → Q .normal a' w') (hpan : ∀ c a a' w, Q (.panic c) a w → Q (.panic c) a' w) :
    Code.wp Try.prog playsBody Q ⟨FR A n c tb x37 x39 x40 x41 u (.slice J4 K.length c4) (.slice J5 B.length c5) (.slice J6 M.length c6) k, []⟩ wr := by
  subst hA
  obtain ⟨n4, hn4⟩ : ∃ q, q = K.length := ⟨_, rfl⟩
  obtain ⟨n5, hn5⟩ : ∃ q, q = B.length := ⟨_, rfl⟩
  obtain ⟨n6, hn6⟩ : ∃ q, q = M.length := ⟨_, rfl⟩
  rw [← hn4, ← hn5, ← hn6]
  have hlt : (k : Int) < (n : Int) := by omega
  have HM := Lib.hid hM
  have HP := Lib.hid hP
  have HX := Lib.hid hx
  have HB0 := Lib.hid hb0
  have HBODY := Lib.hid hbody
  have HEND := Lib.hid hend
  have HPAN := Lib.hid hpan
  have HN4 := Lib.hid hn4
  have HN5 := Lib.hid hn5
  have HN6 := Lib.hid hn6
  have h4k : n4 ≤ k := by rw [hn4]; exact hP.kl
  have h5k : n5 ≤ k := by rw [hn5]; exact hP.bl
  have h6k : n6 ≤ k := by rw [hn6]; exact hP.ml
  clear hM hP hx hb0 hbody hend hpan hn4 hn5 hn6
  simp only [FR]
  conv => arg 2; whnf
  have t1 : decide ((40 : Int) < (s.text.size : Int)) = false := decide_eq_false (by omega)
  have t2 : decide ((40 : Int) < (s.n : Int)) = false := decide_eq_false (by omega)
  obtain ⟨ta, hta31, hta⟩ := and31 s.a
  obtain ⟨ZV, hZ⟩ : ∃ q : Array Value, q = #[.int .u8 0, .int .u8 0, .int .u8 0, .int .u8 0, .int .u8 0, .int .u8 0, .int .u8 0, .int .u8 0, .int .u8 0, .int .u8 0, .int .u8 0, .int .u8 0, .int .u8 0, .int .u8 0, .int .u8 0, .int .u8 0] := ⟨_, rfl⟩
  have hz : ∀ w, (zeroValue 32).run Try.prog w = .ok (.agg ZV) w := fun w => by rw [hZ]; kernel_rfl
  have hzl : ZV.size = 16 := by rw [hZ]; rfl
  obtain ⟨KV, hKV⟩ : ∃ z, z = kv (mk 107 ta) := ⟨_, rfl⟩
  have hKs : KV.size = 16 := by rw [hKV, kv_size, mk_len]
  have HIK := Lib.hid (show (Try.prog.info? 32).map (·.size) = some KV.size from by rw [hKs]; kernel_rfl)
  have HPK := Lib.hid (show KV.all (·.oneCell') = true from by rw [hKV]; exact all_oneCell_toArray (bv_one _))
  have HZK := Lib.hid (show ZV.size = KV.size by rw [hzl, hKs])
  have HMK := Lib.hid (show ∀ W, Calls Try.prog 11 #[.int .u8 107, .int .i64 (ta : Int)] W fun e w' => e = .returned (.agg KV) ∧ Below W.heap.size W w' from fun W => by rw [hKV]; exact lmark_any 107 ta W (by omega))
  have HKV := Lib.hid hKV
  have HZV := Lib.hid hZ
  clear hKV hKs hZ
  obtain ⟨W1, hW1⟩ : ∃ q, q = wr.alloc (.cells s.arr 31) := ⟨_, rfl⟩
  have hb1 : Below wr.heap.size wr W1 := by rw [hW1]; exact below_of_new _ _
  have hg1 : W1.heap[wr.heap.size]? = some (.cells s.arr 31 (0, 0)) := by rw [hW1]; exact heap_alloc_new _ _
  have HW1 := Lib.hid (show wr.alloc (.cells #[.int .i64 s.kind, .int .i64 s.a, .int .i64 s.b, .string s.text, .slice s.A s.n s.c] 31) = W1 from hW1.symm)
  have HB1 := Lib.hid hb1
  have HG1 := Lib.hid hg1
  clear hW1 hb1 hg1
  have q3 : W1.cell? ⟨wr.heap.size, 3, none⟩ = some (.string s.text) := by rw [cell_of_row _ _ _ _ _ _ HG1.out]; rfl
  have q4 : W1.cell? ⟨wr.heap.size, 4, none⟩ = some (.slice s.A s.n s.c) := by rw [cell_of_row _ _ _ _ _ _ HG1.out]; rfl
  have q1 : W1.cell? ⟨wr.heap.size, 1, none⟩ = some (.int .i64 s.a) := by rw [cell_of_row _ _ _ _ _ _ HG1.out]; rfl
  go_wp2_with (rw [HW1.out])
  refine (HMK.out _).mono ?_
  rintro e w2 ⟨rfl, hb2⟩
  obtain ⟨W3, hW3⟩ : ∃ q, q = w2.alloc (.cells KV 32) := ⟨_, rfl⟩
  have hb3 : Below wr.heap.size wr W3 := by rw [hW3]; exact below_alloc (below_seq HB1.out hb2) _
  have hlt1 : wr.heap.size < W1.heap.size := (Array.getElem?_eq_some_iff.1 HG1.out).1
  have hg2 := (hb2.block wr.heap.size hlt1).trans HG1.out
  have hg3 : W3.heap[wr.heap.size]? = some (.cells s.arr 31 (0, 0)) := by rw [hW3, heap_alloc_old _ _ (Array.getElem?_eq_some_iff.1 hg2).1]; exact hg2
  have hk3 : W3.heap[w2.heap.size]? = some (.cells KV 32 (0, 0)) := by rw [hW3]; exact heap_alloc_new _ _
  have hlt2 : wr.heap.size < w2.heap.size := (Array.getElem?_eq_some_iff.1 hg2).1
  have hM3 := HM.out.below hb3
  have HB3 := Lib.hid hb3
  have HG3 := Lib.hid hg3
  have HK3 := Lib.hid hk3
  have HM3 := Lib.hid hM3
  have HGN := Lib.hid (show ∀ z, (w2.alloc (.cells z 32)).heap[w2.heap.size]? = some (.cells z 32 (0, 0)) from fun z => heap_alloc_new w2 _)
  have q0 : W3.cell? ⟨wr.heap.size, 0, none⟩ = some (.int .i64 s.kind) := by rw [cell_of_row _ _ _ _ _ _ hg3]; rfl
  have HW3 := Lib.hid (show w2.alloc (.cells KV 32) = W3 from hW3.symm)
  clear hb2 hb3 hg2 hg3 hk3 hM3 q1 q3 q4 hW3
  go_wp2_with (refine wpList_store_row (o := ⟨none, _, _, _, _, _⟩) rfl 32 (.tmp 9) (.tmp 61) rfl w2.heap.size KV rfl rfl 32 _ (HGN.out _) HIK.out HZK.out HPK.out ?_; rw [World.setRow_alloc_new, HW3.out]; apply Hid.out)
  clear hz
  refine Lib.hid ?_
  obtain ⟨k0, k1, k2, k3, k4, k5⟩ := hkd
  have b0 : (s.kind == 0) = false := by simpa using k0
  have b1 : (s.kind == 1) = false := by simpa using k1
  have b2 : (s.kind == 2) = false := by simpa using k2
  have b3 : (s.kind == 3) = false := by simpa using k3
  have b4 : (s.kind == 4) = false := by simpa using k4
  have b5 : (s.kind == 5) = false := by simpa using k5
  clear k0 k1 k2 k3 k4 k5
  have hkeys : Calls Try.prog 20 #[.pointer (some ⟨tb, 0, none⟩)] _ _ := HM3.out.te.keys
  rw [HP.out.rel.klen, ← HN4.out] at hkeys
  have hboxes : Calls Try.prog 21 #[.pointer (some ⟨tb, 0, none⟩)] _ _ := HM3.out.te.boxes
  rw [HP.out.bs, ← HN5.out] at hboxes
  go_wp2_with fail
  refine hkeys.mono ?_
  rintro e w8 ⟨rfl, rfl⟩
  clear hkeys
  go_wp2_with fail
  refine hboxes.mono ?_
  rintro e w8 ⟨rfl, rfl⟩
  clear hboxes
  go_wp2_with fail
  have e_hn4 := HN4.out
  have e_hn5 := HN5.out
  have e_hn6 := HN6.out
  subst e_hn4 e_hn5 e_hn6
  refine HEND.out _ _ ⟨PI.mk (k := k + 1) (by omega) HM3.out HP.out.up (by rfl), ?_⟩
  simp only [mu]
  show n - (intOf (.int .i64 ((k : Int) + 1))).toNat < n - k
  simp [intOf]; omega
end Go.Proofs.Ytbfcdlfjlailjaa.Sym
