/-
  SymPlays: a round: a new key.
-/
import Derived.Test.YtbfcdlfjlailjaaSypow
namespace Go.Proofs.Ytbfcdlfjlailjaa.Sym
open Go.RowKit
open Go.Proofs.Ytbfcdlfjlailjaa.Kit
open Go.Proofs.Ytbfcdlfjlailjaa.Oct
set_option linter.unusedVariables false

set_option maxRecDepth 1000000 in
set_option maxHeartbeats 8000000 in
theorem plays_k0 {w0 w wr : World} {A : Option Addr} {n c tb k : Nat} {x37 x39 x40 x41 : Value} {u : Nat → Value} {T : Tab} {R S : Nat → Prop} {J4 J5 J6 : Option Addr} {c4 c5 c6 : Nat} {K : List Fm} {B : List Sl} {M : List (List UInt8)} {x5 x6 : List Value} {st : List Ps}
    (hx : RdPs w A n c st) (hb0 : Below w.heap.size w w0) (hk : k < n) (hn60 : n ≤ 60) (hM : Mem w0 wr tb T R S J4 J5 J6 c4 c5 c6 K B M x5 x6) (hP : Pl k K B M T)
    {b o : Nat} {s : Ps} (hA : A = some ⟨b, o, none⟩) (hsb : -9223372036854775808 ≤ s.b ∧ s.b ≤ 9223372036854775807) (hbody : ∀ W, Below w.heap.size w W → RdB W W.heap.size s.A s.n s.c s.body)
    (p0 : wr.cell? ⟨b, o + k * 5, none⟩ = some (.int .i64 s.kind)) (p1 : wr.cell? ⟨b, o + k * 5 + 1, none⟩ = some (.int .i64 s.a)) (p2 : wr.cell? ⟨b, o + k * 5 + 2, none⟩ = some (.int .i64 s.b)) (p3 : wr.cell? ⟨b, o + k * 5 + 3, none⟩ = some (.string s.text)) (p4 : wr.cell? ⟨b, o + k * 5 + 4, none⟩ = some (.slice s.A s.n s.c))
    (hl : s.text.size ≤ 40 ∧ s.n ≤ 40) (hkd : Hid (s.kind = 0)) {Q : Exit → Act → World → Prop} (hend : ∀ a' w', PI w0 A n c tb x37 x39 x40 x41 a' w' ∧ mu n a' w' < n - k → Q .normal a' w') (hpan : ∀ c a a' w, Q (.panic c) a w → Q (.panic c) a' w) :
    Code.wp Try.prog playsBody Q ⟨FR A n c tb x37 x39 x40 x41 u (.slice J4 K.length c4) (.slice J5 B.length c5) (.slice J6 M.length c6) k, []⟩ wr := by
  subst hA
  obtain ⟨n4, hn4⟩ : ∃ q, q = K.length := ⟨_, rfl⟩
  obtain ⟨n5, hn5⟩ : ∃ q, q = B.length := ⟨_, rfl⟩
  obtain ⟨n6, hn6⟩ : ∃ q, q = M.length := ⟨_, rfl⟩
  rw [← hn4, ← hn5, ← hn6]
  have hlt : (k : Int) < (n : Int) := by omega
  have HM := Lib.hid hM
  have HP := Lib.hid hP
  have HX := Lib.hid hx
  have HB0 := Lib.hid hb0
  have HBODY := Lib.hid hbody
  have HEND := Lib.hid hend
  have HPAN := Lib.hid hpan
  have HN4 := Lib.hid hn4
  have HN5 := Lib.hid hn5
  have HN6 := Lib.hid hn6
  have h4k : n4 ≤ k := by rw [hn4]; exact hP.kl
  have h5k : n5 ≤ k := by rw [hn5]; exact hP.bl
  have h6k : n6 ≤ k := by rw [hn6]; exact hP.ml
  clear hM hP hx hb0 hbody hend hpan hn4 hn5 hn6
  simp only [FR]
  conv => arg 2; whnf
  have t1 : decide ((40 : Int) < (s.text.size : Int)) = false := decide_eq_false (by omega)
  have t2 : decide ((40 : Int) < (s.n : Int)) = false := decide_eq_false (by omega)
  obtain ⟨ta, hta31, hta⟩ := and31 s.a
  obtain ⟨ZV, hZ⟩ : ∃ q : Array Value, q = #[.int .u8 0, .int .u8 0, .int .u8 0, .int .u8 0, .int .u8 0, .int .u8 0, .int .u8 0, .int .u8 0, .int .u8 0, .int .u8 0, .int .u8 0, .int .u8 0, .int .u8 0, .int .u8 0, .int .u8 0, .int .u8 0] := ⟨_, rfl⟩
  have hz : ∀ w, (zeroValue 32).run Try.prog w = .ok (.agg ZV) w := fun w => by rw [hZ]; kernel_rfl
  have hzl : ZV.size = 16 := by rw [hZ]; rfl
  obtain ⟨KV, hKV⟩ : ∃ z, z = kv (mk 107 ta) := ⟨_, rfl⟩
  have hKs : KV.size = 16 := by rw [hKV, kv_size, mk_len]
  have HIK := Lib.hid (show (Try.prog.info? 32).map (·.size) = some KV.size from by rw [hKs]; kernel_rfl)
  have HPK := Lib.hid (show KV.all (·.oneCell') = true from by rw [hKV]; exact all_oneCell_toArray (bv_one _))
  have HZK := Lib.hid (show ZV.size = KV.size by rw [hzl, hKs])
  have HMK := Lib.hid (show ∀ W, Calls Try.prog 11 #[.int .u8 107, .int .i64 (ta : Int)] W fun e w' => e = .returned (.agg KV) ∧ Below W.heap.size W w' from fun W => by rw [hKV]; exact lmark_any 107 ta W (by omega))
  have HKV := Lib.hid hKV
  have HZV := Lib.hid hZ
  clear hKV hKs hZ
  obtain ⟨W1, hW1⟩ : ∃ q, q = wr.alloc (.cells s.arr 31) := ⟨_, rfl⟩
  have hb1 : Below wr.heap.size wr W1 := by rw [hW1]; exact below_of_new _ _
  have hg1 : W1.heap[wr.heap.size]? = some (.cells s.arr 31 (0, 0)) := by rw [hW1]; exact heap_alloc_new _ _
  have HW1 := Lib.hid (show wr.alloc (.cells #[.int .i64 s.kind, .int .i64 s.a, .int .i64 s.b, .string s.text, .slice s.A s.n s.c] 31) = W1 from hW1.symm)
  have HB1 := Lib.hid hb1
  have HG1 := Lib.hid hg1
  clear hW1 hb1 hg1
  have b0 : (s.kind == 0) = true := by rw [hkd.out]; rfl
  clear hkd
  have q3 : W1.cell? ⟨wr.heap.size, 3, none⟩ = some (.string s.text) := by rw [cell_of_row _ _ _ _ _ _ HG1.out]; rfl
  have q4 : W1.cell? ⟨wr.heap.size, 4, none⟩ = some (.slice s.A s.n s.c) := by rw [cell_of_row _ _ _ _ _ _ HG1.out]; rfl
  have q1 : W1.cell? ⟨wr.heap.size, 1, none⟩ = some (.int .i64 s.a) := by rw [cell_of_row _ _ _ _ _ _ HG1.out]; rfl
  go_wp2_with (rw [HW1.out])
  refine (HMK.out _).mono ?_
  rintro e w2 ⟨rfl, hb2⟩
  obtain ⟨W3, hW3⟩ : ∃ q, q = w2.alloc (.cells KV 32) := ⟨_, rfl⟩
  have hb3 : Below wr.heap.size wr W3 := by rw [hW3]; exact below_alloc (below_seq HB1.out hb2) _
  have hlt1 : wr.heap.size < W1.heap.size := (Array.getElem?_eq_some_iff.1 HG1.out).1
  have hg2 := (hb2.block wr.heap.size hlt1).trans HG1.out
  have hg3 : W3.heap[wr.heap.size]? = some (.cells s.arr 31 (0, 0)) := by rw [hW3, heap_alloc_old _ _ (Array.getElem?_eq_some_iff.1 hg2).1]; exact hg2
  have hk3 : W3.heap[w2.heap.size]? = some (.cells KV 32 (0, 0)) := by rw [hW3]; exact heap_alloc_new _ _
  have hlt2 : wr.heap.size < w2.heap.size := (Array.getElem?_eq_some_iff.1 hg2).1
  have hM3 := HM.out.below hb3
  have HB3 := Lib.hid hb3
  have HG3 := Lib.hid hg3
  have HK3 := Lib.hid hk3
  have HM3 := Lib.hid hM3
  have HGN := Lib.hid (show ∀ z, (w2.alloc (.cells z 32)).heap[w2.heap.size]? = some (.cells z 32 (0, 0)) from fun z => heap_alloc_new w2 _)
  have q0 : W3.cell? ⟨wr.heap.size, 0, none⟩ = some (.int .i64 s.kind) := by rw [cell_of_row _ _ _ _ _ _ hg3]; rfl
  have HW3 := Lib.hid (show w2.alloc (.cells KV 32) = W3 from hW3.symm)
  clear hb2 hb3 hg2 hg3 hk3 hM3 q1 q3 q4 hW3
  go_wp2_with (refine wpList_store_row (o := ⟨none, _, _, _, _, _⟩) rfl 32 (.tmp 9) (.tmp 61) rfl w2.heap.size KV rfl rfl 32 _ (HGN.out _) HIK.out HZK.out HPK.out ?_; rw [World.setRow_alloc_new, HW3.out]; apply Hid.out)
  clear hz
  refine Lib.hid ?_
  obtain ⟨i0, hi, hz0, hz1, hz2⟩ := info_parts infoFm
  obtain ⟨FL, hFL⟩ : ∃ q : Array Value, q = #[.int .i64 0, .int .u8 0, .int .u8 0, .int .u8 0, .int .u8 0, .int .u8 0, .int .u8 0, .int .u8 0, .int .u8 0, .int .u8 0, .int .u8 0, .int .u8 0, .int .u8 0, .int .u8 0, .int .u8 0, .int .u8 0, .int .u8 0, .string ⟨#[]⟩, .string ⟨#[]⟩] := ⟨_, rfl⟩
  have hFc : FL.toList = fm0.cells := by rw [hFL]; rfl
  obtain ⟨WN, hWN⟩ : ∃ q, q = W3.alloc (.cells FL 35) := ⟨_, rfl⟩
  have hbN : Below W3.heap.size W3 WN := by rw [hWN]; exact below_of_new _ _
  have HMN := Lib.hid (HM3.out.below hbN)
  have HGN2 := Lib.hid (show WN.heap[W3.heap.size]? = some (.cells FL 35 (0, 0)) from by rw [hWN]; exact heap_alloc_new _ _)
  have HON := Lib.hid (show WN.ownsRow w0.heap.size 35 19 (.slice J4 n4 c4) n4 (cellsM K) from by rw [HN4.out]; exact HMN.out.o4)
  have HSN := Lib.hid (show w0.heap.size ≤ WN.heap.size ∧ WN.heap.size = W3.heap.size + 1 from ⟨HMN.out.te.bel.size, by rw [hWN]; simp⟩)
  have HWN := Lib.hid (show W3.alloc (.cells #[.int .i64 0, .int .u8 0, .int .u8 0, .int .u8 0, .int .u8 0, .int .u8 0, .int .u8 0, .int .u8 0, .int .u8 0, .int .u8 0, .int .u8 0, .int .u8 0, .int .u8 0, .int .u8 0, .int .u8 0, .int .u8 0, .int .u8 0, .string ⟨#[]⟩, .string ⟨#[]⟩] 35) = WN from by rw [hWN, hFL])
  have HFC := Lib.hid hFc
  have HF1 := Lib.hid (show ∀ u ∈ FL.toList, u.oneCell' = true from by rw [hFc]; exact fm0.one)
  have HFL9 := Lib.hid (show FL.toList.length = 19 from by rw [hFL]; rfl)
  have HBU := Lib.hid (show Try.prog.built 35 [(0, .int .i64 0)] = some FL from by rw [hFL]; exact built_fm0)
  have HBS := Lib.hid (fill_fm FL (by rw [hFL]; rfl) i0.size hz1)
  have HS1 := Lib.hid (show ¬ 1 * i0.size > 2 ^ 24 by rw [hz1]; omega)
  have HS2 := Lib.hid (show ¬ 1 * i0.size = 0 by rw [hz1]; omega)
  have HW2 := Lib.hid (show W3.alloc (.cells FL 35) = WN from hWN.symm)
  clear hWN hbN hFL hFc
  go_wp2_with (first
    | (refine wpList_buildTo rfl 35 #[(0, .const (.int .i64 0))] rfl (some 67) rfl FL (Eq.trans (congrArg (Try.prog.built _) (show _ = [(0, Value.int .i64 0)] by kernel_rfl)) HBU.out) ?_)
    | (refine wpList_buildSlice rfl 26 35 1 #[(0, .tmp 67)] rfl FL i0 zFm Try.underlying26 hi hz0 HS1.out HS2.out (Eq.trans (congrArg (Instr.fill _ _) (show _ = [(0, Value.agg FL)] by kernel_rfl)) HBS.out) ?_; rw [HW2.out])
    | (at_builtin; go_loud (refine wpList_append_lies _ rfl (.tmp 66) (.tmp 68) 26 rfl w0.heap.size 35 i0 _ 19 56 Try.underlying26 hi hz0 hz1 hz2 rfl (by omega) (.slice J4 n4 c4) n4 (cellsM K) (by rfl) HON.out ⟨W3.heap.size, 0, none⟩ 1 1 FL.toList (by rfl) HFL9.out (World.news_of_block HGN2.out) HF1.out (by omega) (by unfold maxLen; omega) (by omega) HSN.out.1 WN.heap.size rfl ?_); intro gg cap w5 hown5 hgrow hat hlt5))
  rw [ob_slice] at hgrow hat
  have hat' : ob J4 = some gg ∨ WN.heap.size ≤ gg := by
    rcases hat with h1 | h1
    · first | exact .inl h1 | exact .inl h1.symm
    · first | exact .inr h1 | (right; omega) | exact .inr (Nat.le_of_eq h1.symm)
  have HM5 := Lib.hid (HMN.out.key (f := fm0) (by rw [← HN4.out]; rw [HFC.out] at hown5; exact hown5) hgrow hat')
  have HP5 := Lib.hid (show Pl (k + 1) (K ++ [fm0]) B M { T with ks := T.ks ++ [Fr.none] } from ⟨HP.out.rel.fresh, HP.out.bs, HP.out.sm, HP.out.nd, by rw [List.length_append, List.length_singleton]; have := HP.out.kl; omega, Nat.le_succ_of_le HP.out.bl, Nat.le_succ_of_le HP.out.ml⟩)
  have hfr := HM5.out.te.fresh (by rw [HP.out.rel.klen, ← HN4.out]; omega)
  obtain ⟨PV, hPV⟩ : ∃ z, z = kv (mk 107 (n4 + 1)) := ⟨_, rfl⟩
  rw [HP.out.rel.klen, ← HN4.out, ← hPV] at hfr
  have HMK2 := Lib.hid (show ∀ W, Calls Try.prog 11 #[.int .u8 107, .int .i64 ((n4 + 1 : Nat) : Int)] W fun e w' => e = .returned (.agg PV) ∧ Below W.heap.size W w' from fun W => by rw [hPV]; exact lmark_any 107 (n4 + 1) W (by omega))
  have eqp : ∀ w, (Op.equalIn 10000 36 (.agg PV) (.agg PV)).run Try.prog w = .ok true w := fun w => by rw [hPV]; exact eq_one _ (mk_len _ _) w
  have HL5 := Lib.hid (show n4 + 1 = (K ++ [fm0]).length by rw [HN4.out]; simp)
  obtain ⟨m4, hm4⟩ : ∃ q, q = n4 + 1 := ⟨_, rfl⟩
  rw [← hm4] at HMK2 HL5 ⊢
  have HM4 := Lib.hid hm4
  clear hPV hgrow hat hat' hown5 hlt5 hm4
  go_wp2_with fail
  refine hfr.mono ?_
  rintro e w6 ⟨rfl, hte6, hrw6⟩
  have HM6 := Lib.hid (HM5.out.turn hte6 hrw6)
  clear hfr hte6 hrw6
  go_wp2_with fail
  refine (HMK2.out _).mono ?_
  rintro e w7 ⟨rfl, hb7⟩
  have HM7 := Lib.hid (HM6.out.below hb7)
  clear hb7
  have hkeys : Calls Try.prog 20 #[.pointer (some ⟨tb, 0, none⟩)] _ _ := HM7.out.te.keys
  rw [HP5.out.rel.klen, ← HL5.out] at hkeys
  have hboxes : Calls Try.prog 21 #[.pointer (some ⟨tb, 0, none⟩)] _ _ := HM7.out.te.boxes
  rw [HP5.out.bs, ← HN5.out] at hboxes
  go_wp2_with fail
  refine hkeys.mono ?_
  rintro e w8 ⟨rfl, rfl⟩
  clear hkeys
  go_wp2_with fail
  refine hboxes.mono ?_
  rintro e w8 ⟨rfl, rfl⟩
  clear hboxes
  go_wp2_with fail
  have e4 := HL5.out
  have e5 := HN5.out
  have e6 := HN6.out
  subst e4 e5 e6
  refine HEND.out _ _ ⟨PI.mk (k := k + 1) (by omega) HM7.out HP5.out (by rfl), ?_⟩
  simp only [mu]
  show n - (intOf (.int .i64 ((k : Int) + 1))).toNat < n - k
  simp [intOf]; omega
end Go.Proofs.Ytbfcdlfjlailjaa.Sym
