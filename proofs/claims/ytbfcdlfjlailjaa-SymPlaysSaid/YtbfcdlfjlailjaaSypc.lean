/-
  SymPlays: a round: a key of a key.
-/
import Derived.Test.YtbfcdlfjlailjaaSypqu
namespace Go.Proofs.Ytbfcdlfjlailjaa.Sym
open Go.RowKit
open Go.Proofs.Ytbfcdlfjlailjaa.Kit
open Go.Proofs.Ytbfcdlfjlailjaa.Oct
set_option linter.unusedVariables false

set_option maxRecDepth 1000000 in
set_option maxHeartbeats 8000000 in
theorem plays_k2 {w0 w wr : World} {A : Option Addr} {n c tb k : Nat} {x37 x39 x40 x41 : Value} {u : Nat → Value} {T : Tab} {R S : Nat → Prop} {J4 J5 J6 : Option Addr} {c4 c5 c6 : Nat} {K : List Fm} {B : List Sl} {M : List (List UInt8)} {x5 x6 : List Value} {st : List Ps}
    (hx : RdPs w A n c st) (hb0 : Below w.heap.size w w0) (hk : k < n) (hn60 : n ≤ 60) (hM : Mem w0 wr tb T R S J4 J5 J6 c4 c5 c6 K B M x5 x6) (hP : Pl k K B M T)
    {b o : Nat} {s : Ps} (hA : A = some ⟨b, o, none⟩) (hsb : -9223372036854775808 ≤ s.b ∧ s.b ≤ 9223372036854775807) (hbody : ∀ W, Below w.heap.size w W → RdB W W.heap.size s.A s.n s.c s.body)
    (p0 : wr.cell? ⟨b, o + k * 5, none⟩ = some (.int .i64 s.kind)) (p1 : wr.cell? ⟨b, o + k * 5 + 1, none⟩ = some (.int .i64 s.a)) (p2 : wr.cell? ⟨b, o + k * 5 + 2, none⟩ = some (.int .i64 s.b)) (p3 : wr.cell? ⟨b, o + k * 5 + 3, none⟩ = some (.string s.text)) (p4 : wr.cell? ⟨b, o + k * 5 + 4, none⟩ = some (.slice s.A s.n s.c))
    (hl : s.text.size ≤ 40 ∧ s.n ≤ 40) (hkd : Hid (s.kind = 2)) {Q : Exit → Act → World → Prop} (hend : ∀ a' w', PI w0 A n c tb x37 x39 x40 x41 a' w' ∧ mu n a' w' < n - k → Q .normal a' w') (hpan : ∀ c a a' w, Q (.panic c) a w → Q (.panic c) a' w) :
    Code.wp Try.prog playsBody Q ⟨FR A n c tb x37 x39 x40 x41 u (.slice J4 K.length c4) (.slice J5 B.length c5) (.slice J6 M.length c6) k, []⟩ wr := by
  subst hA
  obtain ⟨n4, hn4⟩ : ∃ q, q = K.length := ⟨_, rfl⟩
  obtain ⟨n5, hn5⟩ : ∃ q, q = B.length := ⟨_, rfl⟩
  obtain ⟨n6, hn6⟩ : ∃ q, q = M.length := ⟨_, rfl⟩
  rw [← hn4, ← hn5, ← hn6]
  have hlt : (k : Int) < (n : Int) := by omega
  have HM := Lib.hid hM
  have HP := Lib.hid hP
  have HX := Lib.hid hx
  have HB0 := Lib.hid hb0
  have HBODY := Lib.hid hbody
  have HEND := Lib.hid hend
  have HPAN := Lib.hid hpan
  have HN4 := Lib.hid hn4
  have HN5 := Lib.hid hn5
  have HN6 := Lib.hid hn6
  have h4k : n4 ≤ k := by rw [hn4]; exact hP.kl
  have h5k : n5 ≤ k := by rw [hn5]; exact hP.bl
  have h6k : n6 ≤ k := by rw [hn6]; exact hP.ml
  clear hM hP hx hb0 hbody hend hpan hn4 hn5 hn6
  simp only [FR]
  conv => arg 2; whnf
  have t1 : decide ((40 : Int) < (s.text.size : Int)) = false := decide_eq_false (by omega)
  have t2 : decide ((40 : Int) < (s.n : Int)) = false := decide_eq_false (by omega)
  obtain ⟨ta, hta31, hta⟩ := and31 s.a
  obtain ⟨ZV, hZ⟩ : ∃ q : Array Value, q = #[.int .u8 0, .int .u8 0, .int .u8 0, .int .u8 0, .int .u8 0, .int .u8 0, .int .u8 0, .int .u8 0, .int .u8 0, .int .u8 0, .int .u8 0, .int .u8 0, .int .u8 0, .int .u8 0, .int .u8 0, .int .u8 0] := ⟨_, rfl⟩
  have hz : ∀ w, (zeroValue 32).run Try.prog w = .ok (.agg ZV) w := fun w => by rw [hZ]; kernel_rfl
  have hzl : ZV.size = 16 := by rw [hZ]; rfl
  obtain ⟨KV, hKV⟩ : ∃ z, z = kv (mk 107 ta) := ⟨_, rfl⟩
  have hKs : KV.size = 16 := by rw [hKV, kv_size, mk_len]
  have HIK := Lib.hid (show (Try.prog.info? 32).map (·.size) = some KV.size from by rw [hKs]; kernel_rfl)
  have HPK := Lib.hid (show KV.all (·.oneCell') = true from by rw [hKV]; exact all_oneCell_toArray (bv_one _))
  have HZK := Lib.hid (show ZV.size = KV.size by rw [hzl, hKs])
  have HMK := Lib.hid (show ∀ W, Calls Try.prog 11 #[.int .u8 107, .int .i64 (ta : Int)] W fun e w' => e = .returned (.agg KV) ∧ Below W.heap.size W w' from fun W => by rw [hKV]; exact lmark_any 107 ta W (by omega))
  have HKV := Lib.hid hKV
  have HZV := Lib.hid hZ
  clear hKV hKs hZ
  obtain ⟨W1, hW1⟩ : ∃ q, q = wr.alloc (.cells s.arr 31) := ⟨_, rfl⟩
  have hb1 : Below wr.heap.size wr W1 := by rw [hW1]; exact below_of_new _ _
  have hg1 : W1.heap[wr.heap.size]? = some (.cells s.arr 31 (0, 0)) := by rw [hW1]; exact heap_alloc_new _ _
  have HW1 := Lib.hid (show wr.alloc (.cells #[.int .i64 s.kind, .int .i64 s.a, .int .i64 s.b, .string s.text, .slice s.A s.n s.c] 31) = W1 from hW1.symm)
  have HB1 := Lib.hid hb1
  have HG1 := Lib.hid hg1
  clear hW1 hb1 hg1
  have b0 : (s.kind == 0) = false := by rw [hkd.out]; rfl
  have b1 : (s.kind == 1) = false := by rw [hkd.out]; rfl
  have b2 : (s.kind == 2) = true := by rw [hkd.out]; rfl
  clear hkd
  have q3 : W1.cell? ⟨wr.heap.size, 3, none⟩ = some (.string s.text) := by rw [cell_of_row _ _ _ _ _ _ HG1.out]; rfl
  have q4 : W1.cell? ⟨wr.heap.size, 4, none⟩ = some (.slice s.A s.n s.c) := by rw [cell_of_row _ _ _ _ _ _ HG1.out]; rfl
  have q1 : W1.cell? ⟨wr.heap.size, 1, none⟩ = some (.int .i64 s.a) := by rw [cell_of_row _ _ _ _ _ _ HG1.out]; rfl
  go_wp2_with (rw [HW1.out])
  refine (HMK.out _).mono ?_
  rintro e w2 ⟨rfl, hb2⟩
  obtain ⟨W3, hW3⟩ : ∃ q, q = w2.alloc (.cells KV 32) := ⟨_, rfl⟩
  have hb3 : Below wr.heap.size wr W3 := by rw [hW3]; exact below_alloc (below_seq HB1.out hb2) _
  have hlt1 : wr.heap.size < W1.heap.size := (Array.getElem?_eq_some_iff.1 HG1.out).1
  have hg2 := (hb2.block wr.heap.size hlt1).trans HG1.out
  have hg3 : W3.heap[wr.heap.size]? = some (.cells s.arr 31 (0, 0)) := by rw [hW3, heap_alloc_old _ _ (Array.getElem?_eq_some_iff.1 hg2).1]; exact hg2
  have hk3 : W3.heap[w2.heap.size]? = some (.cells KV 32 (0, 0)) := by rw [hW3]; exact heap_alloc_new _ _
  have hlt2 : wr.heap.size < w2.heap.size := (Array.getElem?_eq_some_iff.1 hg2).1
  have hM3 := HM.out.below hb3
  have HB3 := Lib.hid hb3
  have HG3 := Lib.hid hg3
  have HK3 := Lib.hid hk3
  have HM3 := Lib.hid hM3
  have HGN := Lib.hid (show ∀ z, (w2.alloc (.cells z 32)).heap[w2.heap.size]? = some (.cells z 32 (0, 0)) from fun z => heap_alloc_new w2 _)
  have q0 : W3.cell? ⟨wr.heap.size, 0, none⟩ = some (.int .i64 s.kind) := by rw [cell_of_row _ _ _ _ _ _ hg3]; rfl
  have HW3 := Lib.hid (show w2.alloc (.cells KV 32) = W3 from hW3.symm)
  clear hb2 hb3 hg2 hg3 hk3 hM3 q1 q3 q4 hW3
  go_wp2_with (refine wpList_store_row (o := ⟨none, _, _, _, _, _⟩) rfl 32 (.tmp 9) (.tmp 61) rfl w2.heap.size KV rfl rfl 32 _ (HGN.out _) HIK.out HZK.out HPK.out ?_; rw [World.setRow_alloc_new, HW3.out]; apply Hid.out)
  clear hz
  refine Lib.hid ?_
  obtain ⟨PS, hPS⟩ : ∃ q, q = bsS s.body := ⟨_, rfl⟩
  obtain ⟨FA, hFA⟩ : ∃ q : Array Value, q = (fm1 s.text PS).cells.toArray := ⟨_, rfl⟩
  have hFs : FA.size = 19 := by rw [hFA]; rfl
  obtain ⟨FZ, hFZ⟩ : ∃ q : Array Value, q = zFm.cells := ⟨_, rfl⟩
  have hzF : ∀ w, (zeroValue 35).run Try.prog w = .ok (.agg FZ) w := fun w => by rw [hFZ]; kernel_rfl
  have hzK : ∀ w, (zeroValue 32).run Try.prog w = .ok (.agg ZV) w := fun w => by rw [HZV.out]; kernel_rfl
  have HFIA := Lib.hid (show (Try.prog.info? 35).map (·.size) = some FA.size from by rw [hFs]; exact infoFm19)
  have HFZA := Lib.hid (show FZ.size = FA.size from by rw [hFs, hFZ]; rfl)
  have HFOA := Lib.hid (show FA.all (·.oneCell') = true from by rw [hFA]; exact all_oneCell_toArray (fm1 s.text PS).one)
  have HBFA := Lib.hid (show Try.prog.built 35 [(0, .int .i64 1), (2, .string s.text), (3, .string PS)] = some FA from by rw [hFA]; exact built_fm1 _ _)
  have HBZ := Lib.hid (show Try.prog.built 32 [] = some ZV from by rw [HZV.out]; exact built_z16)
  have HZI := Lib.hid (show (Try.prog.info? 32).map (·.size) = some ZV.size from by rw [hzl]; kernel_rfl)
  have HZO := Lib.hid (show ZV.all (·.oneCell') = true from by rw [HZV.out]; exact kv_one z16)
  have HFA := Lib.hid hFA
  have HPS := Lib.hid hPS
  obtain ⟨W4, hW4⟩ : ∃ q, q = W3.alloc (.cells FA 35) := ⟨_, rfl⟩
  have hb4 : Below W3.heap.size W3 W4 := by rw [hW4]; exact below_of_new _ _
  have hs4 : W4.heap.size = W3.heap.size + 1 := by rw [hW4]; simp
  obtain ⟨WA, hWA⟩ : ∃ q, q = W4.alloc (.cells ZV 32) := ⟨_, rfl⟩
  have hb5 : Below W4.heap.size W4 WA := by rw [hWA]; exact below_of_new _ _
  have hs5 : WA.heap.size = W4.heap.size + 1 := by rw [hWA]; simp
  have hgF4 : W4.heap[W3.heap.size]? = some (.cells FA 35 (0, 0)) := by rw [hW4]; exact heap_alloc_new _ _
  have hgF5 : WA.heap[W3.heap.size]? = some (.cells FA 35 (0, 0)) := (hb5.block _ (by omega)).trans hgF4
  have hgZ5 : WA.heap[W4.heap.size]? = some (.cells ZV 32 (0, 0)) := by rw [hWA]; exact heap_alloc_new _ _
  have hM4 := HM3.out.room hb4 (Nat.le_refl _) (by omega)
  have hMA := hM4.room hb5 (Nat.le_refl _) (by omega)
  have hlt3 : wr.heap.size < W3.heap.size := (Array.getElem?_eq_some_iff.1 HG3.out).1
  have hlk3 : w2.heap.size < W3.heap.size := (Array.getElem?_eq_some_iff.1 HK3.out).1
  have hgS5 : WA.heap[wr.heap.size]? = some (.cells s.arr 31 (0, 0)) := (hb5.block _ (by omega)).trans ((hb4.block _ hlt3).trans HG3.out)
  have hgK5 : WA.heap[w2.heap.size]? = some (.cells KV 32 (0, 0)) := (hb5.block _ (by omega)).trans ((hb4.block _ hlk3).trans HK3.out)
  have hb35 : Below W3.heap.size W3 WA := below_seq hb4 hb5
  have HMA := Lib.hid hMA
  have HGFA := Lib.hid hgF5
  have HGZA := Lib.hid hgZ5
  have HGSA := Lib.hid hgS5
  have HGKA := Lib.hid hgK5
  have HS5 := Lib.hid (show W4.heap.size = W3.heap.size + 1 ∧ WA.heap.size = W3.heap.size + 2 ∧ wr.heap.size < W3.heap.size ∧ w2.heap.size < W3.heap.size from ⟨hs4, by omega, hlt3, hlk3⟩)
  have hw3 : Below w.heap.size w W3 := (below_seq HB0.out HM3.out.te.bel)
  have hwA : Below w.heap.size w WA := below_seq hw3 hb35
  have hcv3 : (convert 29 9 (.slice s.A s.n s.c)).run Try.prog W3 = .ok (.string PS) W3 := by rw [hPS]; exact conv_rd (HBODY.out W3 hw3)
  have hcvA : (convert 29 9 (.slice s.A s.n s.c)).run Try.prog WA = .ok (.string PS) WA := by rw [hPS]; exact conv_rd (HBODY.out WA hwA)
  have q3 : W3.cell? ⟨wr.heap.size, 3, none⟩ = some (.string s.text) := by rw [cell_of_row _ _ _ _ _ _ HG3.out]; rfl
  have q4 : W3.cell? ⟨wr.heap.size, 4, none⟩ = some (.slice s.A s.n s.c) := by rw [cell_of_row _ _ _ _ _ _ HG3.out]; rfl
  have r0 : WA.cell? ⟨wr.heap.size, 0, none⟩ = some (.int .i64 s.kind) := by rw [cell_of_row _ _ _ _ _ _ hgS5]; rfl
  have r3 : WA.cell? ⟨wr.heap.size, 3, none⟩ = some (.string s.text) := by rw [cell_of_row _ _ _ _ _ _ hgS5]; rfl
  have r4 : WA.cell? ⟨wr.heap.size, 4, none⟩ = some (.slice s.A s.n s.c) := by rw [cell_of_row _ _ _ _ _ _ hgS5]; rfl
  have HGN4 := Lib.hid (show ∀ z, (W3.alloc (.cells z 35)).heap[W3.heap.size]? = some (.cells z 35 (0, 0)) from fun z => heap_alloc_new W3 _)
  have HGN5 := Lib.hid (show ∀ z, (W4.alloc (.cells z 32)).heap[W4.heap.size]? = some (.cells z 32 (0, 0)) from fun z => heap_alloc_new W4 _)
  have HW4 := Lib.hid (show W3.alloc (.cells FA 35) = W4 from hW4.symm)
  have HWA := Lib.hid (show W4.alloc (.cells ZV 32) = WA from hWA.symm)
  have HFC19A := Lib.hid (show FA.size = 19 from hFs)
  have HNE4 := Lib.hid (hM4.ne (Nat.le_refl _))
  have HW0 := Lib.hid (show w0.heap.size ≤ W3.heap.size from HM3.out.te.bel.size)
  clear hFs hFZ hFA hPS hW4 hWA hb4 hb5 hb35 hs4 hs5 hgF4 hgF5 hgZ5 hgS5 hgK5 hM4 hMA hlt3 hlk3 hw3 hwA
  go_wp2_with (refine wpList_buildTo rfl 35 #[(0, .const (.int .i64 1)), (2, .tmp 80), (3, .tmp 83)] rfl (some 84) rfl FA (Eq.trans (congrArg (Try.prog.built _) (show _ = [(0, Value.int .i64 1), (2, .string s.text), (3, .string PS)] by kernel_rfl)) HBFA.out) ?_; apply Hid.out)
  refine Lib.hid ?_
  iterate 3 go_step
  refine wpList_store_row (o := ⟨none, _, _, _, _, _⟩) rfl 35 (.tmp 10) (.tmp 84) rfl W3.heap.size FA rfl rfl 35 _ (HGN4.out _) HFIA.out HFZA.out HFOA.out ?_
  rw [World.setRow_alloc_new, HW4.out]
  iterate 5 go_step
  refine wpList_buildTo rfl 32 #[] rfl (some 85) rfl ZV (Eq.trans (congrArg (Try.prog.built _) (show _ = [] by kernel_rfl)) HBZ.out) ?_
  iterate 3 go_step
  refine wpList_store_row (o := ⟨none, _, _, _, _, _⟩) rfl 32 (.tmp 11) (.tmp 85) rfl W4.heap.size ZV rfl rfl 32 _ (HGN5.out _) HZI.out rfl HZO.out ?_
  rw [World.setRow_alloc_new, HWA.out]
  obtain ⟨FV, hFV⟩ : ∃ q : Array Value, q = (fm2 (mk 107 ta) s.text).cells.toArray := ⟨_, rfl⟩
  have hFs : FV.size = 19 := by rw [hFV, List.size_toArray]; exact Fm.cells_len (mk_len _ _)
  have HFI := Lib.hid (show (Try.prog.info? 35).map (·.size) = some FV.size from by rw [hFs]; exact infoFm19)
  have HFZ := Lib.hid (show FZ.size = FV.size from by rw [hFs, HFZA.out, HFC19A.out])
  have HFZ2 := Lib.hid (show FA.size = FV.size from by rw [hFs, HFC19A.out])
  have HFO := Lib.hid (show FV.all (·.oneCell') = true from by rw [hFV]; exact all_oneCell_toArray (fm2 _ s.text).one)
  have HBF := Lib.hid (show Try.prog.built 35 [(0, .int .i64 2), (1, .agg KV), (2, .string s.text)] = some FV from by rw [hFV, HKV.out]; exact built_fm2 _ (mk_len _ _) _)
  have HFV := Lib.hid hFV
  have HFC19 := Lib.hid hFs
  obtain ⟨W5, hW5⟩ : ∃ q, q = WA.setRow W3.heap.size FV := ⟨_, rfl⟩
  have hM5 := HMA.out.set (gb_row (g := W3.heap.size) FV) (.inl (.inr rfl)) HW0.out (HM3.out.ne (Nat.le_refl _))
  rw [← hW5] at hM5
  have HM5 := Lib.hid hM5
  have HGF5 := Lib.hid (show W5.heap[W3.heap.size]? = some (.cells FV 35 (0, 0)) from by rw [hW5]; exact setRow_heap _ _ _ _ _ _ HGFA.out)
  have HGZ5 := Lib.hid (show W5.heap[W4.heap.size]? = some (.cells ZV 32 (0, 0)) from by rw [hW5, setRow_other _ _ _ _ (by have := HS5.out; omega)]; exact HGZA.out)
  have HGS5 := Lib.hid (show W5.heap[wr.heap.size]? = some (.cells s.arr 31 (0, 0)) from by rw [hW5, setRow_other _ _ _ _ (by have := HS5.out; omega)]; exact HGSA.out)
  have HGK5 := Lib.hid (show W5.heap[w2.heap.size]? = some (.cells KV 32 (0, 0)) from by rw [hW5, setRow_other _ _ _ _ (by have := HS5.out; omega)]; exact HGKA.out)
  have v3 : W5.cell? ⟨wr.heap.size, 3, none⟩ = some (.string s.text) := by rw [cell_of_row _ _ _ _ _ _ HGS5.out]; rfl
  have HW5 := Lib.hid (show WA.setRow W3.heap.size FV = W5 from hW5.symm)
  clear hFV hFs hW5 hM5
  go_wp2_with (refine wpList_load_row (o := ⟨some 89, _, _, _, _, _⟩) rfl 32 (.tmp 9) rfl w2.heap.size rfl 32 KV (0, 0) _ HGKA.out Try.underlying32 rfl HIK.out ?_; apply Hid.out)
  refine Lib.hid ?_
  go_wp2_with (refine wpList_buildTo rfl 35 #[(0, .const (.int .i64 2)), (1, .tmp 89), (2, .tmp 91)] rfl (some 92) rfl FV (Eq.trans (congrArg (Try.prog.built _) (show _ = [(0, Value.int .i64 2), (1, .agg KV), (2, .string s.text)] by kernel_rfl)) HBF.out) ?_; apply Hid.out)
  refine Lib.hid ?_
  go_wp2_with (refine wpList_store_row (o := ⟨none, _, _, _, _, _⟩) rfl 35 (.tmp 10) (.tmp 92) rfl W3.heap.size FV rfl rfl 35 _ HGFA.out HFI.out HFZ2.out HFO.out ?_; rw [HW5.out]; apply Hid.out)
  refine Lib.hid ?_
  go_wp2_with (refine wpList_load_row (o := ⟨some 94, _, _, _, _, _⟩) rfl 32 (.tmp 9) rfl w2.heap.size rfl 32 KV (0, 0) _ HGK5.out Try.underlying32 rfl HIK.out ?_; apply Hid.out)
  refine Lib.hid ?_
  have htx := HM5.out.te.derive (k := mk 107 ta) (lab := s.text) (mk_len _ _) (by omega) (by rw [HP.out.rel.klen, ← HN4.out]; omega)
  obtain ⟨N, hN⟩ : ∃ q, q = (onceT T (ogD (mk 107 ta) s.text)).1 := ⟨_, rfl⟩
  obtain ⟨T', hT'⟩ : ∃ q, q = (onceT T (ogD (mk 107 ta) s.text)).2 := ⟨_, rfl⟩
  obtain ⟨f, hf⟩ : ∃ q, q = fm2 (mk 107 ta) s.text := ⟨_, rfl⟩
  have hon := HP.out.rel.once (f := fm2 (mk 107 ta) s.text) (o := ogD (mk 107 ta) s.text) (.inr ⟨_, _, rfl, rfl⟩) (mk_len _ _)
  rw [← hN, ← hT', ← hf] at hon
  rw [← hN, ← hT', ← HKV.out] at htx
  have HFC := Lib.hid (show FV = f.cells.toArray ∧ f.of.length = 16 from ⟨by rw [HFV.out, hf], by rw [hf]; exact mk_len _ _⟩)
  clear hN hT' hf
  obtain ⟨GV, hGV⟩ : ∃ z, z = kv (mk 107 N) := ⟨_, rfl⟩
  have hGs : GV.size = 16 := by rw [hGV, kv_size, mk_len]
  have HGI := Lib.hid (show (Try.prog.info? 32).map (·.size) = some GV.size from by rw [hGs]; kernel_rfl)
  have HGO := Lib.hid (show GV.all (·.oneCell') = true from by rw [hGV]; exact all_oneCell_toArray (bv_one _))
  have HGZ := Lib.hid (show ZV.size = GV.size by rw [hzl, hGs])
  have HGV := Lib.hid hGV
  have HON := Lib.hid hon
  rw [← hGV] at htx
  clear hGV hGs hon
  go_wp2_with fail
  refine htx.mono ?_
  rintro e w6 ⟨rfl, hte6, hrw6⟩
  have hM6 := HM5.out.turn hte6 hrw6
  have hgF6 := (hrw6.2 W3.heap.size (.inl (.inr rfl))).trans HGF5.out
  have hgZ6 := (hrw6.2 W4.heap.size (.inr rfl)).trans HGZ5.out
  have hM7 := hM6.set (gb_row (g := W4.heap.size) GV) (.inr rfl) (by have := HW0.out; have := HS5.out; omega) HNE4.out
  obtain ⟨W7, hW7⟩ : ∃ q, q = w6.setRow W4.heap.size GV := ⟨_, rfl⟩
  rw [← hW7] at hM7
  have hgF7 : W7.heap[W3.heap.size]? = some (.cells FV 35 (0, 0)) := by rw [hW7, setRow_other _ _ _ _ (by have := HS5.out; omega)]; exact hgF6
  have hgG7 : W7.heap[W4.heap.size]? = some (.cells GV 32 (0, 0)) := by rw [hW7]; exact setRow_heap _ _ _ _ _ _ hgZ6
  have HW7 := Lib.hid (show w6.setRow W4.heap.size GV = W7 from hW7.symm)
  have HGZ6 := Lib.hid hgZ6
  have HM7 := Lib.hid hM7
  have HGF7 := Lib.hid hgF7
  have HGG7 := Lib.hid hgG7
  have HR7 := Lib.hid (show ∀ (j : Nat) (h : Fm), K[j]? = some h → ∃ g, J4 = some ⟨g, 0, none⟩ ∧ W7.rangeAt g (j * 19) h.cells ∧ g < W7.heap.size from fun j h hj => by
    have q := hM7.o4
    rw [← HN4.out] at q
    obtain ⟨g, e1, e2⟩ := own_range q HP.out.rel.len hj
    exact ⟨g, e1, e2, (q.lt g (by rw [ob_slice, e1]; rfl)).2⟩)
  clear htx hte6 hrw6 hM6 hgF6 hgZ6 hM7 hW7 hgF7 hgG7
  go_wp2_with (refine wpList_store_row (o := ⟨none, _, _, _, _, _⟩) rfl 32 (.tmp 11) (.tmp 97) rfl W4.heap.size GV rfl rfl 32 _ HGZ6.out HGI.out HGZ.out HGO.out ?_; rw [HW7.out])
  go_loopw [12, 107] (fun va vi wx => ∃ j : Nat, j ≤ n4 ∧ va = .int .i64 (sofar N j : Nat) ∧ vi = .int .i64 (j : Nat) ∧ Below W7.heap.size W7 wx) (fun _ vi _ => n4 - (intOf vi).toNat)
  case atStart => exact ⟨0, by omega, by rw [sofar_none HON.out.1]; rfl, rfl, Below.refl _ _⟩
  case round =>
    obtain ⟨j, hj, rfl, rfl, hbx⟩ := hrel
    have HBX := Lib.hid hbx
    clear hbx
    by_cases hlj : j < n4
    · have l1 : (j : Int) < (n4 : Int) := by omega
      obtain ⟨h, hh⟩ : ∃ h, K[j]? = some h := ⟨K[j]'(by rw [← HN4.out]; exact hlj), List.getElem?_eq_getElem _⟩
      obtain ⟨g, rfl, hrg, hgl⟩ := HR7.out j h hh
      have hrg' : wr.rangeAt g (j * 19) h.cells := fun i v hi => (HBX.out.cell (p := ⟨g, j * 19 + i, none⟩) hgl).trans (hrg i v hi)
      have hhl := HP.out.rel.len h (List.mem_of_getElem? hh)
      obtain ⟨FL, hFL⟩ : ∃ q, q = h.cells := ⟨_, rfl⟩
      have hF19 : FL.length = 19 := by rw [hFL]; exact Fm.cells_len hhl
      have heq := eq_fm h f hhl HFC.out.2
      rw [← hFL, ← HFC.out.1] at heq
      rw [← hFL] at hrg'
      have hgd := fun op a b w => guard_fm op a b FL.toArray FV w
      have HLI := Lib.hid (show (Try.prog.info? 35).map (·.size) = some FL.length from by rw [hF19]; exact infoFm19)
      have HLA := Lib.hid (show (Try.prog.info? 35).map (·.size) = some FL.toArray.size from by simp only [List.size_toArray]; rw [hF19]; exact infoFm19)
      have HLZ := Lib.hid (show FZ.size = FL.toArray.size from by rw [HFZ.out]; simp only [List.size_toArray]; rw [hF19, ← HFC19.out])
      have HLO := Lib.hid (show FL.toArray.all (·.oneCell') = true from all_oneCell_toArray (by rw [hFL]; exact h.one))
      obtain ⟨W8, hW8⟩ : ∃ q, q = wr.alloc (.cells FL.toArray 35) := ⟨_, rfl⟩
      have hb8 : Below wr.heap.size wr W8 := by rw [hW8]; exact below_of_new _ _
      have hgL8 : W8.heap[wr.heap.size]? = some (.cells FL.toArray 35 (0, 0)) := by rw [hW8]; exact heap_alloc_new _ _
      have hl3 : W3.heap.size < W7.heap.size := (Array.getElem?_eq_some_iff.1 HGF7.out).1
      have hgF8 : W8.heap[W3.heap.size]? = some (.cells FV 35 (0, 0)) := (hb8.block _ (by have := HBX.out.size; omega)).trans ((HBX.out.block _ hl3).trans HGF7.out)
      have HGL8 := Lib.hid hgL8
      have HGF8 := Lib.hid hgF8
      have HB8 := Lib.hid (below_seq HBX.out hb8)
      have HRG := Lib.hid hrg'
      have HHH := Lib.hid hh
      have HG8 := Lib.hid (show ∀ z, (wr.alloc (.cells z 35)).heap[wr.heap.size]? = some (.cells z 35 (0, 0)) from fun z => heap_alloc_new wr _)
      have HW8 := Lib.hid (show wr.alloc (.cells FL.toArray 35) = W8 from hW8.symm)
      clear hrg hrg' hgl hh hFL hF19 hW8 hb8 hgL8 hl3 hgF8 hhl
      rcases he : Fm.eq h f with _ | _
      · rw [he] at heq
        have HE := Lib.hid he
        clear he
        iterate 24 go_step
        refine wpList_load_mid (op := ⟨some 111, _, _, _, _, _⟩) rfl 35 (.tmp 110) rfl g (j * 19) rfl FL _ HRG.out Try.underlying35 rfl HLI.out ?_
        iterate 6 go_step
        refine wpList_store_row (o := ⟨none, _, _, _, _, _⟩) rfl 35 (.tmp 14) (.tmp 111) rfl wr.heap.size FL.toArray rfl rfl 35 _ (HG8.out _) HLA.out HLZ.out HLO.out ?_
        rw [World.setRow_alloc_new, HW8.out]
        iterate 5 go_step
        refine wpList_load_row (o := ⟨some 112, _, _, _, _, _⟩) rfl 35 (.tmp 14) rfl wr.heap.size rfl 35 FL.toArray (0, 0) _ HGL8.out Try.underlying35 rfl HLA.out ?_
        refine wpList_load_row (o := ⟨some 113, _, _, _, _, _⟩) rfl 35 (.tmp 10) rfl W3.heap.size rfl 35 FV (0, 0) _ HGF8.out Try.underlying35 rfl HFI.out ?_
        go_wp2_with fail
        go_roundw
        case rel => exact ⟨j + 1, by omega, by rw [sofar_miss HON.out.1 HHH.out (fun e => by have := Fm.eq_iff.2 e.symm; rw [HE.out] at this; cases this)], by go_num, HB8.out⟩
        case measure => simp [intOf]; omega
      · rw [he] at heq
        obtain rfl : h = f := Fm.eq_iff.1 he
        clear he
        iterate 24 go_step
        refine wpList_load_mid (op := ⟨some 111, _, _, _, _, _⟩) rfl 35 (.tmp 110) rfl g (j * 19) rfl FL _ HRG.out Try.underlying35 rfl HLI.out ?_
        iterate 6 go_step
        refine wpList_store_row (o := ⟨none, _, _, _, _, _⟩) rfl 35 (.tmp 14) (.tmp 111) rfl wr.heap.size FL.toArray rfl rfl 35 _ (HG8.out _) HLA.out HLZ.out HLO.out ?_
        rw [World.setRow_alloc_new, HW8.out]
        iterate 5 go_step
        refine wpList_load_row (o := ⟨some 112, _, _, _, _, _⟩) rfl 35 (.tmp 14) rfl wr.heap.size rfl 35 FL.toArray (0, 0) _ HGL8.out Try.underlying35 rfl HLA.out ?_
        refine wpList_load_row (o := ⟨some 113, _, _, _, _, _⟩) rfl 35 (.tmp 10) rfl W3.heap.size rfl 35 FV (0, 0) _ HGF8.out Try.underlying35 rfl HFI.out ?_
        go_wp2_with fail
        go_roundw
        case rel => exact ⟨j + 1, by omega, by rw [sofar_hit HON.out.1 HHH.out]; go_num, by go_num, HB8.out⟩
        case measure => simp [intOf]; omega
    · obtain rfl : j = n4 := by omega
      have hM8 := HM7.out.below HBX.out
      have l3 : W3.heap.size < W7.heap.size := (Array.getElem?_eq_some_iff.1 HGF7.out).1
      have l4 : W4.heap.size < W7.heap.size := (Array.getElem?_eq_some_iff.1 HGG7.out).1
      have HGF8 := Lib.hid ((HBX.out.block _ l3).trans HGF7.out)
      have HGG8 := Lib.hid ((HBX.out.block _ l4).trans HGG7.out)
      have HM8 := Lib.hid hM8
      have hpos := HON.out.1.pos
      have hle := HON.out.1.le
      rw [← HN4.out] at hle
      have eqg : ∀ w, (Op.equalIn 10000 32 (.agg GV) (.agg GV)).run Try.prog w = .ok true w := fun w => by rw [HGV.out]; exact (run_equalIn_bytes w 9998 32 5 16 Try.underlying32 Try.underlying5 (fun w => by kernel_rfl) _ _ (mk_len _ _) (mk_len _ _)).trans (by simp)
      clear hM8 l3 l4
      by_cases hNn : N ≤ j
      · have hsf : sofar N j = N := by rw [sofar, if_pos hNn]
        have hN0 : ((N : Int) == 0) = false := by simp; omega
        have HMKN := Lib.hid (show ∀ W, Calls Try.prog 11 #[.int .u8 107, .int .i64 (N : Int)] W fun e w' => e = .returned (.agg GV) ∧ Below W.heap.size W w' from fun W => by rw [HGV.out]; exact lmark_any 107 N W (by omega))
        have HP8 := Lib.hid (show Pl (k + 1) K B M T' from by
          have q := HON.out
          rw [if_pos (by rw [← HN4.out]; exact hNn)] at q
          exact ⟨q.2.1, q.2.2.1.trans HP.out.bs, q.2.2.2.trans HP.out.sm, HP.out.nd, Nat.le_succ_of_le HP.out.kl, Nat.le_succ_of_le HP.out.bl, Nat.le_succ_of_le HP.out.ml⟩)
        rw [hsf]
        clear hsf hNn hle hpos
        go_wp2_with fail
        refine wp_region_held_drew (S := fun w' => w'.heap[W4.heap.size]? = some (.cells GV 32 (0, 0))) (by kernel_rfl) HGG8.out (fun hHeld => ?_)
        refine wpAnyH_take (i := 0) (v := .agg GV) rfl (by kernel_rfl) (by kernel_rfl) (by kernel_rfl) (fun c a w h => HPAN.out c _ _ w h) (Or.inl ⟨by rfl, fun wq hSw => by (exact run_load_arr hSw Try.underlying32 HGI.out rfl rfl)⟩) (by assumption) ?_
        go_simp
        refine wpAnyH_take (i := 1) (v := .int .i64 (N : Nat)) rfl (by kernel_rfl) (by kernel_rfl) (by kernel_rfl) (fun c a w h => HPAN.out c _ _ w h) (Or.inl ⟨by rfl, fun wq hSw => by go_simp⟩) (by assumption) ?_
        go_simp
        refine wpAnyH_ready (rs := [2]) (by kernel_rfl) (by simp) ?_
        refine AllReadyH.cons rfl (fun K hK => ?_) AllReadyH.nil
        go_simp
        go_at_call 11
        refine (HMKN.out _).mono ?_
        rintro e w9 ⟨rfl, hb9⟩
        have hg9 := (hb9.block W4.heap.size (by rw [heap_drew]; exact (Array.getElem?_eq_some_iff.1 HGG8.out).1)).trans HGG8.out
        refine hK.out _ _ hg9 (fun hHeld2 => ?_)
        clear hK K
        refine wpAnyH_take (i := 3) (v := .bool false) rfl (by kernel_rfl) (by kernel_rfl) (by kernel_rfl) (fun c a w h => HPAN.out c _ _ w h) (Or.inl ⟨by rfl, fun wq hSw => by go_simp⟩) (by assumption) ?_
        go_simp
        refine wpAnyH_done (by kernel_rfl) ?_ _
        have HM9 := Lib.hid (HM8.out.below (below_seq (below_of_drew ⟨1, rfl⟩ _) hb9))
        clear hb9 hg9 hHeld hHeld2
        have hkeys : Calls Try.prog 20 #[.pointer (some ⟨tb, 0, none⟩)] _ _ := HM9.out.te.keys
        rw [HP8.out.rel.klen, ← HN4.out] at hkeys
        have hboxes : Calls Try.prog 21 #[.pointer (some ⟨tb, 0, none⟩)] _ _ := HM9.out.te.boxes
        rw [HP8.out.bs, ← HN5.out] at hboxes
        go_wp2_with fail
        refine hkeys.mono ?_
        rintro e w8 ⟨rfl, rfl⟩
        clear hkeys
        go_wp2_with fail
        refine hboxes.mono ?_
        rintro e w8 ⟨rfl, rfl⟩
        clear hboxes
        go_wp2_with fail
        have e4 := HN4.out
        subst e4
        have e5 := HN5.out
        have e6 := HN6.out
        subst e5 e6
        refine HEND.out _ _ ⟨PI.mk (k := k + 1) (by omega) HM9.out HP8.out (by rfl), ?_⟩
        simp only [mu]
        show n - (intOf (.int .i64 ((k : Int) + 1))).toNat < n - k
        simp [intOf]; omega
      · have hN1 : N = j + 1 := by omega
        have hsf : sofar N j = 0 := by rw [sofar, if_neg hNn]
        obtain ⟨i0, hi, hz0, hz1, hz2⟩ := info_parts infoFm
        obtain ⟨WN, hWN⟩ : ∃ q, q = wr.alloc (.cells FV 35) := ⟨_, rfl⟩
        have hbN : Below wr.heap.size wr WN := by rw [hWN]; exact below_of_new _ _
        have HMN := Lib.hid (HM8.out.below hbN)
        have HGN2 := Lib.hid (show WN.heap[wr.heap.size]? = some (.cells FV 35 (0, 0)) from by rw [hWN]; exact heap_alloc_new _ _)
        have HON4 := Lib.hid (show WN.ownsRow w0.heap.size 35 19 (.slice J4 j c4) j (cellsM K) from by rw [HN4.out]; exact HMN.out.o4)
        have HSN := Lib.hid (show w0.heap.size ≤ WN.heap.size ∧ WN.heap.size = wr.heap.size + 1 from ⟨HMN.out.te.bel.size, by rw [hWN]; simp⟩)
        have HWN := Lib.hid (show wr.alloc (.cells FV 35) = WN from hWN.symm)
        have HF1 := Lib.hid (show ∀ u ∈ FV.toList, u.oneCell' = true from by rw [HFC.out.1]; exact f.one)
        have HFL9 := Lib.hid (show FV.toList.length = 1 * 19 from by rw [Array.length_toList, HFC19.out])
        have HBS := Lib.hid (fill_fm FV HFC19.out i0.size hz1)
        have HS1 := Lib.hid (show ¬ 1 * i0.size > 2 ^ 24 by rw [hz1]; omega)
        have HS2 := Lib.hid (show ¬ 1 * i0.size = 0 by rw [hz1]; omega)
        have HGGN := Lib.hid ((hbN.block _ (Array.getElem?_eq_some_iff.1 HGG8.out).1).trans HGG8.out)
        have HL5 := Lib.hid (show j + 1 = (K ++ [f]).length by rw [HN4.out]; simp)
        have HP8 := Lib.hid (show Pl (k + 1) (K ++ [f]) B M T' from by
          have q := HON.out
          rw [if_neg (by rw [← HN4.out]; omega)] at q
          exact ⟨q.2.1, q.2.2.1.trans HP.out.bs, q.2.2.2.trans HP.out.sm, HP.out.nd, by rw [← HL5.out]; omega, Nat.le_succ_of_le HP.out.bl, Nat.le_succ_of_le HP.out.ml⟩)
        have HMKN := Lib.hid (show ∀ W, Calls Try.prog 11 #[.int .u8 107, .int .i64 ((j + 1 : Nat) : Int)] W fun e w' => e = .returned (.agg GV) ∧ Below W.heap.size W w' from fun W => by rw [HGV.out, hN1]; exact lmark_any 107 (j + 1) W (by omega))
        rw [hsf]
        clear hsf hNn hle hpos hN1 hWN hbN
        go_wp2_with (first
          | (refine wpList_load_row (o := ⟨some 121, _, _, _, _, _⟩) rfl 35 (.tmp 10) rfl W3.heap.size rfl 35 FV (0, 0) _ HGF8.out Try.underlying35 rfl HFI.out ?_)
          | (refine wpList_buildSlice (o := ⟨some 122, _, _, _, _, _⟩) rfl 26 35 1 #[(0, .tmp 121)] rfl FV i0 zFm Try.underlying26 hi hz0 HS1.out HS2.out (Eq.trans (congrArg (Instr.fill _ _) (show _ = [(0, Value.agg FV)] by kernel_rfl)) HBS.out) ?_; rw [HWN.out])
          | (at_builtin; go_loud (refine wpList_append_lies _ rfl (.tmp 120) (.tmp 122) 26 rfl w0.heap.size 35 i0 _ 19 56 Try.underlying26 hi hz0 hz1 hz2 rfl (by omega) (.slice J4 j c4) j (cellsM K) (by rfl) HON4.out ⟨wr.heap.size, 0, none⟩ 1 1 FV.toList (by rfl) HFL9.out (World.news_of_block HGN2.out) HF1.out (by omega) (by unfold maxLen; omega) (by omega) HSN.out.1 WN.heap.size rfl ?_); intro gg cap w5 hown5 hgrow hat hlt5))
        rw [ob_slice] at hgrow hat
        have hat' : ob J4 = some gg ∨ WN.heap.size ≤ gg := by
          rcases hat with h1 | h1
          · first | exact .inl h1 | exact .inl h1.symm
          · first | exact .inr h1 | (right; omega) | exact .inr (Nat.le_of_eq h1.symm)
        have HM5 := Lib.hid (HMN.out.key (f := f) (by rw [← HN4.out]; rw [show FV.toList = f.cells from by rw [HFC.out.1]] at hown5; exact hown5) hgrow hat')
        have HGG5 := Lib.hid ((hgrow.block W4.heap.size (Array.getElem?_eq_some_iff.1 HGGN.out).1 (fun e => HNE4.out.1 e.symm)).trans HGGN.out)
        clear hgrow hat hat' hown5 hlt5
        refine wp_region_held_drew (S := fun w' => w'.heap[W4.heap.size]? = some (.cells GV 32 (0, 0))) (by kernel_rfl) HGG5.out (fun hHeld => ?_)
        refine wpAnyH_take (i := 0) (v := .agg GV) rfl (by kernel_rfl) (by kernel_rfl) (by kernel_rfl) (fun c a w h => HPAN.out c _ _ w h) (Or.inl ⟨by rfl, fun wq hSw => by (exact run_load_arr hSw Try.underlying32 HGI.out rfl rfl)⟩) (by assumption) ?_
        go_simp
        refine wpAnyH_take (i := 1) (v := .int .i64 ((j + 1) : Nat)) rfl (by kernel_rfl) (by kernel_rfl) (by kernel_rfl) (fun c a w h => HPAN.out c _ _ w h) (Or.inl ⟨by rfl, fun wq hSw => by go_simp⟩) (by assumption) ?_
        go_simp
        refine wpAnyH_ready (rs := [2]) (by kernel_rfl) (by simp) ?_
        refine AllReadyH.cons rfl (fun K hK => ?_) AllReadyH.nil
        go_simp
        go_at_call 11
        refine (HMKN.out _).mono ?_
        rintro e w9 ⟨rfl, hb9⟩
        have hg9 := (hb9.block W4.heap.size (by rw [heap_drew]; exact (Array.getElem?_eq_some_iff.1 HGG5.out).1)).trans HGG5.out
        refine hK.out _ _ hg9 (fun hHeld2 => ?_)
        clear hK K
        refine wpAnyH_take (i := 3) (v := .bool false) rfl (by kernel_rfl) (by kernel_rfl) (by kernel_rfl) (fun c a w h => HPAN.out c _ _ w h) (Or.inl ⟨by rfl, fun wq hSw => by go_simp⟩) (by assumption) ?_
        go_simp
        refine wpAnyH_done (by kernel_rfl) ?_ _
        have HM9 := Lib.hid (HM5.out.below (below_seq (below_of_drew ⟨1, rfl⟩ _) hb9))
        clear hb9 hg9 hHeld hHeld2
        have hkeys : Calls Try.prog 20 #[.pointer (some ⟨tb, 0, none⟩)] _ _ := HM9.out.te.keys
        rw [HP8.out.rel.klen, ← HL5.out] at hkeys
        have hboxes : Calls Try.prog 21 #[.pointer (some ⟨tb, 0, none⟩)] _ _ := HM9.out.te.boxes
        rw [HP8.out.bs, ← HN5.out] at hboxes
        go_wp2_with fail
        refine hkeys.mono ?_
        rintro e w8 ⟨rfl, rfl⟩
        clear hkeys
        go_wp2_with fail
        refine hboxes.mono ?_
        rintro e w8 ⟨rfl, rfl⟩
        clear hboxes
        go_wp2_with fail
        have e5 := HN5.out
        have e6 := HN6.out
        subst e5 e6
        refine HEND.out _ _ ⟨PI.mk (k := k + 1) (by omega) HM9.out HP8.out (by rw [← HL5.out]; rfl), ?_⟩
        simp only [mu]
        show n - (intOf (.int .i64 ((k : Int) + 1))).toNat < n - k
        simp [intOf]; omega
end Go.Proofs.Ytbfcdlfjlailjaa.Sym
