/-
  base: the document's example.
-/
import Derived.Test.YtlngbpipmaaedaaBam
namespace Go.Proofs.Ytlngbpipmaaedaa.Ba
open Go.RowKit
open Go.Proofs.Ytlngbpipmaaedaa.Kit
open Go.Maps
set_option linter.unusedVariables false

/-- a row that is loaded whole, at an operation that a test guards -/
theorem wpList_load_row_g {P : Program} {ops : Array Oper} {rest : List Oper} {o : Oper} {a : Act} {w : World} {Q : Exit → Act → World → Prop} (hgd : Region.wanted o (yielded ops a.tmps) = true) (ty : TypeId) (x : Operand) (ho : o.op = .load ty x)
    (g : Nat) (hx : a.eval x = .pointer (some ⟨g, 0, none⟩)) (t : TypeId) (cs : Array Value) (fr : Nat × Nat) (d : TypeDesc) (hg : w.heap[g]? = some (.cells cs t fr))
    (hu : P.underlying ty = some d) (hd : (match d with | .struct _ | .array _ _ => true | _ => false) = true) (hi : (P.info? ty).map (·.size) = some cs.size)
    (h : wpList P ops Q rest (a.put o.dst (.agg cs)) w) : wpList P ops Q (o :: rest) a w :=
  wpList_step fun _ hK => by
    rw [if_pos hgd]
    exact wp_load_row ty x ho g hx t cs fr d hg hu hd hi (hK _ _ h)
theorem Bs.place' {w0 w : World} {bb : Nat} {L : List Us} {R : Nat → Prop} (h : Bs w0 w bb L R) : ∃ A c, BsAt w bb w0.heap.size A c L := by
  obtain ⟨A, c, h1, _⟩ := h
  exact ⟨A, c, h1⟩
set_option maxRecDepth 100000 in
set_option maxHeartbeats 4000000 in
theorem alive_any (w : World) : Calls Try.prog 6 #[] w fun e w' => e = .returned (.bool true) ∧ Below w.heap.size w w' := by
  obtain ⟨AV, hAV⟩ : ∃ z, z = ann.arr := ⟨_, rfl⟩
  have hA20 : AV.size = 20 := by rw [hAV]; rfl
  have HBU := Lib.hid (show Try.prog.built 30 [(0, .string annS), (2, .int .i64 60)] = some AV from by rw [hAV]; exact ann_built)
  obtain ⟨ZV, hZ⟩ : ∃ q, q = ZU := ⟨_, rfl⟩
  have hz30 : ∀ w, (zeroValue 30).run Try.prog w = .ok (.agg ZV) w := fun w => by rw [hZ]; exact zU_zero w
  have HI := Lib.hid (show (Try.prog.info? 30).map (·.size) = some AV.size from by rw [hA20]; exact infoU)
  have HZ2 := Lib.hid (show ZV.size = AV.size from by rw [hA20, hZ]; rfl)
  have HON := Lib.hid (show AV.all (·.oneCell') = true from by rw [hAV]; exact all_oneCell_toArray (Us.one _))
  have HAV := Lib.hid hAV
  obtain ⟨S, hS⟩ : ∃ z, z = annS := ⟨_, rfl⟩
  have HS := Lib.hid hS
  have hlit : (⟨#[97, 110, 110]⟩ : ByteArray) = S := by rw [hS]; rfl
  have HLIT := Lib.hid hlit
  clear hAV hA20 hZ hS hlit
  go_enter Try.func6, Try.ntmps6
  go_wp2_with fail
  refine (new_any w).mono ?_
  rintro e w1 ⟨bb, rfl, h1⟩
  go_wp2_with fail
  refine (newbook_any w1).mono ?_
  rintro e w2 ⟨kb, rfl, hkb, h2⟩
  obtain ⟨mb, hT⟩ := Two.start h1 h2 hkb
  have HT := Lib.hid hT
  clear h1 h2 hT hkb
  go_wp2_with (refine wpList_buildTo rfl 30 #[(0, .const (.string ⟨#[97, 110, 110]⟩)), (2, .const (.int .i64 60))] rfl (some 20) rfl AV (Eq.trans (congrArg (Try.prog.built _) (show _ = [(0, Value.string annS), (2, Value.int .i64 60)] by kernel_rfl)) HBU.out) ?_)
  have ha := add_any (u := ann) HT.out.bs (by decide) rfl (by decide)
  rw [add1, ← HAV.out] at ha
  refine ha.mono ?_
  rintro e w3 ⟨rfl, hb3, hr3⟩
  have HT3 := Lib.hid (HT.out.base hb3 hr3)
  clear ha hb3 hr3
  go_wp2_with fail
  obtain ⟨A, c, h3⟩ := HT3.out.bs.place'
  have hg := get_any h3 (by decide) annS
  rw [get1] at hg
  simp only [← HAV.out] at hg
  refine hg.mono ?_
  rintro e w4 ⟨rfl, hb4⟩
  obtain ⟨W5, hW5⟩ : ∃ q, q = w4.alloc (.cells AV 30) := ⟨_, rfl⟩
  have hb5 : Below w4.heap.size w4 W5 := by rw [hW5]; exact below_of_new _ _
  have HR5 := Lib.hid (show W5.heap[w4.heap.size]? = some (.cells AV 30 (0, 0)) from by rw [hW5]; exact heap_alloc_new _ _)
  have HG5 := Lib.hid (show ∀ z, (w4.alloc (.cells z 30)).heap[w4.heap.size]? = some (.cells z 30 (0, 0)) from fun z => heap_alloc_new w4 _)
  have HW5 := Lib.hid (show w4.alloc (.cells AV 30) = W5 from hW5.symm)
  have hT5 := HT3.out.below (below_seq hb4 hb5)
  -- the new row is beside them
  have hT5' : Two w W5 bb kb mb 0 [ann] (.map []) (fun b => b = w4.heap.size) := by
    have hx := (HT3.out.below hb4)
    have hl : w4.heap.size < W5.heap.size := (Array.getElem?_eq_some_iff.1 HR5.out).1
    exact ⟨hx.bs.add hb5 (fun b hb => by
      rcases hb with rfl | rfl | rfl
      · exact .inr ⟨Nat.le_refl _, hl⟩
      · exact .inl (.inr (.inl rfl))
      · exact .inl (.inr (.inr rfl))), hT5.bk, hT5.lt, fun b hb => by subst hb; have := hx.bk.own.lt; omega⟩
  obtain ⟨tb, htb⟩ : ∃ q, q = w4.heap.size := ⟨_, rfl⟩
  have hr5 := HR5.out
  have HT5 := Lib.hid hT5'
  clear hg hb4 hb5 hW5 hT5 hT5' h3
  go_wp2_with (refine wpList_store_row (o := ⟨none, _, _, _, _, _⟩) rfl 30 (.tmp 4) (.tmp 25) rfl w4.heap.size AV rfl rfl 30 _ (HG5.out _) HI.out HZ2.out HON.out ?_; rw [World.setRow_alloc_new, HW5.out]; apply Hid.out)
  refine Lib.hid ?_
  have hT5 := HT5.out
  rw [← htb] at hr5 hT5 ⊢
  have HR5B := Lib.hid hr5
  have HT5B := Lib.hid hT5
  clear htb hr5 hT5 HR5 HT5 HG5 HW5
  go_wp2_with fail
  obtain ⟨R2, hk, hback⟩ := HT5B.out.book
  have hs := set_any hk (by decide) 5 9 (by decide) (s := annS) (by decide)
  rw [set1] at hs
  refine hs.mono ?_
  rintro e w6 ⟨rfl, hk6, hr6⟩
  obtain ⟨hT6, hrw6⟩ := hback w6 _ _ hk6 hr6
  have HT6 := Lib.hid hT6
  have HR6 := Lib.hid (show w6.heap[tb]? = some (.cells AV 30 (0, 0)) from (hrw6.2 tb rfl).trans HR5B.out)
  clear hs hk hback hk6 hr6 hT6 hrw6
  go_wp2_with fail
  have hf := find_any HT6.out.bk 8 (s := annS) (by decide)
  rw [find8] at hf
  refine hf.mono ?_
  rintro e w7 ⟨rfl, rfl⟩
  clear hf
  go_wp2_with fail
  have hf := find_any HT6.out.bk 9 (s := annS) (by decide)
  rw [find9] at hf
  refine hf.mono ?_
  rintro e w7 ⟨rfl, rfl⟩
  clear hf
  have q17 : w6.cell? ⟨tb, 17, none⟩ = some (.int .i64 60) := (us_row (u := ann) (by rw [← HAV.out]; exact HR6.out) rfl).2.2.1
  go_wp2_with (refine wpList_load_row_g (o := ⟨some 52, _, _, _, _, _⟩) (by rfl) 30 (.tmp 4) rfl tb rfl 30 AV (0, 0) _ HR6.out Try.underlying30 rfl HI.out ?_)
  have ha := add_any (u := ann) HT6.out.bs (by decide) rfl (by decide)
  rw [add2, ← HAV.out] at ha
  refine ha.mono ?_
  rintro e w7 ⟨rfl, hb7, hr7⟩
  have HT7 := Lib.hid (HT6.out.base hb7 hr7)
  clear ha hb7 hr7 q17
  go_wp2_with fail
  obtain ⟨A7, c7, h7⟩ := HT7.out.bs.place'
  refine (names_any h7 (by decide)).mono ?_
  rintro e w8 ⟨A8, c8, rfl, _, hb8⟩
  have HT8 := Lib.hid (HT7.out.below hb8)
  clear h7 hb8
  go_wp2_with fail
  have hd := drop_any HT8.out.bs (by decide) annS
  rw [drop1] at hd
  refine hd.mono ?_
  rintro e w9 ⟨rfl, hb9, _⟩
  have HB9 := Lib.hid hb9.bel
  go_wp2
  go_ret
  exact ⟨rfl, HB9.out⟩
end Go.Proofs.Ytlngbpipmaaedaa.Ba
