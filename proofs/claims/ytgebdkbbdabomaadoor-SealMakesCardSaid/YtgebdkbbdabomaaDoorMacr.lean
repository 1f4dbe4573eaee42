/-
  THE CONTRACTS of the document's Derive and Text, of layer 4: bytes appended to those of a string.
-/
import Derived.Test.YtgebdkbbdabomaaDoorMacq
import Derived.Test.YtgebdkbbdabomaaDoorMach
import Derived.ArgAppend
import Derived.Laws.IdiomCopy
import Derived.StillTailTactics
namespace Go.Proofs.YtgebdkbbdabomaaDoor.Sha
open Go.RowKit
open Go.Proofs.YtgebdkbbdabomaaDoor.Kit
open Go.Proofs.YtgebdkbbdabomaaDoor.Oct
open Go.Proofs.YtgebdkbbdabomaaDoor.Mac
open Go.Proofs.YtgebdkbbdabomaaDoor.Aes (row row_at row_len row_of at_ upto upto_zero upto_all upto_ge upto_set)
set_option linter.unusedVariables false

section
variable {P : Program} {w : World}
theorem setCells_bel {B g : Nat} {w0 : World} (hg : B ≤ g) (vs : List Value) : ∀ (w : World) (o : Nat), Below B w0 w → Below B w0 (w.setCells g o vs) := by
  induction vs with
  | nil => intro w o hb; exact hb
  | cons v r ih => intro w o hb; exact ih _ (o + 1) (hb.setCell hg _)
theorem setCells_size' (vs : List Value) : ∀ (g o : Nat) (w : World), (w.setCells g o vs).heap.size = w.heap.size := by
  induction vs with
  | nil => intro g o w; rfl
  | cons v r ih => intro g o w; exact (ih _ _ _).trans (by simp [World.setCell])
/-- append onto a slice of which the cells are known, and that its spare ones may be written -/
theorem wpList_app_came {ops : Array Oper} {rest : List Oper} {o : Oper} {a : Act} {Q : Exit → Act → World → Prop} (hgd : o.guard = none) (s x : Operand) (t : TypeId)
    (ho : o.op = .call { callee := .builtin .append, args := #[s, x], argTypes := #[t, t] })
    (e : TypeId) (i : TypeInfo) (z : Value) (bytes : Nat) (ht : P.underlying t = some (.slice e)) (hi : P.info? e = some i) (hz : i.zero = some z)
    (hsize : i.size = 1) (hby : i.bytes = bytes) (hzs : z.cells.size = 1)
    (g cap n : Nat) (xs : List Value) (hs : a.eval s = .slice (some ⟨g, 0, none⟩) n cap) (hxl : xs.length = n) (hcap : n ≤ cap) (hcm : cap ≤ 9223372036854775807) (hcells : ∀ j u, xs[j]? = some u → w.cell? ⟨g, j, none⟩ = some u)
    (hspare : ∀ j, n ≤ j → j < cap → (w.cell? ⟨g, j, none⟩).isSome = true ∧ w.frozen? ⟨g, j, none⟩ = false) (hgs : g < w.heap.size)
    (B : Nat) (A : Option Addr) (m c : Nat) (news : List Value) (hx : a.eval x = .slice A m c) (hr : Rd w B A m c news) (h1 : ∀ u ∈ news, u.oneCell' = true) (hm : 0 < m)
    (h63 : n + m ≤ 140737488355328) (hbytes : (n + m) * bytes ≤ 140737488355328) (w0 : World) (hb0 : Below w0.heap.size w0 w) (hbg : w0.heap.size ≤ g)
    (h : ∀ A' c' w', Rd w' w'.heap.size A' (n + m) c' (xs ++ news) → Below w0.heap.size w0 w' → wpList P ops Q rest (a.put o.dst (.slice A' (n + m) c')) w') : wpList P ops Q (o :: rest) a w := by
  refine wpList_plain hgd fun K hK => ?_
  obtain ⟨b, off, rfl, hbB, hnc⟩ := hr.2.2.2 hm
  have hnews : ∀ j u, news[j]? = some u → w.cell? ((⟨b, off, none⟩ : Addr).add j) = some u := fun j u h => by rw [add_off]; exact hnc j u h
  have hnl : news.length = m * i.size := by rw [hr.1, hsize]; omega
  have hnm : news.length = m := hr.1
  have hlen : (xs ++ news).length = n + m := by rw [List.length_append, hxl, hnm]
  unfold Oper.wp execOp
  by_cases hroom : n + m ≤ cap
  · have hrun := run_append_room_cells (P := P) w t o.type e i ht hi g 0 n cap ⟨b, off, none⟩ m c news hnl hnews h1 hroom (fun j hj => by rw [hsize]; exact (hspare (0 + n * 1 + j) (by omega) (by omega)).1) (fun j hj => by rw [hsize]; exact (hspare (0 + n * 1 + j) (by omega) (by omega)).2)
    simp only [ho, resolve, invoke, builtin, Sem.run_bind, Sem.run_pure, Result.andThen_ok, List.map_toArray, List.map_cons, List.map_nil, hs, hx, hrun]
    rw [hsize, show 0 + n * 1 = n from by omega]
    refine hK _ _ (h _ _ _ ⟨hlen, hroom, hcm, fun _ => ⟨g, 0, rfl, by rw [setCells_size']; exact hgs, fun j u hu => ?_⟩⟩ (setCells_bel hbg _ _ _ hb0))
    rw [Nat.zero_add]
    by_cases hj : j < n
    · rw [List.getElem?_append_left (by omega)] at hu
      rw [World.cell?_setCells_out g news n w ⟨g, j, none⟩ (fun _ _ => Or.inl hj)]
      exact hcells j u hu
    · rw [List.getElem?_append_right (by omega), hxl] at hu
      have hj2 : j - n < news.length := (List.getElem?_eq_some_iff.1 hu).1
      have := World.cell?_setCells_in g news n w (fun q hq => (hspare (n + q) (by omega) (by omega)).1) (j - n) hj2
      rw [show n + (j - n) = j from by omega] at this
      rw [this, ← hu, List.getElem?_eq_getElem hj2]
  · obtain ⟨v', w', hrun, hown, hg⟩ := run_append_arg_grows (P := P) w t o.type e i z 1 bytes ht hi hz hsize hby hzs (by omega) ⟨g, 0, none⟩ n cap xs (by omega) (fun j u h => by rw [add_off, Nat.zero_add]; exact hcells j u h) ⟨b, off, none⟩ m c news (by omega) hnews (by omega) (by unfold maxLen; omega) hbytes
    obtain ⟨A', c', rfl⟩ := own_form hown
    simp only [ho, resolve, invoke, builtin, Sem.run_bind, Sem.run_pure, Result.andThen_ok, List.map_toArray, List.map_cons, List.map_nil, hs, hx, hrun]
    exact hK _ _ (h _ _ _ (Rd.of_own hown) (hb0.grown hg hb0.size (fun k hk => by cases hk)))
end
/-- the bytes of a string, as they were converted: their cells, and the spare ones -/
theorem str_cells (w : World) (s : ByteArray) : ∀ j u, ((strL s).map bv)[j]? = some u → (strW w s).cell? ⟨w.heap.size, j, none⟩ = some u := fun j u hu => by
  have hj : j < s.size := by have := (List.getElem?_eq_some_iff.1 hu).1; rw [List.length_map, strL_len] at this; exact this
  rw [Lib.bytesWorld_cell w _ s j hj, ← hu, List.getElem?_map, List.getD_eq_getElem?_getD]
  rw [show s.data.toList = strL s from rfl, List.getElem?_eq_getElem (by rw [strL_len]; exact hj)]
  rfl
theorem str_spare (w : World) (s : ByteArray) : ∀ j, s.size ≤ j → j < grownCap w s.size 0 5 → ((strW w s).cell? ⟨w.heap.size, j, none⟩).isSome = true ∧ (strW w s).frozen? ⟨w.heap.size, j, none⟩ = false := fun j hn hj => by
  have hsz : (Lib.bytesCells w 5 s).size = grownCap w s.size 0 5 := by
    have h1 : s.data.size = s.size := rfl
    have h2 := grownCap_ge w s.size 0 5
    simp only [Lib.bytesCells, Array.size_append, Array.size_map, Array.size_replicate, h1]
    omega
  have hb := Lib.bytesWorld_at_new w 5 s
  constructor
  · rw [cell_of_row _ _ _ _ _ _ hb, Array.getElem?_eq_getElem (by omega)]; rfl
  · unfold World.frozen?
    simp only [hb]
    simp
    omega
theorem elemBm (w : World) : (sizeOf (Tryd.prog.elem 22)).run Tryd.prog w = .ok 1 w := by kernel_rfl
theorem undBm : Tryd.prog.underlying 22 = some (.slice (Tryd.prog.elem 22)) := by kernel_rfl
theorem front16 (A : Option Addr) (n c : Nat) (hc : 16 ≤ c) (w : World) : (Instr.slice 22 (.slice A n c) none (some (.int .i64 16)) none).run Tryd.prog w = .ok (.slice A 16 c) w := by
  have h := run_slice_h w 22 A n c undBm .i64 (16 : Int) (by omega) (by omega)
  rw [h, elemBm]
  have e : A.map (·.add 0) = A := by cases A <;> simp [Addr.add]
  simp [sliced, e]

set_option maxRecDepth 100000 in
set_option maxHeartbeats 4000000 in
theorem refderive_new (Ak A : Option Addr) (ck n c : Nat) (key : List UInt8) (s : ByteArray) (w : World) (hk : Rd w w.heap.size Ak 64 ck (shaK.map wv)) (ha : RdB w w.heap.size A n c key) (hn : n ≤ 1000000) (hs : s.size ≤ 800000) :
    Calls Tryd.prog 15 #[.slice Ak 64 ck, .slice A n c, .string s] w fun e w' => ∃ A' c', e = .returned (.slice A' 16 c') ∧ RdB w' w'.heap.size A' 16 c' (derS key (strL s)) ∧ Below w.heap.size w w' := by
  obtain ⟨i0, hi, hz0, hz1, hz2⟩ := info_parts info8d
  have kc := conv_str
  obtain ⟨W1, hW1⟩ : ∃ q, q = strW w s := ⟨_, rfl⟩
  obtain ⟨cs, hcs⟩ : ∃ q, q = grownCap w s.size 0 5 := ⟨_, rfl⟩
  have hb1 : Below w.heap.size w W1 := by rw [hW1]; exact below_str w s
  have hz1' : W1.heap.size = w.heap.size + 1 := by rw [hW1]; exact strW_size w s
  have hcells := str_cells w s
  have hspare := str_spare w s
  rw [← hW1] at hcells
  rw [← hW1, ← hcs] at hspare
  have hge : s.size ≤ cs := by rw [hcs]; exact grownCap_ge w s.size 0 5
  have hle : cs ≤ 9223372036854775807 := by
    have := grownCap_le_maxLen w s.size 0 5 (by unfold maxLen; omega)
    unfold maxLen at this
    omega
  obtain ⟨W2, hW2⟩ : ∃ q, q = W1.alloc (.cells #[.int .u8 0, .int .u8 1] 5) := ⟨_, rfl⟩
  have hb12 : Below W1.heap.size W1 W2 := by rw [hW2]; exact below_of_new W1 _
  have hlit : Rd W2 W2.heap.size (some ⟨W1.heap.size, 0, none⟩) 2 2 (([0, 1] : List UInt8).map bv) := by rw [hW2]; exact rd_cells W1 rfl rfl rfl (by omega)
  have hc2 : ∀ j u, ((strL s).map bv)[j]? = some u → W2.cell? ⟨w.heap.size, j, none⟩ = some u := fun j u hu => (hb12.cell (p := ⟨w.heap.size, j, none⟩) (by rw [hz1']; show w.heap.size < _; omega)).trans (hcells j u hu)
  have hs2 : ∀ j, s.size ≤ j → j < cs → (W2.cell? ⟨w.heap.size, j, none⟩).isSome = true ∧ W2.frozen? ⟨w.heap.size, j, none⟩ = false := fun j h1 h2 => by
    have hh := hspare j h1 h2
    rw [hb12.cell (p := ⟨w.heap.size, j, none⟩) (by rw [hz1']; show w.heap.size < _; omega), hb12.frozen (p := ⟨w.heap.size, j, none⟩) (by rw [hz1']; show w.heap.size < _; omega)]
    exact hh
  have hgl : w.heap.size < W2.heap.size := by have := hb12.size; omega
  have HAPP := Lib.hid (And.intro hlit (And.intro hc2 hs2))
  have HB2 := Lib.hid (below_seq hb1 hb12)
  have HSUM := Lib.hid (show ∀ W A2 n2 c2 b2, Below w.heap.size w W → RdB W W.heap.size A2 n2 c2 b2 → n2 ≤ 900000 → Calls Tryd.prog 11 #[.slice Ak 64 ck, .slice A n c, .slice A2 n2 c2] W fun e w' => ∃ A' c', e = .returned (.slice A' 32 c') ∧ w'.ownsRow W.heap.size 5 1 (.slice A' 32 c') 32 ((macS key b2).map bv) ∧ Below W.heap.size W w' from fun W A2 n2 c2 b2 h hr h1 => refsum_own Ak A A2 ck n c n2 c2 key b2 W ((hk.below h).more h.size) (ha.on h) hr hn h1)
  have HW1 := Lib.hid hW1
  have HW2 := Lib.hid hW2
  have HCS := Lib.hid hcs
  have HZ1 := Lib.hid hz1'
  clear hk ha hW1 hW2 hcs hb1 hz1' hcells hspare hb12 hlit hc2 hs2
  go_enter Tryd.func15, Tryd.ntmps15
  go_wp2_with (at_builtin; rw [← HCS.out, ← HW1.out, ← HW2.out]; refine wpList_app_came rfl (.tmp 10) (.tmp 11) 22 rfl 5 i0 _ 1 Tryd.underlying22 hi hz0 hz1 hz2 rfl w.heap.size cs s.size ((strL s).map bv) rfl (by rw [List.length_map, strL_len]) hge hle HAPP.out.2.1 HAPP.out.2.2 hgl _ (some ⟨W1.heap.size, 0, none⟩) 2 2 (([0, 1] : List UInt8).map bv) rfl HAPP.out.1 (bv_one [0, 1]) (by omega) (by omega) (by omega) w HB2.out (Nat.le_refl _) ?_; intro A2 c2 w3 hr3 hb3)
  have HR3 := Lib.hid (show RdB w3 w3.heap.size A2 (s.size + 2) c2 (strL s ++ [0, 1]) from by rw [RdB, List.map_append]; exact hr3)
  have HB3 := Lib.hid hb3
  clear hr3 hb3
  go_wp2_with fail
  refine (HSUM.out _ _ _ _ _ HB3.out HR3.out (by omega)).mono ?_
  rintro e w4 ⟨A4, c4, rfl, ho4, hb4⟩
  have hr4 := Rd.of_own ho4
  have hrm4 := hr4.room
  have hfr := Rd.front (k := 16) hr4 (by omega)
  rw [← List.map_take, show (macS key (strL s ++ [0, 1])).take 16 = derS key (strL s) from rfl] at hfr
  have hcut := front16 A4 32 c4 (by omega)
  have HFR := Lib.hid hfr
  have HB4 := Lib.hid (below_seq HB3.out hb4)
  clear ho4 hb4 hr4 hfr
  go_wp2_with fail
  go_ret
  exact ⟨_, _, rfl, HFR.out, HB4.out⟩

set_option maxRecDepth 100000 in
set_option maxHeartbeats 4000000 in
theorem reftext_new (Ak : Option Addr) (ck : Nat) (p s : ByteArray) (w : World) (hk : Rd w w.heap.size Ak 64 ck (shaK.map wv)) (hp : p.size ≤ 800000) (hs : s.size ≤ 800000) :
    Calls Tryd.prog 16 #[.slice Ak 64 ck, .string p, .string s] w fun e w' => ∃ A' c', e = .returned (.slice A' 16 c') ∧ RdB w' w'.heap.size A' 16 c' (textS (strL p) (strL s)) ∧ Below w.heap.size w w' := by
  obtain ⟨i0, hi, hz0, hz1, hz2⟩ := info_parts info8d
  have kc := conv_str
  obtain ⟨W1, hW1⟩ : ∃ q, q = strW w p := ⟨_, rfl⟩
  obtain ⟨cp, hcp⟩ : ∃ q, q = grownCap w p.size 0 5 := ⟨_, rfl⟩
  have hb1 : Below w.heap.size w W1 := by rw [hW1]; exact below_str w p
  have hz1' : W1.heap.size = w.heap.size + 1 := by rw [hW1]; exact strW_size w p
  have hrp := rd_str w p (by unfold maxLen; omega)
  rw [← hW1, ← hcp] at hrp
  obtain ⟨W2, hW2⟩ : ∃ q, q = strW W1 s := ⟨_, rfl⟩
  obtain ⟨cs, hcs⟩ : ∃ q, q = grownCap W1 s.size 0 5 := ⟨_, rfl⟩
  have hb2 : Below W1.heap.size W1 W2 := by rw [hW2]; exact below_str W1 s
  have hz2' : W2.heap.size = W1.heap.size + 1 := by rw [hW2]; exact strW_size W1 s
  have hcells := str_cells W1 s
  have hspare := str_spare W1 s
  rw [← hW2] at hcells
  rw [← hW2, ← hcs] at hspare
  have hge : s.size ≤ cs := by rw [hcs]; exact grownCap_ge W1 s.size 0 5
  have hle : cs ≤ 9223372036854775807 := by
    have := grownCap_le_maxLen W1 s.size 0 5 (by unfold maxLen; omega)
    unfold maxLen at this
    omega
  obtain ⟨W3, hW3⟩ : ∃ q, q = W2.alloc (.cells #[.int .u8 0, .int .u8 0, .int .u8 0, .int .u8 1] 5) := ⟨_, rfl⟩
  have hb23 : Below W2.heap.size W2 W3 := by rw [hW3]; exact below_of_new W2 _
  have hlit : Rd W3 W3.heap.size (some ⟨W2.heap.size, 0, none⟩) 4 4 (([0, 0, 0, 1] : List UInt8).map bv) := by rw [hW3]; exact rd_cells W2 rfl rfl rfl (by omega)
  have hc2 : ∀ j u, ((strL s).map bv)[j]? = some u → W3.cell? ⟨W1.heap.size, j, none⟩ = some u := fun j u hu => (hb23.cell (p := ⟨W1.heap.size, j, none⟩) (by rw [hz2']; show W1.heap.size < _; omega)).trans (hcells j u hu)
  have hs2 : ∀ j, s.size ≤ j → j < cs → (W3.cell? ⟨W1.heap.size, j, none⟩).isSome = true ∧ W3.frozen? ⟨W1.heap.size, j, none⟩ = false := fun j h1 h2 => by
    have hh := hspare j h1 h2
    rw [hb23.cell (p := ⟨W1.heap.size, j, none⟩) (by rw [hz2']; show W1.heap.size < _; omega), hb23.frozen (p := ⟨W1.heap.size, j, none⟩) (by rw [hz2']; show W1.heap.size < _; omega)]
    exact hh
  have hgl : W1.heap.size < W3.heap.size := by have := hb23.size; omega
  have hw1 : w.heap.size ≤ W1.heap.size := hb1.size
  have HAPP := Lib.hid (And.intro hlit (And.intro hc2 hs2))
  have HB13 := Lib.hid (below_seq hb2 hb23)
  have HB1 := Lib.hid hb1
  have HP1 := Lib.hid hrp
  have HSUM := Lib.hid (show ∀ W A1 n1 c1 k1 A2 n2 c2 b2, Below w.heap.size w W → RdB W W.heap.size A1 n1 c1 k1 → RdB W W.heap.size A2 n2 c2 b2 → n1 ≤ 900000 → n2 ≤ 900000 → Calls Tryd.prog 11 #[.slice Ak 64 ck, .slice A1 n1 c1, .slice A2 n2 c2] W fun e w' => ∃ A' c', e = .returned (.slice A' 32 c') ∧ w'.ownsRow W.heap.size 5 1 (.slice A' 32 c') 32 ((macS k1 b2).map bv) ∧ Below W.heap.size W w' from fun W A1 n1 c1 k1 A2 n2 c2 b2 h hr hr2 h1 h2 => refsum_own Ak A1 A2 ck n1 c1 n2 c2 k1 b2 W ((hk.below h).more h.size) hr hr2 (by omega) h2)
  have HW1 := Lib.hid hW1
  have HW2 := Lib.hid hW2
  have HW3 := Lib.hid hW3
  have HCS := Lib.hid hcs
  have HCP := Lib.hid hcp
  clear hk hW1 hW2 hW3 hcs hcp hb1 hb2 hz1' hz2' hcells hspare hb23 hlit hc2 hs2 hrp
  go_enter Tryd.func16, Tryd.ntmps16
  go_wp2_with (at_builtin; rw [← HW1.out, ← HCS.out, ← HCP.out, ← HW2.out, ← HW3.out]; refine wpList_app_came rfl (.tmp 15) (.tmp 16) 22 rfl 5 i0 _ 1 Tryd.underlying22 hi hz0 hz1 hz2 rfl W1.heap.size cs s.size ((strL s).map bv) rfl (by rw [List.length_map, strL_len]) hge hle HAPP.out.2.1 HAPP.out.2.2 hgl _ (some ⟨W2.heap.size, 0, none⟩) 4 4 (([0, 0, 0, 1] : List UInt8).map bv) rfl HAPP.out.1 (bv_one [0, 0, 0, 1]) (by omega) (by omega) (by omega) W1 HB13.out (Nat.le_refl _) ?_; intro A2 c2 w3 hr3 hb3)
  have HR3 := Lib.hid (show RdB w3 w3.heap.size A2 (s.size + 4) c2 (strL s ++ [0, 0, 0, 1]) from by rw [RdB, List.map_append]; exact hr3)
  have HP3 := Lib.hid (HP1.out.on hb3)
  have HB3 := Lib.hid (below_seq HB1.out hb3)
  clear hr3 hb3
  go_wp2_with fail
  refine (HSUM.out _ _ _ _ _ _ _ _ _ HB3.out HP3.out HR3.out (by omega) (by omega)).mono ?_
  rintro e w4 ⟨A4, c4, rfl, ho4, hb4⟩
  obtain ⟨P, hP⟩ : ∃ P, P = strL p := ⟨_, rfl⟩
  obtain ⟨S, hS⟩ : ∃ S, S = strL s := ⟨_, rfl⟩
  have hu0 : macS (strL p) (strL s ++ [0, 0, 0, 1]) = txC P S 0 := by rw [hP, hS]; rfl
  rw [hu0] at ho4
  have hlt4 : ∀ b, Value.ownBlock (.slice A4 32 c4) = some b → b < w4.heap.size := fun b h => (ho4.lt b h).2
  have HU := Lib.hid (show RdB w4 w4.heap.size A4 32 c4 (txC P S 0) from Rd.of_own ho4)
  have HB4 := Lib.hid (below_seq HB3.out hb4)
  have HPS := Lib.hid (And.intro hP hS)
  clear ho4 hb4 hu0 hP hS hlt4
  go_wp2_with (at_builtin; refine wpList_app _ rfl (.tmp 19) (.tmp 20) 22 rfl w4.heap.size 5 i0 _ 1 Tryd.underlying22 hi hz0 hz1 hz2 rfl _ 0 _ rfl (own_new w4 (Nat.le_refl _) rfl (by omega)) _ A4 32 c4 _ rfl (RdB.lit HU.out _) (bv_one _) (by omega) (by omega) (by simp) ?_; intro A5 c5 w5 hown5 hg5 hat5)
  simp only [Nat.zero_add, List.nil_append] at hown5
  have hb45 := below_lit (Below.refl _ _) hg5
  obtain ⟨gt, rfl⟩ : ∃ g, A5 = some ⟨g, 0, none⟩ := by
    rcases own_cases hown5 with ⟨_, _, h0⟩ | h
    · omega
    · exact h
  have hgt := hown5.lt gt rfl
  have hgt4 : w4.heap.size ≤ gt := hgt.1
  have hu5 : RdS w5 (fun b => b < w5.heap.size ∧ b ≠ gt) A4 32 c4 ((txC P S 0).map bv) := by
    obtain ⟨h1, h2, h3, h4⟩ := HU.out
    refine ⟨h1, h2, h3, fun hn => ?_⟩
    obtain ⟨b, o, e, hb, hc⟩ := h4 hn
    exact ⟨b, o, e, ⟨by have := hb45.size; omega, by omega⟩, fun j u hu => (hb45.cell (p := ⟨b, o + j, none⟩) hb).trans (hc j u hu)⟩
  have hrow0 : (txC P S 0).map bv = (row (txF P S 0) 32).map bv := by rw [txF, row_of _ (txC_len P S 0)]
  rw [hrow0] at hown5
  have HU5 := Lib.hid hu5
  have HO5 := Lib.hid hown5
  have HB5 := Lib.hid (below_seq HB4.out hb45)
  have hwg : w.heap.size ≤ gt := by have := HB4.out.size; omega
  clear hown5 hg5 hat5 hb45 hu5 hrow0 hgt
  go_wp2_with fail
  go_loopw [7, 9, 10] (fun u nn _ wx => ∃ (m : Nat) (Au : Option Addr) (cu : Nat), m ≤ 15 ∧ nn = .int .i64 ((m : Int) + 1) ∧ u = .slice Au 32 cu ∧ RdS wx (fun b => b < wx.heap.size ∧ b ≠ gt) Au 32 cu ((txC P S m).map bv) ∧ wx.ownsRow w4.heap.size 5 1 (.slice (some ⟨gt, 0, none⟩) 32 c5) 32 ((row (txF P S m) 32).map bv) ∧ Below w.heap.size w wx) (fun _ nn _ _ => 16 - (intOf nn).toNat)
  case atStart => exact ⟨0, A4, c4, by omega, rfl, rfl, HU5.out, HO5.out, HB5.out⟩
  case round =>
    clear HU5 HO5 HB5 HU
    obtain ⟨m, Au, cu, hm, rfl, rfl, hu, hown, hbw⟩ := hrel
    have HU := Lib.hid hu
    have HOWN := Lib.hid hown
    have HBW := Lib.hid hbw
    clear hu hown hbw
    by_cases hlt : m < 15
    · have t1 : decide ((m : Int) + 1 < 16) = true := by rw [decide_eq_true_iff]; omega
      have hgl2 := (HOWN.out.lt gt rfl).2
      obtain ⟨W6, hW6⟩ : ∃ q, q = strW wr p := ⟨_, rfl⟩
      obtain ⟨c6, hc6⟩ : ∃ q, q = grownCap wr p.size 0 5 := ⟨_, rfl⟩
      have hb6 : Below wr.heap.size wr W6 := by rw [hW6]; exact below_str wr p
      have hr6 := rd_str wr p (by unfold maxLen; omega)
      rw [← hW6, ← hc6] at hr6
      have hu6 : RdB W6 W6.heap.size Au 32 cu (txC P S m) := (rdB_of HU.out).on hb6
      have hcall := HSUM.out W6 _ _ _ _ _ _ _ _ (below_seq HBW.out hb6) hr6 hu6 (by omega) (by omega)
      have hnx : macS (strL p) (txC P S m) = txC P S (m + 1) := by rw [← HPS.out.1]; rfl
      rw [hnx] at hcall
      have HCALL := Lib.hid hcall
      have HB6 := Lib.hid hb6
      have HW6 := Lib.hid hW6
      have HC6 := Lib.hid hc6
      clear hW6 hc6 hb6 hr6 hu6 hcall hnx
      go_wp2_with fail
      rw [← HW6.out, ← HC6.out]
      refine HCALL.out.mono ?_
      rintro e wy ⟨A7, c7, rfl, ho7, hb7⟩
      have hu7 : RdS wy (fun b => b < wy.heap.size ∧ b ≠ gt) A7 32 c7 ((txC P S (m + 1)).map bv) := rds_own ho7 (by have := HB6.out.size; omega)
      have hown7 := own_on HOWN.out (below_seq HB6.out hb7)
      obtain ⟨T1, hT1⟩ : ∃ T, T = txF P S m := ⟨_, rfl⟩
      obtain ⟨T2, hT2⟩ : ∃ T, T = txF P S (m + 1) := ⟨_, rfl⟩
      obtain ⟨U, hU⟩ : ∃ U, U = txC P S (m + 1) := ⟨_, rfl⟩
      have hUl : U.length = 32 := by rw [hU, txC_len]
      have hT : ∀ i, T2 i = T1 i ^^^ at_ U i := fun i => by rw [hT2, hT1, hU]; rfl
      rw [← hT1] at hown7
      rw [← hU] at hu7
      obtain ⟨bu, ou, rfl, hbu, hcu⟩ := hu7.2.2.2 (by omega)
      have hrm7 := hu7.2.2.1
      have HU7 := Lib.hid hu7
      have HCU := Lib.hid (show ∀ W, wy.grownBy W (some gt) → ∀ k, k < 32 → W.cell? ⟨bu, ou + k, none⟩ = some (.int .u8 (((at_ U k).toNat : Nat) : Int)) from fun W hg k hk => (World.cell?_of_block (gb_block hg hbu.1 hbu.2)).trans (hcu k _ (bv_at (by omega))))
      have HO7 := Lib.hid hown7
      have HB7 := Lib.hid (below_seq HBW.out (below_seq HB6.out hb7))
      have HT := Lib.hid hT
      have HTT := Lib.hid (And.intro hT2 hU)
      clear ho7 hb7 hu7 hown7 hT1 hT2 hU hT hcu hUl
      go_wp2_with fail
      go_loopw [10] (fun kk wz => ∃ k : Nat, k ≤ 32 ∧ kk = .int .i64 (k : Int) ∧ wz.ownsRow w4.heap.size 5 1 (.slice (some ⟨gt, 0, none⟩) 32 c5) 32 ((row (upto k T2 T1) 32).map bv) ∧ wy.grownBy wz (some gt)) (fun kk _ => 32 - (intOf kk).toNat)
      case atStart => exact ⟨0, by omega, rfl, by rw [upto_zero]; exact HO7.out, World.grownBy.refl _ _⟩
      case round =>
        clear HO7
        rename World => wz
        obtain ⟨k, hk, rfl, hown, hgb⟩ := hrel
        by_cases hltk : k < 32
        · have t2 : decide ((k : Int) < 32) = true := by rw [decide_eq_true_iff]; omega
          have l2 : (k : Int) < 32 := by omega
          obtain ⟨a, ha⟩ : ∃ a, a = T1 k := ⟨_, rfl⟩
          obtain ⟨b, hb⟩ : ∃ b, b = at_ U k := ⟨_, rfl⟩
          obtain ⟨v, hv⟩ : ∃ v, v = a ^^^ b := ⟨_, rfl⟩
          have ev : bits .xor .u8 (a.toNat : Int) (b.toNat : Int) = (v.toNat : Int) := by rw [hv]; exact xor_u8 a b
          have c1 := (own_cells hown).1 k (bv a) (by rw [List.getElem?_map, row_at _ hltk, upto_ge _ _ (Nat.le_refl _), ← ha]; rfl)
          unfold bv at c1
          have c2 := HCU.out wz hgb k hltk
          rw [← hb] at c2
          have f1 := hown.frozenAt k
          have hst := hown.stored k (.int .u8 (v.toNat : Int))
          have hse : ((row (upto k T2 T1) 32).map bv).set k (.int .u8 (v.toNat : Int)) = (row (upto (k + 1) T2 T1) 32).map bv := by
            have e : T2 k = v := by rw [HT.out, hv, ha, hb]
            rw [← upto_set _ _ hltk, e, List.map_set]; rfl
          have hst1 := hst.1
          rw [hse] at hst1
          have HST := Lib.hid hst1
          have HGB := Lib.hid (grown_trans (grown_trans hgb hst.2) (gb_drew _ 1 _))
          clear ha hb hv hst hst1 hse hgb hown
          go_wp2_with fail
          refine wp_region_still_tail 12 (by kernel_rfl) (by kernel_rfl) ?_
          simp only [List.take_succ_cons, List.take_zero, List.drop_succ_cons, List.drop_zero]
          repeat still_step
          refine wpStill_nil ?_
          go_wp2_with fail
          exact ⟨⟨k + 1, by omega, by go_num, HST.out, HGB.out⟩, by simp [intOf] <;> omega⟩
        · obtain rfl : k = 32 := by omega
          rw [upto_all, HTT.out.1] at hown
          have hu8 := rds_keep HU7.out hgb
          rw [HTT.out.2] at hu8
          have hb8 := HB7.out.trans (below_of_gb hgb hwg HB7.out.size)
          have HO8 := Lib.hid hown
          have HU8 := Lib.hid hu8
          have HB8 := Lib.hid hb8
          rw [show ((32 : Nat) : Int) = 32 from rfl]
          clear hown hgb hu8 hb8
          go_wp2_with fail
          exact ⟨⟨m + 1, some ⟨bu, ou, none⟩, c7, by omega, by go_num, rfl, HU8.out, HO8.out, HB8.out⟩, by simp [intOf] <;> omega⟩
    · obtain rfl : m = 15 := by omega
      have t1 : decide (((15 : Nat) : Int) + 1 < 16) = false := by decide
      have hr := Rd.of_own HOWN.out
      have hrm := hr.room
      have hfr := Rd.front (k := 16) hr (by omega)
      rw [← List.map_take, row_take _ 32 16 (by omega)] at hfr
      have hres : row (txF P S 15) 16 = textS (strL p) (strL s) := by rw [HPS.out.1, HPS.out.2]; rfl
      rw [hres] at hfr
      have hcut := front16 (some ⟨gt, 0, none⟩) 32 c5 (by omega)
      have HFR := Lib.hid hfr
      clear hr hfr hres
      go_wp2_with fail
      go_ret
      exact ⟨_, _, rfl, HFR.out, HBW.out⟩
end Go.Proofs.YtgebdkbbdabomaaDoor.Sha
