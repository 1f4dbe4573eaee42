/-
  sym's Table: the map of origins.
-/
import Derived.Test.YtbfcdlfjlailjaaSymab
import Derived.Maps.OwnSet
import Derived.Maps.Views
import Derived.DeepKeys4
namespace Go.Proofs.Ytbfcdlfjlailjaa.Sym
open Go.RowKit
open Go.Proofs.Ytbfcdlfjlailjaa.Kit
open Go.Proofs.Ytbfcdlfjlailjaa.Oct
open Go.Maps
set_option linter.unusedVariables false

/-- how a key came -/
structure Fr where
  of : List UInt8
  lab : ByteArray
  tx : Bool
def Fr.cells (f : Fr) : List Value := f.of.map bv ++ [.string f.lab, .bool f.tx]
def Fr.ok (f : Fr) : Prop := f.of.length = 16 ∧ f.lab.size ≤ 1000000
/-- what a key is found by again -/
structure Og where
  fr : Fr
  pw : ByteArray
  salt : ByteArray
def Og.cells (o : Og) : List Value := o.fr.cells ++ [.string o.pw, .string o.salt]
def Og.val (o : Og) : Value := .agg o.cells.toArray
def Og.ok (o : Og) : Prop := o.fr.ok ∧ o.pw.size ≤ 1000000 ∧ o.salt.size ≤ 1000000

theorem laidOut : laidOutB Try.prog = true := by kernel_rfl
theorem og_law : Keyed Try.prog 93 := Keyed.of_law (deep_law_laid laidOut (m := 6) (by omega) (of_decide_eq_true (by kernel_rfl)) (by kernel_rfl) (by kernel_rfl))
theorem map_bv_inj {a b : List UInt8} (h : a.map bv = b.map bv) : a = b := kv_inj (a := a) (b := b) (by rw [kv, kv, h])
theorem og_inj {o p : Og} (ho : o.ok) (hp : p.ok) (h : o.val = p.val) : o = p := by
  have h1 : o.cells = p.cells := by simpa [Og.val] using h
  have hl : (o.fr.of.map bv).length = (p.fr.of.map bv).length := by rw [List.length_map, List.length_map, ho.1.1, hp.1.1]
  simp only [Og.cells, Fr.cells, List.append_assoc] at h1
  obtain ⟨h2, h3⟩ := List.append_inj h1 hl
  have h4 := map_bv_inj h2
  simp at h3
  obtain ⟨h5, h6, h7, h8⟩ := h3
  cases o with
  | mk fo po so => cases p with
    | mk fp pp sp => cases fo with
      | mk a b c => cases fp with
        | mk d e f =>
          simp only at h4 h5 h6 h7 h8
          subst h4 h5 h6 h7 h8
          rfl

theorem mapM_some' {α β : Type} (g : α → Option β) : ∀ l : List α, (∀ x ∈ l, (g x).isSome = true) → (l.mapM g).isSome = true
  | [], _ => rfl
  | x :: r, h => by
    obtain ⟨y, hy⟩ := Option.isSome_iff_exists.1 (h x (List.mem_cons_self ..))
    obtain ⟨z, hz⟩ := Option.isSome_iff_exists.1 (mapM_some' g r fun w hw => h w (List.mem_cons_of_mem _ hw))
    rw [List.mapM_cons, hy, hz]; rfl
theorem kl_u8 (d : Nat) (x : UInt8) : (Try.prog.keyLits (d + 1) 5 [bv x]).isSome = true := by
  have hx := x.toNat_lt
  unfold Program.keyLits
  rw [Try.underlying5]
  have hw : (Lit.int .u8 (x.toNat : Int)).wf = true := by
    simp [Lit.wf, IntKind.min, IntKind.max, IntKind.signed, IntKind.bits]
    omega
  simp [bv, hw]
theorem kl_str (d : Nat) (s : ByteArray) (h : s.size ≤ 1000000) : (Try.prog.keyLits (d + 1) 9 [.string s]).isSome = true := by
  unfold Program.keyLits
  rw [Try.underlying9]
  have : s.size ≤ maxLen := by unfold maxLen; omega
  simp [this]
theorem kl_bool (d : Nat) (b : Bool) : (Try.prog.keyLits (d + 1) 4 [.bool b]).isSome = true := by
  unfold Program.keyLits
  rw [Try.underlying4]
  simp
theorem c8 : Try.prog.cellsOf 5 = 1 := by kernel_rfl
theorem cKey : Try.prog.cellsOf 36 = 16 := by kernel_rfl
theorem cStr : Try.prog.cellsOf 9 = 1 := by kernel_rfl
theorem cBool : Try.prog.cellsOf 4 = 1 := by kernel_rfl
theorem cFrom : Try.prog.cellsOf 51 = 18 := by kernel_rfl
theorem cOg : Try.prog.cellsOf 93 = 20 := by kernel_rfl
theorem kl_arr (d : Nat) (l : List UInt8) (h : l.length = 16) : (Try.prog.keyLits (d + 2) 36 (l.map bv)).isSome = true := by
  unfold Program.keyLits
  rw [Try.underlying36]
  simp only [c8, cKey, List.length_map, h, if_true]
  rw [Option.isSome_map]
  refine mapM_some' _ _ fun i hi => ?_
  have hi' : i < 16 := List.mem_range.1 hi
  have e : List.take 1 (List.drop (i * 1) (l.map bv)) = [bv (l[i]'(by omega))] := by
    rw [Nat.mul_one, List.drop_eq_getElem_cons (by rw [List.length_map]; omega), List.take_succ_cons, List.take_zero, List.getElem_map]
  rw [e]
  exact kl_u8 d _
theorem kl_from (d : Nat) (f : Fr) (h : f.ok) : (Try.prog.keyLits (d + 3) 51 f.cells).isSome = true := by
  have hl : (f.of.map bv).length = 16 := by rw [List.length_map, h.1]
  unfold Program.keyLits
  rw [Try.underlying51]
  have hs : f.cells.length = 18 := by simp [Fr.cells, h.1]
  simp only [cFrom, hs]
  rw [if_pos ⟨trivial, by kernel_rfl⟩, Option.isSome_map]
  refine mapM_some' _ _ fun x hx => ?_
  simp only [List.mem_cons, List.not_mem_nil, or_false] at hx
  rcases hx with rfl | rfl | rfl
  · simp only [cKey, List.drop_zero, Fr.cells]
    rw [List.take_append_of_le_length (by omega), List.take_of_length_le (by omega)]
    exact kl_arr d _ h.1
  · simp only [cStr, Fr.cells]
    rw [List.drop_append, List.drop_of_length_le (by omega), hl]
    exact kl_str (d + 1) _ h.2
  · simp only [cBool, Fr.cells]
    rw [List.drop_append, List.drop_of_length_le (by omega), hl]
    exact kl_bool (d + 1) _
theorem kl_og (d : Nat) (o : Og) (h : o.ok) : (Try.prog.keyLits (d + 4) 93 o.cells).isSome = true := by
  have hl : o.fr.cells.length = 18 := by simp [Fr.cells, h.1.1]
  unfold Program.keyLits
  rw [Try.underlying93]
  have hs : o.cells.length = 20 := by simp [Og.cells, hl]
  simp only [cOg, hs]
  rw [if_pos ⟨trivial, by kernel_rfl⟩, Option.isSome_map]
  refine mapM_some' _ _ fun x hx => ?_
  simp only [List.mem_cons, List.not_mem_nil, or_false] at hx
  rcases hx with rfl | rfl | rfl
  · simp only [cFrom, List.drop_zero, Og.cells]
    rw [List.take_append_of_le_length (by omega), List.take_of_length_le (by omega)]
    exact kl_from d _ h.1
  · simp only [cStr, Og.cells]
    rw [List.drop_append, List.drop_of_length_le (by omega), hl]
    exact kl_str (d + 2) _ h.2.1
  · simp only [cStr, Og.cells]
    rw [List.drop_append, List.drop_of_length_le (by omega), hl]
    exact kl_str (d + 2) _ h.2.2
theorem og_formed (o : Og) (h : o.ok) : o.val.formed Try.prog 93 = true := by
  have hs : o.cells.length = 20 := by simp [Og.cells, Fr.cells, h.1.1]
  unfold Value.formed
  rw [Try.underlying93]
  simp [Og.val, cOg, hs]
theorem og_key {o : Og} (h : o.ok) : ∃ kl, keyOf Try.prog 93 o.val = some kl := by
  have hk : Try.prog.keyType 93 = true := by kernel_rfl
  have hsz : 3 ≤ Try.prog.types.size := of_decide_eq_true (by kernel_rfl)
  obtain ⟨d, hd⟩ : ∃ d, Try.prog.types.size + 1 = d + 4 := ⟨Try.prog.types.size - 3, by omega⟩
  obtain ⟨ls, hls⟩ := Option.isSome_iff_exists.1 (kl_og d o h)
  have hc : o.val.cells.toList = o.cells := rfl
  unfold keyOf
  rw [Try.underlying93]
  simp only [hk, og_formed o h, Bool.and_self, if_true, hd, hc, hls, Option.map_some]
  exact ⟨_, rfl⟩

/-- what the map's elements read as: themselves -/
def Rv (v : Value) : Option (DataW Value × List MemPlace) := some (.held v, [])
def zeroK : Value := .agg (kv (List.replicate 16 0))
theorem zero_key (w : World) : (zeroValue 36).run Try.prog w = .ok zeroK w := by kernel_rfl
def numK (n : Nat) : Value := .agg (kv (mk 107 n))
/-- an origin that has a key, one more -/
noncomputable def setF (f : Og → Option Nat) (o : Og) (n : Nat) : Og → Option Nat := fun p => @ite _ (p = o) (Classical.propDecidable _) (some n) (f p)
theorem setF_same (f : Og → Option Nat) (o : Og) (n : Nat) : setF f o n o = some n := by unfold setF; rw [if_pos rfl]
theorem setF_other (f : Og → Option Nat) {o p : Og} (n : Nat) (h : p ≠ o) : setF f o n p = f p := by unfold setF; rw [if_neg h]
/-- the map of origins, as it stands in memory -/
def MapAt (w : World) (mb n : Nat) (f : Og → Option Nat) : Prop :=
  ∃ D : DataW Value, w.ownsMap Try.prog 93 Rv mb n D ∧ ∀ o kl, o.ok → keyOf Try.prog 93 o.val = some kl → Maps.has D kl = (f o).isSome ∧ ∀ k, f o = some k → D.atKey kl (.held zeroK) = .held (numK k)
theorem MapAt.made (w : World) : MapAt (w.alloc (.map #[] 0)) w.heap.size 0 (fun _ => none) :=
  ⟨.map [], World.ownsMap_made w _ _ _, fun o kl _ _ => ⟨rfl, fun k h => by cases h⟩⟩
theorem MapAt.kept {w w' : World} {mb n : Nat} {f : Og → Option Nat} (h : MapAt w mb n f) (hb : w'.heap[mb]? = w.heap[mb]?) : MapAt w' mb n f := by
  obtain ⟨D, ⟨es, clock, h1, h2, h3, h4⟩, hd⟩ := h
  exact ⟨D, ⟨es, clock, hb.trans h1, h2, h3, h4⟩, hd⟩
theorem MapAt.lt {w : World} {mb n : Nat} {f : Og → Option Nat} (h : MapAt w mb n f) : mb < w.heap.size := by
  obtain ⟨D, h1, _⟩ := h
  exact h1.lt
theorem MapAt.look {w : World} {mb n : Nat} {f : Og → Option Nat} (h : MapAt w mb n f) {o : Og} (ho : o.ok) :
    ∃ v, (Instr.lookup 84 (.map (some mb)) o.val true).run Try.prog w = .ok (.tuple #[v, .bool (f o).isSome]) w ∧ (∀ k, f o = some k → v = numK k) ∧ (f o = none → v = zeroK) := by
  obtain ⟨D, hD, hd⟩ := h
  obtain ⟨kl, hkl⟩ := og_key ho
  obtain ⟨g1, g2⟩ := hd o kl ho hkl
  obtain ⟨v, ps, hrun, hv⟩ := hD.look_ok og_law Try.underlying84 (zero_key w) (zd := .held zeroK) (zp := []) rfl hkl
  refine ⟨v, by rw [← g1]; exact hrun, fun k hk => ?_, fun hn => ?_⟩
  · rw [g2 k hk] at hv
    have h1 : DataW.held v = DataW.held _ := (Prod.mk.inj (Option.some.inj hv)).1
    exact DataW.held.inj h1
  · rw [hn] at g1
    rw [Maps.atKey_of_not_has g1] at hv
    have h1 : DataW.held v = DataW.held _ := (Prod.mk.inj (Option.some.inj hv)).1
    exact DataW.held.inj h1
theorem MapAt.set {w : World} {mb n : Nat} {f : Og → Option Nat} (h : MapAt w mb n f) (hn : n < 1000000) {o : Og} (ho : o.ok) (k : Nat) :
    ∃ w', (Instr.mapUpdate 84 (.map (some mb)) o.val (numK k)).run Try.prog w = .ok () w' ∧ MapAt w' mb (n + 1) (setF f o k) ∧ w.grownBy w' (some mb) := by
  obtain ⟨D, hD, hd⟩ := h
  obtain ⟨kl, hkl⟩ := og_key ho
  obtain ⟨w', hrun, hown, hg⟩ := hD.update og_law Try.underlying84 (by unfold maxLen; omega) hkl (val := numK k) (d := .held (numK k)) (ps := []) rfl
  refine ⟨w', hrun, ⟨D.put kl (.held (numK k)), hown, fun p kp hp hkp => ?_⟩, hg⟩
  by_cases hpo : p = o
  · subst hpo
    obtain rfl : kl = kp := by rw [hkl] at hkp; injection hkp
    refine ⟨by rw [Maps.has_put_same hD.isMap (og_law.key hkl), setF_same]; rfl, fun q hq => ?_⟩
    rw [setF_same] at hq
    obtain rfl : k = q := Option.some.inj hq
    exact Maps.atKey_put_same hD.isMap (og_law.key hkl) _ _
  · have hne : kp ≠ kl := fun e => by
      subst e
      exact hpo (og_inj hp ho (og_law.inj hkp hkl))
    rw [Maps.has_put_other hne, Maps.atKey_put_other hne, setF_other f k hpo]
    exact hd p kp hp hkp
end Go.Proofs.Ytbfcdlfjlailjaa.Sym

/-
  sym's Nth.
-/
namespace Go.Proofs.Ytbfcdlfjlailjaa.Sym
open Go.RowKit
open Go.Proofs.Ytbfcdlfjlailjaa.Kit
open Go.Proofs.Ytbfcdlfjlailjaa.Oct
set_option linter.unusedVariables false

set_option maxRecDepth 100000 in
set_option maxHeartbeats 1000000 in
theorem nth_any (v : Value) (n : Nat) (w : World) (hn : n ≤ 1099511627776) :
    Calls Try.prog 23 #[v, .int .i64 n] w fun e w' => e = .returned (.agg (kv (mk 107 n))) ∧ Below w.heap.size w w' := by
  obtain ⟨ZA, hZA⟩ : ∃ q : Array Value, q = #[.int .u8 0, .int .u8 0, .int .u8 0, .int .u8 0, .int .u8 0, .int .u8 0, .int .u8 0, .int .u8 0, .int .u8 0, .int .u8 0, .int .u8 0, .int .u8 0, .int .u8 0, .int .u8 0, .int .u8 0, .int .u8 0] := ⟨_, rfl⟩
  obtain ⟨PV, hPV⟩ : ∃ q, q = kv (mk 107 n) := ⟨_, rfl⟩
  have hPs : PV.size = 16 := by rw [hPV, kv_size, mk_len]
  have HPI := Lib.hid (show (Try.prog.info? 36).map (·.size) = some PV.size from by rw [hPs]; exact infoK)
  have HPA := Lib.hid (show PV.all (·.oneCell') = true from by rw [hPV]; exact kv_one _)
  have HZS := Lib.hid (show ZA.size = PV.size from by rw [hZA, hPs]; rfl)
  have HM := Lib.hid (show Calls Try.prog 43 #[.int .u8 107, .int .i64 n] (w.alloc (.cells ZA 36)) fun e w' => e = .returned (.agg PV) ∧ Below (w.alloc (.cells ZA 36)).heap.size (w.alloc (.cells ZA 36)) w' from by rw [hPV]; exact smark_any 107 n _ (by omega))
  have HZA := Lib.hid hZA
  have HPV := Lib.hid hPV
  have g1 : decide ((n : Int) < 0) = false := by simp
  have g2 : decide ((1099511627776 : Int) < (n : Int)) = false := by simp; omega
  have p2 : ¬ ((1099511627776 : Int) < (n : Int)) := by omega
  clear hZA hPV hPs
  go_enter Try.func23, Try.ntmps23
  go_wp2_with fail
  rw [← HZA.out]
  refine HM.out.mono ?_
  rintro e w1 ⟨rfl, hb1⟩
  have hg : w1.heap[w.heap.size]? = some (.cells ZA 36 (0, 0)) := (hb1.block _ (by simp)).trans (heap_alloc_new w _)
  have HG := Lib.hid hg
  have HB := Lib.hid (below_seq (below_of_new w _) hb1)
  clear hg hb1 HM
  go_wp2_with (refine wpList_store_row (o := ⟨none, _, _, _, _, _⟩) rfl 36 (.tmp 4) (.tmp 13) rfl w.heap.size PV rfl rfl 36 _ HG.out HPI.out HZS.out HPA.out ?_)
  have hres := setRow_heap _ w.heap.size _ PV _ _ HG.out
  refine bodyPost_ret (v := .agg PV) (results_cell_row Try.results23 _ _ w.heap.size 36 PV (0, 0) _ (by rfl) hres Try.underlying36 rfl HPI.out) rfl ?_
  exact ⟨by rw [HPV.out], below_setRow HB.out (Nat.le_refl _) _⟩
end Go.Proofs.Ytbfcdlfjlailjaa.Sym
