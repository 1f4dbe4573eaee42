/-
  cache: the map of what was taken.
-/
import Derived.Test.YtpdbdlaoeidflaaChw
import Derived.Maps.OwnSet
import Derived.Maps.Views
import Derived.Maps.RangeWalk
import Derived.DeepKeys4
import Derived.WideKeyEntry
namespace Go.Proofs.Ytpdbdlaoeidflaa.Ch
open Go.RowKit
open Go.Proofs.Ytpdbdlaoeidflaa.Kit
open Go.Maps
set_option linter.unusedVariables false

theorem laidOut : laidOutB Try.prog = true := by kernel_rfl
theorem sh_law0 : Go.WideMaps.KeyLaw Try.prog 32 := deep_law_laid laidOut (m := 6) (by omega) (of_decide_eq_true (by kernel_rfl)) (by kernel_rfl) (by kernel_rfl)
theorem sh_law : Keyed Try.prog 32 := Keyed.of_law sh_law0
theorem sh_inj {x y : It} (h : (Value.agg x.arr) = .agg y.arr) : x = y := by
  have h1 : x.arr = y.arr := by simpa using h
  simp only [It.arr] at h1
  cases x; cases y
  simp at h1
  obtain ⟨h1, h2, h3⟩ := h1
  subst h1 h2 h3
  rfl
theorem mapM_some' {α β : Type} (g : α → Option β) : ∀ l : List α, (∀ x ∈ l, (g x).isSome = true) → (l.mapM g).isSome = true
  | [], _ => rfl
  | x :: r, h => by
    obtain ⟨y, hy⟩ := Option.isSome_iff_exists.1 (h x (List.mem_cons_self ..))
    obtain ⟨z, hz⟩ := Option.isSome_iff_exists.1 (mapM_some' g r fun w hw => h w (List.mem_cons_of_mem _ hw))
    rw [List.mapM_cons, hy, hz]; rfl
theorem kl_str (d : Nat) (s : ByteArray) (h : s.size ≤ maxLen) : (Try.prog.keyLits (d + 1) 9 [.string s]).isSome = true := by
  unfold Program.keyLits
  rw [Try.underlying9]
  simp [h]
theorem kl_int (d : Nat) (a : Int) (h : (Lit.int .i64 a).wf = true) : (Try.prog.keyLits (d + 1) 2 [.int .i64 a]).isSome = true := by
  unfold Program.keyLits
  rw [Try.underlying2]
  simp [h]
theorem cStr : Try.prog.cellsOf 9 = 1 := by kernel_rfl
theorem cI64 : Try.prog.cellsOf 2 = 1 := by kernel_rfl
theorem cShown : Try.prog.cellsOf 32 = 3 := by kernel_rfl
theorem kl_sh (d : Nat) (x : It) (h : x.fit) : (Try.prog.keyLits (d + 2) 32 x.cells).isSome = true := by
  unfold Program.keyLits
  rw [Try.underlying32]
  have hs : x.cells.length = 3 := rfl
  simp only [cShown, hs]
  rw [if_pos ⟨trivial, by kernel_rfl⟩, Option.isSome_map]
  refine mapM_some' _ _ fun y hy => ?_
  simp only [List.mem_cons, List.not_mem_nil, or_false] at hy
  rcases hy with rfl | rfl | rfl
  · simp only [cStr]
    exact kl_str d _ h.1
  · simp only [cI64]
    exact kl_int d _ h.2.1
  · simp only [cI64]
    exact kl_int d _ h.2.2
theorem sh_formed (x : It) : (Value.agg x.arr).formed Try.prog 32 = true := by
  unfold Value.formed
  rw [Try.underlying32]
  simp [cShown, It.arr]
theorem sh_key {x : It} (h : x.fit) : ∃ kl, keyOf Try.prog 32 (.agg x.arr) = some kl := by
  have hk : Try.prog.keyType 32 = true := by kernel_rfl
  have hsz : 3 ≤ Try.prog.types.size := of_decide_eq_true (by kernel_rfl)
  obtain ⟨d, hd⟩ : ∃ d, Try.prog.types.size + 1 = d + 2 := ⟨Try.prog.types.size - 1, by omega⟩
  obtain ⟨ls, hls⟩ := Option.isSome_iff_exists.1 (kl_sh d x h)
  have hc : (Value.agg x.arr).cells.toList = x.cells := rfl
  unfold keyOf
  rw [Try.underlying32]
  simp only [hk, sh_formed x, Bool.and_self, if_true, hd, hc, hls, Option.map_some]
  exact ⟨_, rfl⟩

/-- what the map's elements read as: 1, or nothing -/
def ROne (v : Value) : Option (DataW Value × List MemPlace) :=
  match v with
  | .int .i64 a => if a = 1 then some (.lit (.int .i64 1), []) else none
  | _ => none
theorem one_inv {v : Value} {y : DataW Value × List MemPlace} (h : ROne v = some y) : v = .int .i64 1 := by
  unfold ROne at h
  split at h
  · split at h
    · rename_i e; rw [e]
    · cases h
  · cases h
theorem one_is : ROne (.int .i64 1) = some (.lit (.int .i64 1), []) := rfl
def MapO (w : World) (mb n : Nat) (S : It → Prop) : Prop :=
  ∃ D : DataW Value, w.ownsMap Try.prog 32 ROne mb n D ∧ ∀ x kl, x.fit → keyOf Try.prog 32 (.agg x.arr) = some kl → (Maps.has D kl = true ↔ S x)
theorem MapO.made (w : World) : MapO (w.alloc (.map #[] 0)) w.heap.size 0 (fun _ => False) :=
  ⟨.map [], World.ownsMap_made w _ _ _, fun x kl _ _ => ⟨fun h => (by cases h), fun h => absurd h id⟩⟩
theorem MapO.kept {w w' : World} {mb n : Nat} {S : It → Prop} (h : MapO w mb n S) (hb : w'.heap[mb]? = w.heap[mb]?) : MapO w' mb n S := by
  obtain ⟨D, ⟨es, clock, h1, h2, h3, h4⟩, hd⟩ := h
  exact ⟨D, ⟨es, clock, hb.trans h1, h2, h3, h4⟩, hd⟩
theorem MapO.more {w : World} {mb n n' : Nat} {S : It → Prop} (h : MapO w mb n S) (hn : n ≤ n') : MapO w mb n' S := by
  obtain ⟨D, h1, h2⟩ := h
  exact ⟨D, h1.mono hn, h2⟩
theorem MapO.lt {w : World} {mb n : Nat} {S : It → Prop} (h : MapO w mb n S) : mb < w.heap.size := by
  obtain ⟨D, h1, _⟩ := h
  exact h1.lt
theorem zero_int (w : World) : (zeroValue 3).run Try.prog w = .ok (.int .i64 0) w := by kernel_rfl
/-- m[x]++ of what isn't there yet -/
theorem MapO.step {w : World} {mb n : Nat} {S : It → Prop} (h : MapO w mb n S) (hn : n < 1000000) {x : It} (hx : x.fit) (hS : ¬ S x) :
    (Instr.lookup 37 (.map (some mb)) (.agg x.arr) false).run Try.prog w = .ok (.int .i64 0) w ∧
    ∃ (st : Nat) (es1 : Array MapEntry) (clock1 : Nat), (Instr.mapEntry 37 (.map (some mb)) (.agg x.arr)).run Try.prog w = .ok (.tuple #[.int .i64 0, goInt st]) (Go.ChangeMaps.setBlock w mb (.map es1 clock1)) ∧
      ∀ w2 : World, w2.heap[mb]? = some (.map es1 clock1) → (Instr.lookup 37 (.map (some mb)) (.agg x.arr) false).run Try.prog w2 = .ok (.int .i64 0) w2 ∧ ∃ o', (Instr.entryStore 37 (.map (some mb)) (goInt st) (.int .i64 1)).run Try.prog w2 = .ok () (Go.ChangeMaps.setBlock w2 mb o') ∧ MapO (Go.ChangeMaps.setBlock w2 mb o') mb (n + 1) (fun y => S y ∨ y = x) := by
  obtain ⟨D, hD, hd⟩ := h
  obtain ⟨kl, hkl⟩ := sh_key hx
  have hnh : Maps.has D kl = false := by
    rcases hh : Maps.has D kl with _ | _
    · rfl
    · exact absurd ((hd x kl hx hkl).1 hh) hS
  obtain ⟨w', hrun, hown, hg⟩ := hD.update sh_law Try.underlying37 (by unfold maxLen; omega) hkl (val := .int .i64 1) (d := .lit (.int .i64 1)) (ps := []) one_is
  have hmk : MapO w' mb (n + 1) (fun y => S y ∨ y = x) := by
    refine ⟨D.put kl (.lit (.int .i64 1)), hown, fun p kp hp hkp => ?_⟩
    by_cases hpx : p = x
    · subst hpx
      obtain rfl : kl = kp := by rw [hkl] at hkp; injection hkp
      exact ⟨fun _ => .inr rfl, fun _ => Maps.has_put_same hD.isMap (sh_law.key hkl) _⟩
    · have hne : kp ≠ kl := fun e => by
        subst e
        exact hpx (sh_inj (sh_law.inj hkp hkl))
      rw [Maps.has_put_other hne, hd p kp hp hkp]
      exact ⟨fun h => .inl h, fun h => h.resolve_right hpx⟩
  have hD' := hD
  obtain ⟨es, clock, hb, F, hs, hDe⟩ := hD'
  have hlook : (Instr.lookup 37 (.map (some mb)) (.agg x.arr) false).run Try.prog w = .ok (.int .i64 0) w := by
    rcases Maps.fit_look false sh_law Try.underlying37 (zero_int w) hb F hkl with ⟨hr, _, _⟩ | ⟨e0, y, he0, hke, hr, hRv, hat, hh⟩
    · exact hr
    · exfalso
      rw [← hDe] at hat
      have := Maps.atKey_of_not_has hnh
      have h1 := (hat .nil).symm.trans (this .nil)
      have h2 := one_inv hRv
      rw [h2] at hRv
      have h3 := Option.some.inj (hRv.symm.trans one_is)
      rw [h3] at h1
      cases h1
  refine ⟨hlook, ?_⟩
  obtain ⟨v0, st, es1, clock1, hme, hv0, hes⟩ := Go.WideElems.entry_then_store sh_law0 Try.underlying37 (z := .int .i64 0) zero_int hb F hkl
  have hv : v0 = .int .i64 0 := by
    rcases hv0 with ⟨e0, he0, hke, _⟩ | ⟨_, h⟩
    · exfalso
      obtain ⟨y, hy⟩ := F.reads e0 he0
      have hk0 := Go.WideElems.rd_key hy
      rw [hke, hkl] at hk0
      have hyk := Option.some.inj hk0
      have : Maps.has D kl = true := by
        rw [hDe]
        refine List.any_eq_true.2 ⟨Go.WideElems.rg Try.prog 32 ROne e0, Go.mem_sorted.2 (List.mem_map.2 ⟨e0, he0, rfl⟩), ?_⟩
        rw [Go.WideElems.rg_of hy, ← hyk]
        exact WideAt.sameKey_self (sh_law.key hkl)
      rw [hnh] at this
      cases this
    · exact h
  subst hv
  have hwf : ∀ a : Int, a = 0 ∨ a = 1 → (Lit.int .i64 a).wf = true := fun a h => by rcases h with rfl | rfl <;> decide
  have hD2 := World.ownsMap_of_fit (R := plainElem (H := Value) Try.prog 3) hb F (fun y hy z hz => by
    have h1 := one_inv hz
    rw [h1] at hz ⊢
    have h2 := Option.some.inj (hz.symm.trans one_is)
    rw [h2]
    exact plainElem_int Try.underlying3 (hwf 1 (.inr rfl)))
  obtain ⟨wz, hrz, hoz, _⟩ := hD2.update sh_law Try.underlying37 (Nat.lt_of_le_of_lt (by assumption : es.size ≤ n) (by unfold maxLen; omega)) hkl (val := .int .i64 0) (plainElem_int Try.underlying3 (hwf 0 (.inl rfl)))
  have hnone : ∀ y ∈ es.toList, y.key ≠ .agg x.arr := by
    rcases hv0 with ⟨e0, he0, hke, hve⟩ | ⟨h, _⟩
    · exfalso
      obtain ⟨y, hy⟩ := F.reads e0 he0
      have hk0 := Go.WideElems.rd_key hy
      rw [hke, hkl] at hk0
      have hyk := Option.some.inj hk0
      have : Maps.has D kl = true := by
        rw [hDe]
        refine List.any_eq_true.2 ⟨Go.WideElems.rg Try.prog 32 ROne e0, Go.mem_sorted.2 (List.mem_map.2 ⟨e0, he0, rfl⟩), ?_⟩
        rw [Go.WideElems.rg_of hy, ← hyk]
        exact WideAt.sameKey_self (sh_law.key hkl)
      rw [hnh] at this
      cases this
    · exact h
  have hfind : (Instr.findKey 32 (.agg x.arr) es.toList).run Try.prog w = .ok none w := by
    rcases sh_law.find w hkl es.toList F.keys with ⟨h1, _⟩ | ⟨j, e0, _, h2, h3⟩
    · exact h1
    · exact absurd h3 (hnone e0 (List.mem_of_getElem? h2))
  have hme2 : (Instr.mapEntry 37 (.map (some mb)) (.agg x.arr)).run Try.prog w = .ok (.tuple #[.int .i64 0, goInt clock]) (Go.ChangeMaps.setBlock w mb (.map (es.push ⟨.agg x.arr, .int .i64 0, clock⟩) (clock + 1))) := by
    simp [Instr.mapEntry, run_underlying Try.underlying37, MapKept.run_getObj_map hb, sh_law.check w false hkl, hfind, zero_int, MapKept.run_setObj_map _ hb, Result.andThen, Go.ChangeMaps.setBlock]
  have hmu2 : (Instr.mapUpdate 37 (.map (some mb)) (.agg x.arr) (.int .i64 0)).run Try.prog w = .ok () (Go.ChangeMaps.setBlock w mb (.map (es.push ⟨.agg x.arr, .int .i64 0, clock⟩) (clock + 1))) := by
    simp [Instr.mapUpdate, run_underlying Try.underlying37, MapKept.run_getObj_map hb, sh_law.check w false hkl, hfind, MapKept.run_setObj_map _ hb, Result.andThen, Go.ChangeMaps.setBlock]
  have hwz : wz = Go.ChangeMaps.setBlock w mb (.map (es.push ⟨.agg x.arr, .int .i64 0, clock⟩) (clock + 1)) := by
    have e := hrz.symm.trans hmu2
    injection e
  have hww : Go.ChangeMaps.setBlock w mb (.map es1 clock1) = wz := by
    have e := hme.symm.trans hme2
    rw [hwz]
    injection e
  refine ⟨st, es1, clock1, hme, fun w2 hw2 => ⟨?_, ?_⟩⟩
  · have hbz : w2.heap[mb]? = wz.heap[mb]? := by rw [← hww, Go.ChangeMaps.heap_setBlock_same hb, hw2]
    obtain ⟨es2, clock2, z1, z2, z3, z4⟩ := hoz
    obtain ⟨c, hc, hat, _⟩ := World.ownsMap.lookup_int (H := Value) (w := w2) ⟨es2, clock2, hbz.trans z1, z2, z3, z4⟩ sh_law Try.underlying37 Try.underlying3 (zero_int w2) hkl
    rw [Maps.atKey_put_same hD2.isMap (sh_law.key hkl)] at hat
    have hc0 : (0 : Int) = c := by injection hat with h1; injection h1
    rw [hc, ← hc0]
  obtain ⟨es', clock', hst, hmu⟩ := hes w2 (.int .i64 1) hw2
  refine ⟨_, hst, hmk.kept ?_⟩
  have e : Result.ok () w' = Result.ok () (Go.ChangeMaps.setBlock w mb (.map es' clock')) := hrun.symm.trans hmu
  have e2 : w' = Go.ChangeMaps.setBlock w mb (.map es' clock') := by injection e
  rw [e2, Go.ChangeMaps.heap_setBlock_same hb, Go.ChangeMaps.heap_setBlock_same hw2]
theorem show_zero {M : Nat} {l : List It} {now : Int} {x : It} (h : (showS M l now x).2 = 0) : nearS now x.tm = true ∧ l.any (fun y => It.eq x y) = false ∧ (showS M l now x).1 = keepS now l ++ [x] := by
  rcases hn : nearS now x.tm with _ | _
  · rw [show_far hn] at h; cases h
  · rcases ha : l.any (fun y => It.eq x y) with _ | _
    · by_cases hM : M ≤ (keepS now l).length
      · rw [show_full hn ha hM] at h; cases h
      · rw [show_in hn ha hM]; exact ⟨rfl, rfl, rfl⟩
    · rw [show_again hn ha] at h; cases h
theorem show_sub {M : Nat} {l : List It} {now : Int} {x y : It} (hy : y ∈ l) : y ∈ (showS M l now x).1 ∨ now - y.tm > 30 := by
  have hk : y ∈ keepS now l ∨ now - y.tm > 30 := by
    rcases ho : old now y with _ | _
    · exact .inl (List.mem_filter.2 ⟨hy, by rw [ho]; rfl⟩)
    · exact .inr (of_decide_eq_true ho)
  unfold showS
  split
  · split
    · exact .inl hy
    · split
      · exact hk
      · rcases hk with h | h
        · exact .inl (List.mem_append.2 (.inl h))
        · exact .inr h
  · exact .inl hy
end Go.Proofs.Ytpdbdlaoeidflaa.Ch
