/-
  ARGUMENTS OF SIXTEEN BYTES, AND STRINGS, opened (for the cards too).
-/
import Derived.Test.YtgebdkbbdabomaaDoorAesp
import Derived.Test.YtgebdkbbdabomaaDoorChecked
import Derived.Test.YtgebdkbbdabomaaDoorFin
import Derived.WideKeyArr2
namespace Go.Proofs.YtgebdkbbdabomaaDoor.Open
open Go.ChangeShapes Go.WideShapes Go.ChangeAt Go.RowKit
open Go.Proofs.YtgebdkbbdabomaaDoor.Kit
open Go.Proofs.YtgebdkbbdabomaaDoor.Aes (row row_len row_at)
set_option linter.unusedVariables false
set_option maxRecDepth 100000

theorem okWide_16 {W : World} {r : Reach} {b0 : Nat} {v : Value} (h : Value.okWide Tryd.prog W r b0 29 v) : ∃ cs : Array Value, v = .agg cs ∧ cs.size = 16 := by
  simp only [Value.okWide, Tryd.underlying29] at h
  obtain ⟨cs, h1, h2, _⟩ := h
  exact ⟨cs, h1, by rw [h2]; kernel_rfl⟩
theorem mapM_get {α β : Type} {f : α → Option β} : ∀ {L : List α} {ys : List β}, L.mapM f = some ys → ∀ x ∈ L, ∃ y, f x = some y
  | [], _, _, x, hx => by cases hx
  | a :: L, ys, h, x, hx => by
    rw [List.mapM_cons] at h
    simp only [bind, Option.bind_eq_some_iff, pure, Option.some.injEq] at h
    obtain ⟨y, hy, zs, hz, _⟩ := h
    rcases List.mem_cons.1 hx with rfl | hx
    · exact ⟨y, hy⟩
    · exact mapM_get hz x hx
theorem open_16 {H : Type} {enc : TypeId × Value → H} {W : World} {b : Nat} {sp : Nat → Bool} {hd : Bool} {cs : Array Value} {d : DataW H} {p : List MemPlace} (hs : cs.size = 16)
    (h : DataW.Trod enc Tryd.prog W b sp hd 29 (.agg cs) d p) : ∃ bs : List UInt8, bs.length = 16 ∧ cs = (bs.map bv).toArray := by
  obtain ⟨fuel, hf⟩ := h
  cases fuel with
  | zero => simp [DataW.trod] at hf
  | succ m =>
    rw [DataW.trod_step] at hf
    unfold DataW.trodStep at hf
    simp only [Tryd.underlying29, Value.cells] at hf
    split at hf
    · simp only [Option.map_eq_some_iff] at hf
      obtain ⟨ys, hy, _⟩ := hf
      have hc : Tryd.prog.cellsOf 5 = 1 := by kernel_rfl
      have hx : ∀ i, i < 16 → ∃ u : UInt8, cs[i]? = some (bv u) := fun i hi => by
        obtain ⟨y, hy⟩ := mapM_get hy i (by simpa using hi)
        obtain ⟨n, e1, _, hw⟩ := DataW.trod_int Tryd.underlying5 hy
        rw [hc, Nat.mul_one] at e1
        obtain ⟨u, rfl⟩ := nat_u8 hw
        refine ⟨u, ?_⟩
        have h0 : ((cs.toList.drop i).take 1)[0]? = some (Value.int .u8 (u.toNat : Int)) := by rw [e1]; rfl
        rw [List.getElem?_take_of_lt (by omega), List.getElem?_drop, Nat.add_zero, Array.getElem?_toList] at h0
        exact h0
      refine ⟨row (fun i => if h : i < 16 then (hx i h).choose else 0) 16, row_len _ _, ?_⟩
      have e : ∀ (L : List UInt8) (i : Nat), ((L.map bv).toArray)[i]? = (L.map bv)[i]? := fun F i => List.getElem?_toArray
      apply Array.ext_getElem?
      intro i
      rw [e, List.getElem?_map]
      by_cases hi : i < 16
      · rw [row_at _ hi, dif_pos hi]; exact (hx i hi).choose_spec
      · rw [Array.getElem?_eq_none (by omega), List.getElem?_eq_none (by rw [row_len]; omega)]; rfl
    · cases hf
end Go.Proofs.YtgebdkbbdabomaaDoor.Open
