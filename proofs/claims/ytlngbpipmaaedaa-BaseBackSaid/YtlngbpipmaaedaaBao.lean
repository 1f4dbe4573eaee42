/-
  base, plainly: names apart, names in order; who is added and goes again.
-/
import Derived.Test.YtlngbpipmaaedaaBan
namespace Go.Proofs.Ytlngbpipmaaedaa.Ba
open Go.RowKit
open Go.Proofs.Ytlngbpipmaaedaa.Kit
set_option linter.unusedVariables false

/-- all apart, and no more than there may be -/
structure Ap (L : List Us) : Prop where
  nd : (L.map Us.nm).Nodup
  le : L.length ≤ 32
  k16 : ∀ u ∈ L, u.key.length = 16
theorem findU_neg : ∀ {L : List Us} {s : ByteArray}, findU L s < 0 → ∀ u ∈ L, u.nm ≠ s
  | [], _, _, u, hu => by cases hu
  | x :: r, s, h, u, hu => by
    unfold findU at h
    by_cases hx : x.nm = s
    · rw [if_pos hx] at h; omega
    · rw [if_neg hx] at h
      by_cases h2 : findU r s < 0
      · rcases List.mem_cons.1 hu with rfl | hu
        · exact hx
        · exact findU_neg h2 u hu
      · rw [if_neg h2] at h; omega
theorem Ap.nil : Ap [] := ⟨List.nodup_nil, by simp, fun u h => by cases h⟩
theorem Ap.add {L : List Us} (h : Ap L) {u : Us} (hu : u.key.length = 16) : Ap (addU L u).1 ∧ ((addU L u).2 = 0 → (addU L u).1 = L ++ [u] ∧ findU L u.nm < 0 ∧ L.length < 32) ∧ ((addU L u).2 ≠ 0 → (addU L u).1 = L) := by
  unfold addU
  by_cases h1 : Nam.rightS u.nm = false
  · rw [if_pos h1]; exact ⟨h, fun e => by simp at e, fun _ => rfl⟩
  rw [if_neg h1]
  by_cases h2 : u.lives = false
  · rw [if_pos h2]; exact ⟨h, fun e => by simp at e, fun _ => rfl⟩
  rw [if_neg h2]
  by_cases h3 : ¬ findU L u.nm < 0
  · rw [if_pos h3]; exact ⟨h, fun e => by simp at e, fun _ => rfl⟩
  rw [if_neg h3]
  by_cases h4 : 32 ≤ L.length
  · rw [if_pos h4]; exact ⟨h, fun e => by simp at e, fun _ => rfl⟩
  rw [if_neg h4]
  have h5 : findU L u.nm < 0 := Decidable.not_not.1 h3
  refine ⟨⟨?_, by simp; omega, fun x hx => ?_⟩, fun _ => ⟨rfl, h5, by omega⟩, fun e => absurd rfl e⟩
  · rw [List.map_append, List.nodup_append]
    refine ⟨h.nd, by simp, fun a ha b hb => ?_⟩
    obtain ⟨x, hx, rfl⟩ := List.mem_map.1 ha
    have e : b = u.nm := by simpa using hb
    rw [e]
    exact findU_neg h5 x hx
  · rcases List.mem_append.1 hx with hx | hx
    · exact h.k16 x hx
    · rw [List.mem_singleton.1 hx]; exact hu
/-- who was added goes again: all are as before -/
theorem drop_add {L : List Us} {u : Us} (h : findU L u.nm < 0) : dropU (L ++ [u]) u.nm = (L, 0) := by
  have hf : findU (L ++ [u]) u.nm = L.length := findU_at _ _ L.length u (by rw [List.getElem?_append_right (Nat.le_refl _)]; simp) rfl fun j x hj hx => by
    rw [List.getElem?_append_left hj] at hx
    exact findU_neg h x (List.mem_of_getElem? hx)
  unfold dropU
  rw [hf, if_neg (by omega), Int.toNat_natCast, cutU, List.take_left, List.drop_of_length_le (by simp), List.append_nil]
theorem nl_inj {u v : Us} (h : u.nl = v.nl) : u.nm = v.nm := by
  unfold Us.nl at h
  have : u.nm.data = v.nm.data := Array.toList_inj.1 h
  cases hu : u.nm; cases hv : v.nm
  rw [hu, hv] at this
  simpa using this
theorem names_nodup {L : List Us} (h : (L.map Us.nm).Nodup) : (L.map Us.nl).Nodup := by
  unfold List.Nodup at *
  rw [List.pairwise_map] at *
  exact h.imp fun {a b} hn e => hn (nl_inj e)
theorem names_lt {L : List Us} (h : (L.map Us.nm).Nodup) : (namesU L).Pairwise (· < ·) := by
  have tr : ∀ a b c : List UInt8, decide (a ≤ b) = true → decide (b ≤ c) = true → decide (a ≤ c) = true := fun a b c h1 h2 => by simp only [decide_eq_true_eq] at *; exact List.le_trans h1 h2
  have to : ∀ a b : List UInt8, (decide (a ≤ b) || decide (b ≤ a)) = true := fun a b => by simp only [Bool.or_eq_true, decide_eq_true_eq]; exact List.le_total a b
  have hp : (namesU L).Pairwise (fun a b => decide (a ≤ b) = true) := List.pairwise_mergeSort tr to _
  have hn : (namesU L).Nodup := (List.mergeSort_perm _ _).nodup_iff.2 (names_nodup h)
  refine (hp.and hn).imp fun {a b} hab => ?_
  have h1 : a ≤ b := of_decide_eq_true hab.1
  rcases Decidable.em (a < b) with h2 | h2
  · exact h2
  · exact absurd (List.le_antisymm h1 (List.not_lt.1 h2)) hab.2
theorem findU_get : ∀ (L : List Us) (s : ByteArray), 0 ≤ findU L s → ∃ u, L[(findU L s).toNat]? = some u ∧ u.nm = s
  | [], s, h => by simp [findU] at h
  | x :: r, s, h => by
    unfold findU at h ⊢
    by_cases hx : x.nm = s
    · rw [if_pos hx]; exact ⟨x, rfl, hx⟩
    · rw [if_neg hx] at h ⊢
      by_cases h2 : findU r s < 0
      · rw [if_pos h2] at h; omega
      · rw [if_neg h2]
        obtain ⟨u, h3, h4⟩ := findU_get r s (by omega)
        refine ⟨u, ?_, h4⟩
        rw [show (findU r s + 1).toNat = (findU r s).toNat + 1 from by omega, List.getElem?_cons_succ]
        exact h3
theorem less_iff : ∀ x y : List UInt8, Op.bytesLess x y = decide (x < y)
  | x, [] => by
    have : ¬ x < [] := List.not_lt_nil x
    cases x <;> simp [Op.bytesLess]
  | [], b :: y => by simp [Op.bytesLess]
  | a :: x, b :: y => by
    rw [Op.bytesLess, less_iff x y]
    by_cases h1 : a < b
    · simp [h1, List.cons_lt_cons_iff]
    · by_cases h2 : a = b
      · subst h2; simp
      · simp [h1, h2, List.cons_lt_cons_iff]
theorem names_mem {L : List Us} {x : List UInt8} (h : x ∈ namesU L) : ∃ u ∈ L, u.nl = x := by
  have := (List.mergeSort_perm _ _).mem_iff.1 h
  simpa using this
/-- who stands there by a name has it -/
theorem getU_name {L : List Us} {x : List UInt8} (h : x ∈ namesU L) : ∃ u, getU L ⟨x.toArray⟩ = (u, 0) ∧ u.nm = ⟨x.toArray⟩ ∧ u ∈ L := by
  obtain ⟨v, hv, rfl⟩ := names_mem h
  have hs : (⟨v.nl.toArray⟩ : ByteArray) = v.nm := rfl
  rw [hs]
  rcases Int.lt_or_le (findU L v.nm) 0 with h0 | h0
  · exact absurd rfl (findU_neg h0 v hv)
  · obtain ⟨u, h3, h4⟩ := findU_get L v.nm h0
    refine ⟨u, ?_, h4, List.mem_of_getElem? h3⟩
    unfold getU
    rw [if_neg (by omega), List.getD_eq_getElem?_getD, h3]
    rfl
end Go.Proofs.Ytlngbpipmaaedaa.Ba
