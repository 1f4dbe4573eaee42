/-
  Names, plainly: what is folded is folded no more; a name is its own, and may be said.
-/
import Derived.Test.YtlkokljlghlldaaDoorNampb
namespace Go.Proofs.YtlkokljlghlldaaDoor.Nam
open Go.Lib
set_option linter.unusedVariables false

theorem enc_pos (r : Nat) : 1 ≤ (encodeRune (r : Int)).length := by
  have := runeCells_le (r : Int)
  rw [runeCells_length] at this
  exact this.1
theorem enc_le (r : Nat) : (encodeRune (r : Int)).length ≤ 4 := by
  have := runeCells_le (r : Int)
  rw [runeCells_length] at this
  exact this.2
theorem runs_rune (s : ByteArray) : ∀ f p, ∀ r ∈ runs s f p, Rune r
  | 0, p, r, h => by simp [runs] at h
  | f + 1, p, r, h => by
    unfold runs at h
    split at h
    · rcases List.mem_cons.1 h with rfl | h
      · exact rune_at s p
      · exact runs_rune s f _ r h
    · simp at h
theorem runs_enc (s : ByteArray) : ∀ (rs : List Nat) (l : List UInt8) (f : Nat), (∀ r ∈ rs, Rune r) → s.data.toList = l ++ rs.flatMap (fun r : Nat => encodeRune (r : Int)) → s.size ≤ l.length + f → runs s f l.length = rs
  | [], l, f, _, h, _ => by
    have hz : s.size = l.length := by
      have := congrArg List.length h
      simpa using this
    exact runs_end s f _ (by omega)
  | r :: rs, l, f, hr, h, hf => by
    have hz : s.size = l.length + (encodeRune (r : Int)).length + (rs.flatMap (fun r : Nat => encodeRune (r : Int))).length := by
      have := congrArg List.length h
      rw [List.flatMap_cons, List.length_append, List.length_append] at this
      simpa [Nat.add_assoc] using this
    have hp := enc_pos r
    obtain ⟨g, rfl⟩ : ∃ g, f = g + 1 := ⟨f - 1, by omega⟩
    rw [runs_step s g _ (by omega), dec_enc s l.length r (hr r (List.mem_cons_self ..)) l _ (by rw [h, List.flatMap_cons, List.append_assoc]) rfl]
    have ih := runs_enc s rs (l ++ encodeRune (r : Int)) g (fun x hx => hr x (List.mem_cons_of_mem _ hx)) (by rw [h, List.flatMap_cons, List.append_assoc]) (by rw [List.length_append]; omega)
    rw [List.length_append] at ih
    simp only
    rw [ih]
theorem foldL_map (l : List Nat) : foldL l = (l.map foldR).flatMap (fun r : Nat => encodeRune (r : Int)) := by
  unfold foldL
  rw [List.flatMap_map]
theorem bigN_iff (r : Nat) : bigN (r : Int) = true ↔ (65 ≤ r ∧ r ≤ 90) ∨ (192 ≤ r ∧ r ≤ 222 ∧ r ≠ 215) ∨ (913 ≤ r ∧ r ≤ 937 ∧ r ≠ 930) ∨ (1040 ≤ r ∧ r ≤ 1071) := by
  simp only [bigN, letN, Bool.or_eq_true, decide_eq_true_eq]
  omega
theorem letN_iff (r : Nat) : letN (r : Int) = true ↔ (97 ≤ r ∧ r ≤ 122) ∨ (224 ≤ r ∧ r ≤ 254 ∧ r ≠ 247) ∨ (945 ≤ r ∧ r ≤ 969 ∧ r ≠ 962) ∨ (1072 ≤ r ∧ r ≤ 1103) := by
  simp only [letN, Bool.or_eq_true, decide_eq_true_eq]
  omega
theorem foldR_rune {r : Nat} (h : Rune r) : Rune (foldR r) := by
  unfold foldR
  split
  · rename_i hb
    have := (bigN_iff r).1 hb
    unfold Rune
    omega
  · exact h
theorem foldR_idem (r : Nat) : foldR (foldR r) = foldR r := by
  by_cases hb : bigN (r : Int) = true
  · have h1 : foldR r = r + 32 := by unfold foldR; rw [if_pos hb]
    have h2 := (bigN_iff r).1 hb
    rw [h1]
    unfold foldR
    rw [if_neg]
    intro hc
    have := (bigN_iff (r + 32)).1 hc
    omega
  · have h1 : foldR r = r := by unfold foldR; rw [if_neg hb]
    rw [h1, h1]
theorem runes_fold (s : ByteArray) : runesS (foldS s) = (runesS s).map foldR := by
  have h := runs_enc (foldS s) ((runesS s).map foldR) [] (foldS s).size (fun r hr => by
    obtain ⟨x, hx, rfl⟩ := List.mem_map.1 hr
    exact foldR_rune (runs_rune s _ _ x hx)) (by rw [List.nil_append, ← foldL_map]; simp [foldS]) (by simp)
  exact h
theorem foldS_idem (s : ByteArray) : foldS (foldS s) = foldS s := by
  have h : foldL (runesS (foldS s)) = foldL (runesS s) := by
    rw [runes_fold, foldL_map, foldL_map, List.map_map]
    congr 1
    apply List.map_congr_left
    intro r _
    exact foldR_idem r
  show (⟨(foldL (runesS (foldS s))).toArray⟩ : ByteArray) = ⟨(foldL (runesS s)).toArray⟩
  rw [h]
theorem enc_runs (s : ByteArray) : ∀ f p, (∀ r ∈ runs s f p, r ≠ 65533) → s.size ≤ p + f → (runs s f p).flatMap (fun r : Nat => encodeRune (r : Int)) = s.data.toList.drop p
  | 0, p, _, hf => by
    rw [List.drop_eq_nil_of_le (by simp; omega)]
    rfl
  | f + 1, p, h, hf => by
    by_cases hp : p < s.size
    · rw [runs_step s f p hp] at h ⊢
      have hw := width_at s p
      rw [List.flatMap_cons, enc_runs s f _ (fun r hr => h r (List.mem_cons_of_mem _ hr)) (by omega), enc_dec s p hp (fun e => h _ (List.mem_cons_self ..) e.1)]
      rw [← List.drop_drop, List.take_append_drop]
    · rw [runs_end s _ p hp, List.drop_eq_nil_of_le (by simp; omega)]
      rfl
/-- a rune that a name may have -/
def Nam (r : Nat) : Prop := letN (r : Int) = true ∨ r = 45 ∨ (48 ≤ r ∧ r ≤ 57)
theorem stN_nam {r c : Nat} (h : stN (r : Int) c = true) : Nam r := by
  unfold stN at h
  rw [Bool.or_eq_true, Bool.and_eq_true, Bool.or_eq_true, decide_eq_true_eq, decide_eq_true_eq, decide_eq_true_eq] at h
  unfold Nam
  rcases h with h | ⟨_, h | h⟩
  · exact .inl h
  · right; left; omega
  · right; right; omega
theorem rightL_nam : ∀ (l : List Nat) (c : Nat), rightL l c = true → ∀ r ∈ l, Nam r
  | [], _, _, r, h => by simp at h
  | x :: l, c, h, r, hr => by
    unfold rightL at h
    split at h
    · cases h
    · split at h
      · rename_i h2
        rcases List.mem_cons.1 hr with rfl | hr
        · exact stN_nam h2
        · exact rightL_nam l _ h r hr
      · cases h
theorem rightL_len : ∀ (l : List Nat) (c : Nat), c ≤ 16 → rightL l c = true → c + l.length ≤ 16
  | [], c, hc, _ => by simpa using hc
  | x :: l, c, hc, h => by
    unfold rightL at h
    split at h
    · cases h
    · split at h
      · have := rightL_len l (c + 1) (by omega) h
        rw [List.length_cons]
        omega
      · cases h
theorem textL_of (most : Int) : ∀ (l : List Nat) (c : Nat), (∀ r ∈ l, Nam r) → textL most l c = decide (((c + l.length : Nat) : Int) ≤ most)
  | [], c, _ => rfl
  | x :: l, c, h => by
    have hx := h x (List.mem_cons_self ..)
    unfold Nam at hx
    rw [letN_iff] at hx
    unfold textL
    rw [if_neg (by omega), textL_of most l (c + 1) (fun r hr => h r (List.mem_cons_of_mem _ hr)), List.length_cons, Nat.add_right_comm, Nat.add_assoc]
theorem nam_fold {r : Nat} (h : Nam r) : foldR r = r ∧ r ≠ 65533 ∧ r ≠ 32 := by
  unfold Nam at h
  rw [letN_iff] at h
  refine ⟨?_, by omega, by omega⟩
  unfold foldR
  rw [if_neg]
  intro hb
  have := (bigN_iff r).1 hb
  omega
theorem ba_ext {a b : ByteArray} (h : a.data.toList = b.data.toList) : a = b := by
  obtain ⟨⟨x⟩⟩ := a
  obtain ⟨⟨y⟩⟩ := b
  simp only at h
  rw [h]
theorem name_own (s : ByteArray) (h : rightS s = true) : foldS s = s := by
  have hn := rightL_nam _ _ h
  apply ba_ext
  show (foldL (runesS s)).toArray.toList = _
  rw [List.toList_toArray, foldL_map, List.map_congr_left (g := id) (fun r hr => (nam_fold (hn r hr)).1), List.map_id]
  exact enc_runs s s.size 0 (fun r hr => (nam_fold (hn r hr)).2.1) (by omega)
theorem name_text (s : ByteArray) (h : rightS s = true) : textS s 16 = true := by
  have hn := rightL_nam _ _ h
  have hl := rightL_len _ _ (by omega) h
  unfold textS
  rw [textL_of _ _ _ hn]
  simp
  omega
theorem enc_mem {r : Nat} {b : UInt8} (h : b ∈ encodeRune (r : Int)) : b.toNat = r ∨ 128 ≤ b.toNat := by
  have n8 : ∀ (z : Int), 128 ≤ z → z < 256 → 128 ≤ (z.toNat.toUInt8).toNat := fun z h1 h2 => by
    rw [show (z.toNat.toUInt8).toNat = z.toNat from UInt8.toNat_ofNat_of_lt' (by show z.toNat < 256; omega)]
    omega
  have hb : ∀ l : List Int, encodeRuneZ (r : Int) = l → (∀ z ∈ l, 128 ≤ z ∧ z < 256) → 128 ≤ b.toNat := fun l e hl => by
    rw [encZ e] at h
    obtain ⟨z, hz, rfl⟩ := List.mem_map.1 h
    exact n8 z (hl z hz).1 (hl z hz).2
  by_cases h1 : r ≤ 127
  · left
    rw [encZ (encodeRuneZ_one (r := (r : Int)) (by omega) (by omega))] at h
    simp only [List.map_cons, List.map_nil, List.mem_singleton] at h
    rw [h]
    exact UInt8.toNat_ofNat_of_lt' (by show r < 256; omega)
  right
  by_cases h2 : r ≤ 2047
  · refine hb _ (encodeRuneZ_two (r := (r : Int)) (by omega) (by omega)) ?_
    intro z hz
    simp only [List.mem_cons, List.not_mem_nil, or_false] at hz
    omega
  by_cases h3 : (2048 ≤ (r : Int) ∧ (r : Int) < 55296) ∨ (57343 < (r : Int) ∧ (r : Int) ≤ 65535)
  · refine hb _ (encodeRuneZ_three h3) ?_
    intro z hz
    simp only [List.mem_cons, List.not_mem_nil, or_false] at hz
    omega
  by_cases h4 : 65536 ≤ (r : Int) ∧ (r : Int) ≤ 1114111
  · refine hb _ (encodeRuneZ_four h4.1 h4.2) ?_
    intro z hz
    simp only [List.mem_cons, List.not_mem_nil, or_false] at hz
    omega
  · refine hb _ (encodeRuneZ_bad (r := (r : Int)) (by omega)) ?_
    intro z hz
    simp only [List.mem_cons, List.not_mem_nil, or_false] at hz
    omega
theorem countB_one (s : ByteArray) : countB s ⟨#[32]⟩ = s.data.toList.count 32 := count_one 32 s.data.toList
theorem name_words (s : ByteArray) (h : rightS s = true) : countB (foldS s) ⟨#[32]⟩ = 0 := by
  have hn := rightL_nam _ _ h
  rw [countB_one, List.count_eq_zero]
  intro hm
  have hm : (32 : UInt8) ∈ foldL (runesS s) := by simpa [foldS] using hm
  obtain ⟨r, hr, hb⟩ := List.mem_flatMap.1 hm
  have hf := nam_fold (hn r hr)
  rw [hf.1] at hb
  have := enc_mem hb
  have h32 : (32 : UInt8).toNat = 32 := rfl
  omega
/-- of a text whose fold is a name: the fold may be said, and has one word -/
theorem fold_text (s : ByteArray) (h : rightS (foldS s) = true) : textS (foldS s) 16 = true ∧ countB (foldS s) ⟨#[32]⟩ = 0 := by
  refine ⟨name_text _ h, ?_⟩
  have := name_words _ h
  rwa [foldS_idem] at this
end Go.Proofs.YtlkokljlghlldaaDoor.Nam
