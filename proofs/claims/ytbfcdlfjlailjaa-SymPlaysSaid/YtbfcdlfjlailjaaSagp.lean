/-
  SymAgain: what stays so, whatever else is asked of the table; Box beside rows.
-/
import Derived.Test.YtbfcdlfjlailjaaSytb
namespace Go.Proofs.Ytbfcdlfjlailjaa.Sym
open Go.RowKit
open Go.Proofs.Ytbfcdlfjlailjaa.Kit
open Go.Proofs.Ytbfcdlfjlailjaa.Oct
set_option linter.unusedVariables false

/-- the origin of a password's key, of a derived key -/
def ogT (p s : ByteArray) : Og := ⟨Fr.text, p, s⟩
def ogD (k : List UInt8) (lab : ByteArray) : Og := ⟨⟨k, lab, false⟩, ⟨#[]⟩, ⟨#[]⟩⟩
theorem ogD_ogT (k : List UInt8) (lab p s : ByteArray) : ogD k lab ≠ ogT p s := fun e => by
  have h : false = true := congrArg (fun o => o.fr.tx) e
  cases h
/-- key 1 is the password's, key 2 is derived of it, box 1 is key 2's, sum 1 is the body's -/
structure Ag (p s lab : ByteArray) (body : List UInt8) (m n l : Nat) (T : Tab) : Prop where
  ks : T.ks.length ≤ m
  bs : T.bs.length ≤ n
  sm : T.sm.length ≤ l
  f1 : T.fd (ogT p s) = some 1
  f2 : T.fd (ogD (mk 107 1) lab) = some 2
  b0 : T.bs[0]? = some ⟨mk 107 2, 7, body⟩
  s0 : T.sm[0]? = some body
variable {p s lab : ByteArray} {body : List UInt8} {m n l : Nat} {T : Tab}
theorem ag_fresh (h : Ag p s lab body m n l T) : Ag p s lab body (m + 1) n l { T with ks := T.ks ++ [Fr.none] } :=
  { h with ks := by have := h.ks; simp only [List.length_append, List.length_cons, List.length_nil]; omega }
theorem ag_once (h : Ag p s lab body m n l T) (o : Og) : Ag p s lab body (m + 1) n l (onceT T o).2 := by
  cases hf : T.fd o with
  | some k =>
    rw [onceT_some hf]
    exact { h with ks := by have := h.ks; show T.ks.length ≤ m + 1; omega }
  | none =>
    rw [onceT_none hf]
    have n1 : ogT p s ≠ o := fun e => by rw [← e, h.f1] at hf; cases hf
    have n2 : ogD (mk 107 1) lab ≠ o := fun e => by rw [← e, h.f2] at hf; cases hf
    exact { h with
      ks := by have := h.ks; simp only [List.length_append, List.length_cons, List.length_nil]; omega
      f1 := (setF_other _ _ n1).trans h.f1
      f2 := (setF_other _ _ n2).trans h.f2 }
theorem ag_seal (h : Ag p s lab body m n l T) (x : Sl) : Ag p s lab body m (n + 1) l { T with bs := T.bs ++ [x] } :=
  { h with
    bs := by have := h.bs; simp only [List.length_append, List.length_cons, List.length_nil]; omega
    b0 := by
      show (T.bs ++ [x])[0]? = _
      rw [List.getElem?_append_left (List.getElem?_eq_some_iff.1 h.b0).1]; exact h.b0 }
theorem ag_sum (h : Ag p s lab body m n l T) (x : List UInt8) : Ag p s lab body m n (l + 1) (sumT T x) := by
  by_cases hx : x ∈ T.sm
  · rw [sumT_in hx]
    exact { h with sm := by have := h.sm; omega }
  · rw [sumT_new hx]
    exact { h with
      sm := by have := h.sm; simp only [List.length_append, List.length_cons, List.length_nil]; omega
      s0 := by
        show (T.sm ++ [x])[0]? = _
        rw [List.getElem?_append_left (List.getElem?_eq_some_iff.1 h.s0).1]; exact h.s0 }
theorem ag_text2 (h : Ag p s lab body m n l T) : onceT T (ogT p s) = (1, T) := onceT_some h.f1
theorem ag_der2 (h : Ag p s lab body m n l T) : onceT T (ogD (mk 107 1) lab) = (2, T) := onceT_some h.f2
theorem ag_sum2 (h : Ag p s lab body m n l T) : idxS T.sm body = 0 ∧ sumT T body = T :=
  ⟨idxS_at T.sm body 0 h.s0 (fun j hj => absurd hj (by omega)), sumT_in (List.mem_of_getElem? h.s0)⟩
theorem ag_box (h : Ag p s lab body m n l T) : boxS T (mk 98 1) = some ⟨mk 107 2, 7, body⟩ := by
  have hl := (List.getElem?_eq_some_iff.1 h.b0).1
  unfold boxS
  rw [mark1.1, mark1.2.1, if_pos ⟨rfl, Nat.le_refl _, hl⟩]
  exact h.b0
/-- the four that are asked first -/
noncomputable def A1 (p s : ByteArray) : Tab := (onceT Tab.none (ogT p s)).2
noncomputable def A2 (p s lab : ByteArray) : Tab := (onceT (A1 p s) (ogD (mk 107 1) lab)).2
noncomputable def A3 (p s lab : ByteArray) (body : List UInt8) : Tab := { A2 p s lab with bs := (A2 p s lab).bs ++ [⟨mk 107 2, 7, body⟩] }
noncomputable def A4 (p s lab : ByteArray) (body : List UInt8) : Tab := sumT (A3 p s lab body) body
theorem a1_eq (p s : ByteArray) : onceT Tab.none (ogT p s) = (1, A1 p s) ∧ (A1 p s) = ⟨[Fr.text], [], [], setF (fun _ => none) (ogT p s) 1⟩ := by
  have h : onceT Tab.none (ogT p s) = _ := onceT_none rfl
  have e : A1 p s = ⟨[Fr.text], [], [], setF (fun _ => none) (ogT p s) 1⟩ := by unfold A1; rw [h]; rfl
  exact ⟨by rw [h]; unfold A1; rw [h]; rfl, e⟩
theorem a2_eq (p s lab : ByteArray) : onceT (A1 p s) (ogD (mk 107 1) lab) = (2, A2 p s lab) ∧ (A2 p s lab) = ⟨[Fr.text, ⟨mk 107 1, lab, false⟩], [], [], setF (setF (fun _ => none) (ogT p s) 1) (ogD (mk 107 1) lab) 2⟩ := by
  have hn : (A1 p s).fd (ogD (mk 107 1) lab) = none := by rw [(a1_eq p s).2]; exact (setF_other (fun _ => none) (o := ogT p s) (p := ogD (mk 107 1) lab) 1 (ogD_ogT _ _ _ _))
  have h : onceT (A1 p s) (ogD (mk 107 1) lab) = _ := onceT_none hn
  have e : A2 p s lab = ⟨[Fr.text, ⟨mk 107 1, lab, false⟩], [], [], setF (setF (fun _ => none) (ogT p s) 1) (ogD (mk 107 1) lab) 2⟩ := by unfold A2; rw [h, (a1_eq p s).2]; rfl
  refine ⟨?_, e⟩
  rw [show A2 p s lab = (onceT (A1 p s) (ogD (mk 107 1) lab)).2 from rfl, h, (a1_eq p s).2]
  rfl
theorem a4_ag (p s lab : ByteArray) (body : List UInt8) : Ag p s lab body 2 1 1 (A4 p s lab body) ∧ idxS (A3 p s lab body).sm body = 0 ∧ (A3 p s lab body).sm = [] ∧ (A2 p s lab).bs = [] := by
  have e3 : A3 p s lab body = ⟨[Fr.text, ⟨mk 107 1, lab, false⟩], [⟨mk 107 2, 7, body⟩], [], setF (setF (fun _ => none) (ogT p s) 1) (ogD (mk 107 1) lab) 2⟩ := by unfold A3; rw [(a2_eq p s lab).2]; rfl
  have hs : (A3 p s lab body).sm = [] := by rw [e3]
  have e4 : A4 p s lab body = ⟨[Fr.text, ⟨mk 107 1, lab, false⟩], [⟨mk 107 2, 7, body⟩], [body], setF (setF (fun _ => none) (ogT p s) 1) (ogD (mk 107 1) lab) 2⟩ := by
    unfold A4; rw [sumT_new (by rw [hs]; simp), e3]; rfl
  refine ⟨?_, by rw [hs]; rfl, hs, by rw [(a2_eq p s lab).2]⟩
  rw [e4]
  exact ⟨by simp, by simp, by simp, (setF_other _ _ (ogD_ogT _ _ _ _).symm).trans (setF_same _ _ _), setF_same _ _ _, rfl, rfl⟩
/-- a box told: its body is a copy -/
theorem Tb.box {w0 w : World} {tb : Nat} {T : Tab} {R : Nat → Prop} (h : Tb w0 w tb T R) {A : Option Addr} {n c : Nat} {b : List UInt8} {s : Sl} (hbx : boxS T b = some s) (hrd : RdB w w.heap.size A n c b) :
    Calls Try.prog 18 #[.pointer (some ⟨tb, 0, none⟩), .slice A n c] w fun e w' => ∃ A' c', e = .returned (.tuple #[.agg (s.key.map bv ++ ([.int .i64 s.us, .slice A' s.body.length c'] : List Value)).toArray, .bool true]) ∧
      w'.ownsRow w.heap.size 5 1 (.slice A' s.body.length c') s.body.length (s.body.map bv) ∧ Below w.heap.size w w' ∧ Tb w0 w' tb T R ∧ Rows R w w' := by
  have h0 := h
  obtain ⟨L, O, S, ht, ho, hr, hw⟩ := h
  exact (box_yes hbx ht hrd).mono fun e w' ⟨A', c', he, hown, hb⟩ => ⟨A', c', he, hown, hb, h0.below hb⟩
end Go.Proofs.Ytbfcdlfjlailjaa.Sym
