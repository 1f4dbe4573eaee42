/-
  sym's Find.
-/
import Derived.Test.YtbfcdlfjlailjaaSymab
import Derived.Great.BuildSlice
import Derived.Deep.AppendLies
namespace Go.Proofs.Ytbfcdlfjlailjaa.Sym
open Go.RowKit
open Go.Proofs.Ytbfcdlfjlailjaa.Kit
open Go.Proofs.Ytbfcdlfjlailjaa.Oct
set_option linter.unusedVariables false

/-- sixteen bytes from a place on -/
def part (bs : List UInt8) (i : Nat) : List UInt8 := (bs.drop i).take 16
/-- the marks that begin at the first k places -/
def findK (bs : List UInt8) : Nat → List (List UInt8)
  | 0 => []
  | k + 1 => findK bs k ++ if mkO (part bs k) = true then [part bs k] else []
def findS (bs : List UInt8) : List (List UInt8) := findK bs (bs.length - 15)
theorem part_len {bs : List UInt8} {i : Nat} (h : i + 16 ≤ bs.length) : (part bs i).length = 16 := by rw [part, List.length_take, List.length_drop]; omega
theorem findK_le (bs : List UInt8) (k : Nat) : (findK bs k).length ≤ k := by
  induction k with
  | zero => simp [findK]
  | succ k ih => rw [findK, List.length_append]; split <;> simp <;> omega
def cellsL (l : List (List UInt8)) : List Value := l.flatMap fun p => p.map bv
theorem cellsL_app (l m : List (List UInt8)) : cellsL (l ++ m) = cellsL l ++ cellsL m := by simp [cellsL]
theorem infoKey : (Try.prog.info? 36).map (fun i => (i.zero, i.size, i.bytes)) = some (some (.agg #[.int .u8 0, .int .u8 0, .int .u8 0, .int .u8 0, .int .u8 0, .int .u8 0, .int .u8 0, .int .u8 0, .int .u8 0, .int .u8 0, .int .u8 0, .int .u8 0, .int .u8 0, .int .u8 0, .int .u8 0, .int .u8 0]), 16, 16) := by kernel_rfl
theorem size16 {KV : Array Value} (h : KV.size = 16) : ∃ a0 a1 a2 a3 a4 a5 a6 a7 a8 a9 a10 a11 a12 a13 a14 a15, KV = #[a0, a1, a2, a3, a4, a5, a6, a7, a8, a9, a10, a11, a12, a13, a14, a15] := by
  obtain ⟨l⟩ := KV
  match l, h with
  | [a0, a1, a2, a3, a4, a5, a6, a7, a8, a9, a10, a11, a12, a13, a14, a15], _ => exact ⟨a0, a1, a2, a3, a4, a5, a6, a7, a8, a9, a10, a11, a12, a13, a14, a15, rfl⟩
theorem fill_key (z : Value) (hz : z = .agg #[.int .u8 0, .int .u8 0, .int .u8 0, .int .u8 0, .int .u8 0, .int .u8 0, .int .u8 0, .int .u8 0, .int .u8 0, .int .u8 0, .int .u8 0, .int .u8 0, .int .u8 0, .int .u8 0, .int .u8 0, .int .u8 0]) (KV : Array Value) (h : KV.size = 16) :
    Instr.fill (fun i => some (i * 16, 16)) ((Array.range (1 * 16)).map (z.cells[· % z.cells.size]!)) [(0, .agg KV)] = some KV := by
  obtain ⟨a0, a1, a2, a3, a4, a5, a6, a7, a8, a9, a10, a11, a12, a13, a14, a15, rfl⟩ := size16 h
  subst hz
  kernel_rfl
theorem fold_key (KV : Array Value) (h : KV.size = 16) : Array.foldl (fun cs x => cs.setIfInBounds x.snd x.fst) #[.int .u8 0, .int .u8 0, .int .u8 0, .int .u8 0, .int .u8 0, .int .u8 0, .int .u8 0, .int .u8 0, .int .u8 0, .int .u8 0, .int .u8 0, .int .u8 0, .int .u8 0, .int .u8 0, .int .u8 0, .int .u8 0] KV.zipIdx 0 KV.size = KV := by
  obtain ⟨a0, a1, a2, a3, a4, a5, a6, a7, a8, a9, a10, a11, a12, a13, a14, a15, rfl⟩ := size16 h
  kernel_rfl
theorem cut_part {w : World} {B n c b o i : Nat} {bs : List UInt8} (h : RdB w B (some ⟨b, o, none⟩) n c bs) (hi : i + 16 ≤ n) : RdB w B (some ⟨b, o + i, none⟩) 16 (c - i) (part bs i) := by
  have hr := h.room
  have h1 := RdB.cut h (k := i) (by omega) (by omega)
  have h2 := Rd.front h1 (k := 16) (by omega)
  rw [← List.map_take] at h2
  exact h2

theorem own_onNs {w w' : World} {base n s : Nat} {v : Value} {e : TypeId} {xs : List Value} (h : w.ownsRow base e s v n xs) (hb : Below w.heap.size w w') : w'.ownsRow base e s v n xs :=
  h.kept (row := none) ⟨hb.os, hb.tape, hb.output, hb.size, fun k hk _ => hb.block k hk⟩ (by rcases hv : v.ownBlock with _ | g <;> simp)
set_option maxRecDepth 100000 in
set_option maxHeartbeats 2000000 in
theorem find_any (A : Option Addr) (n c : Nat) (bs : List UInt8) (w : World) (h : RdB w w.heap.size A n c bs) (hn : n ≤ 1000000) :
    Calls Try.prog 25 #[.slice A n c] w fun e w' => ∃ A2 c2, e = .returned (.slice A2 (findS bs).length c2) ∧
      w'.ownsRow w.heap.size 36 16 (.slice A2 (findS bs).length c2) (findS bs).length (cellsL (findS bs)) ∧ Below w.heap.size w w' := by
  have hl := h.len
  have hr := h.room
  obtain ⟨i0, hi, hz0, hz1, hz2⟩ := info_parts infoKey
  have HB := Lib.hid h
  have HL := Lib.hid hl
  obtain ⟨L, hL⟩ : ∃ q, q = findS bs := ⟨_, rfl⟩
  rw [← hL]
  have HLL := Lib.hid hL
  clear h hl hL
  go_enter Try.func25, Try.ntmps25
  go_wp2_with fail
  go_loopw [3, 15] (fun v i wr => ∃ (k c1 : Nat) (B : Option Addr) (q : Nat), k ≤ n - 15 ∧ i = .int .i64 k ∧ q = (findK bs k).length ∧ v = .slice B q c1 ∧ wr.ownsRow w.heap.size 36 16 (.slice B q c1) q (cellsL (findK bs k)) ∧ Below w.heap.size w wr)
    (fun _ i _ => n - (intOf i).toNat)
  case atStart => exact ⟨0, 0, none, 0, by omega, rfl, rfl, rfl, World.ownsRow_nil _ _ _ _, Below.refl _ _⟩
  case round =>
    obtain ⟨k, c1, B, q, hk, rfl, hq, rfl, hown, hbw⟩ := hrel
    have HQ := Lib.hid hq
    have HOWN := Lib.hid hown
    clear hq hown
    by_cases hlt : k < n - 15
    · have hk16 : k + 16 ≤ n := by omega
      obtain ⟨b, o, rfl, hb, _⟩ := HB.out.2.2.2 (by omega)
      have hp := cut_part (HB.out.on hbw) hk16
      have hpl := part_len (bs := bs) (i := k) (by have := HL.out; omega)
      have hqk := findK_le bs k
      rw [← HQ.out] at hqk
      have hnx : findK bs (k + 1) = findK bs k ++ if mkO (part bs k) = true then [part bs k] else [] := rfl
      obtain ⟨P, hP⟩ : ∃ p, p = part bs k := ⟨_, rfl⟩
      rw [← hP] at hp hpl hnx
      have hck : k < c := by omega
      have hkw : (k : Int) + 16 ≤ c := by omega
      have HP := Lib.hid hp
      have HPL := Lib.hid hpl
      have HNX := Lib.hid hnx
      have HMK := Lib.hid (mark_any _ _ _ _ P wr hp)
      clear hP hp hpl hnx
      cases hm : mkO P
      · rw [hm] at HNX HMK
        have hnk : findK bs (k + 1) = findK bs k := by rw [HNX.out]; simp
        have HNK := Lib.hid hnk
        clear hm hnk
        go_wp2_with fail
        refine HMK.out.mono ?_
        rintro e w1 ⟨rfl, rfl⟩
        go_wp2
        go_roundw
        case rel => exact ⟨k + 1, c1, B, q, by omega, by go_num, by rw [HNK.out]; exact HQ.out, rfl, by rw [HNK.out]; exact HOWN.out, hbw⟩
        case measure => simp [intOf]; omega
      · rw [hm] at HNX HMK
        have hnk : findK bs (k + 1) = findK bs k ++ [P] := by rw [HNX.out]; simp
        have HNK := Lib.hid hnk
        obtain ⟨KV, hKV⟩ : ∃ v, v = kv P := ⟨_, rfl⟩
        have hKs : KV.size = 16 := by rw [hKV, kv_size, HPL.out]
        have hK1 : KV.all (·.oneCell') = true := by rw [hKV]; exact kv_one _
        have hKl : KV.toList = P.map bv := by rw [hKV]; rfl
        have hKi : (Try.prog.info? 36).map (·.size) = some KV.size := by rw [hKs]; exact infoK
        have HKEY := Lib.hid (show Calls Try.prog 48 #[.slice (some ⟨b, o + k, none⟩) 16 (c - k)] wr fun e w' => e = .returned (.tuple #[.agg KV, .bool true]) ∧ Below wr.heap.size wr w' from by
          rw [hKV]
          exact key_yes' _ 16 _ _ P wr rfl HP.out (Nat.le_refl _))
        have hfold := fold_key KV hKs
        rw [hKs] at hfold
        have HKS := Lib.hid hKs
        have HK1 := Lib.hid hK1
        have HKL := Lib.hid hKl
        have HKI := Lib.hid hKi
        clear hm hnk hKV hK1 hKl hKi
        go_wp2_with fail
        refine HMK.out.mono ?_
        rintro e w1 ⟨rfl, rfl⟩
        go_wp2_with fail
        refine HKEY.out.mono ?_
        rintro e w2 ⟨rfl, hb2⟩
        have hbw2 := below_seq hbw hb2
        have hsz2 := hbw2.size
        have HG2 := Lib.hid (show ∀ z, (w2.alloc (.cells z 36)).heap[w2.heap.size]? = some (.cells z 36 (0, 0)) from fun z => heap_alloc_new w2 _)
        have HG3 := Lib.hid (show ((w2.alloc (.cells KV 36)).alloc (.cells KV 36)).heap[w2.heap.size + 1]? = some (.cells KV 36 (0, 0)) from heap_new' _ _ (by simp))
        have HOWN3 := Lib.hid (((own_onNs HOWN.out hb2).alloc (.cells KV 36)).alloc (.cells KV 36))
        have hq2 : q ≤ 1000000 := by omega
        clear hb2
        go_wp2_with (first
          | (refine wpList_store_row (o := ⟨none, _, _, _, _, _⟩) rfl 36 (.tmp 9) (.tmp 33) rfl w2.heap.size KV rfl rfl 36 _ (HG2.out _) HKI.out (by rw [HKS.out]; rfl) HK1.out ?_; rw [World.setRow_alloc_new])
          | (refine wpList_load_row (o := ⟨some 36, _, _, _, _, _⟩) rfl 36 (.tmp 9) rfl w2.heap.size rfl 36 KV (0, 0) _ (HG2.out _) Try.underlying36 rfl HKI.out ?_)
          | (at_builtin; go_loud (refine wpList_append_lies _ rfl (.tmp 35) (.tmp 37) 59 rfl w.heap.size 36 i0 _ 16 16 Try.underlying59 hi hz0 hz1 hz2 rfl (by omega) (.slice B q c1) q _ (by rfl) HOWN3.out ⟨w2.heap.size + 1, 0, none⟩ 1 1 KV.toList (by rfl) (by rw [Array.length_toList, HKS.out]) (World.news_of_block HG3.out) (by rw [HKL.out]; exact bv_one _) (by omega) (by unfold maxLen; omega) (by omega) (by simp; omega) (w2.heap.size + 2) (by simp) ?_); intro gg cap w5 hown5 hgrow hat hlt5))
        rw [HKL.out] at hown5
        have hown6 : w5.ownsRow w.heap.size 36 16 (.slice (some ⟨gg, 0, none⟩) (q + 1) cap) (q + 1) (cellsL (findK bs (k + 1))) := by
          rw [HNK.out, cellsL_app]
          simpa [cellsL] using hown5
        have hlen : q + 1 = (findK bs (k + 1)).length := by rw [HNK.out, List.length_append, ← HQ.out]; rfl
        have HO6 := Lib.hid hown6
        have HLE := Lib.hid hlen
        have hb5 : Below w.heap.size w w5 := (((hbw2.alloc hsz2 _).alloc (by simp; omega) _).grown hgrow (by simp; omega) (fun g hg => (HOWN3.out.lt g hg).1))
        clear hown5 hown6 hlen hgrow hat hlt5 hfold hKs
        go_roundw
        case rel => exact ⟨k + 1, cap, some ⟨gg, 0, none⟩, q + 1, by omega, by go_num, HLE.out, rfl, HO6.out, hb5⟩
        case measure => simp [intOf]; omega
    · obtain rfl : k = n - 15 := by omega
      have hLk : L = findK bs (n - 15) := by rw [HLL.out, findS, HL.out]
      have HLK := Lib.hid hLk
      have hqL : q = L.length := by rw [HQ.out, hLk]
      have hown := HOWN.out
      rw [← hLk] at hown
      subst hqL
      have HOWN2 := Lib.hid hown
      clear hown hLk
      go_wp2
      go_ret
      exact ⟨B, c1, rfl, HOWN2.out, hbw⟩
end Go.Proofs.Ytbfcdlfjlailjaa.Sym
