/-
  sym's Open.
-/
import Derived.Test.YtbfcdlfjlailjaaSymr
namespace Go.Proofs.Ytbfcdlfjlailjaa.Sym
open Go.RowKit
open Go.Proofs.Ytbfcdlfjlailjaa.Kit
open Go.Proofs.Ytbfcdlfjlailjaa.Oct
set_option linter.unusedVariables false

set_option maxRecDepth 100000 in
set_option maxHeartbeats 2000000 in
theorem open_none {tb : Nat} {L : Lay} {O S : Nat → Prop} {T : Tab} {w : World} {A : Option Addr} {n c : Nat} {b k : List UInt8} {u : Int} (hbx : boxS T b = none) (hk : k.length = 16) (h : TabAt w tb L O S T) (hrd : RdB w w.heap.size A n c b) :
    Calls Try.prog 17 #[.pointer (some ⟨tb, 0, none⟩), .agg (kv k), .int .i64 u, .slice A n c] w fun e w' => e = .returned (.tuple #[.slice none 0 0, .bool false]) ∧ Below w.heap.size w w' := by
  obtain ⟨KV, hKV⟩ : ∃ q, q = kv k := ⟨_, rfl⟩
  obtain ⟨NV, hNe⟩ : ∃ q : Array Value, q = #[.int .u8 0, .int .u8 0, .int .u8 0, .int .u8 0, .int .u8 0, .int .u8 0, .int .u8 0, .int .u8 0, .int .u8 0, .int .u8 0, .int .u8 0, .int .u8 0, .int .u8 0, .int .u8 0, .int .u8 0, .int .u8 0, .int .i64 0, .slice none 0 0] := ⟨_, rfl⟩
  have hNs : NV.size = 18 := by rw [hNe]; rfl
  obtain ⟨W1, hW1⟩ : ∃ q, q = w.alloc (.cells KV 36) := ⟨_, rfl⟩
  have hb1 : Below w.heap.size w W1 := by rw [hW1]; exact below_of_new w _
  have HBX := Lib.hid (show Calls Try.prog 18 #[.pointer (some ⟨tb, 0, none⟩), .slice A n c] W1 fun e w' => e = .returned (.tuple #[.agg NV, .bool false]) ∧ Below W1.heap.size W1 w' from by rw [hNe]; exact box_no hbx (h.below hb1) (hrd.on hb1))
  have HN1 := Lib.hid (show NV.all (·.oneCell') = true from by rw [hNe]; kernel_rfl)
  have HNI := Lib.hid (show (Try.prog.info? 41).map (·.size) = some NV.size from by rw [hNs]; exact infoSl')
  have HNZ := Lib.hid (show (#[.int .u8 0, .int .u8 0, .int .u8 0, .int .u8 0, .int .u8 0, .int .u8 0, .int .u8 0, .int .u8 0, .int .u8 0, .int .u8 0, .int .u8 0, .int .u8 0, .int .u8 0, .int .u8 0, .int .u8 0, .int .u8 0, .int .i64 0, .slice none 0 0] : Array Value).size = NV.size from by rw [hNs]; rfl)
  have HB1 := Lib.hid hb1
  rw [← hKV]
  clear hKV hNe hNs hb1 h hrd hbx hk
  go_enter Try.func17, Try.ntmps17
  go_wp2_with fail
  rw [← hW1]
  clear hW1
  refine HBX.out.mono ?_
  rintro e w2 ⟨rfl, hb2⟩
  have HB2 := Lib.hid (below_seq HB1.out hb2)
  clear hb2
  go_wp2_with (refine wpList_store_row (o := ⟨none, _, _, _, _, _⟩) rfl 41 (.tmp 10) (.tmp 16) rfl w2.heap.size NV rfl rfl 41 _ (heap_alloc_new w2 _) HNI.out HNZ.out HN1.out ?_)
  go_ret2
  exact ⟨rfl, below_setRow (below_seq HB2.out (below_of_new w2 _)) HB2.out.size _⟩
end Go.Proofs.Ytbfcdlfjlailjaa.Sym
