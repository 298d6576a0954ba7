/- String of small numbers; avowlaw1.known. -/
import Derived.Test.YtlcfldkmojpkpaaGreatDoorO3
import Derived.Test.YtlcfldkmojpkpaaGreatDoorZ3
import Derived.Test.YtlcfldkmojpkpaaGreatDoorZ4
import Derived.Lib.AppendIntMem
namespace Go.Proofs.YtlcfldkmojpkpaaGreatDoor
open Go.RowKit
attribute [local go_sem] eqnil_some eqnil_none nenil_some nenil_none

/-- The table of the library's powers of ten. -/
def Tab (w : World) : Prop := Lib.TabIs Tryz.prog w "internal/strconv.uint64pow10" .u64 Lib.pow10Tab
theorem Tab.below {w w' : World} (h : Tab w) (hb : Below w.heap.size w w') : Tab w' := Lib.tabBelow_of_tabIs h w' hb
theorem Tab.drew {w : World} (h : Tab w) : Tab w.drew := h.below ((Below.refl _ w).drew)
theorem IsI.smallV {w : World} {v : Value} {z : Int} (h : IsI w v z) (h0 : -9223372036854775808 ≤ z) (h1 : z ≤ 9223372036854775807) : v = .agg #[.int .i64 z, .slice none 0 0] := by
  rcases h with ⟨e, _⟩ | ⟨_, _, _, _, _, _, _, _, _, _, _, h7⟩
  · exact e
  · omega

set_option maxRecDepth 100000 in
set_option maxHeartbeats 800000 in
theorem str_small (z : Int) (w : World) (hT : Tab w) (h0 : -9223372036854775808 ≤ z) (h1 : z ≤ 9223372036854775807) :
    Calls Tryz.prog 22 #[.agg #[.int .i64 z, .slice none 0 0]] w fun e w' => e = .returned (.string ⟨(Lib.itoa z).toArray⟩) ∧ Below w.heap.size w w' := by
  have bX := Bx.new w z none 0 0
  have hbw : Below w.heap.size w (w.alloc (.cells #[.int .i64 z, .slice none 0 0] 26)) := (Below.refl _ w).alloc (Nat.le_refl _) _
  have hT1 := hT.below hbw
  have HF := hide (Tryz.strconv_FormatInt_10 z h0 h1 _ hT1)
  clear hT hT1
  go_enter Tryz.func22, Tryz.ntmps22
  go_wp2_with fail
  refine (unhide HF).mono ?_
  rintro e w1 ⟨rfl, k, os, hw1⟩
  have hb1 := Lib.below_grow (w.alloc (.cells #[.int .i64 z, .slice none 0 0] 26)).heap.size (w.alloc (.cells #[.int .i64 z, .slice none 0 0] 26)) (Nat.le_refl _) k os
  rw [← hw1] at hb1
  clear hw1
  go_wp2
  go_ret
  exact ⟨rfl, hbw.trans (hb1.mono hbw.size)⟩

theorem str_at (z : Int) (l : Array UInt8) (w : World) (hT : Tab w) (h0 : -9223372036854775808 ≤ z) (h1 : z ≤ 9223372036854775807) (hl : (Lib.itoa z).toArray = l) :
    Calls Tryz.prog 22 #[.agg #[.int .i64 z, .slice none 0 0]] w fun e w' => e = .returned (.string ⟨l⟩) ∧ Below w.heap.size w w' := by
  subst hl
  exact str_small z w hT h0 h1

end Go.Proofs.YtlcfldkmojpkpaaGreatDoor
