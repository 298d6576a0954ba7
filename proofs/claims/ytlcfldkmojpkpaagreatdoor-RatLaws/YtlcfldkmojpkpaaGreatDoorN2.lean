/- What holds of the memory through a region that draws its order: all that was there stands. -/
import Derived.Test.YtlcfldkmojpkpaaGreatDoorN1
import Derived.Deep.RegionHeld3
namespace Go.Proofs.YtlcfldkmojpkpaaGreatDoor
open Go.RowKit

theorem keepC {W0 cur w' : World} {X : Prop} (h : Below W0.heap.size W0 cur ∧ X) (hb : Below cur.heap.size cur w') : Below W0.heap.size W0 w' := h.1.trans (hb.mono h.1.size)
theorem keepA {W0 cur : World} {X : Prop} (h : Below W0.heap.size W0 cur ∧ X) (o : Obj) : Below W0.heap.size W0 (cur.alloc o) := h.1.alloc h.1.size _
theorem keepP {W0 cur : World} {X : Prop} (h : Below W0.heap.size W0 cur ∧ X) {g : Nat} (hg : W0.heap.size ≤ g) (v0 v1 : Value) : Below W0.heap.size W0 ((cur.setCell ⟨g, 0, none⟩ v0).setCell ⟨g, 1, none⟩ v1) := below_put h.1 hg _ _
theorem keep0 (W0 : World) : Below W0.heap.size W0 W0.drew := (Below.refl _ W0).drew

end Go.Proofs.YtlcfldkmojpkpaaGreatDoor
