/- Worlds that only grow, said of one world at a time: what a drawn region may take for granted at each of its operations. -/
import Derived.Deep.RegionHeld3
import Derived.Test.YtjcdopgefcmbpaaTail
namespace Go.Proofs.Ytjcdopgefcmbpaa
open Go.RowKit

theorem below_grow {a w : World} (h : Below a.heap.size a w) (o : Obj) : Below a.heap.size a (w.alloc o) := h.alloc h.size o
/-- what a call leaves that makes memory of its own, and turns nothing that was there: as two rules -/
def Keeps (w w' : World) : Prop := (∀ p : Addr, (w.cell? p).isSome = true → w'.cell? p = w.cell? p) ∧ (∀ p : Addr, (w.cell? p).isSome = true → w'.frozen? p = w.frozen? p)
theorem below_keeps {w w' : World} (h : Below w.heap.size w w') : Keeps w w' := by
  have lt : ∀ p : Addr, (w.cell? p).isSome = true → p.block < w.heap.size := fun p hp => by
    obtain ⟨v, hv⟩ := Option.isSome_iff_exists.1 hp
    exact World.block_lt_of_cell? _ _ hv
  exact ⟨fun p hp => h.cell (lt p hp), fun p hp => h.frozen (lt p hp)⟩
end Go.Proofs.Ytjcdopgefcmbpaa
