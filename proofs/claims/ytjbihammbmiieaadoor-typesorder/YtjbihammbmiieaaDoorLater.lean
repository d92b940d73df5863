/- A region that draws its order, whose operations read, and whose callees make memory of their own but turn nothing that was there: one walk serves every order. -/
import Derived.Deep.QuietTactic
import Derived.BigQuiet
import Derived.WalkKit
import Derived.Below
import Derived.WalkSmall
namespace Go.Proofs.YtjbihammbmiieaaDoor
open Go.RowKit

/-- a world in which nothing of w has turned -/
structure Later (w : World) where
  wx : World
  le : Below w.heap.size w wx

instance {w : World} : Nonempty (Later w) := ⟨⟨w, Below.refl _ _⟩⟩

theorem Later.cell {w : World} {a : Addr} {v : Value} (h : w.cell? a = some v) (x : Later w) : x.wx.cell? a = some v := by
  rw [x.le.cell (World.block_lt_of_cell? _ _ h)]; exact h

theorem wp_region_later {P : Program} {id : Nat} {Q : Exit → Act → World → Prop} {a : Act} {w : World} {l : List Oper} (hm : P.follows .mixedOrders = true) (hB : Region.lexB .any l.toArray = true)
    (h : wpQuiet P l.toArray (fun w' => ∃ x : Later w, w' = x.wx) (fun a' => ∀ w', (∃ x : Later w, w' = x.wx) → Q .normal a' w') l a) : (Code.region id l.toArray true).wp P Q a w :=
  wp_region_quiet (C := fun w' => ∃ x : Later w, w' = x.wx) hm hB ⟨⟨w.drew, (Below.refl _ _).drew⟩, rfl⟩ (by simpa using h)

theorem calls_later {P : Program} {f : FuncId} {args : Array Value} {w : World} {x : Later w} {v : Value}
    (h : Calls P f args x.wx fun e w' => e = .returned v ∧ Below x.wx.heap.size x.wx w') : Calls P f args x.wx fun e w'' => e = .returned v ∧ ∃ y : Later w, w'' = y.wx :=
  h.mono fun _ _ ⟨he, hb⟩ => ⟨he, ⟨_, x.le.trans (hb.mono x.le.size)⟩, rfl⟩
theorem calls_later_same {P : Program} {f : FuncId} {args : Array Value} {w : World} {x : Later w} {v : Value}
    (h : Calls P f args x.wx fun e w' => e = .returned v ∧ x.wx = w') : Calls P f args x.wx fun e w'' => e = .returned v ∧ ∃ y : Later w, w'' = y.wx :=
  h.mono fun _ _ ⟨he, hb⟩ => ⟨he, x, hb.symm⟩
theorem calls_later_drew {P : Program} {f : FuncId} {args : Array Value} {w : World} {x : Later w} {v : Value}
    (h : Calls P f args x.wx fun e w' => e = .returned v ∧ ∃ k, w' = x.wx.drewN k) : Calls P f args x.wx fun e w'' => e = .returned v ∧ ∃ y : Later w, w'' = y.wx :=
  h.mono fun _ _ ⟨he, k, hk⟩ => ⟨he, ⟨x.wx.drewN k, below_drewN x.le k⟩, hk⟩
end Go.Proofs.YtjbihammbmiieaaDoor
