/- Nodes in memory: a slice of ints, a slice of nodes, a tree. -/
import Derived.Test.YtdflonniicnndaaRows
import Derived.Test.YtdflonniicnndaaTn
import Derived.Test.YtdflonniicnndaaKept
import Derived.WalkKit
import Derived.WalkSpells
import Derived.WalkLawsBesides
import Derived.Lib.Hide
namespace Go.Proofs.Ytdflonniicnndaa
open Go.RowKit Tn

theorem ret_int {k : IntKind} {a b : Int} (h : a = b) : Ending.returned (.int k a) = .returned (.int k b) := by rw [h]
theorem ret_bool {a b : Bool} (h : a = b) : Ending.returned (.bool a) = .returned (.bool b) := by rw [h]

/-- these ints lie there, below N -/
def IntsAt (N : Nat) (w : World) (ao : Option Addr) (ks : List Int) : Prop :=
  ∀ i, i < ks.length → ∃ b o, ao = some ⟨b, o, none⟩ ∧ b < N ∧ w.cell? ⟨b, o + i, none⟩ = some (.int .i64 (kid ks i))

/-- a node lies there, below N; its Kids' slice is (ka, kc) -/
structure NodeAt (N : Nat) (w : World) (b o : Nat) (n : Nd) (ka : Option Addr) (kc : Nat) : Prop where
  lt : b < N
  c0 : w.cell? ⟨b, o, none⟩ = some (.string n.op)
  c1 : w.cell? ⟨b, o + 1, none⟩ = some (.int .i64 n.line)
  c2 : w.cell? ⟨b, o + 2, none⟩ = some (.int .i64 n.col)
  c3 : w.cell? ⟨b, o + 3, none⟩ = some (.string n.name)
  c4 : w.cell? ⟨b, o + 4, none⟩ = some (.int .i64 n.num)
  c5 : w.cell? ⟨b, o + 5, none⟩ = some (.slice ka n.kids.length kc)
  kids : IntsAt N w ka n.kids
  nil : ka = none → kc = 0

/-- a node as a value -/
def nval (n : Nd) (ka : Option Addr) (kc : Nat) : Value :=
  .agg #[.string n.op, .int .i64 n.line, .int .i64 n.col, .string n.name, .int .i64 n.num, .slice ka n.kids.length kc]

/-- these nodes lie there, below N -/
def NodesAt (N : Nat) (w : World) (ao : Option Addr) (ms : List Nd) : Prop :=
  ∀ i, i < ms.length → ∃ b o ka kc, ao = some ⟨b, o, none⟩ ∧ NodeAt N w b (o + i * 6) (nd ms i) ka kc

/-- a tree of these nodes -/
structure TreeAt (N : Nat) (w : World) (bt : Nat) (ao : Option Addr) (cap : Nat) (ms : List Nd) : Prop where
  lt : bt < N
  cell : w.cell? ⟨bt, 0, none⟩ = some (.slice ao ms.length cap)
  nodes : NodesAt N w ao ms
  room : ms.length ≤ cap

theorem IntsAt.below {N : Nat} {w w' : World} {ao : Option Addr} {ks : List Int} (h : IntsAt N w ao ks) (hb : Below N w w') : IntsAt N w' ao ks := by
  intro i hi
  obtain ⟨b, o, e, hlt, hc⟩ := h i hi
  exact ⟨b, o, e, hlt, (hb.cell (p := ⟨b, o + i, none⟩) hlt).trans hc⟩
theorem NodeAt.below {N : Nat} {w w' : World} {b o : Nat} {n : Nd} {ka : Option Addr} {kc : Nat} (h : NodeAt N w b o n ka kc) (hb : Below N w w') : NodeAt N w' b o n ka kc :=
  ⟨h.lt, (hb.cell (p := ⟨b, o, none⟩) h.lt).trans h.c0, (hb.cell (p := ⟨b, o + 1, none⟩) h.lt).trans h.c1, (hb.cell (p := ⟨b, o + 2, none⟩) h.lt).trans h.c2, (hb.cell (p := ⟨b, o + 3, none⟩) h.lt).trans h.c3,
    (hb.cell (p := ⟨b, o + 4, none⟩) h.lt).trans h.c4, (hb.cell (p := ⟨b, o + 5, none⟩) h.lt).trans h.c5, h.kids.below hb, h.nil⟩
theorem NodesAt.below {N : Nat} {w w' : World} {ao : Option Addr} {ms : List Nd} (h : NodesAt N w ao ms) (hb : Below N w w') : NodesAt N w' ao ms := by
  intro i hi
  obtain ⟨b, o, ka, kc, e, hn⟩ := h i hi
  exact ⟨b, o, ka, kc, e, hn.below hb⟩
theorem TreeAt.below {N : Nat} {w w' : World} {bt : Nat} {ao : Option Addr} {cap : Nat} {ms : List Nd} (h : TreeAt N w bt ao cap ms) (hb : Below N w w') : TreeAt N w' bt ao cap ms :=
  ⟨h.lt, (hb.cell (p := ⟨bt, 0, none⟩) h.lt).trans h.cell, h.nodes.below hb, h.room⟩

theorem IntsAt.mono {N N' : Nat} {w : World} {ao : Option Addr} {ks : List Int} (h : IntsAt N w ao ks) (hN : N ≤ N') : IntsAt N' w ao ks := by
  intro i hi
  obtain ⟨b, o, e, hlt, hc⟩ := h i hi
  exact ⟨b, o, e, by omega, hc⟩
theorem NodeAt.mono {N N' : Nat} {w : World} {b o : Nat} {n : Nd} {ka : Option Addr} {kc : Nat} (h : NodeAt N w b o n ka kc) (hN : N ≤ N') : NodeAt N' w b o n ka kc :=
  ⟨by have := h.lt; omega, h.c0, h.c1, h.c2, h.c3, h.c4, h.c5, h.kids.mono hN, h.nil⟩
theorem NodesAt.mono {N N' : Nat} {w : World} {ao : Option Addr} {ms : List Nd} (h : NodesAt N w ao ms) (hN : N ≤ N') : NodesAt N' w ao ms := by
  intro i hi
  obtain ⟨b, o, ka, kc, e, hn⟩ := h i hi
  exact ⟨b, o, ka, kc, e, hn.mono hN⟩
theorem TreeAt.mono {N N' : Nat} {w : World} {bt : Nat} {ao : Option Addr} {cap : Nat} {ms : List Nd} (h : TreeAt N w bt ao cap ms) (hN : N ≤ N') : TreeAt N' w bt ao cap ms :=
  ⟨by have := h.lt; omega, h.cell, h.nodes.mono hN, h.room⟩
end Go.Proofs.Ytdflonniicnndaa
