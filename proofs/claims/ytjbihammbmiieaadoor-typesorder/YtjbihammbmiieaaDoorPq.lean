/- A printer in memory: its tree, its builder, whether the next token comes without a blank. -/
import Derived.Test.YtjbihammbmiieaaDoorTf
import Derived.Lib.Builder
import Derived.Lib.AppendStr
import Derived.Lib.UnsafeStr
namespace Go.Proofs.YtjbihammbmiieaaDoor
open Go.RowKit Un

/-- the printer's block, what it holds for a tree; all that it makes lies from N on -/
structure Pc where
  N : Nat
  bp : Nat
  tv : Value
  mv : Value

structure PrAt (c : Pc) (w : World) (s : List UInt8) (adr v : Value) : Prop where
  lo : c.N ≤ c.bp
  hN : c.N ≤ w.heap.size
  blk : w.heap[c.bp]? = some (.cells #[c.tv, adr, v, c.mv] 80 (0, 0))
  adr : adr = .pointer none ∨ adr = .pointer (some ⟨c.bp, 1, none⟩)
  own : w.ownsRow c.N 5 1 v s.length (Lib.byteCells s)
def Pr (c : Pc) (w : World) (s : List UInt8) : Prop := ∃ adr v, PrAt c w s adr v

/-- what a printer may turn -/
def FreeP (c : Pc) (w : World) (k : Nat) : Prop := k = c.bp ∨ (c.N ≤ k ∧ ∃ cs fr, w.heap[k]? = some (.cells cs 5 fr))
def Pk (c : Pc) (w w' : World) : Prop := But (FreeP c w) w w'
theorem Pk.refl (c : Pc) (w : World) : Pk c w w := But.refl _ _
theorem Pk.trans {c : Pc} {a b d : World} (h : Pk c a b) (k : Pk c b d) : Pk c a d :=
  ⟨k.os.trans h.os, k.tape.trans h.tape, k.output.trans h.output, Nat.le_trans h.size k.size, fun i hi hp => by
    have e := h.block i hi hp
    refine (k.block i (Nat.lt_of_lt_of_le hi h.size) ?_).trans e
    intro hf
    rcases hf with e1 | ⟨e1, cs, fr, e2⟩
    · exact hp (.inl e1)
    · exact hp (.inr ⟨e1, cs, fr, e ▸ e2⟩)⟩
theorem Pk.of_below {c : Pc} {a b : World} (h : Below a.heap.size a b) : Pk c a b := But.of_below h
theorem Pk.size {c : Pc} {a b : World} (h : Pk c a b) : a.heap.size ≤ b.heap.size := But.size h
theorem Pk.drew {c : Pc} {a b : World} (h : Pk c a b) : Pk c a b.drew := ⟨h.os, h.tape, h.output, h.size, h.block⟩
theorem Pk.undrew {c : Pc} {a b : World} (h : Pk c a.drew b) : Pk c a b := ⟨h.os, h.tape, h.output, h.size, h.block⟩
theorem Pk.then_below {c : Pc} {a b d : World} (h : Pk c a b) (k : Below b.heap.size b d) : Pk c a d := h.trans (Pk.of_below k)
theorem Below.then_pk {c : Pc} {a b d : World} (h : Below a.heap.size a b) (k : Pk c b d) : Pk c a d := (Pk.of_below h).trans k
theorem Pk.heap {c : Pc} {a b : World} (h : Pk c a b) {k : Nat} {cs : Array Value} {t : TypeId} {fr : Nat × Nat} (hk : a.heap[k]? = some (.cells cs t fr)) (h1 : k ≠ c.bp) (h2 : t ≠ 5) : b.heap[k]? = some (.cells cs t fr) :=
  But.heap h hk (fun hf => by
    rcases hf with e | ⟨_, cs', fr', e⟩
    · exact h1 e
    · rw [hk] at e; injection e with e; injection e with _ e; exact h2 e)
theorem Pk.below {c : Pc} {a b : World} (h : Pk c a b) (hN : c.N ≤ a.heap.size) (hb : c.N ≤ c.bp) : Below c.N a b :=
  But.below h hN (fun k hk => by
    rcases hk with e | ⟨e, _⟩ <;> omega)

theorem Pr.below {c : Pc} {a b : World} {s : List UInt8} (h : Pr c a s) (k : Below a.heap.size a b) : Pr c b s := by
  obtain ⟨adr, v, h⟩ := h
  exact ⟨adr, v, h.lo, Nat.le_trans h.hN k.size, (k.block _ (lt_of_heap h.blk)).trans h.blk, h.adr, own_below h.own k⟩
theorem Pr.drew {c : Pc} {a : World} {s : List UInt8} (h : Pr c a s) : Pr c a.drew s := h.below (Below.drew (Below.refl _ a))
theorem Pr.lt {c : Pc} {a : World} {s : List UInt8} (h : Pr c a s) : c.bp < a.heap.size := by
  obtain ⟨adr, v, h⟩ := h; exact lt_of_heap h.blk
theorem Pr.lo {c : Pc} {a : World} {s : List UInt8} (h : Pr c a s) : c.N ≤ c.bp := by obtain ⟨_, _, h⟩ := h; exact h.lo
theorem Pr.hN {c : Pc} {a : World} {s : List UInt8} (h : Pr c a s) : c.N ≤ a.heap.size := by obtain ⟨_, _, h⟩ := h; exact h.hN
theorem PrAt.c0 {c : Pc} {w : World} {s : List UInt8} {adr v : Value} (h : PrAt c w s adr v) : w.cell? ⟨c.bp, 0, none⟩ = some c.tv := (blk_cell h.blk 0).trans rfl
theorem PrAt.c1 {c : Pc} {w : World} {s : List UInt8} {adr v : Value} (h : PrAt c w s adr v) : w.cell? ⟨c.bp, 1, none⟩ = some adr := (blk_cell h.blk 1).trans rfl
theorem PrAt.c2 {c : Pc} {w : World} {s : List UInt8} {adr v : Value} (h : PrAt c w s adr v) : w.cell? ⟨c.bp, 2, none⟩ = some v := (blk_cell h.blk 2).trans rfl
theorem PrAt.c3 {c : Pc} {w : World} {s : List UInt8} {adr v : Value} (h : PrAt c w s adr v) : w.cell? ⟨c.bp, 3, none⟩ = some (c.mv) := (blk_cell h.blk 3).trans rfl
theorem PrAt.fz {c : Pc} {w : World} {s : List UInt8} {adr v : Value} (h : PrAt c w s adr v) (i : Nat) : w.frozen? ⟨c.bp, i, none⟩ = false := blk_frozen h.blk i
theorem PrAt.ne {c : Pc} {w : World} {s : List UInt8} {adr v : Value} (h : PrAt c w s adr v) : v.ownBlock ≠ some c.bp := fun e => by
  obtain ⟨_, cur, e1⟩ := own_tag h.own e
  rw [h.blk] at e1; injection e1 with e1; injection e1 with _ e1; exact absurd e1 (by decide)
theorem Pr.t {c : Pc} {w : World} {s : List UInt8} (h : Pr c w s) : w.cell? ⟨c.bp, 0, none⟩ = some c.tv := by obtain ⟨_, _, h⟩ := h; exact h.c0
theorem Pr.fz {c : Pc} {w : World} {s : List UInt8} (h : Pr c w s) (i : Nat) : w.frozen? ⟨c.bp, i, none⟩ = false := by obtain ⟨_, _, h⟩ := h; exact h.fz i

/-- the address, stored -/
theorem PrAt.setAdr {c : Pc} {w : World} {s : List UInt8} {adr v : Value} (h : PrAt c w s adr v) : PrAt c (w.setCell ⟨c.bp, 1, none⟩ (.pointer (some ⟨c.bp, 1, none⟩))) s (.pointer (some ⟨c.bp, 1, none⟩)) v := by
  have hS : But (fun q => q = c.bp) w (w.setCell ⟨c.bp, 1, none⟩ (.pointer (some ⟨c.bp, 1, none⟩))) := But.setCell (p := fun q => q = c.bp) w rfl 1 _
  refine ⟨h.lo, Nat.le_trans h.hN hS.size, ?_, .inr rfl, hS.own h.own (fun g hg e => h.ne (by rw [hg, e]))⟩
  simp [World.setCell, Array.getElem?_modify, h.blk]
/-- the row, stored -/
theorem PrAt.setRow {c : Pc} {w : World} {adr v v' : Value} {bs : List UInt8} (hlo : c.N ≤ c.bp) (hN : c.N ≤ w.heap.size) (hb : w.heap[c.bp]? = some (.cells #[c.tv, adr, v, c.mv] 80 (0, 0))) (ha : adr = .pointer none ∨ adr = .pointer (some ⟨c.bp, 1, none⟩))
    (ho : w.ownsRow c.N 5 1 v' bs.length (Lib.byteCells bs)) : PrAt c (w.setCell ⟨c.bp, 2, none⟩ v') bs adr v' := by
  have hS : But (fun q => q = c.bp) w (w.setCell ⟨c.bp, 2, none⟩ v') := But.setCell (p := fun q => q = c.bp) w rfl 2 _
  refine ⟨hlo, Nat.le_trans hN hS.size, ?_, ha, hS.own ho (fun g hg e => ?_)⟩
  · simp [World.setCell, Array.getElem?_modify, hb]
  · obtain ⟨_, cur, e1⟩ := own_tag ho hg
    rw [e, hb] at e1; injection e1 with e1; injection e1 with _ e1; exact absurd e1 (by decide)
theorem pk_set (c : Pc) (w : World) (i : Nat) (v : Value) : Pk c w (w.setCell ⟨c.bp, i, none⟩ v) := But.setCell (p := FreeP c w) w (.inl rfl) i v
end Go.Proofs.YtjbihammbmiieaaDoor
