/- Worlds that only grow, said of one world at a time: what a drawn region may take for granted at each of its operations. -/
import Derived.Deep.RegionHeld3
import Derived.Test.YtoeljmiefbaajaaDoorTail
namespace Go.Proofs.YtoeljmiefbaajaaDoor
open Go.RowKit

theorem below_grow {a w : World} (h : Below a.heap.size a w) (o : Obj) : Below a.heap.size a (w.alloc o) := h.alloc h.size o
/-- what a call leaves that makes memory of its own, and turns nothing that was there: as two rules -/
def Keeps (w w' : World) : Prop := (∀ p : Addr, (w.cell? p).isSome = true → w'.cell? p = w.cell? p) ∧ (∀ p : Addr, (w.cell? p).isSome = true → w'.frozen? p = w.frozen? p)
theorem below_keeps {w w' : World} (h : Below w.heap.size w w') : Keeps w w' := by
  have lt : ∀ p : Addr, (w.cell? p).isSome = true → p.block < w.heap.size := fun p hp => by
    obtain ⟨v, hv⟩ := Option.isSome_iff_exists.1 hp
    exact World.block_lt_of_cell? _ _ hv
  exact ⟨fun p hp => h.cell (lt p hp), fun p hp => h.frozen (lt p hp)⟩

theorem set_two (w : World) (B : Nat) (u v x y : Value) (h0 : w.cell? ⟨B, 0, none⟩ = some x) (h1 : w.cell? ⟨B, 1, none⟩ = some y) :
    ((w.setCell ⟨B, 0, none⟩ u).setCell ⟨B, 1, none⟩ v).cell? ⟨B, 0, none⟩ = some u ∧ ((w.setCell ⟨B, 0, none⟩ u).setCell ⟨B, 1, none⟩ v).cell? ⟨B, 1, none⟩ = some v := by
  refine ⟨?_, World.cell?_setCell_same _ _ _ (by rw [World.cell?_setCell_other _ _ _ _ (by simp)]; exact h1)⟩
  rw [World.cell?_setCell_other _ _ _ _ (by simp)]; exact World.cell?_setCell_same _ _ _ h0
theorem keep_drew {w w' : World} (h : ∀ p : Addr, (w.drew.cell? p).isSome = true → w'.cell? p = w.drew.cell? p) {a : Addr} {v : Value} (hc : w.cell? a = some v) : w'.cell? a = some v := by
  have e : w.drew.cell? a = w.cell? a := rfl
  rw [h a (by rw [e, hc]; rfl), e, hc]

/-- w' is w with more behind it, and other cells in block B. -/
structure Near (B : Nat) (w w' : World) : Prop where
  os : w'.os = w.os
  tape : w'.tape = w.tape
  output : w'.output = w.output
  size : w.heap.size ≤ w'.heap.size
  block : ∀ k, k < w.heap.size → k ≠ B → w'.heap[k]? = w.heap[k]?
theorem Near.refl (B : Nat) (w : World) : Near B w w := ⟨rfl, rfl, rfl, Nat.le_refl _, fun _ _ _ => rfl⟩
theorem Near.drew {B : Nat} {a w : World} (h : Near B a w) : Near B a w.drew := ⟨h.os, h.tape, h.output, h.size, h.block⟩
theorem Near.below {B : Nat} {a w w' : World} (h : Near B a w) (k : Below w.heap.size w w') : Near B a w' :=
  ⟨k.os.trans h.os, k.tape.trans h.tape, k.output.trans h.output, Nat.le_trans h.size k.size, fun i hi hne => (k.block i (Nat.lt_of_lt_of_le hi h.size)).trans (h.block i hi hne)⟩
theorem Near.setCell {B : Nat} {a w : World} (h : Near B a w) (i : Nat) (v : Value) : Near B a (w.setCell ⟨B, i, none⟩ v) :=
  ⟨h.os, h.tape, h.output, by have := h.size; simpa using this, fun k hk hne => (Below.heap_setCell _ _ _ _ (by simpa using hne)).trans (h.block k hk hne)⟩
theorem Near.to_below {B B' : Nat} {w w' : World} (h : Near B w w') (hB : B' ≤ B) (hs : B' ≤ w.heap.size) : Below B' w w' :=
  ⟨h.os, h.tape, h.output, h.size, fun k hk => h.block k (by omega) (by omega)⟩
theorem Near.cell {B : Nat} {w w' : World} (h : Near B w w') {b i : Nat} (hb : b < w.heap.size) (hne : b ≠ B) : w'.cell? ⟨b, i, none⟩ = w.cell? ⟨b, i, none⟩ := World.cell?_of_block (h.block b hb hne)
theorem Near.frozen {B : Nat} {w w' : World} (h : Near B w w') {b i : Nat} (hb : b < w.heap.size) (hne : b ≠ B) : w'.frozen? ⟨b, i, none⟩ = w.frozen? ⟨b, i, none⟩ := World.frozen?_of_block (h.block b hb hne)
theorem Near.own {B : Nat} {w w' : World} (h : Near B w w') {base : Nat} {e : TypeId} {size : Nat} {v : Value} {n : Nat} {xs : List Value} (ho : w.ownsRow base e size v n xs) (hb : B < base) : w'.ownsRow base e size v n xs := by
  refine ⟨ho.1, ?_⟩
  rcases ho.2 with hn | ⟨g, cap, cur, rfl, hbg, hgg, rest⟩
  · exact .inl hn
  · exact .inr ⟨g, cap, cur, rfl, hbg, by rw [h.block g (Array.getElem?_eq_some_iff.1 hgg).1 (by omega)]; exact hgg, rest⟩
end Go.Proofs.YtoeljmiefbaajaaDoor
