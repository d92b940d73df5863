/- Blocks, rows that a call owns, and what a call leaves as it was. -/
import Derived.Test.YtjbihammbmiieaaDoorRows
import Derived.Test.YtjbihammbmiieaaDoorTail
import Derived.Deep.AppendLies
import Derived.Deep.LoopGhost
import Derived.OwnWalk
import Derived.WalkKit
import Derived.WalkSpells
import Derived.WalkLawsBesides
import Derived.Below
import Derived.Laws.OwnMore
import Derived.Lib.Hide
namespace Go.Proofs.YtjbihammbmiieaaDoor
open Go.RowKit

theorem lt_of_heap {W : World} {b : Nat} {o : Obj} (h : W.heap[b]? = some o) : b < W.heap.size := (Array.getElem?_eq_some_iff.1 h).1
theorem ret_int {k : IntKind} {a b : Int} (h : a = b) : Ending.returned (.int k a) = .returned (.int k b) := by rw [h]
theorem ret_bool {a b : Bool} (h : a = b) : Ending.returned (.bool a) = .returned (.bool b) := by rw [h]
theorem own_form {w : World} {base : Nat} {t : TypeId} {z : Nat} {v : Value} {n : Nat} {xs : List Value} (h : w.ownsRow base t z v n xs) : ∃ ka kc, v = .slice ka n kc := by
  rcases h.2 with ⟨rfl, rfl⟩ | ⟨g, cap, cur, rfl, _⟩
  · exact ⟨_, _, rfl⟩
  · exact ⟨_, _, rfl⟩
theorem empty_row (w : World) (t : TypeId) (z : Nat) : (w.alloc (.cells #[] t)).ownsRow w.heap.size t z (.slice (some ⟨w.heap.size, 0, none⟩) 0 0) 0 [] :=
  ⟨by simp, .inr ⟨w.heap.size, 0, #[], rfl, Nat.le_refl _, heap_alloc_new w _, Nat.le_refl _, by unfold maxLen; omega, by simp, by simp⟩⟩
theorem blk_cell {w : World} {b : Nat} {c : Array Value} {t : TypeId} {fr : Nat × Nat} (h : w.heap[b]? = some (.cells c t fr)) (i : Nat) : w.cell? ⟨b, i, none⟩ = c[i]? := by simp [World.cell?, h]
theorem blk_frozen {w : World} {b : Nat} {c : Array Value} {t : TypeId} (h : w.heap[b]? = some (.cells c t (0, 0))) (i : Nat) : w.frozen? ⟨b, i, none⟩ = false := by simp [World.frozen?, h]
theorem blk_set {w : World} {b : Nat} {c : Array Value} {t : TypeId} {fr : Nat × Nat} (h : w.heap[b]? = some (.cells c t fr)) (i : Nat) (v : Value) : (w.setCell ⟨b, i, none⟩ v).heap[b]? = some (.cells (c.setIfInBounds i v) t fr) := by
  simp only [World.setCell, Array.getElem?_modify, h]; rfl
theorem blk_other {w : World} {b b' : Nat} (h : b ≠ b') (i : Nat) (v : Value) : (w.setCell ⟨b', i, none⟩ v).heap[b]? = w.heap[b]? := Below.heap_setCell _ _ _ _ h
theorem blk_new (w : World) (o : Obj) : (w.alloc o).heap[w.heap.size]? = some o := heap_alloc_new w o
theorem blk_alloc {w : World} {b : Nat} {o : Obj} (h : w.heap[b]? = some o) (p : Obj) : (w.alloc p).heap[b]? = some o := (Below.heap_alloc w p b (lt_of_heap h)).trans h
theorem own_setCell {w : World} {base : Nat} {t : TypeId} {z : Nat} {v : Value} {n : Nat} {xs : List Value} (h : w.ownsRow base t z v n xs) {b : Nat} (hb : b < base) (i : Nat) (u : Value) : (w.setCell ⟨b, i, none⟩ u).ownsRow base t z v n xs := by
  refine ⟨h.1, ?_⟩
  rcases h.2 with hn | ⟨g, cap, cur, rfl, hbg, hgg, rest⟩
  · exact .inl hn
  · exact .inr ⟨g, cap, cur, rfl, hbg, by rw [blk_other (by omega)]; exact hgg, rest⟩
theorem own_mono {w : World} {base base' : Nat} {t : TypeId} {z : Nat} {v : Value} {n : Nat} {xs : List Value} (h : w.ownsRow base t z v n xs) (hb : base' ≤ base) : w.ownsRow base' t z v n xs := by
  refine ⟨h.1, ?_⟩
  rcases h.2 with hn | ⟨g, cap, cur, rfl, hbg, rest⟩
  · exact .inl hn
  · exact .inr ⟨g, cap, cur, rfl, by omega, rest⟩
theorem own_below {w w' : World} {base : Nat} {e : TypeId} {size : Nat} {v : Value} {n : Nat} {xs : List Value} (h : w.ownsRow base e size v n xs) (hb : Below w.heap.size w w') : w'.ownsRow base e size v n xs := by
  refine ⟨h.1, ?_⟩
  rcases h.2 with hn | ⟨g, cap, cur, rfl, hbg, hgg, rest⟩
  · exact .inl hn
  · exact .inr ⟨g, cap, cur, rfl, hbg, by rw [hb.block g (Array.getElem?_eq_some_iff.1 hgg).1]; exact hgg, rest⟩
theorem own_cell {w : World} {base : Nat} {t : TypeId} {z : Nat} {g : Nat} {n c : Nat} {xs : List Value} (h : w.ownsRow base t z (.slice (some ⟨g, 0, none⟩) n c) n xs) {i : Nat} {u : Value} (hu : xs[i]? = some u) : w.cell? ⟨g, i, none⟩ = some u := by
  rcases h.2 with ⟨e, _⟩ | ⟨g', cap, cur, hv, _, hg, _, _, hs, ht⟩
  · cases e
  · cases hv
    rw [blk_cell hg]
    have hi := (List.getElem?_eq_some_iff.1 hu).1
    rw [← ht, List.getElem?_take] at hu
    split at hu
    · simpa using hu
    · cases hu
theorem own_tag {w : World} {base : Nat} {t : TypeId} {z : Nat} {v : Value} {n : Nat} {xs : List Value} (h : w.ownsRow base t z v n xs) {g : Nat} (hg : v.ownBlock = some g) : base ≤ g ∧ ∃ cur, w.heap[g]? = some (.cells cur t (0, 0)) := by
  rcases h.2 with ⟨rfl, _⟩ | ⟨g', cap, cur, rfl, hbg, hgg, _⟩
  · cases hg
  · cases hg; exact ⟨hbg, cur, hgg⟩
theorem own_room {w : World} {base : Nat} {t : TypeId} {z : Nat} {ka : Option Addr} {n kc : Nat} {xs : List Value} (h : w.ownsRow base t z (.slice ka n kc) n xs) : n ≤ kc := by
  rcases h.2 with ⟨e, e'⟩ | ⟨g', cap, cur, e, _, _, h1, _⟩
  · omega
  · cases e; exact h1
theorem own_nil {w : World} {base : Nat} {t : TypeId} {z : Nat} {ka : Option Addr} {n kc : Nat} {xs : List Value} (h : w.ownsRow base t z (.slice ka n kc) n xs) (e : ka = none) : kc = 0 := by
  subst e
  rcases h.2 with ⟨e, _⟩ | ⟨g', cap, cur, e, _⟩
  · injection e
  · cases e
/-- w' is w with more behind it, and other blocks where p says so -/
structure But (p : Nat → Prop) (w w' : World) : Prop where
  os : w'.os = w.os
  tape : w'.tape = w.tape
  output : w'.output = w.output
  size : w.heap.size ≤ w'.heap.size
  block : ∀ k, k < w.heap.size → ¬ p k → w'.heap[k]? = w.heap[k]?
theorem But.refl (p : Nat → Prop) (w : World) : But p w w := ⟨rfl, rfl, rfl, Nat.le_refl _, fun _ _ _ => rfl⟩
theorem But.trans {p : Nat → Prop} {a b c : World} (h : But p a b) (k : But p b c) : But p a c :=
  ⟨k.os.trans h.os, k.tape.trans h.tape, k.output.trans h.output, Nat.le_trans h.size k.size, fun i hi hp => (k.block i (Nat.lt_of_lt_of_le hi h.size) hp).trans (h.block i hi hp)⟩
theorem But.of_below {p : Nat → Prop} {a b : World} (h : Below a.heap.size a b) : But p a b := ⟨h.os, h.tape, h.output, h.size, fun k hk _ => h.block k hk⟩
theorem But.of_grown {p : Nat → Prop} {a b : World} {row : Option Nat} (h : a.grownBy b row) (hp : ∀ k, row = some k → p k) : But p a b :=
  ⟨h.os, h.tape, h.output, h.size, fun k hk hn => h.block k hk (fun e => hn (hp k e.symm))⟩
theorem But.setCell {p : Nat → Prop} (a : World) {b : Nat} (hp : p b) (i : Nat) (v : Value) : But p a (a.setCell ⟨b, i, none⟩ v) :=
  ⟨rfl, rfl, rfl, by simp, fun k _ hn => blk_other (fun e => hn (by rw [e]; exact hp)) i v⟩
theorem But.mono {p q : Nat → Prop} {a b : World} (h : But p a b) (hq : ∀ k, k < a.heap.size → p k → q k) : But q a b :=
  ⟨h.os, h.tape, h.output, h.size, fun k hk hn => h.block k hk (fun e => hn (hq k hk e))⟩
theorem But.below {p : Nat → Prop} {a b : World} (h : But p a b) {N : Nat} (hN : N ≤ a.heap.size) (hp : ∀ k, p k → N ≤ k) : Below N a b :=
  ⟨h.os, h.tape, h.output, h.size, fun k hk => h.block k (by omega) (fun e => by have := hp k e; omega)⟩
theorem But.below' {q : Nat → Obj → Prop} {a b : World} (h : But (fun k => ∃ o, a.heap[k]? = some o ∧ q k o) a b) {N : Nat} (hN : N ≤ a.heap.size) (hp : ∀ k o, q k o → N ≤ k) : Below N a b :=
  But.below h hN (fun k hk => by obtain ⟨o, _, e⟩ := hk; exact hp k o e)
theorem But.own {p : Nat → Prop} {a b : World} (h : But p a b) {base : Nat} {t : TypeId} {z : Nat} {v : Value} {n : Nat} {xs : List Value} (ho : a.ownsRow base t z v n xs) (hp : ∀ g, v.ownBlock = some g → ¬ p g) : b.ownsRow base t z v n xs := by
  refine ⟨ho.1, ?_⟩
  rcases ho.2 with hn | ⟨g, cap, cur, rfl, hbg, hgg, rest⟩
  · exact .inl hn
  · exact .inr ⟨g, cap, cur, rfl, hbg, by rw [h.block g (lt_of_heap hgg) (hp g rfl)]; exact hgg, rest⟩
theorem But.heap {p : Nat → Prop} {a b : World} (h : But p a b) {k : Nat} {o : Obj} (hk : a.heap[k]? = some o) (hp : ¬ p k) : b.heap[k]? = some o := (h.block k (lt_of_heap hk) hp).trans hk
theorem own_news {w : World} {base : Nat} {t : TypeId} {z : Nat} {a : Addr} {n c : Nat} {xs : List Value} (h : w.ownsRow base t z (.slice (some a) n c) n xs) : ∀ j u, xs[j]? = some u → w.cell? (a.add j) = some u := by
  intro j u hu
  rcases h.2 with ⟨e, _⟩ | ⟨g, cap, cur, hv, _⟩
  · cases e
  · cases hv
    rw [Addr.add_lit, Nat.zero_add]; exact own_cell h hu
theorem below_undrew {w w' : World} (h : Below w.drew.heap.size w.drew w') : Below w.heap.size w w' := ⟨h.os, h.tape, h.output, h.size, h.block⟩
theorem below_drewN {n : Nat} {a w : World} (h : Below n a w) (k : Nat) : Below n a (w.drewN k) := ⟨h.os, h.tape, h.output, h.size, h.block⟩

/-- w' is w with more behind it; of what was there, only blocks of which p speaks are others -/
def Fr (p : Nat → Obj → Prop) (w w' : World) : Prop := But (fun k => ∃ o, w.heap[k]? = some o ∧ p k o) w w'
theorem Fr.refl (p : Nat → Obj → Prop) (w : World) : Fr p w w := But.refl _ _
theorem Fr.size {p : Nat → Obj → Prop} {a b : World} (h : Fr p a b) : a.heap.size ≤ b.heap.size := But.size h
theorem Fr.trans {p : Nat → Obj → Prop} {a b d : World} (h : Fr p a b) (k : Fr p b d) : Fr p a d :=
  ⟨k.os.trans h.os, k.tape.trans h.tape, k.output.trans h.output, Nat.le_trans h.size k.size, fun i hi hp => by
    have e := h.block i hi hp
    refine (k.block i (Nat.lt_of_lt_of_le hi h.size) ?_).trans e
    rintro ⟨o, e1, e2⟩
    exact hp ⟨o, e ▸ e1, e2⟩⟩
theorem Fr.of_below {p : Nat → Obj → Prop} {a b : World} (h : Below a.heap.size a b) : Fr p a b := But.of_below h
theorem Fr.mono {p q : Nat → Obj → Prop} {a b : World} (h : Fr p a b) (hq : ∀ k o, k < a.heap.size → p k o → q k o) : Fr q a b :=
  But.mono h (fun k hk ⟨o, e1, e2⟩ => ⟨o, e1, hq k o hk e2⟩)
theorem Fr.drew {p : Nat → Obj → Prop} {a b : World} (h : Fr p a b) : Fr p a b.drew := ⟨h.os, h.tape, h.output, h.size, h.block⟩
theorem Fr.undrew {p : Nat → Obj → Prop} {a b : World} (h : Fr p a.drew b) : Fr p a b := ⟨h.os, h.tape, h.output, h.size, h.block⟩
theorem Fr.below {p : Nat → Obj → Prop} {a b : World} (h : Fr p a b) {N : Nat} (hN : N ≤ a.heap.size) (hp : ∀ k o, p k o → N ≤ k) : Below N a b :=
  But.below' h hN hp
theorem Fr.heap {p : Nat → Obj → Prop} {a b : World} (h : Fr p a b) {k : Nat} {o : Obj} (hk : a.heap[k]? = some o) (hp : ¬ p k o) : b.heap[k]? = some o :=
  But.heap h hk (fun ⟨o', e1, e2⟩ => by rw [hk] at e1; injection e1 with e1; exact hp (e1 ▸ e2))
theorem Fr.own {p : Nat → Obj → Prop} {a b : World} (h : Fr p a b) {base : Nat} {t : TypeId} {z : Nat} {v : Value} {n : Nat} {xs : List Value} (ho : a.ownsRow base t z v n xs) (hp : ∀ g cs, base ≤ g → ¬ p g (.cells cs t (0, 0))) : b.ownsRow base t z v n xs :=
  But.own h ho (fun g hg ⟨o, e1, e2⟩ => by
    obtain ⟨h1, cur, h2⟩ := own_tag ho hg
    rw [h2] at e1; injection e1 with e1
    exact hp g cur h1 (e1 ▸ e2))
theorem Fr.set {p : Nat → Obj → Prop} {w : World} {b : Nat} {o : Obj} (hb : w.heap[b]? = some o) (hp : p b o) (i : Nat) (v : Value) : Fr p w (w.setCell ⟨b, i, none⟩ v) :=
  But.setCell w ⟨o, hb, hp⟩ i v
theorem Fr.grown {p : Nat → Obj → Prop} {a b : World} {base : Nat} {t : TypeId} {z : Nat} {v : Value} {n : Nat} {xs : List Value} (ho : a.ownsRow base t z v n xs) (hg : a.grownBy b v.ownBlock) (hp : ∀ g cs, base ≤ g → p g (.cells cs t (0, 0))) : Fr p a b :=
  But.of_grown hg (fun k e => by obtain ⟨h1, cur, h2⟩ := own_tag ho e; exact ⟨_, h2, hp k cur h1⟩)
theorem Fr.alloc {p : Nat → Obj → Prop} {a b : World} (h : Fr p a b) (o : Obj) : Fr p a (b.alloc o) := h.trans (Fr.of_below ((Below.refl _ b).alloc (Nat.le_refl _) o))

/-- four cells of a row -/
theorem own_set4 {w : World} {base : Nat} {t : TypeId} {z g n cap : Nat} {xs : List Value} (h : w.ownsRow base t z (.slice (some ⟨g, 0, none⟩) n cap) n xs) (j : Nat) (a b c d : Value) :
    ((((w.setCell ⟨g, j, none⟩ a).setCell ⟨g, j + 1, none⟩ b).setCell ⟨g, j + 2, none⟩ c).setCell ⟨g, j + 3, none⟩ d).ownsRow base t z (.slice (some ⟨g, 0, none⟩) n cap) n ((((xs.set j a).set (j + 1) b).set (j + 2) c).set (j + 3) d) :=
  ((((h.stored j a).1.stored (j + 1) b).1.stored (j + 2) c).1.stored (j + 3) d).1
end Go.Proofs.YtjbihammbmiieaaDoor
