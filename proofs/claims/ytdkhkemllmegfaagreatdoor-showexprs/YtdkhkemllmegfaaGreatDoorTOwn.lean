/- Rows of nodes that the call itself made; worlds that differ in some blocks alone. -/
import Derived.Test.YtdkhkemllmegfaaGreatDoorTSep
namespace Go.Proofs.YtdkhkemllmegfaaGreatDoor
open Go.RowKit Tn

theorem Tryz.info40 : (Tryz.prog.info? 40).map (fun i => (i.zero, i.size, i.bytes)) = some (some (.agg #[.string ⟨#[]⟩, .int .i64 0, .int .i64 0, .string ⟨#[]⟩, .int .i64 0, .slice none 0 0]), 6, 80) := by kernel_rfl

/-- a node with the slice of its Kids -/
structure SN where
  n : Nd
  ka : Option Addr
  kc : Nat

def cell6 (s : SN) : List Value := [.string s.n.op, .int .i64 s.n.line, .int .i64 s.n.col, .string s.n.name, .int .i64 s.n.num, .slice s.ka s.n.kids.length s.kc]
def cells6 (l : List SN) : List Value := l.flatMap cell6
def nds (l : List SN) : List Nd := l.map SN.n

theorem cells6_len (l : List SN) : (cells6 l).length = l.length * 6 := by
  induction l with
  | nil => rfl
  | cons s l ih => simp only [cells6, List.flatMap_cons, List.length_append, List.length_cons] at ih ⊢; rw [ih]; simp only [cell6, List.length_cons, List.length_nil]; omega
theorem cells6_snoc (l : List SN) (s : SN) : cells6 (l ++ [s]) = cells6 l ++ cell6 s := by simp [cells6]
theorem cells6_one (l : List SN) : ∀ u ∈ cells6 l, u.oneCell' = true := by
  intro u hu
  obtain ⟨s, _, hs⟩ := List.mem_flatMap.1 hu
  simp only [cell6, List.mem_cons, List.not_mem_nil, or_false] at hs
  rcases hs with rfl | rfl | rfl | rfl | rfl | rfl <;> rfl
theorem cells6_get {l : List SN} {i : Nat} {s : SN} (h : l[i]? = some s) (j : Nat) (hj : j < 6) : (cells6 l)[i * 6 + j]? = (cell6 s)[j]? := by
  induction l generalizing i with
  | nil => simp at h
  | cons q l ih =>
    have e : cells6 (q :: l) = cell6 q ++ cells6 l := rfl
    cases i with
    | zero =>
      simp at h; subst h
      rw [e, List.getElem?_append_left (by simp [cell6]; omega)]; simp
    | succ i =>
      simp at h
      rw [e, List.getElem?_append_right (by simp [cell6]; omega)]
      rw [show (i + 1) * 6 + j - (cell6 q).length = i * 6 + j by simp [cell6]; omega]
      exact ih h

theorem nds_len (l : List SN) : (nds l).length = l.length := by simp [nds]
theorem nds_at {l : List SN} {i : Nat} {s : SN} (h : l[i]? = some s) : nd (nds l) i = s.n := by simp [nd, nds, h]

theorem own_cell {w : World} {base : Nat} {t : TypeId} {z : Nat} {g : Nat} {n c : Nat} {xs : List Value} (h : w.ownsRow base t z (.slice (some ⟨g, 0, none⟩) n c) n xs) {i : Nat} {u : Value} (hu : xs[i]? = some u) : w.cell? ⟨g, i, none⟩ = some u := by
  rcases h.2 with ⟨e, _⟩ | ⟨g', cap, cur, hv, _, hg, _, _, hs, ht⟩
  · cases e
  · cases hv
    rw [blk_cell hg]
    have hi := (List.getElem?_eq_some_iff.1 hu).1
    rw [← ht, List.getElem?_take] at hu
    split at hu
    · simpa using hu
    · cases hu

/-- an own row of nodes, as nodes in memory: their Kids below N -/
theorem own_nodes {w : World} {base N : Nat} {ao : Option Addr} {c : Nat} {l : List SN} (h : w.ownsRow base 40 6 (.slice ao l.length c) l.length (cells6 l)) (hk : ∀ s ∈ l, IntsAt N w s.ka s.n.kids) (hz : ∀ s ∈ l, s.ka = none → s.kc = 0) (hN : w.heap.size ≤ N) : NodesAt N w ao (nds l) := by
  intro i hi
  rw [nds_len] at hi
  have hs : l[i]? = some l[i] := List.getElem?_eq_getElem hi
  generalize l[i] = s at hs
  have hg : ∃ g, ao = some ⟨g, 0, none⟩ ∧ g < w.heap.size := by
    rcases h.2 with ⟨_, e⟩ | ⟨g', cap, cur, hv, _, hg, _⟩
    · omega
    · cases hv; exact ⟨g', rfl, lt_of_heap hg⟩
  obtain ⟨g, rfl, hlt⟩ := hg
  rw [nds_at hs]
  have key : ∀ j, j < 6 → ∀ u, (cell6 s)[j]? = some u → w.cell? ⟨g, i * 6 + j, none⟩ = some u := fun j hj u hu => own_cell h (by rw [cells6_get hs j hj]; exact hu)
  refine ⟨g, 0, s.ka, s.kc, rfl, ?_⟩
  rw [Nat.zero_add]
  exact ⟨by omega, key 0 (by omega) _ rfl, key 1 (by omega) _ rfl, key 2 (by omega) _ rfl, key 3 (by omega) _ rfl, key 4 (by omega) _ rfl, key 5 (by omega) _ rfl, hk s (List.mem_of_getElem? hs), hz s (List.mem_of_getElem? hs)⟩

/-- w' is w with more behind it, and other blocks where p says so -/
structure But (p : Nat → Prop) (w w' : World) : Prop where
  os : w'.os = w.os
  tape : w'.tape = w.tape
  output : w'.output = w.output
  size : w.heap.size ≤ w'.heap.size
  block : ∀ k, k < w.heap.size → ¬ p k → w'.heap[k]? = w.heap[k]?

theorem But.refl (p : Nat → Prop) (w : World) : But p w w := ⟨rfl, rfl, rfl, Nat.le_refl _, fun _ _ _ => rfl⟩
theorem But.trans {p : Nat → Prop} {a b c : World} (h : But p a b) (k : But p b c) : But p a c :=
  ⟨k.os.trans h.os, k.tape.trans h.tape, k.output.trans h.output, Nat.le_trans h.size k.size, fun i hi hp => (k.block i (Nat.lt_of_lt_of_le hi h.size) hp).trans (h.block i hi hp)⟩
theorem But.of_below {p : Nat → Prop} {a b : World} (h : Below a.heap.size a b) : But p a b := ⟨h.os, h.tape, h.output, h.size, fun k hk _ => h.block k hk⟩
theorem But.of_grown {p : Nat → Prop} {a b : World} {row : Option Nat} (h : a.grownBy b row) (hp : ∀ k, row = some k → p k) : But p a b :=
  ⟨h.os, h.tape, h.output, h.size, fun k hk hn => h.block k hk (fun e => hn (hp k e.symm))⟩
theorem But.setCell {p : Nat → Prop} (a : World) {b : Nat} (hp : p b) (i : Nat) (v : Value) : But p a (a.setCell ⟨b, i, none⟩ v) :=
  ⟨rfl, rfl, rfl, by simp, fun k _ hn => blk_other (fun e => hn (by rw [e]; exact hp)) i v⟩
theorem But.mono {p q : Nat → Prop} {a b : World} (h : But p a b) (hq : ∀ k, k < a.heap.size → p k → q k) : But q a b :=
  ⟨h.os, h.tape, h.output, h.size, fun k hk hn => h.block k hk (fun e => hn (hq k hk e))⟩
theorem But.below {p : Nat → Prop} {a b : World} (h : But p a b) {N : Nat} (hN : N ≤ a.heap.size) (hp : ∀ k, p k → N ≤ k) : Below N a b :=
  ⟨h.os, h.tape, h.output, h.size, fun k hk => h.block k (by omega) (fun e => by have := hp k e; omega)⟩
theorem But.own {p : Nat → Prop} {a b : World} (h : But p a b) {base : Nat} {t : TypeId} {z : Nat} {v : Value} {n : Nat} {xs : List Value} (ho : a.ownsRow base t z v n xs) (hp : ∀ g, v.ownBlock = some g → ¬ p g) : b.ownsRow base t z v n xs := by
  refine ⟨ho.1, ?_⟩
  rcases ho.2 with hn | ⟨g, cap, cur, rfl, hbg, hgg, rest⟩
  · exact .inl hn
  · exact .inr ⟨g, cap, cur, rfl, hbg, by rw [h.block g (lt_of_heap hgg) (hp g rfl)]; exact hgg, rest⟩
theorem But.heap {p : Nat → Prop} {a b : World} (h : But p a b) {k : Nat} {o : Obj} (hk : a.heap[k]? = some o) (hp : ¬ p k) : b.heap[k]? = some o := (h.block k (lt_of_heap hk) hp).trans hk

theorem own_tag {w : World} {base : Nat} {t : TypeId} {z : Nat} {v : Value} {n : Nat} {xs : List Value} (h : w.ownsRow base t z v n xs) {g : Nat} (hg : v.ownBlock = some g) : base ≤ g ∧ ∃ cur, w.heap[g]? = some (.cells cur t (0, 0)) := by
  rcases h.2 with ⟨rfl, _⟩ | ⟨g', cap, cur, rfl, hbg, hgg, _⟩
  · cases hg
  · cases hg; exact ⟨hbg, cur, hgg⟩

theorem own_room {w : World} {base : Nat} {t : TypeId} {z : Nat} {ka : Option Addr} {n kc : Nat} {xs : List Value} (h : w.ownsRow base t z (.slice ka n kc) n xs) : n ≤ kc := by
  rcases h.2 with ⟨e, e'⟩ | ⟨g', cap, cur, e, _, _, h1, _⟩
  · omega
  · cases e; exact h1
theorem own_nil {w : World} {base : Nat} {t : TypeId} {z : Nat} {ka : Option Addr} {n kc : Nat} {xs : List Value} (h : w.ownsRow base t z (.slice ka n kc) n xs) (e : ka = none) : kc = 0 := by
  subst e
  rcases h.2 with ⟨e, _⟩ | ⟨g', cap, cur, e, _⟩
  · injection e
  · cases e

/-- a tree that the call itself made: its block, its row of nodes, the rows of their Kids, all from B on -/
structure TreeOwn (B : Nat) (w : World) (bt : Nat) (v : Value) (l : List SN) : Prop where
  blk : w.heap[bt]? = some (.cells #[v] 74 (0, 0))
  own : w.ownsRow B 40 6 v l.length (cells6 l)
  kids : ∀ s ∈ l, w.ownsRow B 3 1 (.slice s.ka s.n.kids.length s.kc) s.n.kids.length (ints s.n.kids)
  lt : bt < B

theorem TreeOwn.size {B : Nat} {w : World} {bt : Nat} {v : Value} {l : List SN} (h : TreeOwn B w bt v l) : bt < w.heap.size := lt_of_heap h.blk
theorem TreeOwn.but {B : Nat} {w w' : World} {bt : Nat} {v : Value} {l : List SN} (h : TreeOwn B w bt v l) {p : Nat → Prop} (hb : But p w w') (h1 : ¬ p bt) (h2 : ∀ k, B ≤ k → ¬ p k) : TreeOwn B w' bt v l :=
  ⟨hb.heap h.blk h1, hb.own h.own (fun g hg => h2 g (own_tag h.own hg).1), fun s hs => hb.own (h.kids s hs) (fun g hg => h2 g (own_tag (h.kids s hs) hg).1), h.lt⟩
theorem TreeOwn.below {B : Nat} {w w' : World} {bt : Nat} {v : Value} {l : List SN} (h : TreeOwn B w bt v l) (hb : Below w.heap.size w w') : TreeOwn B w' bt v l := h.but (p := fun _ => False) (But.of_below hb) (fun e => e) (fun _ _ e => e)

/-- as a tree in memory -/
theorem TreeOwn.at {B : Nat} {w : World} {bt : Nat} {v : Value} {l : List SN} (h : TreeOwn B w bt v l) : ∃ ao cap, v = .slice ao l.length cap ∧ TreeAt w.heap.size w bt ao cap (nds l) := by
  obtain ⟨ao, cap, rfl⟩ := own_form h.own
  exact ⟨ao, cap, rfl, h.size, by rw [nds_len]; exact (blk_cell h.blk 0).trans rfl, own_nodes h.own (fun s hs => own_ints (h.kids s hs)) (fun s hs e => own_nil (h.kids s hs) e) (Nat.le_refl _), by rw [nds_len]; exact own_room h.own⟩
end Go.Proofs.YtdkhkemllmegfaaGreatDoor
