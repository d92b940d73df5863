/- A parser and its policy in memory. -/
import Derived.Test.YtcelelnmphdlbaaGreatDoorFamP
import Derived.Test.YtcelelnmphdlbaaGreatDoorName
namespace Go.Proofs.YtcelelnmphdlbaaGreatDoor
open Go.RowKit Tn Lx

/-- a name's cells -/
def cell3 (n : Py.Nm) : List Value := [.string ⟨n.text.toArray⟩, .int .i64 n.at_.line, .int .i64 n.at_.col]
def cells3 (l : List Py.Nm) : List Value := l.flatMap cell3
theorem cells3_snoc (l : List Py.Nm) (d : Py.Nm) : cells3 (l ++ [d]) = cells3 l ++ cell3 d := by simp [cells3]
/-- a pair's cells -/
def cellP (p : Py.Nm × Py.Nm) : List Value := [.string ⟨p.1.text.toArray⟩, .int .i64 p.1.at_.line, .int .i64 p.1.at_.col, .string ⟨p.2.text.toArray⟩, .int .i64 p.2.at_.line, .int .i64 p.2.at_.col]
def cellsP (l : List (Py.Nm × Py.Nm)) : List Value := l.flatMap cellP
theorem cellsP_snoc (l : List (Py.Nm × Py.Nm)) (d : Py.Nm × Py.Nm) : cellsP (l ++ [d]) = cellsP l ++ cellP d := by simp [cellsP]
/-- a name as a value -/
def yval (n : Py.Nm) : Value := .agg #[.string ⟨n.text.toArray⟩, .int .i64 n.at_.line, .int .i64 n.at_.col]

/-- the policy's block -/
def polCells (bt : Nat) (v1 v2 v3 : Value) (a : Py.Nm) : Array Value := #[.pointer (some ⟨bt, 0, none⟩), v1, v2, v3, .string ⟨a.text.toArray⟩, .int .i64 a.at_.line, .int .i64 a.at_.col, .slice none 0 0]
/-- the parser's block -/
def parCells (r q : Nat) : Array Value := #[.pointer (some ⟨r, 0, none⟩), .pointer (some ⟨q, 0, none⟩)]

/-- a parser pp of the reader c, and its policy q: its points v1 and v2, and its pairs v3, each in a row of its own -/
structure Pm (c : Cx) (q pp : Nat) (v1 v2 v3 : Value) (w : World) (g : Py.St) : Prop where
  par : w.heap[pp]? = some (.cells (parCells c.r q) 66 (0, 0))
  pol : w.heap[q]? = some (.cells (polCells c.bt v1 v2 v3 g.att) 53 (0, 0))
  conf : w.ownsRow c.B 50 3 v1 g.conf.length (cells3 g.conf)
  integ : w.ownsRow c.B 50 3 v2 g.integ.length (cells3 g.integ)
  ord : w.ownsRow c.B 100 6 v3 g.ord.length (cellsP g.ord)
  apart : ∀ k, v1.ownBlock = some k → v2.ownBlock ≠ some k
  ppB : c.B ≤ pp
  qB : c.B ≤ q

section
variable {c : Cx} {q pp : Nat} {v1 v2 v3 : Value} {w w' : World} {g : Py.St}
theorem Pm.p0 (h : Pm c q pp v1 v2 v3 w g) : w.cell? ⟨pp, 0, none⟩ = some (.pointer (some ⟨c.r, 0, none⟩)) := (blk_cell h.par 0).trans rfl
theorem Pm.p1 (h : Pm c q pp v1 v2 v3 w g) : w.cell? ⟨pp, 1, none⟩ = some (.pointer (some ⟨q, 0, none⟩)) := (blk_cell h.par 1).trans rfl
theorem Pm.g1 (h : Pm c q pp v1 v2 v3 w g) : w.cell? ⟨q, 1, none⟩ = some v1 := (blk_cell h.pol 1).trans rfl
theorem Pm.g2 (h : Pm c q pp v1 v2 v3 w g) : w.cell? ⟨q, 2, none⟩ = some v2 := (blk_cell h.pol 2).trans rfl
theorem Pm.g3 (h : Pm c q pp v1 v2 v3 w g) : w.cell? ⟨q, 3, none⟩ = some v3 := (blk_cell h.pol 3).trans rfl
theorem Pm.g4 (h : Pm c q pp v1 v2 v3 w g) : w.cell? ⟨q, 4, none⟩ = some (.string ⟨g.att.text.toArray⟩) := (blk_cell h.pol 4).trans rfl
theorem Pm.g5 (h : Pm c q pp v1 v2 v3 w g) : w.cell? ⟨q, 5, none⟩ = some (.int .i64 g.att.at_.line) := (blk_cell h.pol 5).trans rfl
theorem Pm.g6 (h : Pm c q pp v1 v2 v3 w g) : w.cell? ⟨q, 6, none⟩ = some (.int .i64 g.att.at_.col) := (blk_cell h.pol 6).trans rfl
theorem Pm.gf (h : Pm c q pp v1 v2 v3 w g) (i : Nat) : w.frozen? ⟨q, i, none⟩ = false := blk_frozen h.pol i
theorem Pm.qp (h : Pm c q pp v1 v2 v3 w g) : q ≠ pp := fun e => by
  have h1 := h.par; have h2 := h.pol
  rw [e, h1] at h2; injection h2 with h2; injection h2 with _ h2; exact absurd h2 (by decide)
/-- other blocks turn -/
theorem Pm.but (h : Pm c q pp v1 v2 v3 w g) {p : Nat → Prop} (hb : But p w w') (h1 : ¬ p pp) (h2 : ¬ p q) (h3 : ∀ k cs t fr, w.heap[k]? = some (.cells cs t fr) → c.B ≤ k → (t = 50 ∨ t = 100) → ¬ p k) : Pm c q pp v1 v2 v3 w' g :=
  ⟨hb.heap h.par h1, hb.heap h.pol h2, hb.own h.conf (fun k hk => by obtain ⟨e0, cur, e⟩ := own_tag h.conf hk; exact h3 k _ _ _ e e0 (.inl rfl)), hb.own h.integ (fun k hk => by obtain ⟨e0, cur, e⟩ := own_tag h.integ hk; exact h3 k _ _ _ e e0 (.inl rfl)), hb.own h.ord (fun k hk => by obtain ⟨e0, cur, e⟩ := own_tag h.ord hk; exact h3 k _ _ _ e e0 (.inr rfl)), h.apart, h.ppB, h.qB⟩
theorem Pm.below (h : Pm c q pp v1 v2 v3 w g) (hb : Below w.heap.size w w') : Pm c q pp v1 v2 v3 w' g := h.but (p := fun _ => False) (But.of_below hb) (fun e => e) (fun e => e) (fun _ _ _ _ _ _ _ e => e)
theorem Pm.kp (h : Pm c q pp v1 v2 v3 w g) (hr : c.r < c.B) (hb : c.bt < c.B) (hk : Kp c w w') : Pm c q pp v1 v2 v3 w' g := by
  have hp := h.ppB; have hq := h.qB
  refine h.but hk ?_ ?_ ?_
  · rintro (e | e | ⟨_, cs, fr, e⟩)
    · omega
    · omega
    · rw [h.par] at e; injection e with e; injection e with _ e; exact absurd e (by decide)
  · rintro (e | e | ⟨_, cs, fr, e⟩)
    · omega
    · omega
    · rw [h.pol] at e; injection e with e; injection e with _ e; exact absurd e (by decide)
  · intro k cs t fr hk1 hB ht
    rintro (e | e | ⟨_, cs', fr', e⟩)
    · omega
    · omega
    · rw [hk1] at e; injection e with e; injection e with _ e
      rcases ht with ht | ht <;> (rw [ht] at e; exact absurd e (by decide))
end

/-- what the parser's calls may turn: the reader's own, the policy's block, rows of nodes, of names and of pairs -/
def FreeR (c : Cx) (q : Nat) (w : World) (k : Nat) : Prop := k = c.r ∨ k = c.bt ∨ k = q ∨ (c.B ≤ k ∧ ∃ cs t fr, w.heap[k]? = some (.cells cs t fr) ∧ (t = 189 ∨ t = 50 ∨ t = 100))
def Kr (c : Cx) (q : Nat) (w w' : World) : Prop := But (FreeR c q w) w w'
theorem Kr.of_kp {c : Cx} {q : Nat} {w w' : World} (h : Kp c w w') : Kr c q w w' := But.mono h fun k _ e => by
  rcases e with e | e | ⟨e, cs, fr, e1⟩
  · exact .inl e
  · exact .inr (.inl e)
  · exact .inr (.inr (.inr ⟨e, cs, _, fr, e1, .inl rfl⟩))
theorem Kr.refl (c : Cx) (q : Nat) (w : World) : Kr c q w w := But.refl _ _
theorem Kr.trans {c : Cx} {q : Nat} {a b d : World} (h : Kr c q a b) (k : Kr c q b d) : Kr c q a d :=
  ⟨k.os.trans h.os, k.tape.trans h.tape, k.output.trans h.output, Nat.le_trans h.size k.size, fun i hi hp => by
    have e := h.block i hi hp
    refine (k.block i (Nat.lt_of_lt_of_le hi h.size) ?_).trans e
    rintro (e1 | e1 | e1 | ⟨e1, cs, t, fr, e2, e3⟩)
    · exact hp (.inl e1)
    · exact hp (.inr (.inl e1))
    · exact hp (.inr (.inr (.inl e1)))
    · exact hp (.inr (.inr (.inr ⟨e1, cs, t, fr, e ▸ e2, e3⟩)))⟩
theorem Kr.size {c : Cx} {q : Nat} {a b : World} (h : Kr c q a b) : a.heap.size ≤ b.heap.size := But.size h
theorem Kr.below {c : Cx} {q N : Nat} {a b : World} (h : Kr c q a b) (hN : N ≤ a.heap.size) (h1 : N ≤ c.r) (h2 : N ≤ c.bt) (h3 : N ≤ c.B) (h4 : N ≤ q) : Below N a b :=
  But.below h hN (fun k hk => by
    rcases hk with e | e | e | ⟨e, _⟩ <;> omega)
/-- a map stays -/
theorem Kr.map {c : Cx} {q : Nat} {a b : World} (h : Kr c q a b) {k cl : Nat} {es : Array MapEntry} (hk : a.heap[k]? = some (.map es cl)) (h1 : k ≠ c.r) (h2 : k ≠ c.bt) (h3 : k ≠ q) : b.heap[k]? = some (.map es cl) :=
  (h.block k (lt_of_heap hk) (by
    rintro (e | e | e | ⟨_, cs, t, fr, e, _⟩)
    · exact h1 e
    · exact h2 e
    · exact h3 e
    · rw [hk] at e; cases e)).trans hk
/-- what lies in a block of cells of another type stays -/
theorem Kr.heap {c : Cx} {q : Nat} {a b : World} (h : Kr c q a b) {k : Nat} {cs : Array Value} {t : TypeId} {fr : Nat × Nat} (hk : a.heap[k]? = some (.cells cs t fr)) (h1 : k ≠ c.r) (h2 : k ≠ c.bt) (h3 : k ≠ q) (ht : t ≠ 189 ∧ t ≠ 50 ∧ t ≠ 100) : b.heap[k]? = some (.cells cs t fr) :=
  (h.block k (lt_of_heap hk) (by
    rintro (e | e | e | ⟨_, cs', t', fr', e, e'⟩)
    · exact h1 e
    · exact h2 e
    · exact h3 e
    · rw [hk] at e; injection e with e; injection e with _ e
      rcases e' with e' | e' | e'
      · exact ht.1 (e.trans e')
      · exact ht.2.1 (e.trans e')
      · exact ht.2.2 (e.trans e'))).trans hk


theorem Kr.then_below {c : Cx} {q : Nat} {a b d : World} (h : Kr c q a b) (k : Below b.heap.size b d) : Kr c q a d := h.trans (Kr.of_kp (Kp.of_below k))
theorem Below.then_kr {c : Cx} {q : Nat} {a b d : World} (h : Below a.heap.size a b) (k : Kr c q b d) : Kr c q a d := (Kr.of_kp (Kp.of_below h)).trans k

/-- what an item's reading says: the policy with it -/
def ReadY (c : Cx) (X : Nat → Prop) (w : World) (q pp : Nat) (g : Py.St) (s : Ex.S) (e : Ending) (w' : World) : Prop :=
  ∃ v1 v2 v3, e = .returned .nilIface ∧ Rd c X w' s ∧ Pm c q pp v1 v2 v3 w' g ∧ Kr c q w w'
end Go.Proofs.YtcelelnmphdlbaaGreatDoor
