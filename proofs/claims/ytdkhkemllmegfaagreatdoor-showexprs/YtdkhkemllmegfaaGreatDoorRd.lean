/- A reader in memory: its tokens, where it is, its tree; what its calls may turn. -/
import Derived.Test.YtdkhkemllmegfaaGreatDoorEx
import Derived.Test.YtdkhkemllmegfaaGreatDoorLToks
import Derived.Test.YtdkhkemllmegfaaGreatDoorTOwn
namespace Go.Proofs.YtdkhkemllmegfaaGreatDoor
open Go.RowKit Tn Lx

theorem tokCells_get {ts : List Lx.Tok} {k : Nat} {t : Lx.Tok} (h : ts[k]? = some t) (j : Nat) (hj : j < 5) : (tokCells ts)[k * 5 + j]? = (tokCell t)[j]? := by
  induction ts generalizing k with
  | nil => simp at h
  | cons q r ih =>
    have e : tokCells (q :: r) = tokCell q ++ tokCells r := rfl
    have hl : (tokCell q).length = 5 := rfl
    cases k with
    | zero =>
      simp at h; subst h
      rw [e, Nat.zero_mul, Nat.zero_add, List.getElem?_append_left (by omega)]
    | succ k =>
      rw [e, List.getElem?_append_right (by rw [hl]; omega), hl]
      have : (k + 1) * 5 + j - 5 = k * 5 + j := by omega
      rw [this]; exact ih (by simpa using h)

/-- a token as a value -/
def tval (t : Tok) : Value := .agg #[.int .i64 t.kind, .string ⟨t.text.toArray⟩, .int .i64 t.int, .int .i64 t.at_.line, .int .i64 t.at_.col]

/-- which reader: from block B on lie its tree's rows; its own block, its tree's, its tokens', their room, the tokens -/
structure Cx where
  B : Nat
  r : Nat
  bt : Nat
  g : Nat
  cap : Nat
  ts : List Tok

/-- no row of a tree's lies in a block of X -/
def Off (X : Nat → Prop) (v : Value) (l : List SN) : Prop := (∀ g, v.ownBlock = some g → ¬ X g) ∧ ∀ q ∈ l, ∀ g, (Value.slice q.ka q.n.kids.length q.kc).ownBlock = some g → ¬ X g

/-- it lies there, with these tokens, at that place, with a tree of these nodes; X: blocks that are not its own -/
structure Rd (c : Cx) (X : Nat → Prop) (w : World) (s : Ex.S) : Prop where
  blk : w.heap[c.r]? = some (.cells #[.pointer (some ⟨c.bt, 0, none⟩), .slice (some ⟨c.g, 0, none⟩) c.ts.length c.cap, .int .i64 s.p] 58 (0, 0))
  tok : ∀ i u, (tokCells c.ts)[i]? = some u → w.cell? ⟨c.g, i, none⟩ = some u
  tree : ∃ v l, nds l = s.ns ∧ TreeOwn c.B w c.bt v l ∧ Off X v l
  p : s.p ≤ c.ts.length
  few : c.ts.length ≤ 900000
  room : c.ts.length ≤ c.cap
  len : s.ns.length ≤ 4000
  rlt : c.r < c.B
  blt : c.bt < c.B
  glt : c.g < c.B
  rb : c.r ≠ c.bt
  gr : c.g ≠ c.r
  gb : c.g ≠ c.bt
  size : c.B ≤ w.heap.size
  xlt : ∀ k, X k → k < w.heap.size

/-- what its calls may turn: its own block, its tree's, and rows of nodes -/
def Free (c : Cx) (w : World) (k : Nat) : Prop := k = c.r ∨ k = c.bt ∨ (c.B ≤ k ∧ ∃ cs fr, w.heap[k]? = some (.cells cs 40 fr))
def Kp (c : Cx) (w w' : World) : Prop := But (Free c w) w w'

theorem Kp.refl (c : Cx) (w : World) : Kp c w w := But.refl _ _
theorem Kp.trans {c : Cx} {a b d : World} (h : Kp c a b) (k : Kp c b d) : Kp c a d :=
  ⟨k.os.trans h.os, k.tape.trans h.tape, k.output.trans h.output, Nat.le_trans h.size k.size, fun i hi hp => by
    have e := h.block i hi hp
    refine (k.block i (Nat.lt_of_lt_of_le hi h.size) ?_).trans e
    intro hf
    rcases hf with e1 | e1 | ⟨e1, cs, fr, e2⟩
    · exact hp (.inl e1)
    · exact hp (.inr (.inl e1))
    · exact hp (.inr (.inr ⟨e1, cs, fr, e ▸ e2⟩))⟩
theorem Kp.of_below {c : Cx} {a b : World} (h : Below a.heap.size a b) : Kp c a b := But.of_below h
theorem Kp.size {c : Cx} {a b : World} (h : Kp c a b) : a.heap.size ≤ b.heap.size := But.size h
theorem Kp.drew {c : Cx} {a b : World} (h : Kp c a b) : Kp c a b.drew := ⟨h.os, h.tape, h.output, h.size, h.block⟩
theorem Kp.undrew {c : Cx} {a b : World} (h : Kp c a.drew b) : Kp c a b := ⟨h.os, h.tape, h.output, h.size, h.block⟩
theorem Kp.then_below {c : Cx} {a b d : World} (h : Kp c a b) (k : Below b.heap.size b d) : Kp c a d := h.trans (Kp.of_below k)
theorem Below.then_kp {c : Cx} {a b d : World} (h : Below a.heap.size a b) (k : Kp c b d) : Kp c a d := (Kp.of_below h).trans k

/-- what lies in a block of cells of another type stays, from B on -/
theorem Kp.heap {c : Cx} {a b : World} (h : Kp c a b) {k : Nat} {cs : Array Value} {t : TypeId} {fr : Nat × Nat} (hk : a.heap[k]? = some (.cells cs t fr)) (h1 : k ≠ c.r) (h2 : k ≠ c.bt) (ht : t ≠ 40) : b.heap[k]? = some (.cells cs t fr) :=
  (h.block k (lt_of_heap hk) (by
    rintro (e | e | ⟨_, cs', fr', e⟩)
    · exact h1 e
    · exact h2 e
    · rw [hk] at e; injection e with e; injection e with _ e; exact ht e)).trans hk
/-- what lies below B stays -/
theorem Kp.old {c : Cx} {a b : World} (h : Kp c a b) {k : Nat} (hk : k < a.heap.size) (hB : k < c.B) (h1 : k ≠ c.r) (h2 : k ≠ c.bt) : b.heap[k]? = a.heap[k]? :=
  h.block k hk (by
    rintro (e | e | ⟨e, _⟩)
    · exact h1 e
    · exact h2 e
    · omega)

theorem Rd.c0 {c : Cx} {X : Nat → Prop} {w : World} {s : Ex.S} (h : Rd c X w s) : w.cell? ⟨c.r, 0, none⟩ = some (.pointer (some ⟨c.bt, 0, none⟩)) := (blk_cell h.blk 0).trans rfl
theorem Rd.c1 {c : Cx} {X : Nat → Prop} {w : World} {s : Ex.S} (h : Rd c X w s) : w.cell? ⟨c.r, 1, none⟩ = some (.slice (some ⟨c.g, 0, none⟩) c.ts.length c.cap) := (blk_cell h.blk 1).trans rfl
theorem Rd.c2 {c : Cx} {X : Nat → Prop} {w : World} {s : Ex.S} (h : Rd c X w s) : w.cell? ⟨c.r, 2, none⟩ = some (.int .i64 s.p) := (blk_cell h.blk 2).trans rfl
theorem Rd.fz {c : Cx} {X : Nat → Prop} {w : World} {s : Ex.S} (h : Rd c X w s) (i : Nat) : w.frozen? ⟨c.r, i, none⟩ = false := blk_frozen h.blk i
theorem Rd.lt {c : Cx} {X : Nat → Prop} {w : World} {s : Ex.S} (h : Rd c X w s) : c.r < w.heap.size := lt_of_heap h.blk
theorem Rd.tk {c : Cx} {X : Nat → Prop} {w : World} {s : Ex.S} (h : Rd c X w s) {q : Nat} (hq : q < c.ts.length) (j : Nat) (hj : j < 5) {u : Value} (hu : (tokCell (Ex.tk c.ts q))[j]? = some u) : w.cell? ⟨c.g, q * 5 + j, none⟩ = some u :=
  h.tok _ _ (by rw [tokCells_get (Ex.tk_get hq) j hj]; exact hu)
theorem Rd.tok0 {c : Cx} {X : Nat → Prop} {w : World} {s : Ex.S} (h : Rd c X w s) : 0 < c.ts.length → c.g < w.heap.size := fun hp => World.block_lt_of_cell? _ _ (h.tk hp 0 (by omega) rfl)

/-- other blocks have turned: some of X, and some that hold neither nodes nor numbers -/
theorem Rd.but {c : Cx} {X : Nat → Prop} {w w' : World} {s : Ex.S} (h : Rd c X w s) {q : Nat → Prop} (hb : But q w w') (h1 : ¬ q c.r) (h2 : ¬ q c.bt) (h3 : ¬ q c.g) (h4 : ∀ k, q k → X k ∨ ∃ cs t fr, w.heap[k]? = some (.cells cs t fr) ∧ t ≠ 40 ∧ t ≠ 3) : Rd c X w' s := by
  obtain ⟨v, l, e, ht, ho⟩ := h.tree
  have no : ∀ {t : TypeId} {z : Nat} {v : Value} {n : Nat} {xs : List Value}, w.ownsRow c.B t z v n xs → (∀ g, v.ownBlock = some g → ¬ X g) → (t = 40 ∨ t = 3) → ∀ g, v.ownBlock = some g → ¬ q g := fun ho hx hne g hg e => by
    obtain ⟨_, cur, e1⟩ := own_tag ho hg
    rcases h4 g e with e2 | ⟨cs, t', fr, e2, e3, e4⟩
    · exact hx g hg e2
    · rw [e1] at e2; injection e2 with e2; injection e2 with _ e2
      rcases hne with e5 | e5
      · exact e3 (e2.symm.trans e5)
      · exact e4 (e2.symm.trans e5)
  exact ⟨hb.heap h.blk h1, fun i u hu => (World.cell?_of_block (hb.block c.g (World.block_lt_of_cell? _ _ (h.tok i u hu)) h3)).trans (h.tok i u hu),
    ⟨v, l, e, ⟨hb.heap ht.blk h2, hb.own ht.own (no ht.own ho.1 (.inl rfl)), fun q hq => hb.own (ht.kids q hq) (no (ht.kids q hq) (ho.2 q hq) (.inr rfl)), ht.lt⟩, ho⟩, h.p, h.few, h.room, h.len, h.rlt, h.blt, h.glt, h.rb, h.gr, h.gb, Nat.le_trans h.size hb.size, fun k hk => Nat.lt_of_lt_of_le (h.xlt k hk) hb.size⟩
theorem Rd.below {c : Cx} {X : Nat → Prop} {w w' : World} {s : Ex.S} (h : Rd c X w s) (hb : Below w.heap.size w w') : Rd c X w' s :=
  h.but (q := fun _ => False) (But.of_below hb) (fun e => e) (fun e => e) (fun e => e) (fun _ e => e.elim)
theorem Rd.drew {c : Cx} {X : Nat → Prop} {w : World} {s : Ex.S} (h : Rd c X w s) : Rd c X w.drew s := h.below (Below.refl _ _).drew
theorem Rd.less {c : Cx} {X Y : Nat → Prop} {w : World} {s : Ex.S} (h : Rd c Y w s) (hX : ∀ k, X k → Y k) : Rd c X w s := by
  obtain ⟨v, l, e, ht, ho⟩ := h.tree
  exact ⟨h.blk, h.tok, ⟨v, l, e, ht, fun g hg e => ho.1 g hg (hX g e), fun q hq g hg e => ho.2 q hq g hg (hX g e)⟩, h.p, h.few, h.room, h.len, h.rlt, h.blt, h.glt, h.rb, h.gr, h.gb, h.size, fun k hk => h.xlt k (hX k hk)⟩
/-- blocks that came behind it are not its own -/
theorem Rd.more {c : Cx} {X : Nat → Prop} {w w' : World} {s : Ex.S} (h : Rd c X w s) (hb : Below w.heap.size w w') (Y : Nat → Prop) (hY : ∀ k, Y k → X k ∨ (w.heap.size ≤ k ∧ k < w'.heap.size)) : Rd c Y w' s := by
  obtain ⟨v, l, e, ht, ho⟩ := h.tree
  have h' := h.below hb
  have no : ∀ {t : TypeId} {z : Nat} {v : Value} {n : Nat} {xs : List Value}, w.ownsRow c.B t z v n xs → (∀ g, v.ownBlock = some g → ¬ X g) → ∀ g, v.ownBlock = some g → ¬ Y g := fun ho hx g hg e => by
    obtain ⟨_, cur, e1⟩ := own_tag ho hg
    have := lt_of_heap e1
    rcases hY g e with e2 | e2
    · exact hx g hg e2
    · omega
  exact ⟨h'.blk, h'.tok, ⟨v, l, e, ht.below hb, no ht.own ho.1, fun q hq => no (ht.kids q hq) (ho.2 q hq)⟩, h.p, h.few, h.room, h.len, h.rlt, h.blt, h.glt, h.rb, h.gr, h.gb, h'.size, fun k hk => by
    rcases hY k hk with e | e
    · exact h'.xlt k e
    · exact e.2⟩

/-- it has passed over a token -/
theorem Rd.skip {c : Cx} {X : Nat → Prop} {w : World} {s : Ex.S} (h : Rd c X w s) (hp : s.p < c.ts.length) : Rd c X (w.setCell ⟨c.r, 2, none⟩ (.int .i64 ((s.p : Int) + 1))) s.skip ∧ Kp c w (w.setCell ⟨c.r, 2, none⟩ (.int .i64 ((s.p : Int) + 1))) := by
  obtain ⟨v, l, e, ht, ho⟩ := h.tree
  have hb : But (fun k => k = c.r) w (w.setCell ⟨c.r, 2, none⟩ (.int .i64 ((s.p : Int) + 1))) := But.setCell (p := fun k => k = c.r) w rfl 2 _
  refine ⟨⟨by rw [blk_set h.blk]; simp [Ex.S.skip], fun i u hu => ?_, ⟨v, l, e, ht.but hb (fun e => h.rb e.symm) (fun k hk e => by have := h.rlt; omega), ho⟩, by simp [Ex.S.skip]; omega, h.few, h.room, h.len, h.rlt, h.blt, h.glt, h.rb, h.gr, h.gb, by simpa using h.size, fun k hk => by simpa using h.xlt k hk⟩, hb.mono fun k _ e => .inl e⟩
  have := h.tok i u hu
  rw [← this]
  exact World.cell?_of_block (blk_other h.gr _ _)

/-- blocks that came later have turned -/
theorem Kp.new {c : Cx} {a b d : World} (h : Kp c a b) {q : Nat → Prop} (k : But q b d) (hq : ∀ k, q k → a.heap.size ≤ k) : Kp c a d :=
  ⟨k.os.trans h.os, k.tape.trans h.tape, k.output.trans h.output, Nat.le_trans h.size k.size, fun i hi hp => (k.block i (Nat.lt_of_lt_of_le hi h.size) (fun e => by have := hq i e; omega)).trans (h.block i hi hp)⟩
end Go.Proofs.YtdkhkemllmegfaaGreatDoor
