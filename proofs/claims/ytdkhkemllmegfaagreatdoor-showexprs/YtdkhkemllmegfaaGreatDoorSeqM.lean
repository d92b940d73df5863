import Derived.Test.YtdkhkemllmegfaaGreatDoorBack
import Derived.Test.YtdkhkemllmegfaaGreatDoorItem

/- What is in memory while items are taken. -/
namespace Go.Proofs.YtdkhkemllmegfaaGreatDoor
open Go.RowKit Go.Shelf Tn Lx

/-- Q, but at a panic: no deferred call, and G -/
def calmQ (G : List PanicEntry → World → Prop) (Q : Exit → Act → World → Prop) : Exit → Act → World → Prop
  | .panic ch, a, w => a.defers = [] ∧ G ch w
  | e, a, w => Q e a w
theorem calmQ_normal {G : List PanicEntry → World → Prop} {Q : Exit → Act → World → Prop} {a : Act} {w : World} (h : Q .normal a w) : calmQ G Q .normal a w := h
/-- a region whose post at a panic hangs on the frame by its deferred calls alone -/
theorem wp_calm {P : Program} {c : Code} {Q : Exit → Act → World → Prop} {a : Act} {w : World} (G : List PanicEntry → World → Prop) (hG : ∀ ch a' w', a'.defers = [] → G ch w' → Q (.panic ch) a' w') (h : c.wp P (calmQ G Q) a w) : c.wp P Q a w :=
  Code.wp_mono (fun e a' w' hq => by
    cases e <;> first | exact hq | exact hG _ _ _ hq.1 hq.2) h

theorem Tryz.info37 : (Tryz.prog.info? 37).map (fun i => (i.zero, i.size, i.bytes)) = some (some (.agg #[.int .i64 0, .int .i64 0]), 2, 16) := by kernel_rfl

/-- the reader's box, the items' cell, their row, the marks' row -/
structure AllM (c : Cx) (X : Nat → Prop) (w : World) (b2 b5 : Nat) (vi vm : Value) (is_ : List Nat) (ps : List Pos) (s : Ex.S) (wr : World) : Prop where
  rd : Rd c (XV X vi) wr s
  kp : Kp c w wr
  box : wr.heap[b2]? = some (.cells #[.pointer (some ⟨c.r, 0, none⟩)] 46 (0, 0))
  cell : wr.heap[b5]? = some (.cells #[vi] 38 (0, 0))
  own : wr.ownsRow w.heap.size 3 1 vi is_.length (ints (is_.map fun (i : Nat) => (i : Int)))
  mown : wr.ownsRow w.heap.size 37 2 vm ps.length (posCells ps)
  hB : c.B ≤ w.heap.size
  h2 : w.heap.size ≤ b2
  h5 : w.heap.size ≤ b5

section
variable {c : Cx} {X : Nat → Prop} {w : World} {b2 b5 : Nat} {vi vm : Value} {is_ : List Nat} {ps : List Pos} {s : Ex.S} {wr w2 w3 : World}

theorem AllM.q2 (h : AllM c X w b2 b5 vi vm is_ ps s wr) : wr.cell? ⟨b2, 0, none⟩ = some (.pointer (some ⟨c.r, 0, none⟩)) := (blk_cell h.box 0).trans rfl
theorem AllM.q5 (h : AllM c X w b2 b5 vi vm is_ ps s wr) : wr.cell? ⟨b5, 0, none⟩ = some vi := (blk_cell h.cell 0).trans rfl
theorem AllM.f5 (h : AllM c X w b2 b5 vi vm is_ ps s wr) : wr.frozen? ⟨b5, 0, none⟩ = false := blk_frozen h.cell 0

/-- behind a call of the reader's -/
theorem AllM.step (h : AllM c X w b2 b5 vi vm is_ ps s wr) {s2 : Ex.S} (hR : Rd c (XV X vi) w2 s2) (hK : Kp c wr w2) : AllM c X w b2 b5 vi vm is_ ps s2 w2 := by
  have := h.hB; have := h.h2; have := h.h5; have := hR.rlt; have := hR.blt
  exact ⟨hR, h.kp.trans hK, hK.heap h.box (by omega) (by omega) (fun e => absurd e (by decide)), hK.heap h.cell (by omega) (by omega) (fun e => absurd e (by decide)), hK.own h.own (fun e => absurd e (by decide)) (by omega) (by omega), hK.own h.mown (fun e => absurd e (by decide)) (by omega) (by omega), h.hB, h.h2, h.h5⟩
theorem AllM.below (h : AllM c X w b2 b5 vi vm is_ ps s wr) (hb : Below wr.heap.size wr w2) : AllM c X w b2 b5 vi vm is_ ps s w2 := h.step (h.rd.below hb) (Kp.of_below hb)

/-- one more mark -/
theorem AllM.mark (h : AllM c X w b2 b5 vi vm is_ ps s w2) {p : Pos} {v' : Value} (o : Obj) (hown : w3.ownsRow w.heap.size 37 2 v' (ps.length + 1) (posCells ps ++ [.int .i64 p.line, .int .i64 p.col])) (hgrow : (w2.alloc o).grownBy w3 vm.ownBlock) : AllM c X w b2 b5 vi v' is_ (ps ++ [p]) s w3 := by
  have hB2 : But (fun q => some q = vm.ownBlock) w2 w3 := (But.of_below ((Below.refl _ w2).alloc (Nat.le_refl _) _)).trans (But.of_grown hgrow (fun q e => e.symm))
  have tag : ∀ q, some q = vm.ownBlock → w.heap.size ≤ q ∧ ∃ cur, w2.heap[q]? = some (.cells cur 37 (0, 0)) := fun q e => own_tag h.mown e.symm
  have off : ∀ {k : Nat} {cs : Array Value} {t : TypeId} {fr : Nat × Nat}, w2.heap[k]? = some (.cells cs t fr) → t ≠ 37 → ¬ some k = vm.ownBlock := fun hk ht e => by
    obtain ⟨_, cur, e1⟩ := tag _ e
    rw [hk] at e1; injection e1 with e1; injection e1 with _ e1; exact ht e1
  have far : ∀ b, b < c.B → ¬ (some b = vm.ownBlock) := fun b hb e => by have := (tag b e).1; have := h.hB; omega
  refine ⟨h.rd.but hB2 (far _ h.rd.rlt) (far _ h.rd.blt) (far _ h.rd.glt) (fun q hq => ?_), h.kp.new hB2 (fun q e => (tag q e).1), hB2.heap h.box (off h.box (by decide)), hB2.heap h.cell (off h.cell (by decide)), hB2.own h.own (fun g hg => ?_), ?_, h.hB, h.h2, h.h5⟩
  · obtain ⟨_, cur, e1⟩ := tag q hq
    exact .inr ⟨_, _, _, e1, by decide, by decide⟩
  · obtain ⟨_, cur, e1⟩ := own_tag h.own hg
    exact off e1 (by decide)
  · rw [List.length_append, posCells_snoc]; exact hown

/-- the items' cell, behind an append to their row -/
theorem AllM.far7 (h : AllM c X w b2 b5 vi vm is_ ps s w2) {o : Obj} (hgrow : (w2.alloc o).grownBy w3 vi.ownBlock) : w3.cell? ⟨b5, 0, none⟩ = some vi := by
  have e := hgrow.block b5 (by have := lt_of_heap h.cell; simp; omega) (fun e => by
    obtain ⟨_, cur, e1⟩ := own_tag h.own e.symm
    rw [h.cell] at e1; injection e1 with e1; injection e1 with _ e1; exact absurd e1 (by decide))
  exact (blk_cell (e.trans (blk_alloc h.cell o)) 0).trans rfl
theorem AllM.fz7 (h : AllM c X w b2 b5 vi vm is_ ps s w2) {o : Obj} (hgrow : (w2.alloc o).grownBy w3 vi.ownBlock) : w3.frozen? ⟨b5, 0, none⟩ = false := by
  have e := hgrow.block b5 (by have := lt_of_heap h.cell; simp; omega) (fun e => by
    obtain ⟨_, cur, e1⟩ := own_tag h.own e.symm
    rw [h.cell] at e1; injection e1 with e1; injection e1 with _ e1; exact absurd e1 (by decide))
  exact blk_frozen (e.trans (blk_alloc h.cell o)) 0

/-- one more item -/
theorem AllM.item (h : AllM c X w b2 b5 vi vm is_ ps s w2) {i g cap : Nat} (o : Obj) (hown : w3.ownsRow w.heap.size 3 1 (.slice (some ⟨g, 0, none⟩) (is_.length + 1) cap) (is_.length + 1) (ints (is_.map fun (i : Nat) => (i : Int)) ++ [.int .i64 (i : Int)])) (hgrow : (w2.alloc o).grownBy w3 vi.ownBlock) (hat : vi.ownBlock = some g ∨ g = w2.heap.size + 1) (hlt : g < w3.heap.size) :
    AllM c X w b2 b5 (.slice (some ⟨g, 0, none⟩) (is_.length + 1) cap) vm (is_ ++ [i]) ps s (w3.setCell ⟨b5, 0, none⟩ (.slice (some ⟨g, 0, none⟩) (is_.length + 1) cap)) := by
  have hB2 : But (fun q => some q = vi.ownBlock) w2 w3 := (But.of_below ((Below.refl _ w2).alloc (Nat.le_refl _) _)).trans (But.of_grown hgrow (fun q e => e.symm))
  have tag : ∀ q, some q = vi.ownBlock → w.heap.size ≤ q ∧ ∃ cur, w2.heap[q]? = some (.cells cur 3 (0, 0)) := fun q e => own_tag h.own e.symm
  have off : ∀ {k : Nat} {cs : Array Value} {t : TypeId} {fr : Nat × Nat}, w2.heap[k]? = some (.cells cs t fr) → t ≠ 3 → ¬ some k = vi.ownBlock := fun hk ht e => by
    obtain ⟨_, cur, e1⟩ := tag _ e
    rw [hk] at e1; injection e1 with e1; injection e1 with _ e1; exact ht e1
  have far : ∀ b, b < c.B → ¬ (some b = vi.ownBlock) := fun b hb e => by have := (tag b e).1; have := h.hB; omega
  have hR3 : Rd c (XV X (.slice (some ⟨g, 0, none⟩) (is_.length + 1) cap)) w3 s := h.rd.grown hB2 (far _ h.rd.rlt) (far _ h.rd.blt) (far _ h.rd.glt) (fun q hq => .inr hq) _ (fun q hq => by
    rcases hq with hq | hq
    · exact .inl (.inl hq)
    · have hq' : q = g := by injection hq
      subst hq'
      rcases hat with e | e
      · exact .inl (.inr e.symm)
      · exact .inr ⟨by omega, hlt⟩)
  have hbox3 := hB2.heap h.box (off h.box (by decide))
  have hcell3 := hB2.heap h.cell (off h.cell (by decide))
  have hm3 := hB2.own h.mown (fun g hg => by
    obtain ⟨_, cur, e1⟩ := own_tag h.mown hg
    exact off e1 (by decide))
  have h5 := h.h5; have hB := h.hB
  have hS : But (fun q => q = b5) w3 (w3.setCell ⟨b5, 0, none⟩ (.slice (some ⟨g, 0, none⟩) (is_.length + 1) cap)) := But.setCell (p := fun q => q = b5) w3 rfl 0 _
  have ne : ∀ {k : Nat} {cs : Array Value} {t : TypeId} {fr : Nat × Nat}, w3.heap[k]? = some (.cells cs t fr) → t ≠ 38 → ¬ k = b5 := fun hk ht e => by
    subst e; rw [hcell3] at hk; injection hk with e1; injection e1 with _ e1; exact ht e1.symm
  refine ⟨hR3.but hS (fun e => by have := h.rd.rlt; omega) (fun e => by have := h.rd.blt; omega) (fun e => by have := h.rd.glt; omega) (fun q hq => .inr (by subst hq; exact ⟨_, _, _, hcell3, by decide, by decide⟩)), ?_, hS.heap hbox3 (ne hbox3 (by decide)), (blk_set hcell3 0 _).trans rfl, ?_, hS.own hm3 (fun g' hg' => ?_), h.hB, h.h2, h.h5⟩
  · exact (h.kp.new hB2 (fun q e => (tag q e).1)).new hS (fun q e => by omega)
  · have e : ints ((is_ ++ [i]).map fun (i : Nat) => (i : Int)) = ints (is_.map fun (i : Nat) => (i : Int)) ++ [.int .i64 (i : Int)] := by simp [ints]
    rw [e, List.length_append]
    refine hS.own hown (fun g' hg' => ?_)
    obtain ⟨_, cur, e1⟩ := own_tag hown hg'
    exact ne e1 (by decide)
  · obtain ⟨_, cur, e1⟩ := own_tag hm3 hg'
    exact ne e1 (by decide)
end
end Go.Proofs.YtdkhkemllmegfaaGreatDoor


/- What is in memory while the sequences' nodes are added. -/
namespace Go.Proofs.YtdkhkemllmegfaaGreatDoor
open Go.RowKit Go.Shelf Tn Lx

theorem own_still {N : Nat} {A B : World} (hs : Still N A B) {base : Nat} {t : TypeId} {z : Nat} {v : Value} {n : Nat} {xs : List Value} (h : A.ownsRow base t z v n xs) : B.ownsRow base t z v n xs := by
  refine ⟨h.1, ?_⟩
  rcases h.2 with hn | ⟨g, cap, cur, rfl, hbg, hgg, rest⟩
  · exact .inl hn
  · exact .inr ⟨g, cap, cur, rfl, hbg, hs.same _ _ _ _ (fun e => e) hgg, rest⟩
theorem Rd.still {c : Cx} {X : Nat → Prop} {N : Nat} {A B : World} {s : Ex.S} (h : Rd c X A s) (hs : Still N A B) : Rd c X B s := by
  obtain ⟨v, l, e, ht, ho⟩ := h.tree
  have hsz := hs.below.size
  exact ⟨hs.same _ _ _ _ (fun e => e) h.blk, fun i u hu => hs.cell (h.tok i u hu), ⟨v, l, e, ⟨hs.same _ _ _ _ (fun e => e) ht.blk, own_still hs ht.own, fun q hq => own_still hs (ht.kids q hq), ht.lt⟩, ho⟩, h.p, h.few, h.room, h.len, h.rlt, h.blt, h.glt, h.rb, h.gr, h.gb, Nat.le_trans h.size hsz, fun k hk => Nat.lt_of_lt_of_le (h.xlt k hk) hsz⟩
theorem Kp.still {c : Cx} {N : Nat} {w A B : World} (h : Kp c w A) (hs : Still N A B) (hN : w.heap.size ≤ N) : Kp c w B :=
  ⟨hs.below.os.trans h.os, hs.below.tape.trans h.tape, hs.below.output.trans h.output, Nat.le_trans h.size hs.below.size, fun k hk hp => (hs.below.block k (by omega)).trans (h.block k hk hp)⟩

/-- what the sequences' rounds may turn -/
def MSeq (c : Cx) (b7 : Nat) (b : Nat) (t : TypeId) : Prop := b = c.r ∨ b = c.bt ∨ t = 40 ∨ b = b7

theorem Rd.cells {c : Cx} {X : Nat → Prop} {w : World} {s : Ex.S} (h : Rd c X w s) {k : Nat} (hf : Free c w k) : ∃ cs t fr, w.heap[k]? = some (.cells cs t fr) ∧ (k = c.r ∨ k = c.bt ∨ t = 40) := by
  rcases hf with e | e | ⟨_, cs, fr, e⟩
  · subst e; exact ⟨_, _, _, h.blk, .inl rfl⟩
  · obtain ⟨v, l, _, ht, _⟩ := h.tree
    subst e; exact ⟨_, _, _, ht.blk, .inr (.inl rfl)⟩
  · exact ⟨_, _, _, e, .inr (.inr rfl)⟩
theorem Kp.keptW {c : Cx} {X : Nat → Prop} {N b7 : Nat} {A B : World} {s : Ex.S} (h : Kp c A B) (hR : Rd c X A s) : KeptW N (MSeq c b7) A B := by
  have go : ∀ k o, A.heap[k]? = some o → (∀ cs t r, o = .cells cs t r → ¬ MSeq c b7 k t) → B.heap[k]? = some o := fun k o ho hm => by
    refine (h.block k (lt_of_heap ho) (fun hf => ?_)).trans ho
    obtain ⟨cs, t, fr, e1, e2⟩ := hR.cells hf
    rw [e1] at ho
    injection ho with ho
    refine hm cs t fr ho.symm ?_
    rcases e2 with e2 | e2 | e2
    · exact .inl e2
    · exact .inr (.inl e2)
    · exact .inr (.inr (.inl e2))
  exact ⟨h.os, h.tape, h.output, h.size, fun k o _ ho hm => go k o ho hm, fun b cs t r hm hb => go b _ hb (fun cs' t' r' e => by cases e; exact hm)⟩
theorem Kp.others {c : Cx} {X : Nat → Prop} {A B : World} {s : Ex.S} (h : Kp c A B) (hR : Rd c X A s) : KeepsOthers A B :=
  ⟨h.size, fun k o ho hc => (h.block k (lt_of_heap ho) (fun hf => by
    obtain ⟨cs, t, fr, e1, _⟩ := hR.cells hf
    rw [e1] at ho; injection ho with ho; subst ho; cases hc)).trans ho⟩

/-- the reader's box, the items' cell and row, the cell of what is there so far -/
structure SeqM (c : Cx) (X : Nat → Prop) (w : World) (b2 b5 b7 : Nat) (vi : Value) (is_ : List Nat) (s : Ex.S) (rest : Nat) (W : World) : Prop where
  rd : Rd c (fun k => XV X vi k ∨ k = b7) W s
  kp : Kp c w W
  box : W.heap[b2]? = some (.cells #[.pointer (some ⟨c.r, 0, none⟩)] 46 (0, 0))
  cell : W.heap[b5]? = some (.cells #[vi] 38 (0, 0))
  own : W.ownsRow w.heap.size 3 1 vi is_.length (ints (is_.map fun (i : Nat) => (i : Int)))
  last : W.heap[b7]? = some (.cells #[.int .i64 (rest : Int)] 3 (0, 0))
  apart : vi.ownBlock ≠ some b7
  hB : c.B ≤ w.heap.size
  h2 : w.heap.size ≤ b2
  h5 : w.heap.size ≤ b5
  h7 : w.heap.size ≤ b7

section
variable {c : Cx} {X : Nat → Prop} {w : World} {b2 b5 b7 : Nat} {vi : Value} {is_ : List Nat} {s : Ex.S} {rest : Nat} {W : World}
theorem SeqM.q2 (h : SeqM c X w b2 b5 b7 vi is_ s rest W) : W.cell? ⟨b2, 0, none⟩ = some (.pointer (some ⟨c.r, 0, none⟩)) := (blk_cell h.box 0).trans rfl
theorem SeqM.q5 (h : SeqM c X w b2 b5 b7 vi is_ s rest W) : W.cell? ⟨b5, 0, none⟩ = some vi := (blk_cell h.cell 0).trans rfl
theorem SeqM.q7 (h : SeqM c X w b2 b5 b7 vi is_ s rest W) : W.cell? ⟨b7, 0, none⟩ = some (.int .i64 (rest : Int)) := (blk_cell h.last 0).trans rfl
theorem SeqM.f7 (h : SeqM c X w b2 b5 b7 vi is_ s rest W) : W.frozen? ⟨b7, 0, none⟩ = false := blk_frozen h.last 0
theorem SeqM.still {N : Nat} {B : World} (h : SeqM c X w b2 b5 b7 vi is_ s rest W) (hs : Still N W B) (hN : w.heap.size ≤ N) : SeqM c X w b2 b5 b7 vi is_ s rest B :=
  ⟨h.rd.still hs, h.kp.still hs hN, hs.same _ _ _ _ (fun e => e) h.box, hs.same _ _ _ _ (fun e => e) h.cell, own_still hs h.own, hs.same _ _ _ _ (fun e => e) h.last, h.apart, h.hB, h.h2, h.h5, h.h7⟩
theorem SeqM.step {W2 : World} (h : SeqM c X w b2 b5 b7 vi is_ s rest W) {s2 : Ex.S} (hR : Rd c (fun k => XV X vi k ∨ k = b7) W2 s2) (hK : Kp c W W2) : SeqM c X w b2 b5 b7 vi is_ s2 rest W2 := by
  have := h.hB; have := h.h2; have := h.h5; have := h.h7; have := hR.rlt; have := hR.blt
  exact ⟨hR, h.kp.trans hK, hK.heap h.box (by omega) (by omega) (fun e => absurd e (by decide)), hK.heap h.cell (by omega) (by omega) (fun e => absurd e (by decide)), hK.own h.own (fun e => absurd e (by decide)) (by omega) (by omega), hK.heap h.last (by omega) (by omega) (fun e => absurd e (by decide)), h.apart, h.hB, h.h2, h.h5, h.h7⟩
theorem SeqM.put {N : Nat} (h : SeqM c X w b2 b5 b7 vi is_ s rest W) (j : Nat) : SeqM c X w b2 b5 b7 vi is_ s j (W.setCell ⟨b7, 0, none⟩ (.int .i64 (j : Int))) ∧ KeepsOthers W (W.setCell ⟨b7, 0, none⟩ (.int .i64 (j : Int))) ∧ KeptW N (MSeq c b7) W (W.setCell ⟨b7, 0, none⟩ (.int .i64 (j : Int))) := by
  have hS : But (fun q => q = b7) W (W.setCell ⟨b7, 0, none⟩ (.int .i64 (j : Int))) := But.setCell (p := fun q => q = b7) W rfl 0 _
  have ne : ∀ {k : Nat} {cs : Array Value} {t : TypeId} {fr : Nat × Nat}, W.heap[k]? = some (.cells cs t fr) → t ≠ 3 → ¬ k = b7 := fun hk ht e => by
    subst e; rw [h.last] at hk; injection hk with e1; injection e1 with _ e1; exact ht e1.symm
  have h7 := h.h7; have hB := h.hB
  refine ⟨⟨h.rd.but hS (fun e => by have := h.rd.rlt; omega) (fun e => by have := h.rd.blt; omega) (fun e => by have := h.rd.glt; omega) (fun q hq => .inl (.inr hq)), h.kp.new hS (fun q e => by omega), hS.heap h.box (ne h.box (by decide)), hS.heap h.cell (ne h.cell (by decide)), hS.own h.own (fun g hg e => h.apart (by rw [hg, e])), (blk_set h.last 0 _).trans rfl, h.apart, h.hB, h.h2, h.h5, h.h7⟩, KeepsOthers.setCell _ _ _, ?_⟩
  have go : ∀ k o, W.heap[k]? = some o → (∀ cs t r, o = .cells cs t r → ¬ MSeq c b7 k t) → (W.setCell ⟨b7, 0, none⟩ (.int .i64 (j : Int))).heap[k]? = some o := fun k o ho hm => by
    by_cases e : k = b7
    · subst e; rw [h.last] at ho; injection ho with ho
      exact absurd (show MSeq c k k 3 from .inr (.inr (.inr rfl))) (hm _ _ _ ho.symm)
    · exact (blk_other e _ _).trans ho
  exact ⟨hS.os, hS.tape, hS.output, hS.size, fun k o _ ho hm => go k o ho hm, fun b cs t r hm hb => go b _ hb (fun cs' t' r' e => by cases e; exact hm)⟩
end
end Go.Proofs.YtdkhkemllmegfaaGreatDoor
