import Derived.Test.YtnobamncenokdaaGreatDoorFamR
import Derived.Test.YtnobamncenokdaaGreatDoorName

/- A parser and its program in memory. -/
namespace Go.Proofs.YtnobamncenokdaaGreatDoor
open Go.RowKit Tn Lx

/-- a declaration's cells -/
def cell10 (d : Pg.Dc) : List Value := [.string ⟨d.name.text.toArray⟩, .int .i64 d.name.at_.line, .int .i64 d.name.at_.col, .string ⟨d.conf.text.toArray⟩, .int .i64 d.conf.at_.line, .int .i64 d.conf.at_.col, .string ⟨d.integ.text.toArray⟩, .int .i64 d.integ.at_.line, .int .i64 d.integ.at_.col, .int .i64 d.int]
def cells10 (l : List Pg.Dc) : List Value := l.flatMap cell10
theorem cells10_snoc (l : List Pg.Dc) (d : Pg.Dc) : cells10 (l ++ [d]) = cells10 l ++ cell10 d := by simp [cells10]

/-- the program's block -/
def progCells (bt : Nat) (v1 v4 : Value) (g : Pg.St) : Array Value := #[.pointer (some ⟨bt, 0, none⟩), v1, .slice none 0 0, .slice none 0 0, v4, .slice none 0 0, .string ⟨g.mt.toArray⟩, .int .i64 g.mp.line, .int .i64 g.mp.col, .slice none 0 0, .int .i64 g.mb]

/-- a parser pp of the reader c, and its program q: its inputs v1 and exceptions v4, each in a row of its own -/
structure Pm (c : Cx) (q pp : Nat) (v1 v4 : Value) (w : World) (g : Pg.St) : Prop where
  par : w.heap[pp]? = some (.cells #[.pointer (some ⟨c.r, 0, none⟩), .pointer (some ⟨q, 0, none⟩)] 55 (0, 0))
  prog : w.heap[q]? = some (.cells (progCells c.bt v1 v4 g) 42 (0, 0))
  ins : w.ownsRow c.B 46 10 v1 g.ins.length (cells10 g.ins)
  exns : w.ownsRow c.B 46 10 v4 g.exns.length (cells10 g.exns)
  apart : ∀ k, v1.ownBlock = some k → v4.ownBlock ≠ some k
  ppB : c.B ≤ pp
  qB : c.B ≤ q

section
variable {c : Cx} {q pp : Nat} {v1 v4 : Value} {w w' : World} {g : Pg.St}
theorem Pm.p0 (h : Pm c q pp v1 v4 w g) : w.cell? ⟨pp, 0, none⟩ = some (.pointer (some ⟨c.r, 0, none⟩)) := (blk_cell h.par 0).trans rfl
theorem Pm.p1 (h : Pm c q pp v1 v4 w g) : w.cell? ⟨pp, 1, none⟩ = some (.pointer (some ⟨q, 0, none⟩)) := (blk_cell h.par 1).trans rfl
theorem Pm.g0 (h : Pm c q pp v1 v4 w g) : w.cell? ⟨q, 0, none⟩ = some (.pointer (some ⟨c.bt, 0, none⟩)) := (blk_cell h.prog 0).trans rfl
theorem Pm.g1 (h : Pm c q pp v1 v4 w g) : w.cell? ⟨q, 1, none⟩ = some v1 := (blk_cell h.prog 1).trans rfl
theorem Pm.g4 (h : Pm c q pp v1 v4 w g) : w.cell? ⟨q, 4, none⟩ = some v4 := (blk_cell h.prog 4).trans rfl
theorem Pm.g6 (h : Pm c q pp v1 v4 w g) : w.cell? ⟨q, 6, none⟩ = some (.string ⟨g.mt.toArray⟩) := (blk_cell h.prog 6).trans rfl
theorem Pm.gf (h : Pm c q pp v1 v4 w g) (i : Nat) : w.frozen? ⟨q, i, none⟩ = false := blk_frozen h.prog i
theorem Pm.qp (h : Pm c q pp v1 v4 w g) : q ≠ pp := fun e => by
  have h1 := h.par; have h2 := h.prog
  rw [e, h1] at h2; injection h2 with h2; injection h2 with _ h2; exact absurd h2 (by decide)
/-- other blocks turn -/
theorem Pm.but (h : Pm c q pp v1 v4 w g) {p : Nat → Prop} (hb : But p w w') (h1 : ¬ p pp) (h2 : ¬ p q) (h3 : ∀ k cs fr, w.heap[k]? = some (.cells cs 46 fr) → (v1.ownBlock = some k ∨ v4.ownBlock = some k) → ¬ p k) : Pm c q pp v1 v4 w' g :=
  ⟨hb.heap h.par h1, hb.heap h.prog h2, hb.own h.ins (fun k hk => by obtain ⟨_, cur, e⟩ := own_tag h.ins hk; exact h3 k _ _ e (.inl hk)), hb.own h.exns (fun k hk => by obtain ⟨_, cur, e⟩ := own_tag h.exns hk; exact h3 k _ _ e (.inr hk)), h.apart, h.ppB, h.qB⟩
theorem Pm.below (h : Pm c q pp v1 v4 w g) (hb : Below w.heap.size w w') : Pm c q pp v1 v4 w' g := h.but (p := fun _ => False) (But.of_below hb) (fun e => e) (fun e => e) (fun _ _ _ _ _ e => e)
end

/-- what the reader's calls may turn, and one block besides -/
def FreeD (c : Cx) (bd : Nat) (w : World) (k : Nat) : Prop := Free c w k ∨ k = bd
theorem Pm.freeD {c : Cx} {q pp bd : Nat} {v1 v4 : Value} {w w' : World} {g : Pg.St} (h : Pm c q pp v1 v4 w g) (hr : c.r < c.B) (hb : c.bt < c.B) (hd1 : bd ≠ pp) (hd2 : bd ≠ q) (hd3 : ∀ k, (v1.ownBlock = some k ∨ v4.ownBlock = some k) → k ≠ bd) (hk : But (FreeD c bd w) w w') : Pm c q pp v1 v4 w' g := by
  have hp := h.ppB; have hq := h.qB
  refine h.but hk ?_ ?_ ?_
  · rintro ((e | e | ⟨_, cs, fr, e⟩) | e)
    · omega
    · omega
    · rw [h.par] at e; injection e with e; injection e with _ e; exact absurd e (by decide)
    · exact hd1 e.symm
  · rintro ((e | e | ⟨_, cs, fr, e⟩) | e)
    · omega
    · omega
    · rw [h.prog] at e; injection e with e; injection e with _ e; exact absurd e (by decide)
    · exact hd2 e.symm
  · intro k cs fr hk1 hk2
    have hB : c.B ≤ k := by
      rcases hk2 with e | e
      · exact (own_tag h.ins e).1
      · exact (own_tag h.exns e).1
    rintro ((e | e | ⟨_, cs', fr', e⟩) | e)
    · omega
    · omega
    · rw [hk1] at e; injection e with e; injection e with _ e; exact absurd e (by decide)
    · exact hd3 k hk2 e
theorem Pm.kp {c : Cx} {q pp : Nat} {v1 v4 : Value} {w w' : World} {g : Pg.St} (h : Pm c q pp v1 v4 w g) (hr : c.r < c.B) (hb : c.bt < c.B) (hk : Kp c w w') : Pm c q pp v1 v4 w' g :=
  h.freeD (bd := w.heap.size) hr hb (fun e => by have := lt_of_heap h.par; omega) (fun e => by have := lt_of_heap h.prog; omega) (fun k hk e => by
    rcases hk with hk | hk
    · obtain ⟨_, cur, e1⟩ := own_tag h.ins hk; have := lt_of_heap e1; omega
    · obtain ⟨_, cur, e1⟩ := own_tag h.exns hk; have := lt_of_heap e1; omega) (But.mono hk fun k _ e => .inl e)

theorem FreeD.of_kp {c : Cx} {bd : Nat} {w w' : World} (h : Kp c w w') : But (FreeD c bd w) w w' := But.mono h fun _ _ e => .inl e
theorem freeD_trans {c : Cx} {bd : Nat} {a b d : World} (h : But (FreeD c bd a) a b) (k : But (FreeD c bd b) b d) : But (FreeD c bd a) a d :=
  ⟨k.os.trans h.os, k.tape.trans h.tape, k.output.trans h.output, Nat.le_trans h.size k.size, fun i hi hp => by
    have e := h.block i hi hp
    refine (k.block i (Nat.lt_of_lt_of_le hi h.size) ?_).trans e
    rintro ((e1 | e1 | ⟨e1, cs, fr, e2⟩) | e1)
    · exact hp (.inl (.inl e1))
    · exact hp (.inl (.inr (.inl e1)))
    · exact hp (.inl (.inr (.inr ⟨e1, cs, fr, e ▸ e2⟩)))
    · exact hp (.inr e1)⟩
/-- the block besides came later -/
theorem freeD_new {c : Cx} {bd : Nat} {a b d : World} (h : Below a.heap.size a b) (hd : a.heap.size ≤ bd) (k : But (FreeD c bd b) b d) : Kp c a d :=
  ⟨k.os.trans h.os, k.tape.trans h.tape, k.output.trans h.output, Nat.le_trans h.size k.size, fun i hi hp => by
    have e := h.block i hi
    refine (k.block i (Nat.lt_of_lt_of_le hi h.size) ?_).trans e
    rintro ((e1 | e1 | ⟨e1, cs, fr, e2⟩) | e1)
    · exact hp (.inl e1)
    · exact hp (.inr (.inl e1))
    · exact hp (.inr (.inr ⟨e1, cs, fr, e ▸ e2⟩))
    · omega⟩
theorem freeD_below {c : Cx} {bd N : Nat} {a b : World} (h : But (FreeD c bd a) a b) (hN : N ≤ a.heap.size) (h1 : N ≤ c.r) (h2 : N ≤ c.bt) (h3 : N ≤ c.B) (h4 : N ≤ bd) : Below N a b :=
  But.below h hN (fun k hk => by
    rcases hk with (e | e | ⟨e, _⟩) | e <;> omega)

/-- what the parser's calls may turn: the reader's own, the program's block, rows of nodes and of declarations -/
def FreeR (c : Cx) (q : Nat) (w : World) (k : Nat) : Prop := k = c.r ∨ k = c.bt ∨ k = q ∨ (c.B ≤ k ∧ ∃ cs t fr, w.heap[k]? = some (.cells cs t fr) ∧ (t = 169 ∨ t = 46))
def Kr (c : Cx) (q : Nat) (w w' : World) : Prop := But (FreeR c q w) w w'
theorem Kr.of_kp {c : Cx} {q : Nat} {w w' : World} (h : Kp c w w') : Kr c q w w' := But.mono h fun k _ e => by
  rcases e with e | e | ⟨e, cs, fr, e1⟩
  · exact .inl e
  · exact .inr (.inl e)
  · exact .inr (.inr (.inr ⟨e, cs, _, fr, e1, .inl rfl⟩))
theorem Kr.refl (c : Cx) (q : Nat) (w : World) : Kr c q w w := But.refl _ _
theorem Kr.trans {c : Cx} {q : Nat} {a b d : World} (h : Kr c q a b) (k : Kr c q b d) : Kr c q a d :=
  ⟨k.os.trans h.os, k.tape.trans h.tape, k.output.trans h.output, Nat.le_trans h.size k.size, fun i hi hp => by
    have e := h.block i hi hp
    refine (k.block i (Nat.lt_of_lt_of_le hi h.size) ?_).trans e
    rintro (e1 | e1 | e1 | ⟨e1, cs, t, fr, e2, e3⟩)
    · exact hp (.inl e1)
    · exact hp (.inr (.inl e1))
    · exact hp (.inr (.inr (.inl e1)))
    · exact hp (.inr (.inr (.inr ⟨e1, cs, t, fr, e ▸ e2, e3⟩)))⟩
theorem Kr.size {c : Cx} {q : Nat} {a b : World} (h : Kr c q a b) : a.heap.size ≤ b.heap.size := But.size h
theorem Kr.below {c : Cx} {q N : Nat} {a b : World} (h : Kr c q a b) (hN : N ≤ a.heap.size) (h1 : N ≤ c.r) (h2 : N ≤ c.bt) (h3 : N ≤ c.B) (h4 : N ≤ q) : Below N a b :=
  But.below h hN (fun k hk => by
    rcases hk with e | e | e | ⟨e, _⟩ <;> omega)
/-- a map stays -/
theorem Kr.map {c : Cx} {q : Nat} {a b : World} (h : Kr c q a b) {k cl : Nat} {es : Array MapEntry} (hk : a.heap[k]? = some (.map es cl)) (h1 : k ≠ c.r) (h2 : k ≠ c.bt) (h3 : k ≠ q) : b.heap[k]? = some (.map es cl) :=
  (h.block k (lt_of_heap hk) (by
    rintro (e | e | e | ⟨_, cs, t, fr, e, _⟩)
    · exact h1 e
    · exact h2 e
    · exact h3 e
    · rw [hk] at e; cases e)).trans hk
/-- what lies in a block of cells of another type stays -/
theorem Kr.heap {c : Cx} {q : Nat} {a b : World} (h : Kr c q a b) {k : Nat} {cs : Array Value} {t : TypeId} {fr : Nat × Nat} (hk : a.heap[k]? = some (.cells cs t fr)) (h1 : k ≠ c.r) (h2 : k ≠ c.bt) (h3 : k ≠ q) (ht : t ≠ 169 ∧ t ≠ 46) : b.heap[k]? = some (.cells cs t fr) :=
  (h.block k (lt_of_heap hk) (by
    rintro (e | e | e | ⟨_, cs', t', fr', e, e'⟩)
    · exact h1 e
    · exact h2 e
    · exact h3 e
    · rw [hk] at e; injection e with e; injection e with _ e
      rcases e' with e' | e'
      · exact ht.1 (e.trans e')
      · exact ht.2 (e.trans e'))).trans hk

/-- what is wrong, with a name -/
def dvalN (cd : Int) (p : Pos) (n : B) : Value := .iface 32 (.agg #[.int .i64 cd, .int .i64 p.line, .int .i64 p.col, .string ⟨n.toArray⟩])
theorem dvalN_nil (cd : Int) (p : Pos) : dval cd p = dvalN cd p [] := rfl

/-- what a declaration's reading says: the program with it, or what is wrong -/
def ReadP (c : Cx) (X : Nat → Prop) (w : World) (q pp : Nat) (R : Pg.R Pg.St) (e : Ending) (w' : World) : Prop :=
  (∃ g s v1 v4, R = .ok g s ∧ e = .returned .nilIface ∧ Rd c X w' s ∧ Pm c q pp v1 v4 w' g ∧ Kr c q w w') ∨ (∃ cd p n, R = .bad cd p n ∧ e = .returned (dvalN cd p n) ∧ Kr c q w w')
end Go.Proofs.YtnobamncenokdaaGreatDoor


/- Several marks, or words, or none, are passed over. -/
namespace Go.Proofs.YtnobamncenokdaaGreatDoor
open Go.RowKit Tn Lx
attribute [local go_sem] tok_field0 tok_field1 tok_field3

set_option maxRecDepth 100000 in
set_option maxHeartbeats 2000000 in
theorem take_none (c : Cx) (X : Nat → Prop) (w : World) (s : Ex.S) (h : Rd c X w s) : Calls Tryz.prog 15 #[.pointer (some ⟨c.r, 0, none⟩), .slice none 0 0] w (TakeP c X w (Pg.takes c.ts [] s)) := by
  have HR := Lib.hid h
  clear h
  go_enter Tryz.func15, Tryz.ntmps15
  go_wp2_with fail
  refine wp_loop_rounds 1 ?_
  rw [rounds_succ]
  go_wp2
  go_ret
  exact .inl ⟨s, rfl, rfl, HR.out, Kp.refl _ _⟩

theorem take_one (c : Cx) (X : Nat → Prop) (w : World) (s : Ex.S) (m : B) (b : Nat) (h : Rd c X w s) (hc : w.cell? ⟨b, 0, none⟩ = some (.string ⟨m.toArray⟩)) : Calls Tryz.prog 15 #[.pointer (some ⟨c.r, 0, none⟩), .slice (some ⟨b, 0, none⟩) 1 1] w (TakeP c X w (Pg.takes c.ts [m] s)) := by
  have e : Pg.takes c.ts [m] s = Ex.take c.ts m s := by
    rw [Pg.takes, Ex.take]
    split <;> rfl
  rw [e]
  exact take_any c X w s m b h hc

set_option maxRecDepth 100000 in
set_option maxHeartbeats 4000000 in
theorem take_two (c : Cx) (X : Nat → Prop) (w : World) (s : Ex.S) (m1 m2 : B) (b : Nat) (h : Rd c X w s) (hb : w.heap[b]? = some (.cells #[.string ⟨m1.toArray⟩, .string ⟨m2.toArray⟩] 9 (0, 0))) (hB : c.B ≤ b) : Calls Tryz.prog 15 #[.pointer (some ⟨c.r, 0, none⟩), .slice (some ⟨b, 0, none⟩) 2 2] w (TakeP c X w (Pg.takes c.ts [m1, m2] s)) := by
  have hc0 : w.cell? ⟨b, 0, none⟩ = some (.string ⟨m1.toArray⟩) := (blk_cell hb 0).trans rfl
  have hr1 := h.rlt; have hb1 := h.blt
  have hI := is_any c X w s m1 h
  have hS := fun w1 (hR : Rd c X w1 s) => wrong_at c X w1 s 5 hR
  have hT := fun w1 (hR : Rd c X w1 s) (hp : s.p < c.ts.length) => skip_any c X w1 s hR hp
  by_cases hm : Ex.is c.ts s m1 = true
  · rw [hm] at hI
    have hp := Ex.is_lt hm
    have hc1 : ∀ w1, Kp c w w1 → w1.cell? ⟨b, 1, none⟩ = some (.string ⟨m2.toArray⟩) := fun w1 hk => (blk_cell (hk.heap hb (by omega) (by omega) (fun e => absurd e (by decide))) 1).trans rfl
    have hI2 := fun w1 (hR : Rd c X w1 s.skip) => is_any c X w1 s.skip m2 hR
    have hS2 := fun w1 (hR : Rd c X w1 s.skip) => wrong_at c X w1 s.skip 5 hR
    have hT2 := fun w1 (hR : Rd c X w1 s.skip) (hp : s.skip.p < c.ts.length) => skip_any c X w1 s.skip hR hp
    by_cases hm2 : Ex.is c.ts s.skip m2 = true
    · have hE : Pg.takes c.ts [m1, m2] s = .ok () s.skip.skip := by rw [Pg.takes, Ex.take, if_pos hm, Ex.Res.bind, Pg.takes, Ex.take, if_pos hm2, Ex.Res.bind, Pg.takes]
      have hp2 := Ex.is_lt hm2
      rw [hm2] at hI2
      have HI := Lib.hid hI; have HT := Lib.hid hT; have HE := Lib.hid hE; have HR := Lib.hid h; have HC1 := Lib.hid hc1; have HI2 := Lib.hid hI2; have HT2 := Lib.hid hT2
      clear hI hS hT hE h hm hm2 hc1 hI2 hT2 hS2
      go_enter Tryz.func15, Tryz.ntmps15
      go_wp2_with fail
      refine wp_loop_rounds 3 ?_
      rw [rounds_succ]
      go_wp2_with fail
      refine HI.out.mono ?_
      rintro e w1 ⟨rfl, hb1⟩
      go_wp2_with fail
      refine (HT.out _ (HR.out.below hb1) hp).mono ?_
      rintro e w2 ⟨rfl, hR2, hK2⟩
      have HR2 := Lib.hid hR2; have HK2 := Lib.hid (Below.then_kp hb1 hK2)
      have c1 := HC1.out w2 HK2.out
      clear hb1 hR2 hK2
      go_wp2_with fail
      rw [rounds_succ]
      go_wp2_with fail
      refine (HI2.out _ HR2.out).mono ?_
      rintro e w3 ⟨rfl, hb3⟩
      go_wp2_with fail
      refine (HT2.out _ (HR2.out.below hb3) hp2).mono ?_
      rintro e w4 ⟨rfl, hR4, hK4⟩
      have HR4 := Lib.hid hR4; have HK4 := Lib.hid (HK2.out.trans (Below.then_kp hb3 hK4))
      clear hb3 hR4 hK4
      go_wp2_with fail
      rw [rounds_succ]
      go_wp2
      go_ret
      exact .inl ⟨_, HE.out, rfl, HR4.out, HK4.out⟩
    · have hE : Pg.takes c.ts [m1, m2] s = .bad 5 (Ex.at_ c.ts s.skip) := by rw [Pg.takes, Ex.take, if_pos hm, Ex.Res.bind, Pg.takes, Ex.take, if_neg hm2]; rfl
      have hm2' : Ex.is c.ts s.skip m2 = false := by simpa using hm2
      rw [hm2'] at hI2
      have HI := Lib.hid hI; have HT := Lib.hid hT; have HE := Lib.hid hE; have HR := Lib.hid h; have HC1 := Lib.hid hc1; have HI2 := Lib.hid hI2; have HS2 := Lib.hid hS2
      clear hI hS hT hE h hm hm2 hm2' hc1 hI2 hT2 hS2
      go_enter Tryz.func15, Tryz.ntmps15
      go_wp2_with fail
      refine wp_loop_rounds 2 ?_
      rw [rounds_succ]
      go_wp2_with fail
      refine HI.out.mono ?_
      rintro e w1 ⟨rfl, hb1⟩
      go_wp2_with fail
      refine (HT.out _ (HR.out.below hb1) hp).mono ?_
      rintro e w2 ⟨rfl, hR2, hK2⟩
      have HR2 := Lib.hid hR2; have HK2 := Lib.hid (Below.then_kp hb1 hK2)
      have c1 := HC1.out w2 HK2.out
      clear hb1 hR2 hK2
      go_wp2_with fail
      rw [rounds_succ]
      go_wp2_with fail
      refine (HI2.out _ HR2.out).mono ?_
      rintro e w3 ⟨rfl, hb3⟩
      go_wp2_with fail
      refine (HS2.out _ (HR2.out.below hb3)).mono ?_
      rintro e w4 ⟨rfl, hb4⟩
      have HK4 := Lib.hid (HK2.out.then_below (hb3.trans (hb4.mono hb3.size)))
      clear hb3 hb4
      go_wp2
      go_ret
      exact .inr ⟨_, _, HE.out, rfl, HK4.out⟩
  · have hm' : Ex.is c.ts s m1 = false := by simpa using hm
    rw [hm'] at hI
    have hE : Pg.takes c.ts [m1, m2] s = .bad 5 (Ex.at_ c.ts s) := by rw [Pg.takes, Ex.take, if_neg hm]; rfl
    have HI := Lib.hid hI; have HS := Lib.hid hS; have HE := Lib.hid hE; have HR := Lib.hid h
    clear hI hS hT hE h hm hm'
    go_enter Tryz.func15, Tryz.ntmps15
    go_wp2_with fail
    refine wp_loop_rounds 1 ?_
    rw [rounds_succ]
    go_wp2_with fail
    refine HI.out.mono ?_
    rintro e w1 ⟨rfl, hb1⟩
    go_wp2_with fail
    refine (HS.out _ (HR.out.below hb1)).mono ?_
    rintro e w2 ⟨rfl, hb2⟩
    have HK2 := Lib.hid (Kp.of_below (c := c) (hb1.trans (hb2.mono hb1.size)))
    clear hb1 hb2
    go_wp2
    go_ret
    exact .inr ⟨_, _, HE.out, rfl, HK2.out⟩
end Go.Proofs.YtnobamncenokdaaGreatDoor


/- A name behind some marks and words, into a variable. -/
namespace Go.Proofs.YtnobamncenokdaaGreatDoor
open Go.RowKit Tn Lx
attribute [local go_sem] tok_field0 tok_field1 tok_field3

/-- a name in a variable's cells, from o on -/
def nmCells (cs : Array Value) (o : Nat) (n : Pg.Nm) : Array Value := ((cs.setIfInBounds o (.string ⟨n.text.toArray⟩)).setIfInBounds (o + 1) (.int .i64 n.at_.line)).setIfInBounds (o + 2) (.int .i64 n.at_.col)

/-- the name is there, and no error; or what is wrong -/
def NameP (c : Cx) (X : Nat → Prop) (w : World) (bd o : Nat) (cs : Array Value) (t : TypeId) (R : Ex.Res Pg.Nm) (e : Ending) (w' : World) : Prop :=
  (∃ n s, R = .ok n s ∧ e = .returned .nilIface ∧ Rd c X w' s ∧ But (FreeD c bd w) w w' ∧ w'.heap[bd]? = some (.cells (nmCells cs o n) t (0, 0))) ∨ (∃ cd p, R = .bad cd p ∧ e = .returned (dval cd p) ∧ But (FreeD c bd w) w w')

theorem but_three (w : World) (b o : Nat) (u0 u1 u2 : Value) : But (fun k => k = b) w (((w.setCell ⟨b, o, none⟩ u0).setCell ⟨b, o + 1, none⟩ u1).setCell ⟨b, o + 2, none⟩ u2) :=
  ((But.setCell (p := fun k => k = b) w rfl o u0).trans (But.setCell (p := fun k => k = b) _ rfl (o + 1) u1)).trans (But.setCell (p := fun k => k = b) _ rfl (o + 2) u2)

theorem freeD_but {c : Cx} {bd : Nat} {a b d : World} (h : Kp c a b) (k : But (fun k => k = bd) b d) : But (FreeD c bd a) a d :=
  ⟨k.os.trans h.os, k.tape.trans h.tape, k.output.trans h.output, Nat.le_trans h.size k.size, fun i hi hp => (k.block i (Nat.lt_of_lt_of_le hi h.size) (fun e => hp (.inr e))).trans (h.block i hi (fun e => hp (.inl e)))⟩

set_option maxRecDepth 100000 in
set_option maxHeartbeats 4000000 in
theorem pname_any (c : Cx) (X : Nat → Prop) (w : World) (s : Ex.S) (pp bd o : Nat) (cs : Array Value) (t : TypeId) (ms : List B) (bv x : Value) (h : Rd c X w s) (hpp : w.heap[pp]? = some (.cells #[.pointer (some ⟨c.r, 0, none⟩), x] 55 (0, 0))) (hbd : w.heap[bd]? = some (.cells cs t (0, 0)))
    (ho : o + 2 < cs.size) (hbB : c.B ≤ bd) (hpB : c.B ≤ pp) (ht : t ≠ 169 ∧ t ≠ 3) (hT : Calls Tryz.prog 15 #[.pointer (some ⟨c.r, 0, none⟩), bv] w (TakeP c X w (Pg.takes c.ts ms s))) :
    Calls Tryz.prog 49 #[.pointer (some ⟨pp, 0, none⟩), .pointer (some ⟨bd, o, none⟩), bv] w (NameP c X w bd o cs t (Pg.nameAt c.ts ms s)) := by
  have p0 : w.cell? ⟨pp, 0, none⟩ = some (.pointer (some ⟨c.r, 0, none⟩)) := (blk_cell hpp 0).trans rfl
  have hr1 := h.rlt; have hb1 := h.blt; have hg1 := h.glt
  have hN : Pg.nameAt c.ts ms s = (Pg.takes c.ts ms s).bind fun _ s1 => if ((Ex.tk c.ts s1.p).kind == 1) = true then .ok ⟨(Ex.tk c.ts s1.p).text, Ex.at_ c.ts s1⟩ s1.skip else Ex.wrong c.ts 5 s1 := rfl
  generalize Pg.nameAt c.ts ms s = R at *
  have HN := Lib.hid hN; have HT := Lib.hid hT; have HP := Lib.hid hpp; have HD := Lib.hid hbd; have HTY := Lib.hid ht
  clear hN hT h hpp hbd ht
  go_enter Tryz.func49, Tryz.ntmps49
  go_wp2_with fail
  refine HT.out.mono ?_
  rintro e w1 (⟨s1, hE1, rfl, hR1, hK1⟩ | ⟨cd, p1, hE1, rfl, hK1⟩)
  rotate_left
  · have hF : R = .bad cd p1 := by rw [HN.out, hE1]; rfl
    have HF := Lib.hid hF; have HK := Lib.hid hK1
    clear hF hK1 hE1 HN HT HP HD p0
    unfold dval
    go_wp2
    go_ret
    exact .inr ⟨cd, p1, HF.out, rfl, FreeD.of_kp HK.out⟩
  have hp1 := hK1.heap HP.out (by omega) (by omega) (fun e => absurd e (by decide))
  have hd1 := hK1.heap HD.out (by omega) (by omega) HTY.out.1
  have p01 : w1.cell? ⟨pp, 0, none⟩ = some (.pointer (some ⟨c.r, 0, none⟩)) := (blk_cell hp1 0).trans rfl
  have hA := name_any c X w1 s1 hR1
  have hF : R = if ((Ex.tk c.ts s1.p).kind == 1) = true then .ok ⟨(Ex.tk c.ts s1.p).text, (Ex.tk c.ts s1.p).at_⟩ s1.skip else .bad 5 (Ex.at_ c.ts s1) := by rw [HN.out, hE1]; rfl
  generalize Ex.tk c.ts s1.p = tk at *
  generalize Ex.at_ c.ts s1 = p at *
  have HA := Lib.hid hA; have HF := Lib.hid hF; have HK1 := Lib.hid hK1; have HD1 := Lib.hid hd1
  clear hA hF hK1 hd1 hp1 hE1 HN HT HP HD p0 hR1
  go_wp2_with fail
  refine HA.out.mono ?_
  rintro e w2 (⟨hk, rfl, hR2, hK2⟩ | ⟨hk, rfl, hR2, hK2⟩)
  · have hd2 := hK2.heap HD1.out (by omega) (by omega) HTY.out.1
    have hF2 : R = .ok ⟨tk.text, tk.at_⟩ s1.skip := by rw [HF.out, if_pos (by simp [hk])]
    obtain ⟨V, hV⟩ : ∃ V, w2.alloc (.cells #[.int .i64 tk.kind, .string ⟨tk.text.toArray⟩, .int .i64 tk.int, .int .i64 tk.at_.line, .int .i64 tk.at_.col] 69) = V := ⟨_, rfl⟩
    have hbV : Below w2.heap.size w2 V := by rw [← hV]; exact (Below.refl _ w2).alloc (Nat.le_refl _) _
    have hG : Five V w2.heap.size (.int .i64 tk.kind) (.string ⟨tk.text.toArray⟩) (.int .i64 tk.int) (.int .i64 tk.at_.line) (.int .i64 tk.at_.col) := ⟨by rw [← hV]; exact blk_new w2 _⟩
    have hdV : V.heap[bd]? = some (.cells cs t (0, 0)) := (hbV.block bd (lt_of_heap hd2)).trans hd2
    have hRV := hR2.below hbV
    have hKV := (HK1.out.trans hK2).then_below hbV
    have HF2 := Lib.hid hF2; have HV := Lib.hid hV; have HG := Lib.hid hG; have HDV := Lib.hid hdV; have HRV := Lib.hid hRV; have HKV := Lib.hid hKV
    clear hF2 hV hG hdV hRV hKV hd2 hbV hR2 hK2 hk HA HF HK1 HD1 p01
    unfold tval
    have y1 := HG.out.c1; have y3 := HG.out.c3; have y4 := HG.out.c4
    obtain ⟨x0, hx0⟩ : ∃ x0, V.cell? ⟨bd, o, none⟩ = some x0 := ⟨cs[o], by rw [blk_cell HDV.out o]; exact Array.getElem?_eq_getElem (by omega)⟩
    obtain ⟨x1, hx1⟩ : ∃ x1, V.cell? ⟨bd, o + 1, none⟩ = some x1 := ⟨cs[o + 1], by rw [blk_cell HDV.out (o + 1)]; exact Array.getElem?_eq_getElem (by omega)⟩
    obtain ⟨x2, hx2⟩ : ∃ x2, V.cell? ⟨bd, o + 2, none⟩ = some x2 := ⟨cs[o + 2], by rw [blk_cell HDV.out (o + 2)]; exact Array.getElem?_eq_getElem ho⟩
    have xf : ∀ i, V.frozen? ⟨bd, i, none⟩ = false := fun i => blk_frozen HDV.out i
    go_upto_region 5 with fail
    rw [HV.out]
    go_wp2
    go_ret
    refine .inl ⟨_, _, HF2.out, rfl, ?_, ?_, ?_⟩
    · exact HRV.out.but (but_three V bd o _ _ _) (fun e => by omega) (fun e => by omega) (fun e => by omega) (fun k e => .inr (by subst e; exact ⟨_, _, _, HDV.out, HTY.out.1, HTY.out.2⟩))
    · exact freeD_but HKV.out (but_three V bd o _ _ _)
    · exact (blk_set (blk_set (blk_set HDV.out o _) (o + 1) _) (o + 2) _)
  · have hd2 := hK2.heap HD1.out (by omega) (by omega) HTY.out.1
    have hF2 : R = .bad 5 p := by rw [HF.out, if_neg (by simp [hk])]
    obtain ⟨V, hV⟩ : ∃ V, w2.alloc (.cells #[.int .i64 0, .string ⟨#[]⟩, .int .i64 0, .int .i64 0, .int .i64 0] 69) = V := ⟨_, rfl⟩
    have hbV : Below w2.heap.size w2 V := by rw [← hV]; exact (Below.refl _ w2).alloc (Nat.le_refl _) _
    have hG : Five V w2.heap.size (.int .i64 0) (.string ⟨#[]⟩) (.int .i64 0) (.int .i64 0) (.int .i64 0) := ⟨by rw [← hV]; exact blk_new w2 _⟩
    have hdV : V.heap[bd]? = some (.cells cs t (0, 0)) := (hbV.block bd (lt_of_heap hd2)).trans hd2
    have hKV := (HK1.out.trans hK2).then_below hbV
    have HF2 := Lib.hid hF2; have HV := Lib.hid hV; have HG := Lib.hid hG; have HDV := Lib.hid hdV; have HKV := Lib.hid hKV
    clear hF2 hV hG hdV hKV hd2 hbV hR2 hK2 hk HA HF HK1 HD1 p01
    unfold tval Ex.zt
    have y1 := HG.out.c1; have y3 := HG.out.c3; have y4 := HG.out.c4
    obtain ⟨x0, hx0⟩ : ∃ x0, V.cell? ⟨bd, o, none⟩ = some x0 := ⟨cs[o], by rw [blk_cell HDV.out o]; exact Array.getElem?_eq_getElem (by omega)⟩
    obtain ⟨x1, hx1⟩ : ∃ x1, V.cell? ⟨bd, o + 1, none⟩ = some x1 := ⟨cs[o + 1], by rw [blk_cell HDV.out (o + 1)]; exact Array.getElem?_eq_getElem (by omega)⟩
    obtain ⟨x2, hx2⟩ : ∃ x2, V.cell? ⟨bd, o + 2, none⟩ = some x2 := ⟨cs[o + 2], by rw [blk_cell HDV.out (o + 2)]; exact Array.getElem?_eq_getElem ho⟩
    have xf : ∀ i, V.frozen? ⟨bd, i, none⟩ = false := fun i => blk_frozen HDV.out i
    obtain ⟨D, hD⟩ : ∃ D, dval 5 p = D := ⟨_, rfl⟩
    rw [hD]
    have HDD := Lib.hid hD; clear hD
    go_upto_region 5 with fail
    rw [HV.out]
    go_wp2
    go_ret
    exact .inr ⟨5, p, HF2.out, by rw [HDD.out]; rfl, freeD_but HKV.out (but_three V bd o _ _ _)⟩
end Go.Proofs.YtnobamncenokdaaGreatDoor
