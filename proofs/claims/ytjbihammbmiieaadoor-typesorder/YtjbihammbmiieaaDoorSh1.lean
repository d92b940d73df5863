/- The number of an open type; a name. -/
import Derived.Test.YtjbihammbmiieaaDoorMp
import Derived.Lib.ItoaLen
namespace Go.Proofs.YtjbihammbmiieaaDoor
open Go.RowKit Un

theorem nums_len {r : Nat} {l : List Nat} {W : World} (hb : NumsAt W r l) : (Builtin.len_ #[74] 3 #[.map (some r)]).run Tryd.prog W = .ok (.int .i64 (l.length : Int)) W := by
  simp [Builtin.len_, goInt, Sem.run_bind, run_underlying nums_under, obj_get hb, Result.andThen, nents_len]
/-- what showing may turn besides the types: the printer, its texts, the map -/
def FS (c : Pc) (mb : Nat) (v : Value) (k : Nat) (o : Obj) : Prop := v.ownBlock = some k ∨ k = c.bp ∨ k = mb ∨ (c.N ≤ k ∧ ∃ cs fr, o = .cells cs 5 fr)
/-- all that lies there while types are shown -/
structure ShowAt (B bt : Nat) (c : Pc) (mb : Nat) (R : List Nx) (v : Value) (s : List UInt8) (nums : List Nat) (w : World) : Prop where
  tab : TabAt B w bt R v
  tok : Tok R
  pr : Pr c w s
  num : NumsAt w mb nums
  tv : c.tv = .pointer (some ⟨bt, 0, none⟩)
  mv : c.mv = .map (some mb)
  lo : c.N ≤ mb
  bN : B ≤ c.N
theorem but_map {w : World} {mb : Nat} {o : Obj} (h : w.heap[mb]? = some o) (o' : Obj) : But (fun q => q = mb) w { w with heap := w.heap.setIfInBounds mb o' } :=
  ⟨rfl, rfl, rfl, by simp, fun k _ hp => by simp [Array.getElem?_setIfInBounds, show ¬ mb = k from fun e => hp e.symm]⟩
theorem Pr.but {c : Pc} {a b : World} {s : List UInt8} {nb : Nat} (h : Pr c a s) (k : But (fun q => q = nb) a b) (h1 : c.bp ≠ nb) (h2 : ∀ cs fr, a.heap[nb]? ≠ some (.cells cs 5 fr)) : Pr c b s := by
  obtain ⟨adr, v, h⟩ := h
  exact ⟨adr, v, h.lo, Nat.le_trans h.hN k.size, k.heap h.blk h1, h.adr, k.own h.own (fun g hg e => by
    obtain ⟨_, cur, e1⟩ := own_tag h.own hg
    rw [e] at e1; exact h2 _ _ e1)⟩
theorem ShowAt.renum {B bt : Nat} {c : Pc} {mb : Nat} {R : List Nx} {v : Value} {s : List UInt8} {nums nums' : List Nat} {w : World} {n : Nat} (h : ShowAt B bt c mb R v s nums w) (hn : n = nums'.length) : ShowAt B bt c mb R v s nums' { w with heap := w.heap.setIfInBounds mb (.map (nents 0 nums').toArray n) } := by
  have hb := but_map h.num (.map (nents 0 nums').toArray n)
  have hbt : bt ≠ mb := fun e => by have h1 := h.tab.blk; have h2 : w.heap[mb]? = _ := h.num; rw [e, h2] at h1; cases h1
  have hv : v.ownBlock ≠ some mb := fun e => by
    obtain ⟨_, cur, h1⟩ := own_tag h.tab.own e
    have h2 : w.heap[mb]? = _ := h.num; rw [h2] at h1; cases h1
  have hbp : c.bp ≠ mb := fun e => by
    obtain ⟨_, _, hp⟩ := h.pr
    have h1 := hp.blk; have h2 : w.heap[mb]? = _ := h.num; rw [e, h2] at h1; cases h1
  have hlt := lt_of_heap h.num
  refine ⟨h.tab.but hb hbt hv, h.tok, h.pr.but hb hbp (fun cs fr e => by have h2 : w.heap[mb]? = _ := h.num; rw [h2] at e; cases e), ?_, h.tv, h.mv, h.lo, h.bN⟩
  show (w.heap.setIfInBounds mb _)[mb]? = _
  rw [hn]; simp [hlt]
theorem ShowAt.keep {B bt : Nat} {c : Pc} {mb : Nat} {R : List Nx} {v : Value} {s : List UInt8} {nums : List Nat} {w w' : World} (h : ShowAt B bt c mb R v s nums w) (k : Fr (FS c mb v) w w') {N : Nat} {u : Value} {n : Nat} {xs : List Value} (ho : w.ownsRow N 35 1 u n xs) : w'.ownsRow N 35 1 u n xs := by
  refine But.own k ho ?_
  rintro g hg ⟨o, e1, e2⟩
  obtain ⟨_, cur, e3⟩ := own_tag ho hg
  rw [e3] at e1; injection e1 with e1; subst e1
  rcases e2 with e2 | e2 | e2 | ⟨_, cs, fr, e2⟩
  · exact row_apart h.tab.own ho (by decide) g hg e2
  · obtain ⟨_, _, hp⟩ := h.pr
    have := hp.blk; rw [← e2, e3] at this; injection this with this; injection this with _ this; exact absurd this (by decide)
  · have : w.heap[mb]? = _ := h.num; rw [← e2, e3] at this; cases this
  · injection e2 with _ e2; exact absurd e2 (by decide)
theorem Ow.fs {c : Pc} {mb : Nat} {v : Value} {B bt : Nat} {R : List Nx} {a b : World} (h : Ow v a b) (ht : TabAt B a bt R v) : Fr (FS c mb v) a b :=
  But.mono h (fun k _ e => by obtain ⟨_, cur, h2⟩ := own_tag ht.own e; exact ⟨_, h2, .inl e⟩)
theorem Pk.fs {c : Pc} {mb : Nat} {v : Value} {a b : World} {s : List UInt8} (h : Pk c a b) (hp : Pr c a s) : Fr (FS c mb v) a b := by
  obtain ⟨_, _, hp⟩ := hp
  refine But.mono h (fun k hk e => ?_)
  rcases e with e | ⟨e1, cs, fr, e2⟩
  · exact ⟨_, by rw [e]; exact hp.blk, .inr (.inl e)⟩
  · exact ⟨_, e2, .inr (.inr (.inr ⟨e1, cs, fr, rfl⟩))⟩
/-- something was written -/
theorem ShowAt.wrote {B bt : Nat} {c : Pc} {mb : Nat} {R : List Nx} {v : Value} {s s' : List UInt8} {nums : List Nat} {w w' : World} (h : ShowAt B bt c mb R v s nums w) (hp : Pr c w' s') (hk : Pk c w w') : ShowAt B bt c mb R v s' nums w' := by
  obtain ⟨_, _, hp0⟩ := h.pr
  have hbt : ¬ FreeP c w bt := by
    rintro (e | ⟨_, cs, fr, e⟩)
    · have h1 := h.tab.blk; rw [e, hp0.blk] at h1; injection h1 with h1; injection h1 with _ h1; exact absurd h1 (by decide)
    · rw [h.tab.blk] at e; injection e with e; injection e with _ e; exact absurd e (by decide)
  have hv : ∀ g, v.ownBlock = some g → ¬ FreeP c w g := by
    rintro g hg (e | ⟨_, cs, fr, e⟩)
    · obtain ⟨_, cur, e1⟩ := own_tag h.tab.own hg
      rw [e, hp0.blk] at e1; injection e1 with e1; injection e1 with _ e1; exact absurd e1 (by decide)
    · obtain ⟨_, cur, e1⟩ := own_tag h.tab.own hg
      rw [e1] at e; injection e with e; injection e with _ e; exact absurd e (by decide)
  have hm : ¬ FreeP c w mb := by
    rintro (e | ⟨_, cs, fr, e⟩)
    · have h1 := hp0.blk; have h2 : w.heap[mb]? = _ := h.num; rw [← e, h2] at h1; cases h1
    · have h2 : w.heap[mb]? = _ := h.num; rw [h2] at e; cases e
  exact ⟨⟨Nat.le_trans h.tab.hB hk.size, h.tab.lo, But.heap hk h.tab.blk hbt, But.own hk h.tab.own hv, h.tab.few⟩, h.tok, hp, But.heap hk h.num hm, h.tv, h.mv, h.lo, h.bN⟩
/-- the types were turned -/
theorem ShowAt.turned {B bt : Nat} {c : Pc} {mb : Nat} {R R' : List Nx} {v : Value} {s : List UInt8} {nums : List Nat} {w w' : World} (h : ShowAt B bt c mb R v s nums w) (ht : TabAt B w' bt R' v) (hk : Tok R') (ho : Ow v w w') : ShowAt B bt c mb R' v s nums w' := by
  obtain ⟨adr, pv, hp⟩ := h.pr
  have hb : v.ownBlock ≠ some c.bp := fun e => by
    obtain ⟨_, cur, e1⟩ := own_tag h.tab.own e
    rw [hp.blk] at e1; injection e1 with e1; injection e1 with _ e1; exact absurd e1 (by decide)
  have hm : v.ownBlock ≠ some mb := fun e => by
    obtain ⟨_, cur, e1⟩ := own_tag h.tab.own e
    have h2 : w.heap[mb]? = _ := h.num; rw [h2] at e1; cases e1
  exact ⟨ht, hk, ⟨adr, pv, hp.lo, Nat.le_trans hp.hN ho.size, ho.heap hp.blk hb, hp.adr, ho.own hp.own (row_apart h.tab.own hp.own (by decide))⟩, ho.heap h.num hm, h.tv, h.mv, h.lo, h.bN⟩
theorem ShowAt.below {B bt : Nat} {c : Pc} {mb : Nat} {R : List Nx} {v : Value} {s : List UInt8} {nums : List Nat} {w w' : World} (h : ShowAt B bt c mb R v s nums w) (k : Below w.heap.size w w') : ShowAt B bt c mb R v s nums w' :=
  ⟨h.tab.below k, h.tok, h.pr.below k, (k.block _ (lt_of_heap h.num)).trans h.num, h.tv, h.mv, h.lo, h.bN⟩
def NumP (B bt : Nat) (c : Pc) (mb : Nat) (R : List Nx) (v : Value) (s : List UInt8) (nums : List Nat) (a : Nat) (w : World) (e : Ending) (w' : World) : Prop :=
  e = .returned (.int .i64 (((ix a nums).getD nums.length : Nat) : Int)) ∧ ShowAt B bt c mb R v s (match ix a nums with | some _ => nums | none => nums ++ [a]) w' ∧ Fr (FS c mb v) w w'
set_option maxRecDepth 100000 in
set_option maxHeartbeats 1000000 in
theorem number_any (B bt : Nat) (c : Pc) (mb : Nat) (R : List Nx) (v : Value) (s : List UInt8) (nums : List Nat) (a : Nat) (w : World) (h : ShowAt B bt c mb R v s nums w) (hn : nums.length ≤ 1000000) :
    Calls Tryd.prog 48 #[.pointer (some ⟨c.bp, 0, none⟩), .int .i64 a] w (NumP B bt c mb R v s nums a w) := by
  obtain ⟨adr, pv, hp⟩ := h.pr
  have c3 := hp.c3
  rw [h.mv] at c3
  have hk := nums_look (t := a) h.num
  have H := Lib.hid h
  clear h hp
  cases hi : ix a nums with
  | some q =>
    rw [hi] at hk
    have HI := Lib.hid hi
    clear hi
    go_enter Tryd.func48, Tryd.ntmps48
    go_wp2
    go_ret
    have h1 := HI.out
    unfold NumP
    rw [h1]
    exact ⟨rfl, H.out, Fr.refl _ _⟩
  | none =>
    rw [hi] at hk
    have hput := nums_put H.out.num hi
    have hlen := nums_len H.out.num
    have HI := Lib.hid hi
    clear hi
    go_enter Tryd.func48, Tryd.ntmps48
    go_wp2
    go_ret
    have h1 := HI.out
    unfold NumP
    rw [h1]
    have hb := but_map H.out.num (.map (nents 0 (nums ++ [a])).toArray (nums.length + 1))
    refine ⟨rfl, ?_, But.mono hb (fun k _ e => ⟨.map (nents 0 nums).toArray nums.length, (by have e' : k = mb := e; rw [e']; exact H.out.num), .inr (.inr (.inl e))⟩)⟩
    exact H.out.renum (by simp)
end Go.Proofs.YtjbihammbmiieaaDoor
