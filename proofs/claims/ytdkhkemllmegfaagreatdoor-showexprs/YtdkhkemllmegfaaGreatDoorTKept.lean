/- What a loop's body, and an iterator, leave as it was. -/
import Derived.RangeFuncNested
import Derived.RangeFuncBound
import Derived.RangeFuncCalls
import Derived.RangeFuncLeaves
import Derived.WalkKit
import Derived.Below
namespace Go.Proofs.YtdkhkemllmegfaaGreatDoor
open Go.RowKit

/-- nothing below N has turned; no block of cells has, but for those that M names by their number and the type of their cells -/
structure Kept (N : Nat) (M : Nat → TypeId → Prop) (W W' : World) : Prop where
  below : Below N W W'
  same : ∀ b c t r, ¬ M b t → W.heap[b]? = some (.cells c t r) → W'.heap[b]? = some (.cells c t r)

/-- nothing below N has turned, and no cells at all -/
def Still (N : Nat) (W W' : World) : Prop := Kept N (fun _ _ => False) W W'

theorem Kept.refl (N : Nat) (M : Nat → TypeId → Prop) (W : World) : Kept N M W W := ⟨Below.refl _ _, fun _ _ _ _ _ h => h⟩
theorem Kept.trans {N : Nat} {M : Nat → TypeId → Prop} {A B C : World} (h : Kept N M A B) (k : Kept N M B C) : Kept N M A C :=
  ⟨h.below.trans k.below, fun b c t r hm hb => k.same b c t r hm (h.same b c t r hm hb)⟩
theorem Kept.size {N : Nat} {M : Nat → TypeId → Prop} {A B : World} (h : Kept N M A B) : A.heap.size ≤ B.heap.size := h.below.size
theorem Kept.mono {N N' : Nat} {M M' : Nat → TypeId → Prop} {A B : World} (h : Kept N M A B) (hN : N' ≤ N) (hM : ∀ b t, M b t → M' b t) : Kept N' M' A B :=
  ⟨h.below.mono hN, fun b c t r hm => h.same b c t r (fun e => hm (hM b t e))⟩
theorem Still.refl (N : Nat) (W : World) : Still N W W := Kept.refl _ _ _
theorem Still.trans {N : Nat} {A B C : World} (h : Still N A B) (k : Still N B C) : Still N A C := Kept.trans h k
theorem Still.kept {N : Nat} {A B : World} (h : Still N A B) (M : Nat → TypeId → Prop) : Kept N M A B := Kept.mono h (Nat.le_refl _) (fun _ _ e => e.elim)

theorem lt_of_heap {W : World} {b : Nat} {o : Obj} (h : W.heap[b]? = some o) : b < W.heap.size := (Array.getElem?_eq_some_iff.1 h).1

/-- where nothing that was there has turned -/
theorem Still.of_below {N : Nat} {A B : World} (h : Below A.heap.size A B) (hN : N ≤ A.heap.size) : Still N A B :=
  ⟨h.mono hN, fun b _ _ _ _ hb => (h.block b (lt_of_heap hb)).trans hb⟩
theorem Still.alloc (N : Nat) (W : World) (o : Obj) (hN : N ≤ W.heap.size) : Still N W (W.alloc o) := Still.of_below ((Below.refl _ _).alloc (Nat.le_refl _) _) hN
theorem Still.putObj {N : Nat} {W : World} {l : Nat} {o : Obj} (o' : Obj) (hN : N ≤ l) (hl : W.heap[l]? = some o) (ho : o.isCells = false) : Still N W (W.putObj l o') := by
  refine ⟨⟨rfl, rfl, rfl, by simp, fun k hk => World.putObj_heap_other (by omega)⟩, fun b c t r _ hb => ?_⟩
  rw [World.putObj_heap_other]
  · exact hb
  · rintro rfl; rw [hl] at hb; cases hb; cases ho

/-- a cell of a block that was kept -/
theorem Kept.cell {N : Nat} {M : Nat → TypeId → Prop} {A B : World} (h : Kept N M A B) {p : Addr} {v : Value} (hc : A.cell? p = some v) (hm : ∀ t c r, A.heap[p.block]? = some (.cells c t r) → ¬ M p.block t) : B.cell? p = some v := by
  obtain ⟨o, ho, hoc⟩ := cells_of_cell hc
  cases o <;> first | cases hoc | skip
  rename_i c t r
  have e := h.same p.block c t r (hm t c r ho) ho
  unfold World.cell? at hc ⊢
  rw [e]; rw [ho] at hc; exact hc
theorem Still.cell {N : Nat} {A B : World} (h : Still N A B) {p : Addr} {v : Value} (hc : A.cell? p = some v) : B.cell? p = some v := Kept.cell h hc (fun _ _ _ _ e => e)
theorem Still.frozen {N : Nat} {A B : World} (h : Still N A B) {p : Addr} {v : Value} (hc : A.cell? p = some v) : B.frozen? p = A.frozen? p := by
  obtain ⟨o, ho, hoc⟩ := cells_of_cell hc
  cases o <;> first | cases hoc | skip
  rename_i c t r
  have e := h.same p.block c t r (fun e => e) ho
  unfold World.frozen?
  rw [e, ho]

/-- no list of deferred calls has turned -/
def Defs (A B : World) : Prop := ∀ (k : Nat) (d : Option (List Deferred)), A.heap[k]? = some (Obj.deferred d) → B.heap[k]? = some (Obj.deferred d)
theorem Defs.refl (A : World) : Defs A A := fun _ _ h => h
theorem Defs.trans {A B C : World} (h : Defs A B) (k : Defs B C) : Defs A C := fun i d e => k i d (h i d e)
theorem Defs.of_others {A B : World} (h : KeepsOthers A B) : Defs A B := fun k _ e => h.same k _ e rfl
theorem Defs.putObj {A : World} {l : Nat} {r : Loop} (o : Obj) (h : A.heap[l]? = some (.loop r)) : Defs A (A.putObj l o) := fun k d e => by
  rw [World.putObj_heap_other]
  · exact e
  · rintro rfl; rw [h] at e; cases e

/-- whatever is no cells lies as it lay, where nothing that was there has turned -/
theorem others_of_below {A B : World} (h : Below A.heap.size A B) : KeepsOthers A B := ⟨h.size, fun k _ hk _ => (h.block k (lt_of_heap hk)).trans hk⟩

/-- at the fence that lets all in, the figure says nothing -/
theorem round_fig {m m' : Nat} {P : Program} {l : Nat} {f : FuncId} {tmps : Array Value} {assign body : Code} {w : World} {R : Ending → World → Prop}
    (h : RoundIn Fence.wide m P l f tmps assign body w R) : RoundIn Fence.wide m' P l f tmps assign body w R := ⟨h.1, fun c cs _ => h.2 c cs (room_wide _)⟩
theorem yield_fig {m : Nat} (m' : Nat) {P : Program} {l : Nat} {args : Array Value} {W : World} {R : Ending → World → Prop} (h : YieldAt Fence.wide m P l args W R) : YieldAt Fence.wide m' P l args W R := by
  obtain ⟨fn, tmps, assign, body, hy, hR⟩ := h
  exact ⟨fn, tmps, assign, body, hy, round_fig hR⟩
theorem calls_fig {m m' : Nat} {P : Program} {f : FuncId} {args : Array Value} {w : World} {R : Ending → World → Prop} (h : CallsIn Fence.wide m P f args w R) : CallsIn Fence.wide m' P f args w R := callsIn_wide.2 (callsIn_wide.1 h)

section
variable {α : Type}

/-- what an iterator does with whatever body: J holds between two rounds, Jx behind one that has said 'no more'; what G says of what comes, the body may take -/
def Iterates (P : Program) (gf : Nat) (lb : Array Value) (l : Nat) (encs : α → Array Value) (G : World → List α → α → World → Prop) (N : Nat) (M : Nat → TypeId → Prop) (S Sp : List α → Prop) (W : World) : Prop :=
  ∀ (J Jx : List α → World → Prop), (∀ s A B, J s A → Still W.heap.size A B → J s B) → (∀ s A B, Jx s A → Still W.heap.size A B → Jx s B) →
    (∀ pre x W0 W1, J pre W0 → Below W0.heap.size W0 W1 → G W0 pre x W1 → YieldAt Fence.wide 0 P l (encs x) W1 fun e W' =>
      (e = .returned (.bool true) ∧ J (pre ++ [x]) W' ∧ Kept N M W1 W' ∧ Defs W1 W') ∨ (e = .returned (.bool false) ∧ Jx (pre ++ [x]) W' ∧ Defs W1 W')) →
    J [] W →
    CallsIn Fence.wide 0 P gf (#[.func (.yield l) #[] #[]] ++ lb) W fun e W' => (∃ v, e = .returned v) ∧ ((∃ xs, S xs ∧ J xs W') ∨ (∃ pre, Sp pre ∧ Jx pre W'))

/-- how a body may be left -/
def roundOut (N : Nat) (M : Nat → TypeId → Prop) (I : List α → World → Prop) (Ix : Code → List α → World → Prop) (xs : List α) (W : World) : Exit → Act → World → Prop
  | .normal, _, W' => KeepsOthers W W' ∧ Kept N M W W' ∧ I xs W'
  | .ret, _, W' => KeepsOthers W W' ∧ Ix .ret xs W'
  | .exit id, _, W' => KeepsOthers W W' ∧ Ix (.exit id) xs W'
  | .goto t, _, W' => KeepsOthers W W' ∧ Ix (.goto t) xs W'
  | .panic _, _, _ => False
  | .outgrown, _, _ => False

/-- the end of a round, from the way in which its body was left -/
theorem round_end {P : Program} {N : Nat} {M : Nat → TypeId → Prop} {I : List α → World → Prop} {Ix : Code → List α → World → Prop} {xs : List α} {W0 W : World} {l D : Nat} {rec : LoopState → Option Code → Loop}
    (hrec : ∀ s p s' p', { rec s p with state := s', pending := p' } = rec s' p')
    (hI : ∀ s A B, I s A → Still N A B → I s B) (hIx : ∀ c s A B, Ix c s A → Still N A B → Ix c s B) (hN : N ≤ l) (hD : D ≠ l)
    (hl : W.heap[l]? = some (.loop (rec .busy none))) (hd : W.heap[D]? = some (.deferred (some []))) (hW : Kept N M W0 W) (hDf : Defs W0 W) (e : Exit) (a : Act) (W' : World) (h : roundOut N M I Ix xs W e a W') :
    roundPost P l (fun e W' =>
      (e = .returned (.bool true) ∧ (I xs W' ∧ W'.heap[l]? = some (.loop (rec .ready none)) ∧ W'.heap[D]? = some (.deferred (some []))) ∧ Kept N M W0 W' ∧ Defs W0 W') ∨
      (e = .returned (.bool false) ∧ (∃ c, Ix c xs W' ∧ W'.heap[l]? = some (.loop (rec .done (some c))) ∧ W'.heap[D]? = some (.deferred (some []))) ∧ Defs W0 W')) e a W' := by
  have fin : ∀ (jump : Option Code), KeepsOthers W W' →
      (Instr.endRound l jump).run P W' = .ok (.bool jump.isNone) (W'.putObj l (.loop (rec (if jump.isNone then .ready else .done) jump))) ∧ Still N W' (W'.putObj l (.loop (rec (if jump.isNone then .ready else .done) jump))) ∧
      (W'.putObj l (.loop (rec (if jump.isNone then .ready else .done) jump))).heap[l]? = some (.loop (rec (if jump.isNone then .ready else .done) jump)) ∧
      (W'.putObj l (.loop (rec (if jump.isNone then .ready else .done) jump))).heap[D]? = some (.deferred (some [])) ∧ Defs W0 (W'.putObj l (.loop (rec (if jump.isNone then .ready else .done) jump))) := by
    intro jump hk
    have hl' := hk.same _ _ hl rfl
    have := run_endRound (P := P) jump hl'
    rw [hrec] at this
    exact ⟨this, Still.putObj _ hN hl' rfl, World.putObj_heap_same (lt_of_heap hl'), (World.putObj_heap_other hD).trans (hk.same _ _ hd rfl), hDf.trans ((Defs.of_others hk).trans (Defs.putObj _ hl'))⟩
  have out : ∀ c, KeepsOthers W W' → Ix c xs W' → ∃ v w', (Instr.endRound l (some c)).run P W' = .ok v w' ∧
      ((Ending.returned v = .returned (.bool true) ∧ (I xs w' ∧ w'.heap[l]? = some (.loop (rec .ready none)) ∧ w'.heap[D]? = some (.deferred (some []))) ∧ Kept N M W0 w' ∧ Defs W0 w') ∨
      (Ending.returned v = .returned (.bool false) ∧ (∃ c, Ix c xs w' ∧ w'.heap[l]? = some (.loop (rec .done (some c))) ∧ w'.heap[D]? = some (.deferred (some []))) ∧ Defs W0 w')) := by
    intro c hk hx
    obtain ⟨r1, r2, r3, r4, r5⟩ := fin (some c) hk
    exact ⟨_, _, r1, .inr ⟨rfl, ⟨c, hIx _ _ _ _ hx r2, r3, r4⟩, r5⟩⟩
  cases e with
  | normal =>
    obtain ⟨hk, hkp, hi⟩ := h
    obtain ⟨r1, r2, r3, r4, r5⟩ := fin none hk
    exact ⟨_, _, r1, .inl ⟨rfl, ⟨hI _ _ _ hi r2, r3, r4⟩, hW.trans (hkp.trans (r2.kept M)), r5⟩⟩
  | ret => exact out _ h.1 h.2
  | exit id => exact out _ h.1 h.2
  | goto t => exact out _ h.1 h.2
  | panic ch => exact h.elim
  | outgrown => exact h.elim

/-- the statement 'for .. := range g { .. }' -/
theorem wp_range {P : Program} {g : Operand} {ps : Array Tmp} {assign body : Code} {Q : Exit → Act → World → Prop} {a : Act} {w : World} {n : Nat} {gf : Nat} {lb : Array Value}
    {encs : α → Array Value} {G : World → List α → α → World → Prop} {N : Nat} {M : Nat → TypeId → Prop} {S Sp : List α → Prop}
    (hg : a.eval g = .func (.func gf) #[] lb) (eg : ∀ args w, (callFunc gf args).run P w = .ok (.enter gf args) w) (hps : ∀ x, (encs x).size = ps.size) (hN : N ≤ w.heap.size)
    (hseq : ∀ l W, Below w.heap.size w W → Iterates P gf lb l encs G N M S Sp W)
    (I : List α → World → Prop) (Ix : Code → List α → World → Prop) (A : List α → α → Act → World → Prop)
    (hI : ∀ s A B, I s A → Still N A B → I s B) (hIx : ∀ c s A B, Ix c s A → Still N A B → Ix c s B) (hG : ∀ W0 s x A B, G W0 s x A → Still N A B → G W0 s x B) (hA : ∀ s x a C B, A s x a C → Still N C B → A s x a B)
    (h0 : I [] w)
    (hassign : ∀ (l : Nat) (pre : List α) (x : α) (W0 W : World), I pre W0 → Still N W0 W → G W0 pre x W →
      assign.wpIn (Fence.wide.inRound l) 0 P (Exit.then (fun a₁ W₁ => KeepsOthers W W₁ ∧ Still N W W₁ ∧ A pre x a₁ W₁) (fun _ _ _ => False)) { tmps := (ps.zip (encs x)).foldl (fun t (p, v) => t.setIfInBounds p v) a.tmps, defers := [] } W)
    (hbody : ∀ (l : Nat) (pre : List α) (x : α) (a₁ : Act) (W0 W : World), I pre W0 → Still N W0 W → G W0 pre x W → A pre x a₁ W → body.wpIn (Fence.wide.inRound l) 0 P (roundOut N M I Ix (pre ++ [x]) W) a₁ W)
    (hdone : ∀ (D : Nat) (xs : List α) (W : World), w.heap.size ≤ D → S xs → I xs W → W.heap[D]? = some (.deferred (some [])) → Q .normal { a with defers := { target := .collected D, args := #[] } :: a.defers } W)
    (hstop : ∀ (D : Nat) (c : Code) (pre : List α) (W : World), w.heap.size ≤ D → Sp pre → Ix c pre W → W.heap[D]? = some (.deferred (some [])) → c.wpIn Fence.wide n P Q { a with defers := { target := .collected D, args := #[] } :: a.defers } W) :
    (Code.rangeFunc g ps assign body).wpIn Fence.wide n P Q a w := by
  refine wpIn_rangeFunc fun fn hfn => ?_
  obtain ⟨rec, hrec⟩ : ∃ rec : LoopState → Option Code → Loop, rec = fun st pe => { state := st, pending := pe, fn, tmps := a.tmps, params := ps, assign, body, defers := w.heap.size } := ⟨_, rfl⟩
  have hup : ∀ s p s' p', { rec s p with state := s', pending := p' } = rec s' p' := by intros; rw [hrec]
  obtain ⟨W1, hW1⟩ : ∃ W1, (w.alloc (.deferred (some []))).alloc (.loop (rec .ready none)) = W1 := ⟨_, rfl⟩
  have hb1 : Below w.heap.size w W1 := by rw [← hW1]; exact ((Below.refl _ w).alloc (Nat.le_refl _) _).alloc (by simp) _
  have hl1 : W1.heap[w.heap.size + 1]? = some (.loop (rec .ready none)) := by
    rw [← hW1]; have := World.alloc_heap_new (w.alloc (.deferred (some []))) (.loop (rec .ready none)); rwa [World.size_alloc] at this
  have hd1 : W1.heap[w.heap.size]? = some (.deferred (some [])) := by
    rw [← hW1, Below.heap_alloc _ _ _ (by simp)]; exact World.alloc_heap_new w _
  refine ⟨w.heap.size + 1, [{ target := .collected w.heap.size, args := #[] }], W1, { target := .fn (.func gf) lb, args := #[.func (.yield (w.heap.size + 1)) #[] #[]] }, W1, gf,
    #[.func (.yield (w.heap.size + 1)) #[] #[]] ++ lb, W1, ?_, ?_, fun _ _ => trivial, ?_, fun h => (by cases h), ?_⟩
  · rw [← hW1, hrec]; exact run_enterLoop_outer _ _ _ _ _
  · simp only [resolve, hg]; simp [go_sem]
  · simp [invoke, go_sem, eg]
  · refine calls_fig ((hseq (w.heap.size + 1) W1 hb1
      (fun pre W => I pre W ∧ W.heap[w.heap.size + 1]? = some (.loop (rec .ready none)) ∧ W.heap[w.heap.size]? = some (.deferred (some [])))
      (fun pre W => ∃ c, Ix c pre W ∧ W.heap[w.heap.size + 1]? = some (.loop (rec .done (some c))) ∧ W.heap[w.heap.size]? = some (.deferred (some []))) ?_ ?_ ?_ ?_).mono ?_)
    · rintro s X B ⟨h1, h2, h3⟩ hb
      have q1 := lt_of_heap hl1; have q2 := lt_of_heap hd1
      exact ⟨hI _ _ _ h1 (Kept.mono hb (by omega) (fun _ _ e => e)), (hb.below.block _ q1).trans h2, (hb.below.block _ q2).trans h3⟩
    · rintro s X B ⟨c, h1, h2, h3⟩ hb
      have q1 := lt_of_heap hl1; have q2 := lt_of_heap hd1
      exact ⟨c, hIx _ _ _ _ h1 (Kept.mono hb (by omega) (fun _ _ e => e)), (hb.below.block _ q1).trans h2, (hb.below.block _ q2).trans h3⟩
    · rintro pre x W0 W ⟨hi, hl0, hd0⟩ hbw hgx
      have hl := (hbw.block _ (lt_of_heap hl0)).trans hl0
      have hd := (hbw.block _ (lt_of_heap hd0)).trans hd0
      have hs0 : Still N W0 W := Still.of_below hbw (by have := lt_of_heap hd0; omega)
      have hy := run_yield (P := P) (args := encs x) hl (by rw [hrec]; exact hps x)
      have e1 : (rec .ready none).tmps = a.tmps := by rw [hrec]
      have e2 : (rec .ready none).params = ps := by rw [hrec]
      have e3 : (rec .ready none).assign = assign := by rw [hrec]
      have e4 : (rec .ready none).body = body := by rw [hrec]
      have e5 : (rec .ready none).fn = fn := by rw [hrec]
      rw [e1, e2, e3, e4, e5] at hy
      refine ⟨fn, _, assign, body, hy, roundIn_of_wpIn hfn (wpIn_mono (hassign (w.heap.size + 1) pre x W0 W hi hs0 hgx) ?_)⟩
      rintro e a₁ W₁ hq
      cases e <;> first | exact hq.elim | skip
      obtain ⟨ho, hs, ha⟩ := hq
      have hl' := ho.same _ _ hl rfl
      have hd' := ho.same _ _ hd rfl
      have hb := run_beginRound (P := P) hl' (by rw [hrec])
      rw [show ({ rec .ready none with state := .busy } : Loop) = rec .busy none from by rw [hrec]] at hb
      have hs2 : Still N W₁ (W₁.putObj (w.heap.size + 1) (.loop (rec .busy none))) := Still.putObj _ (by omega) hl' rfl
      refine ⟨_, hb, wpIn_mono (hbody (w.heap.size + 1) pre x a₁ W0 _ hi (hs0.trans (hs.trans hs2)) (hG _ _ _ _ _ hgx (hs.trans hs2)) (hA _ _ _ _ _ ha hs2)) ?_⟩
      intro e a₂ W₂ h2
      exact round_end hup hI hIx (by omega) (by omega) (World.putObj_heap_same (lt_of_heap hl')) ((World.putObj_heap_other (by omega)).trans hd') ((hs.trans hs2).kept M) ((Defs.of_others ho).trans (Defs.putObj _ hl')) e a₂ W₂ h2
    · exact ⟨hI _ _ _ h0 (Still.of_below hb1 hN), hl1, hd1⟩
    · rintro e W2 ⟨⟨v, rfl⟩, (⟨xs, hS, hi, hl, hd⟩ | ⟨pre, hSp, c, hi, hl, hd⟩)⟩
      · have := run_endLoop (P := P) hl (by rw [hrec]; simp)
        rw [show (rec .ready none).pending = none from by rw [hrec]] at this
        exact ⟨none, _, this, hdone _ xs _ (Nat.le_refl _) hS (hI _ _ _ hi (Still.putObj _ (by omega) hl rfl)) ((World.putObj_heap_other (by omega)).trans hd)⟩
      · have := run_endLoop (P := P) hl (by rw [hrec]; simp)
        rw [show (rec .done (some c)).pending = some c from by rw [hrec]] at this
        exact ⟨some c, _, this, hstop _ c pre _ (Nat.le_refl _) hSp (hIx _ _ _ _ hi (Still.putObj _ (by omega) hl rfl)) ((World.putObj_heap_other (by omega)).trans hd)⟩
end
end Go.Proofs.YtdkhkemllmegfaaGreatDoor
