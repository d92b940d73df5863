/- Regions that draw their order, in the body of a range over a function: what is known of them elsewhere holds there too. -/
import Derived.Test.YtdkhkemllmegfaaGreatDoorTKept
import Derived.Test.YtdkhkemllmegfaaGreatDoorTail
import Derived.OrdersIn
import Derived.TacticsIn
namespace Go.Proofs.YtdkhkemllmegfaaGreatDoor
open Go.RowKit

section
variable {P : Program} {n l : Nat} {Q : Exit → Act → World → Prop}

theorem oper_in {o : Oper} {a : Act} {w : World} {K : Act → World → Prop} (hd : ∀ c, o.op ≠ .defer c) (h : o.wp P a w K Q) : o.wpIn (Fence.wide.inRound l) n P a w K Q := by
  refine ⟨fun _ _ => trivial, ?_⟩
  rw [Fence.inRound_round, Oper.semAt_some _ _ _ hd]
  unfold Oper.wp at h
  generalize (execOp a.eval o).run P w = r at *
  cases r with
  | ok x w' =>
    cases x <;> simp only [Oper.upon, Oper.uponIn] at h ⊢ <;>
      first
        | exact h
        | exact ⟨fun h => (by cases h), CallsIn.inRound l (callsIn_wide.2 (h.mono fun e w'' he => by cases e <;> exact he))⟩
        | exact ⟨fun h => (by cases h), fun c cs _ => let ⟨v, w'', hr, hs⟩ := h c cs; ⟨v, w'', hr, stepsIn_wide.2 hs⟩⟩
        | exact h.elim
  | halt x w' => cases x <;> simp only [Oper.upon, Oper.uponIn] at h ⊢ <;> exact h

/-- no operation of these defers a call -/
def noDefer (ops : Array Oper) : Bool := ops.all fun o => match o.op with | .defer _ => false | _ => true

theorem noDefer_at {ops : Array Oper} (h : noDefer ops = true) {i : Nat} {o : Oper} (hi : ops[i]? = some o) : ∀ c, o.op ≠ .defer c := by
  intro c e
  have hm : o ∈ ops := Array.mem_of_getElem? hi
  have := (Array.all_eq_true_iff_forall_mem.1 h) o hm
  rw [e] at this; cases this

theorem any_in {ops : Array Oper} {md : Region.Mode} (hd : noDefer ops = true) (hq : ¬ LetsOut Q) (k : Nat) : ∀ (s : Array Bool) (a : Act) (w : World), wpAny P md ops Q k s a w → wpAnyIn (Fence.wide.inRound l) n P md ops Q k s a w := by
  induction k with
  | zero => intro s a w h; exact h
  | succ k ih =>
    intro s a w h
    refine ⟨h.1, fun i hi => ?_⟩
    have h1 := h.2 i hi
    unfold wpOp at h1
    unfold wpOpIn
    cases ho : ops[i]? with
    | none => rw [ho] at h1; exact ih _ _ _ h1
    | some o =>
      rw [ho] at h1
      simp only at h1 ⊢
      split
      · rename_i hw
        rw [if_pos hw] at h1
        exact Oper.wpIn_mono (fun a w h => ih _ a w h) (oper_in (noDefer_at hd ho) (h1.resolve_right fun h => hq h.2))
      · rename_i hw
        rw [if_neg hw] at h1
        exact ⟨fun _ _ => trivial, ih _ _ _ h1⟩

theorem list_in {ops : Array Oper} (hq : ¬ LetsOut Q) (ls : List Oper) (hd : noDefer ls.toArray = true) : ∀ (a : Act) (w : World), wpList P ops Q ls a w → wpListIn (Fence.wide.inRound l) n P ops Q ls a w := by
  induction ls with
  | nil => intro a w h; exact h
  | cons o ls ih =>
    intro a w h
    have hd' : noDefer ls.toArray = true := by
      simp [noDefer] at hd ⊢
      exact hd.2
    have ho : ∀ c, o.op ≠ .defer c := noDefer_at (i := 0) hd (by simp)
    unfold wpList at h
    unfold wpListIn
    split
    · rename_i hw
      rw [if_pos hw] at h
      exact Oper.wpIn_mono (fun a w h => ih hd' a w h) (oper_in ho (h.resolve_right fun h => hq h.2))
    · rename_i hw
      rw [if_neg hw] at h
      exact ⟨fun _ _ => trivial, ih hd' _ _ h⟩

/-- operations that only read -/
theorem in_region_quiet {C : World → Prop} {id : Nat} {a : Act} {w : World} {ls : List Oper} (hq : ¬ LetsOut Q) (hd : noDefer ls.toArray = true) (hm : P.follows .mixedOrders = true) (hB : Region.lexB .any ls.toArray = true) (hC : C w.drew)
    (h : wpQuiet P ls.toArray C (fun a' => ∀ w', C w' → Q .normal a' w') ls a) : (Code.region id ls.toArray true).wpIn (Fence.wide.inRound l) n P Q a w := by
  simp only [Region.lexB, Bool.and_eq_true] at hB
  refine wpIn_region_any hm (any_in hd hq _ _ _ _ (wpAny_of_quiet (Q := fun a' => ∀ w', C w' → Q .normal a' w') (fun _ w' hw' h => h w' hw') _ _ _ _ hC ?_))
  have := wpAnyQ_lex (C := C) (md := .any) hB.1 ls 0 (Array.replicate ls.toArray.size false) a (by simp) (by simpa using hB.2) h
  simpa using this

theorem in_region_later {id : Nat} {a : Act} {w : World} {ls : List Oper} (hq : ¬ LetsOut Q) (hd : noDefer ls.toArray = true) (hm : P.follows .mixedOrders = true) (hB : Region.lexB .any ls.toArray = true)
    (h : wpQuiet P ls.toArray (fun w' => ∃ x : Later w, w' = x.wx) (fun a' => ∀ w', (∃ x : Later w, w' = x.wx) → Q .normal a' w') ls a) : (Code.region id ls.toArray true).wpIn (Fence.wide.inRound l) n P Q a w :=
  in_region_quiet (C := fun w' => ∃ x : Later w, w' = x.wx) hq hd hm hB ⟨⟨w.drew, (Below.refl _ _).drew⟩, rfl⟩ h

/-- operations that only read, and then the last ones, in one order -/
theorem in_region_tail {C : World → Prop} {id : Nat} {a : Act} {w : World} {ls : List Oper} (k : Nat) (hq : ¬ LetsOut Q) (hd : noDefer ls.toArray = true) (hm : P.follows .mixedOrders = true) (hB : Region.lexTailB .any ls.toArray k = true) (hC : C w.drew)
    (h : wpQuiet P ls.toArray C (fun a' => ∀ w', C w' → wpList P ls.toArray Q (ls.drop k) a' w') (ls.take k) a) : (Code.region id ls.toArray true).wpIn (Fence.wide.inRound l) n P Q a w := by
  simp only [Region.lexTailB, Bool.and_eq_true, decide_eq_true_eq] at hB
  obtain ⟨⟨⟨⟨hsel, hn⟩, hs⟩, hc⟩, hlex⟩ := hB
  have hn' : k < ls.length := by simpa using hn
  have htl : (ls.take k).length = k := by simp; omega
  have hdl : (ls.drop k).length = ls.toArray.size - k := by simp
  have inv : HeadInv .any ls.toArray k (Array.replicate ls.toArray.size false) :=
    ⟨by simp, fun j oj _ hl => (by rw [getD_replicate_false] at hl; cases hl), fun t _ ht => getD_in (by simpa using ht) (getD_replicate_false _ _)⟩
  have H := Ahead.lex (md := .any) (g := ls.toArray.size - k) hsel hs hc hn (ls.take k) 0 _ a (fun j hj => by
    have hj' : j < k := by rw [htl] at hj; exact hj
    simp [hj']) (by simpa using htl) inv (by rw [htl]; exact hlex) h
  refine wpIn_region_any hm (any_in hd hq _ _ _ _ ?_)
  have := Ahead.any (Q := Q) (g := ls.toArray.size - k) (fun s a' w' hw' hL => by
    have := wpAny_of_seq (md := .any) (Q' := Q) (ls.drop k) k s a' w' (fun j => by simp [List.getElem?_drop]) (by rw [hdl]; exact hL.1) (hL.2 w' hw')
    rwa [hdl] at this) _ _ _ w.drew hC H
  rw [htl, show k + (ls.toArray.size - k) = ls.toArray.size by omega] at this
  exact this

theorem in_region_later_tail {id : Nat} {a : Act} {w : World} {ls : List Oper} (k : Nat) (hq : ¬ LetsOut Q) (hd : noDefer ls.toArray = true) (hm : P.follows .mixedOrders = true) (hB : Region.lexTailB .any ls.toArray k = true)
    (h : wpQuiet P ls.toArray (fun w' => ∃ x : Later w, w' = x.wx) (fun a' => ∀ x : Later w, wpList P ls.toArray Q (ls.drop k) a' x.wx) (ls.take k) a) : (Code.region id ls.toArray true).wpIn (Fence.wide.inRound l) n P Q a w :=
  in_region_tail (C := fun w' => ∃ x : Later w, w' = x.wx) k hq hd hm hB ⟨⟨w.drew, (Below.refl _ _).drew⟩, rfl⟩ (by
    have e : (fun a' => ∀ w', (∃ x : Later w, w' = x.wx) → wpList P ls.toArray Q (ls.drop k) a' w') = (fun a' => ∀ x : Later w, wpList P ls.toArray Q (ls.drop k) a' x.wx) :=
      funext fun a' => propext ⟨fun h x => h _ ⟨x, rfl⟩, fun h w' ⟨x, e⟩ => e ▸ h x⟩
    rw [e]; exact h)
end
end Go.Proofs.YtdkhkemllmegfaaGreatDoor
