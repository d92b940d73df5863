/- A region that draws its order, one of whose calls hands back one of several values, whichever: one walk of the others, in any world of a class; then that call; then the rest, and the last operations in one order. -/
import Derived.Test.YtdflonniicnndaaTail
namespace Go.Proofs.Ytdflonniicnndaa
open Go.RowKit

section
variable {P : Program} {ops : Array Oper} {md : Region.Mode} {C : World → Prop}

/-- a call that hands back one of V, and leaves a world of the class -/
def someUpon (P : Program) (C : World → Prop) (V : Value → Prop) (w : World) : Result Next → Prop
  | .ok (.enter f args) w' => w' = w ∧ Calls P f args w (fun e w'' => ∃ v, e = .returned v ∧ V v ∧ C w'')
  | _ => False

def YieldsSome (P : Program) (ops : Array Oper) (C : World → Prop) (o : Oper) (V : Value → Prop) (a : Act) : Prop :=
  Region.wanted o (yielded ops a.tmps) = true ∧ ∀ w, C w → someUpon P C V w ((execOp a.eval o).run P w)

/-- operation i comes up; d is that call -/
def sOp (P : Program) (ops : Array Oper) (C : World → Prop) (d i : Nat) (K : Act → Prop) (a : Act) : Prop :=
  if i = d then ∃ o V, ops[d]? = some o ∧ YieldsSome P ops C o V a ∧ ∀ v, V v → K (a.put o.dst v) else qOp P ops C i K a

theorem sOp_mono {d i : Nat} {a : Act} {K K' : Act → Prop} (h : ∀ a, K a → K' a) (hh : sOp P ops C d i K a) : sOp P ops C d i K' a := by
  unfold sOp at *
  split
  · rename_i e
    rw [if_pos e] at hh
    obtain ⟨o, V, h1, h2, h3⟩ := hh
    exact ⟨o, V, h1, h2, fun v hv => h _ (h3 v hv)⟩
  · rename_i e
    rw [if_neg e] at hh
    exact qOp_mono h hh

theorem wpOp_of_sOp {d i : Nat} {a : Act} {K : Act → Prop} {K' : Act → World → Prop} {Q' : Exit → Act → World → Prop} {w : World} (hC : C w) (h : ∀ a w', C w' → K a → K' a w') (hh : sOp P ops C d i K a) : wpOp P ops Q' i K' a w := by
  unfold sOp at hh
  split at hh
  · rename_i e
    subst e
    obtain ⟨o, V, h1, ⟨hw, h2⟩, h3⟩ := hh
    unfold wpOp
    simp only [h1, hw, if_true]
    refine .inl ?_
    have h4 := h2 w hC
    unfold Oper.wp
    generalize (execOp a.eval o).run P w = r at *
    cases r with
    | ok n w' =>
      cases n <;> simp only [someUpon] at h4
      obtain ⟨e1, hc⟩ := h4
      simp only [Oper.upon]
      rw [e1]
      exact hc.mono fun e w'' ⟨v, he, hv, hw''⟩ => by subst he; exact h _ _ hw'' (h3 v hv)
    | halt x w' => simp only [someUpon] at h4
  · exact wpOp_of_qOp hC h hh

theorem sOp_put {d j : Nat} {oi oj : Oper} {v : Value} (hj : ops[j]? = some oj) (hap : oi.apart ops oj = true)
    (hsi : ∀ cs b, oi.op ≠ .select cs b) (hsj : ∀ cs b, oj.op ≠ .select cs b) {K : Act → Prop} {a : Act}
    (hy : YieldsIn P ops C oi v a) (h : sOp P ops C d j K (a.put oi.dst v)) :
    sOp P ops C d j (fun a' => YieldsIn P ops C oi v a' ∧ K (a'.put oi.dst v)) a := by
  unfold sOp at *
  split
  · rename_i e
    rw [if_pos e] at h
    subst e
    obtain ⟨h1, h2, h3⟩ := Oper.apart_spec hap
    obtain ⟨o, V, q1, ⟨q2, q3⟩, q4⟩ := h
    obtain rfl : o = oj := Option.some.inj (q1.symm.trans hj)
    refine ⟨o, V, hj, ⟨by rw [wanted_put o a oi.dst v h1] at q2; exact q2, fun w hw => ?_⟩, fun u hu => ⟨hy.of_same (execOp_put oi hsi a o.dst u h3) (wanted_put oi a o.dst u h3), ?_⟩⟩
    · have := q3 w hw
      rwa [execOp_put o hsj a oi.dst v h1] at this
    · rw [← Act.put_comm a v u h2]; exact q4 u hu
  · rename_i e
    rw [if_neg e] at h
    exact qOp_put hj hap hsi hsj hy h

/-- the first operations, in whatever order they come; behind them L -/
def AheadS (P : Program) (md : Region.Mode) (ops : Array Oper) (C : World → Prop) (n d : Nat) (L : Array Bool → Act → Prop) : Nat → Array Bool → Act → Prop
  | 0, s, a => L s a
  | k + 1, s, a => Region.ready md ops s ≠ [] ∧ ∀ i ∈ Region.ready md ops s, i < n ∧ sOp P ops C d i (AheadS P md ops C n d L k (s.setIfInBounds i true)) a

theorem AheadS.any {n d g : Nat} {L : Array Bool → Act → Prop} {Q : Exit → Act → World → Prop} (hL : ∀ s a w, C w → L s a → wpAny P md ops Q g s a w) (k : Nat) :
    ∀ (s : Array Bool) (a : Act) (w : World), C w → AheadS P md ops C n d L k s a → wpAny P md ops Q (k + g) s a w := by
  induction k with
  | zero => intro s a w hw h; rw [Nat.zero_add]; exact hL s a w hw h
  | succ k ih =>
    intro s a w hw h
    rw [show k + 1 + g = (k + g) + 1 by omega]
    exact ⟨fun e => absurd e h.1, fun i hi => wpOp_of_sOp hw (fun a' w' hw' h' => ih _ a' w' hw' h') (h.2 i hi).2⟩

theorem AheadS.first {n d i : Nat} {oi : Oper} {v : Value} {L : Array Bool → Act → Prop} (hid : i ≠ d) (hi : ops[i]? = some oi) (hsel : ∀ (j : Nat) (o : Oper) cs b, ops[j]? = some o → o.op ≠ .select cs b)
    (hs : Region.sinkB md ops n = true) (hc : Region.chainB md ops n = true) (hn : n < ops.size) (hin : i < n) (hdone : ∀ s a, L s a → ∀ j ∈ Region.ready md ops s, n ≤ j) (k : Nat) :
    ∀ (s : Array Bool) (a : Act), HeadInv md ops n s →
      (∀ j oj, ops[j]? = some oj → j ≠ i → s.getD j true = false → (∀ e ∈ oj.after, Region.binds md e = true → e.on ≠ i) → oi.apart ops oj = true) →
      i ∈ Region.ready md ops s → YieldsIn P ops C oi v a → AheadS P md ops C n d L k (s.setIfInBounds i true) (a.put oi.dst v) → AheadS P md ops C n d L (k + 1) s a := by
  have self : ∀ {K : Act → Prop} {a : Act}, YieldsIn P ops C oi v a → K (a.put oi.dst v) → sOp P ops C d i K a := fun {K a} hy H => by
    unfold sOp; rw [if_neg hid]; exact hy.qOp hi H
  induction k with
  | zero =>
    intro s a inv _ hr hy H
    refine ⟨List.ne_nil_of_mem hr, fun j hj => ?_⟩
    have hjn : j < n := Nat.lt_of_not_le fun h => tail_waits hs hc hn inv _ i rfl hin (mem_ready.1 hr).1 j h hj
    refine ⟨hjn, ?_⟩
    by_cases e : j = i
    · subst e; exact self hy H
    · have := hdone _ _ H j (ready_mono hj e)
      omega
  | succ k ih =>
    intro s a inv hfree hr hy H
    refine ⟨List.ne_nil_of_mem hr, fun j hj => ?_⟩
    have hjn : j < n := Nat.lt_of_not_le fun h => tail_waits hs hc hn inv _ i rfl hin (mem_ready.1 hr).1 j h hj
    refine ⟨hjn, ?_⟩
    by_cases e : j = i
    · subst e; exact self hy H
    · obtain ⟨hjun, oj, hoj, hall⟩ := mem_ready.1 hj
      have hap := hfree j oj hoj e hjun fun x hx hb he => by
        have h1 := hall x hx hb
        rw [he, getD_both (mem_ready.1 hr).1] at h1
        cases h1
      have h2 := sOp_put hoj hap (fun cs b => hsel i oi cs b hi) (fun cs b => hsel j oj cs b hoj) hy (H.2 j (ready_mono hj e)).2
      refine sOp_mono (fun a' h3 => ih (s.setIfInBounds j true) a' (inv.set hj hjn) ?_ (ready_mono hr (Ne.symm e)) h3.1 ?_) h2
      · intro q oq hq hqi hun hno
        refine hfree q oq hq hqi ?_ hno
        by_cases h : j = q
        · subst h; exact hjun
        · rw [getD_set_ne true h] at hun; exact hun
      · rw [Array.setIfInBounds_comm _ _ e]; exact h3.2

/-- the walk of the first operations, in the text's order; the d-th is that call -/
def wpSome (P : Program) (ops : Array Oper) (C : World → Prop) (d : Nat) (K : Act → Prop) : Nat → List Oper → Act → Prop
  | _, [], a => K a
  | i, o :: l, a => if i = d then ∃ V, YieldsSome P ops C o V a ∧ ∀ v, V v → wpSome P ops C d K (i + 1) l (a.put o.dst v)
    else if Region.wanted o (yielded ops a.tmps) then o.quiet P a C (wpSome P ops C d K (i + 1) l) else wpSome P ops C d K (i + 1) l (a.put o.dst undef)

theorem wpSome_post {d : Nat} {K : Act → Prop} (l : List Oper) : ∀ (i : Nat) (a : Act), d < i → wpQuiet P ops C K l a → wpSome P ops C d K i l a := by
  induction l with
  | nil => intro i a _ h; exact h
  | cons o l ih =>
    intro i a hd h
    unfold wpQuiet at h
    unfold wpSome
    rw [if_neg (by omega)]
    split
    · rename_i hw; rw [if_pos hw] at h; exact Oper.quiet_mono (fun a' h' => ih (i + 1) a' (by omega) h') h
    · rename_i hw; rw [if_neg hw] at h; exact ih (i + 1) _ (by omega) h

theorem wpSome_pre {d : Nat} {K : Act → Prop} {rest : List Oper} (l : List Oper) : ∀ (i : Nat) (a : Act), i + l.length = d → wpQuiet P ops C (fun a' => wpSome P ops C d K d rest a') l a → wpSome P ops C d K i (l ++ rest) a := by
  induction l with
  | nil => intro i a e h; obtain rfl : i = d := by simpa using e
           exact h
  | cons o l ih =>
    intro i a e h
    simp only [List.length_cons] at e
    unfold wpQuiet at h
    rw [List.cons_append]
    unfold wpSome
    rw [if_neg (by omega)]
    split
    · rename_i hw; rw [if_pos hw] at h; exact Oper.quiet_mono (fun a' h' => ih (i + 1) a' (by omega) h') h
    · rename_i hw; rw [if_neg hw] at h; exact ih (i + 1) _ (by omega) h

/-- the operations come up in the text's order; the d-th comes alone -/
def lexHeadD (md : Region.Mode) (ops : Array Oper) (g d : Nat) : Nat → Nat → Array Bool → Bool
  | 0, k, listed => Region.seqB md ops g k listed
  | f + 1, k, listed => (if k = d then decide (Region.ready md ops listed = [k]) else (Region.ready md ops listed).contains k && Region.free md ops listed k) && lexHeadD md ops g d f (k + 1) (listed.setIfInBounds k true)

def lexSomeB (md : Region.Mode) (ops : Array Oper) (n d : Nat) : Bool :=
  Region.noSelect ops && decide (n < ops.size) && Region.sinkB md ops n && Region.chainB md ops n && lexHeadD md ops (ops.size - n) d n 0 (Array.replicate ops.size false)

theorem AheadS.lex {n d g : Nat} {K : Act → Prop} (hsel : Region.noSelect ops = true) (hs : Region.sinkB md ops n = true) (hc : Region.chainB md ops n = true) (hn : n < ops.size) (l : List Oper) :
    ∀ (k : Nat) (s : Array Bool) (a : Act), (∀ j, j < l.length → l[j]? = ops[k + j]?) → k + l.length = n → HeadInv md ops n s → lexHeadD md ops g d l.length k s = true → wpSome P ops C d K k l a →
      AheadS P md ops C n d (fun s' a' => Region.seqB md ops g n s' = true ∧ K a') l.length s a := by
  induction l with
  | nil =>
    intro k s a _ hk _ hB h
    obtain rfl : k = n := by simpa using hk
    exact ⟨by simpa [lexHeadD] using hB, h⟩
  | cons o l ih =>
    intro k s a hl hk inv hB h
    have h0 : ops[k]? = some o := by simpa using (hl 0 (by simp)).symm
    simp only [List.length_cons, lexHeadD, Bool.and_eq_true] at hB
    obtain ⟨hf, hB'⟩ := hB
    simp only [List.length_cons] at hk
    have hl' : ∀ j, j < l.length → l[j]? = ops[k + 1 + j]? := fun j hj => by have := hl (j + 1) (by simp; omega); simpa [Nat.add_assoc, Nat.add_comm 1 j] using this
    unfold wpSome at h
    by_cases e : k = d
    · rw [if_pos e] at hf h
      subst e
      have hr : Region.ready md ops s = [k] := by simpa using hf
      obtain ⟨V, hy, hK⟩ := h
      have hr' : k ∈ Region.ready md ops s := by rw [hr]; simp
      refine ⟨List.ne_nil_of_mem hr', fun j hj => ?_⟩
      obtain rfl : j = k := by rw [hr] at hj; simpa using hj
      refine ⟨by omega, ?_⟩
      unfold sOp
      rw [if_pos rfl]
      exact ⟨o, V, h0, hy, fun v hv => ih (j + 1) _ _ hl' (by omega) (inv.set hr' (by omega)) hB' (hK v hv)⟩
    · rw [if_neg e] at hf h
      simp only [Bool.and_eq_true] at hf
      have hr' : k ∈ Region.ready md ops s := by simpa using hf.1
      obtain ⟨v, hy, hK⟩ := yieldsIn_of_qOp h0 (by unfold qOp; simp only [h0]; exact h : qOp P ops C k (wpSome P ops C d K (k + 1) l) a)
      exact AheadS.first e h0 (Region.noSelect_spec hsel) hs hc hn (by omega) (fun s' a' hL => seqB_ready hL.1) l.length s a inv (Region.free_spec h0 hf.2) hr' hy
        (ih (k + 1) _ _ hl' (by omega) (inv.set hr' (by omega)) hB' hK)

theorem wpQuiet_imp {K K' : Act → Prop} (hk : ∀ a, K a → K' a) (l : List Oper) : ∀ a : Act, wpQuiet P ops C K l a → wpQuiet P ops C K' l a := by
  induction l with
  | nil => intro a h; exact hk a h
  | cons o l ih =>
    intro a h
    unfold wpQuiet at h ⊢
    split
    · rename_i hw; rw [if_pos hw] at h; exact Oper.quiet_mono (fun a' h' => ih a' h') h
    · rename_i hw; rw [if_neg hw] at h; exact ih _ h

theorem wp_region_some {id : Nat} {Q : Exit → Act → World → Prop} {a : Act} {w : World} {l : List Oper} (n d : Nat) (od : Oper) (hm : P.follows .mixedOrders = true) (hB : lexSomeB .any l.toArray n d = true) (hd : l[d]? = some od) (hdn : d < n) (hC : C w.drew)
    (h : wpQuiet P l.toArray C (fun a' => ∃ V, YieldsSome P l.toArray C od V a' ∧ ∀ v, V v → wpQuiet P l.toArray C (fun a' => ∀ w', C w' → wpList P l.toArray Q (l.drop n) a' w') ((l.take n).drop (d + 1)) (a'.put od.dst v)) (l.take d) a) : (Code.region id l.toArray true).wp P Q a w := by
  simp only [lexSomeB, Bool.and_eq_true, decide_eq_true_eq] at hB
  obtain ⟨⟨⟨⟨hsel, hn⟩, hs⟩, hc⟩, hlex⟩ := hB
  have hn' : n < l.length := by simpa using hn
  have htl : (l.take n).length = n := by simp; omega
  have hdl : (l.drop n).length = l.toArray.size - n := by simp
  have hsplit : l.take n = l.take d ++ od :: (l.take n).drop (d + 1) := by
    have e1 : l.take n = (l.take n).take d ++ (l.take n).drop d := (List.take_append_drop d _).symm
    have e2 : (l.take n).take d = l.take d := by rw [List.take_take]; congr 1; omega
    have e3 : (l.take n)[d]? = some od := by rw [List.getElem?_take, if_pos hdn]; exact hd
    obtain ⟨hlt, e4⟩ := List.getElem?_eq_some_iff.1 e3
    rw [e2, List.drop_eq_getElem_cons hlt, e4] at e1
    exact e1
  have hwalk : wpSome P l.toArray C d (fun a' => ∀ w', C w' → wpList P l.toArray Q (l.drop n) a' w') 0 (l.take n) a := by
    rw [hsplit]
    refine wpSome_pre _ 0 a (by simp; omega) ?_
    have e : (fun a' => wpSome P l.toArray C d (fun a' => ∀ w', C w' → wpList P l.toArray Q (l.drop n) a' w') d (od :: (l.take n).drop (d + 1)) a') =
        (fun a' => ∃ V, YieldsSome P l.toArray C od V a' ∧ ∀ v, V v → wpSome P l.toArray C d (fun a' => ∀ w', C w' → wpList P l.toArray Q (l.drop n) a' w') (d + 1) ((l.take n).drop (d + 1)) (a'.put od.dst v)) := by
      funext a'; conv => lhs; unfold wpSome
      rw [if_pos rfl]
    rw [e]
    exact wpQuiet_imp (fun a' ⟨V, h1, h2⟩ => ⟨V, h1, fun v hv => wpSome_post _ _ _ (by omega) (h2 v hv)⟩) _ _ h
  have inv : HeadInv .any l.toArray n (Array.replicate l.toArray.size false) :=
    ⟨by simp, fun j oj _ hl => (by rw [getD_replicate_false] at hl; cases hl), fun t _ ht => getD_in (by simpa using ht) (getD_replicate_false _ _)⟩
  have H := AheadS.lex (md := .any) (d := d) (g := l.toArray.size - n) hsel hs hc hn (l.take n) 0 _ a (fun j hj => by
    have hj' : j < n := by rw [htl] at hj; exact hj
    simp [hj']) (by simpa using htl) inv (by rw [htl]; exact hlex) hwalk
  refine wp_region_any hm ?_
  have := AheadS.any (Q := Q) (g := l.toArray.size - n) (fun s a' w' hw' hL => by
    have := wpAny_of_seq (md := .any) (Q' := Q) (l.drop n) n s a' w' (fun j => by simp [List.getElem?_drop]) (by rw [hdl]; exact hL.1) (hL.2 w' hw')
    rwa [hdl] at this) _ _ _ w.drew hC H
  rw [htl, show n + (l.toArray.size - n) = l.toArray.size by omega] at this
  exact this

theorem YieldsSome.call {o : Oper} {a : Act} {V : Value → Prop} {f : FuncId} {x y : Nat} {tys : Array TypeId} {vx vy : Value} (hop : o.op = .call { callee := .value (.func f), args := #[.tmp x, .tmp y], argTypes := tys }) (hw : Region.wanted o (yielded ops a.tmps) = true) (hx : a.tmps[x]?.getD undef = vx) (hy : a.tmps[y]?.getD undef = vy)
    (eg : ∀ args w, (callFunc f args).run P w = .ok (.enter f args) w) (h : ∀ w, C w → Calls P f #[vx, vy] w (fun e w'' => ∃ v, e = .returned v ∧ V v ∧ C w'')) : YieldsSome P ops C o V a := by
  refine ⟨hw, fun w hC => ?_⟩
  have e : (execOp a.eval o).run P w = .ok (.enter f #[vx, vy]) w := by
    simp [execOp, hop, go_sem, eg, resolve, invoke, hx, hy]
  rw [e]
  exact ⟨rfl, h w hC⟩
end
end Go.Proofs.Ytdflonniicnndaa
