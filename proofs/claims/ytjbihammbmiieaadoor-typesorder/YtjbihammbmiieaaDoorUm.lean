/- Making two types one, step by step, with pairs that are alike told to be one: what stays, and how many steps are left. -/
import Derived.Test.YtjbihammbmiieaaDoorUa
namespace Go.Proofs.YtjbihammbmiieaaDoor.Un

/-- what making a and b one leaves, by its solutions -/
structure OneQ (T : Ts) (a b : Nat) (ok : Bool) (S : Ts) : Prop where
  len : S.length = T.length
  good : Good S
  yes : ok = true → ∀ σ, Sol S σ ↔ Sol T σ ∧ σ a = σ b
  no : ok = false → ∀ σ, Sol T σ → σ a ≠ σ b
theorem OneP.q {T S : Ts} {a b : Nat} {ok : Bool} (h : OneP T a b ok S) : OneQ T a b ok S := ⟨h.like.len, h.good, h.yes, h.no⟩
theorem Twins.flagQ {T S T' S' : Ts} {a b : Nat} {p q : Bool} (h : Twins T S) (h1 : OneQ T a b p T') (h2 : OneQ S a b q S') : p = q := by
  cases p with
  | true =>
    cases q with
    | true => rfl
    | false =>
      obtain ⟨σ, hσ, _⟩ := h1.good.some
      have := (h1.yes rfl σ).1 hσ
      exact absurd this.2 (h2.no rfl σ ((h.sol σ).1 this.1))
  | false =>
    cases q with
    | true =>
      obtain ⟨σ, hσ, _⟩ := h2.good.some
      have := (h2.yes rfl σ).1 hσ
      exact absurd this.2 (h1.no rfl σ ((h.sol σ).2 this.1))
    | false => rfl
theorem Twins.oneQ {T S T' S' : Ts} {a b : Nat} (h : Twins T S) (h1 : OneQ T a b true T') (h2 : OneQ S a b true S') : Twins T' S' :=
  ⟨h1.good, h2.good, by rw [h1.len, h2.len, h.len], fun σ => by rw [h1.yes rfl, h2.yes rfl, h.sol σ]⟩
/-- equations one after the other -/
structure AllQ (T : Ts) (l : List (Nat × Nat)) (S : Ts) : Prop where
  len : S.length = T.length
  good : Good S
  sol : ∀ σ, Sol S σ ↔ Sol T σ ∧ ∀ p ∈ l, σ p.1 = σ p.2
theorem AllQ.nil {T : Ts} (h : Good T) : AllQ T [] T := ⟨rfl, h, fun _ => ⟨fun h => ⟨h, fun _ hp => by cases hp⟩, fun h => h.1⟩⟩
theorem AllQ.snoc {T S R : Ts} {l : List (Nat × Nat)} {a b : Nat} (h : AllQ T l S) (k : OneQ S a b true R) : AllQ T (l ++ [(a, b)]) R :=
  ⟨k.len.trans h.len, k.good, fun σ => by
    rw [k.yes rfl, h.sol]
    constructor
    · rintro ⟨⟨h1, h2⟩, h3⟩
      refine ⟨h1, fun p hp => ?_⟩
      rcases List.mem_append.1 hp with hp | hp
      · exact h2 p hp
      · rw [List.mem_singleton.1 hp]; exact h3
    · rintro ⟨h1, h2⟩
      exact ⟨⟨h1, fun p hp => h2 p (List.mem_append_left _ hp)⟩, h2 (a, b) (List.mem_append_right _ (List.mem_singleton.2 rfl))⟩⟩
theorem AllQ.twins {T S R : Ts} {l k : List (Nat × Nat)} (h1 : AllQ T l S) (h2 : AllQ T k R) (e : ∀ p, p ∈ l ↔ p ∈ k) : Twins S R :=
  ⟨h1.good, h2.good, by rw [h1.len, h2.len], fun σ => by
    rw [h1.sol, h2.sol]
    exact ⟨fun h => ⟨h.1, fun p hp => h.2 p ((e p).2 hp)⟩, fun h => ⟨h.1, fun p hp => h.2 p ((e p).1 hp)⟩⟩⟩
theorem AllQ.never {T S R Q : Ts} {l k : List (Nat × Nat)} {a b : Nat} (h1 : AllQ T l S) (h2 : AllQ T k R) (e : ∀ p ∈ k, p ∈ l) (m : (a, b) ∈ l) (h3 : OneQ R a b false Q) : False := by
  obtain ⟨σ, hσ, _⟩ := h1.good.some
  obtain ⟨h4, h5⟩ := (h1.sol σ).1 hσ
  exact h3.no rfl σ ((h2.sol σ).2 ⟨h4, fun p hp => h5 p (e p hp)⟩) (h5 _ m)

/-- solutions are the trees with something for what is open -/
theorem sol_iff {T : Ts} (hT : Good T) (σ : Nat → Ty) : Sol T σ ↔ ∀ x t, x < T.length → Val T x t → σ x = t.sub σ := by
  refine ⟨fun h x t hx ht => ht.sol hT.wf h hx, fun h => ?_⟩
  have no : ∀ x, x < T.length → (tm T x).kind ≠ 0 → (tm T x).is_ = none := fun x hx hk => by
    cases e : (tm T x).is_ with
    | none => rfl
    | some b => exact absurd (hT.wf.is_ x b hx e).1 hk
  refine ⟨fun x hx k => ?_, fun x hx k => ?_, fun x hx k => ?_, fun x hx k => ?_, fun x b hx e => ?_⟩
  · exact h x _ hx (.int (no x hx (by omega)) k)
  · exact h x _ hx (.bool (no x hx (by omega)) k)
  · exact h x _ hx (.unit (no x hx (by omega)) k)
  · obtain ⟨p1, p2⟩ := hT.wf.parts x hx k
    obtain ⟨s, hs⟩ := hT.full _ p1
    obtain ⟨t, ht⟩ := hT.full _ p2
    rw [h x _ hx (.pair (no x hx (by omega)) k hs ht), h _ _ p1 hs, h _ _ p2 ht]; rfl
  · have hb := (hT.wf.is_ x b hx e).2
    obtain ⟨t, ht⟩ := hT.full b hb
    rw [h x t hx (.is_ e ht), h b t hb ht]
/-- the same types, with the same trees -/
structure Same (T S : Ts) : Prop where
  len : S.length = T.length
  good : Good S
  val : ∀ x t, x < T.length → Val T x t → Val S x t
  opens : opens S = opens T
theorem Same.refl {T : Ts} (h : Good T) : Same T T := ⟨rfl, h, fun _ _ _ h => h, rfl⟩
theorem Same.trans {A B C : Ts} (h : Same A B) (k : Same B C) : Same A C := ⟨k.len.trans h.len, k.good, fun x t hx ht => k.val x t (by rw [h.len]; exact hx) (h.val x t hx ht), k.opens.trans h.opens⟩
theorem Same.sol {T S : Ts} (hT : Good T) (h : Same T S) (σ : Nat → Ty) : Sol S σ ↔ Sol T σ := by
  rw [sol_iff h.good, sol_iff hT]
  constructor
  · exact fun k x t hx ht => k x t (by rw [h.len]; exact hx) (h.val x t hx ht)
  · intro k x t hx ht
    rw [h.len] at hx
    obtain ⟨u, hu⟩ := hT.full x hx
    rw [ht.same (h.val x u hx hu)]
    exact k x u hx hu

/-- another row -/
theorem tm_set {T : Ts} {a : Nat} {r : Tm} (ha : a < T.length) (x : Nat) : tm (T.set a r) x = if x = a then r else tm T x := by
  simp only [tm, List.getD_eq_getElem?_getD, List.getElem?_set]
  by_cases e : a = x
  · subst e; simp [ha]
  · rw [if_neg e, if_neg (fun h => e h.symm)]
theorem set_ne {T : Ts} {a x : Nat} {r : Tm} (ha : a < T.length) (h : x ≠ a) : tm (T.set a r) x = tm T x := by rw [tm_set ha, if_neg h]
theorem set_eq {T : Ts} {a : Nat} {r : Tm} (ha : a < T.length) : tm (T.set a r) a = r := by rw [tm_set ha, if_pos rfl]
abbrev told (b : Nat) : Tm := ⟨0, 0, 0, some b⟩
theorem wf_told {T : Ts} {a b : Nat} (h : WF T) (ha : a < T.length) (hb : b < T.length) : WF (T.set a (told b)) := by
  have hl : (T.set a (told b)).length = T.length := by simp
  refine ⟨fun x hx => ?_, fun x hx k => ?_, fun x c hx e => ?_⟩
  · rw [hl] at hx
    by_cases e : x = a
    · subst e; rw [set_eq ha]; exact Nat.zero_le _
    · rw [set_ne ha e]; exact h.kind x hx
  · rw [hl] at hx ⊢
    by_cases e : x = a
    · subst e; rw [set_eq ha] at k; cases k
    · rw [set_ne ha e] at k ⊢; exact h.parts x hx k
  · rw [hl] at hx ⊢
    by_cases e' : x = a
    · subst e'; rw [set_eq ha] at e ⊢; injection e with e; subst e; exact ⟨rfl, hb⟩
    · rw [set_ne ha e'] at e ⊢; exact h.is_ x c hx e
theorem count_same {p : Tm → Bool} : ∀ {l : List Tm} {i : Nat} {x y : Tm}, l[i]? = some x → p x = p y → (l.set i y).countP p = l.countP p
  | [], i, x, y, h, _ => by simp at h
  | z :: l, 0, x, y, h, h1 => by
    rw [List.getElem?_cons_zero] at h; injection h with e; subst e
    rw [List.set_cons_zero, List.countP_cons, List.countP_cons, h1]
  | z :: l, i + 1, x, y, h, h1 => by
    rw [List.getElem?_cons_succ] at h
    rw [List.set_cons_succ, List.countP_cons, List.countP_cons, count_same h h1]
theorem tm_get {T : Ts} {a : Nat} (ha : a < T.length) : T[a]? = some (tm T a) := by simp [tm, List.getD_eq_getElem?_getD, List.getElem?_eq_getElem ha]
theorem opens_told {T : Ts} {a b : Nat} (ha : a < T.length) (h : isOpen (tm T a) = false) : opens (T.set a (told b)) = opens T :=
  count_same (tm_get ha) (h.trans rfl)
theorem full_val {T S : Ts} (hT : Full T) (hl : S.length = T.length) (h : ∀ x t, x < T.length → Val T x t → Val S x t) : Full S := fun x hx => by
  rw [hl] at hx
  obtain ⟨t, ht⟩ := hT x hx
  exact ⟨t, h x t hx ht⟩

/-- two steps on at once -/
theorem halve {T : Ts} {a b c : Nat} (hT : Good T) (ha : a < T.length) (e1 : (tm T a).is_ = some b) (e2 : (tm T b).is_ = some c) : Same T (T.set a (told c)) := by
  have hb := (hT.wf.is_ a b ha e1).2
  have hc := (hT.wf.is_ b c hb e2).2
  have hv : ∀ x t, Val T x t → Val (T.set a (told c)) x t := by
    intro x t h
    induction h with
    | @is_ x d t h1 h2 ih =>
      by_cases e : x = a
      · subst e
        rw [e1] at h1; injection h1 with h1; subst h1
        by_cases e : b = x
        · subst e; exact ih
        · cases ih with
          | is_ k1 k2 =>
            rw [set_ne ha e, e2] at k1; injection k1 with k1; subst k1
            exact .is_ (by rw [set_eq ha]) k2
          | _ k1 => (try rw [set_ne ha e, e2] at k1); (try cases k1); all_goals (rename_i k2; rw [set_ne ha e, e2] at k2; cases k2)
      · exact .is_ (by rw [set_ne ha e]; exact h1) ih
    | @var x h1 h2 =>
      have e : x ≠ a := fun e => by subst e; rw [e1] at h1; cases h1
      exact .var (by rw [set_ne ha e]; exact h1) (by rw [set_ne ha e]; exact h2)
    | @int x h1 h2 =>
      have e : x ≠ a := fun e => by subst e; rw [e1] at h1; cases h1
      exact .int (by rw [set_ne ha e]; exact h1) (by rw [set_ne ha e]; exact h2)
    | @bool x h1 h2 =>
      have e : x ≠ a := fun e => by subst e; rw [e1] at h1; cases h1
      exact .bool (by rw [set_ne ha e]; exact h1) (by rw [set_ne ha e]; exact h2)
    | @unit x h1 h2 =>
      have e : x ≠ a := fun e => by subst e; rw [e1] at h1; cases h1
      exact .unit (by rw [set_ne ha e]; exact h1) (by rw [set_ne ha e]; exact h2)
    | @pair x s t h1 h2 _ _ ih1 ih2 =>
      have e : x ≠ a := fun e => by subst e; rw [e1] at h1; cases h1
      exact .pair (by rw [set_ne ha e]; exact h1) (by rw [set_ne ha e]; exact h2) (by rw [set_ne ha e]; exact ih1) (by rw [set_ne ha e]; exact ih2)
  refine ⟨by simp, ⟨wf_told hT.wf ha hc, full_val hT.full (by simp) fun x t _ => hv x t⟩, fun x t _ => hv x t, opens_told ha (by simp [isOpen, e1])⟩
/-- the way on isn't turned -/
theorem To.halved {T : Ts} {a c m y : Nat} (ha : a < T.length) (hm : To T m a y) : ∀ {n x : Nat}, To T n x y → n < m → To (T.set a (told c)) n x y := by
  intro n x h
  induction h with
  | @here x h =>
    intro hn
    have e : x ≠ a := fun e => by subst e; have := hm.same (.here h); omega
    exact .here (by rw [set_ne ha e]; exact h)
  | @step n x b y h k ih =>
    intro hn
    have e : x ≠ a := fun e => by subst e; have := hm.same (.step h k); omega
    exact .step (by rw [set_ne ha e]; exact h) (ih hm (by omega))
/-- every way leads where it led -/
theorem To.halve {T : Ts} {a b c : Nat} (ha : a < T.length) (e1 : (tm T a).is_ = some b) (e2 : (tm T b).is_ = some c) : ∀ (n : Nat) {x y : Nat}, To T n x y → ∃ m, To (T.set a (told c)) m x y := by
  intro n
  induction n using Nat.strongRecOn with
  | _ n ih =>
    intro x y h
    cases h with
    | here h =>
      have e : x ≠ a := fun e => by subst e; rw [e1] at h; cases h
      exact ⟨0, .here (by rw [set_ne ha e]; exact h)⟩
    | @step k _ d _ h1 h2 =>
      by_cases e : x = a
      · subst e
        rw [e1] at h1; injection h1 with h1; subst h1
        cases h2 with
        | here h => rw [e2] at h; cases h
        | @step j _ f _ h3 h4 =>
          rw [e2] at h3; injection h3 with h3; subst h3
          obtain ⟨m, hm⟩ := ih j (by omega) h4
          exact ⟨m + 1, .step (by rw [set_eq ha]) hm⟩
      · obtain ⟨m, hm⟩ := ih k (by omega) h2
        exact ⟨m + 1, .step (by rw [set_ne ha e]; exact h1) hm⟩
/-- a pair that has the tree of another one is told to be that -/
theorem alike {T : Ts} {a b : Nat} {s u : Ty} (hT : Good T) (ha : a < T.length) (hb : b < T.length) (hne : a ≠ b) (na : (tm T a).is_ = none) (nb : (tm T b).is_ = none) (h1 : Val T a (.pair s u)) (h2 : Val T b (.pair s u)) : Same T (T.set a (told b)) := by
  have ka : (tm T a).kind = 4 := by
    cases h1 with
    | is_ k _ => rw [na] at k; cases k
    | pair _ k _ _ => exact k
  have hv : ∀ n x t, t.size ≤ n → Val T x t → Val (T.set a (told b)) x t := by
    intro n
    induction n with
    | zero => intro x t hn _; have := t.size_pos; omega
    | succ n ihn =>
      have root : ∀ x t, x ≠ a → t.size ≤ n + 1 → (tm T x).is_ = none → Val T x t → Val (T.set a (told b)) x t := by
        intro x t e hn hr h
        cases h with
        | is_ k _ => rw [hr] at k; cases k
        | var h1 h2 => exact .var (by rw [set_ne ha e]; exact h1) (by rw [set_ne ha e]; exact h2)
        | int h1 h2 => exact .int (by rw [set_ne ha e]; exact h1) (by rw [set_ne ha e]; exact h2)
        | bool h1 h2 => exact .bool (by rw [set_ne ha e]; exact h1) (by rw [set_ne ha e]; exact h2)
        | unit h1 h2 => exact .unit (by rw [set_ne ha e]; exact h1) (by rw [set_ne ha e]; exact h2)
        | pair h1 h2 h3 h4 =>
          rw [Ty.size] at hn
          exact .pair (by rw [set_ne ha e]; exact h1) (by rw [set_ne ha e]; exact h2) (by rw [set_ne ha e]; exact ihn _ _ (by omega) h3) (by rw [set_ne ha e]; exact ihn _ _ (by omega) h4)
      have at_a : ∀ t, t.size ≤ n + 1 → Val T a t → Val (T.set a (told b)) a t := by
        intro t hn h
        have e : t = .pair s u := h.same h1
        subst e
        exact .is_ (by rw [set_eq ha]) (root b _ (fun e => hne e.symm) hn nb h2)
      intro x t hn h
      induction h with
      | @is_ x d t k1 k2 ih =>
        have e : x ≠ a := fun e => by subst e; rw [na] at k1; cases k1
        exact .is_ (by rw [set_ne ha e]; exact k1) (ih hn)
      | @var x k1 k2 =>
        have e : x ≠ a := fun e => by subst e; omega
        exact root x _ e hn k1 (.var k1 k2)
      | @int x k1 k2 =>
        have e : x ≠ a := fun e => by subst e; omega
        exact root x _ e hn k1 (.int k1 k2)
      | @bool x k1 k2 =>
        have e : x ≠ a := fun e => by subst e; omega
        exact root x _ e hn k1 (.bool k1 k2)
      | @unit x k1 k2 =>
        have e : x ≠ a := fun e => by subst e; omega
        exact root x _ e hn k1 (.unit k1 k2)
      | @pair x s t k1 k2 k3 k4 _ _ =>
        by_cases e : x = a
        · subst e; exact at_a _ hn (.pair k1 k2 k3 k4)
        · exact root x _ e hn k1 (.pair k1 k2 k3 k4)
  have hv' : ∀ x t, x < T.length → Val T x t → Val (T.set a (told b)) x t := fun x t _ h => hv t.size x t (Nat.le_refl _) h
  exact ⟨by simp, ⟨wf_told hT.wf ha hb, full_val hT.full (by simp) hv'⟩, hv', opens_told ha (by simp [isOpen, ka])⟩

/-- how many pairs there are whose trees are of at most that size -/
def small (T : Ts) (k : Nat) (x : Nat) : Prop := (tm T x).is_ = none ∧ (tm T x).kind = 4 ∧ ∃ t, Val T x t ∧ t.size ≤ k
open Classical in
noncomputable def few (T : Ts) (k : Nat) : Nat := (List.range T.length).countP (fun x => decide (small T k x))
theorem countP_lt {α : Type} {p q : α → Bool} : ∀ {l : List α}, (∀ x ∈ l, p x = true → q x = true) → (∃ x ∈ l, p x = false ∧ q x = true) → l.countP p < l.countP q
  | [], _, h => by obtain ⟨x, hx, _⟩ := h; cases hx
  | z :: l, h, he => by
    have hle : l.countP p ≤ l.countP q := List.countP_mono_left fun x hx => h x (List.mem_cons_of_mem _ hx)
    rw [List.countP_cons, List.countP_cons]
    obtain ⟨x, hx, h1, h2⟩ := he
    rcases List.mem_cons.1 hx with rfl | hx
    · rw [h1, h2]; simp; omega
    · have := countP_lt (l := l) (fun x hx => h x (List.mem_cons_of_mem _ hx)) ⟨x, hx, h1, h2⟩
      have hz := h z (List.mem_cons_self ..)
      cases hp : p z <;> cases hq : q z <;> simp_all <;> omega
theorem few_mono {T : Ts} {k m : Nat} (h : k ≤ m) : few T k ≤ few T m :=
  List.countP_mono_left fun x _ hx => by
    simp only [decide_eq_true_eq] at hx ⊢
    obtain ⟨h1, h2, t, h3, h4⟩ := hx
    exact ⟨h1, h2, t, h3, by omega⟩
theorem few_lt {T : Ts} {k m x : Nat} {t : Ty} (hx : x < T.length) (h1 : (tm T x).is_ = none) (h2 : (tm T x).kind = 4) (h3 : Val T x t) (hk : k < t.size) (hm : t.size ≤ m) : few T k < few T m := by
  refine countP_lt (fun y _ hy => ?_) ⟨x, List.mem_range.2 hx, ?_, ?_⟩
  · simp only [decide_eq_true_eq] at hy ⊢
    obtain ⟨k1, k2, u, k3, k4⟩ := hy
    exact ⟨k1, k2, u, k3, by omega⟩
  · simp only [decide_eq_false_iff_not]
    rintro ⟨_, _, u, k3, k4⟩
    rw [k3.same h3] at k4; omega
  · simp only [decide_eq_true_eq]
    exact ⟨h1, h2, t, h3, hm⟩
/-- pairs there are -/
def pairs (T : Ts) : Nat := T.countP (fun r => r.kind == 4 && r.is_.isNone)
theorem range_count (T : Ts) (p : Tm → Bool) : ∀ n, n ≤ T.length → (List.range n).countP (fun x => p (tm T x)) = (T.take n).countP p := by
  intro n
  induction n with
  | zero => intro _; simp
  | succ n ih =>
    intro hn
    rw [List.range_succ, List.countP_append, ih (by omega), List.take_add_one, List.countP_append, tm_get (by omega)]
    simp [List.countP_cons]
theorem few_le (T : Ts) (k : Nat) : few T k ≤ pairs T := by
  have h := range_count T (fun r => r.kind == 4 && r.is_.isNone) T.length (Nat.le_refl _)
  rw [List.take_length] at h
  rw [pairs, ← h]
  refine List.countP_mono_left fun x _ hx => ?_
  simp only [decide_eq_true_eq] at hx
  obtain ⟨h1, h2, _⟩ := hx
  simp [h1, h2]
theorem pairs_le (T : Ts) : pairs T ≤ T.length := List.countP_le_length
theorem size_few {T : Ts} (hT : WF T) {x : Nat} {t : Ty} (h : Val T x t) (hx : x < T.length) : t.size < 2 ^ (few T t.size + 1) := by
  have one : ∀ n : Nat, 1 < 2 ^ (n + 1) := fun n => by rw [Nat.pow_succ]; have := Nat.two_pow_pos n; omega
  induction h with
  | is_ h1 _ ih => exact ih (hT.is_ _ _ hx h1).2
  | var _ _ => exact one _
  | int _ _ => exact one _
  | bool _ _ => exact one _
  | unit _ _ => exact one _
  | @pair x s t h1 h2 h3 h4 ih1 ih2 =>
    have i1 := ih1 (hT.parts x hx h2).1
    have i2 := ih2 (hT.parts x hx h2).2
    have hz : (Ty.pair s t).size = s.size + t.size + 1 := rfl
    have f1 := few_lt (k := s.size) hx h1 h2 (.pair h1 h2 h3 h4) (by omega) (Nat.le_refl _)
    have f2 := few_lt (k := t.size) hx h1 h2 (.pair h1 h2 h3 h4) (by omega) (Nat.le_refl _)
    have p1 : 2 ^ (few T s.size + 1) ≤ 2 ^ few T (Ty.pair s t).size := Nat.pow_le_pow_right (by omega) f1
    have p2 : 2 ^ (few T t.size + 1) ≤ 2 ^ few T (Ty.pair s t).size := Nat.pow_le_pow_right (by omega) f2
    rw [Nat.pow_succ]; omega
/-- no tree is greater than its pairs make it -/
theorem size_pairs {T : Ts} (hT : WF T) {x : Nat} {t : Ty} (h : Val T x t) (hx : x < T.length) : t.size < 2 ^ (pairs T + 1) :=
  Nat.lt_of_lt_of_le (size_few hT h hx) (Nat.pow_le_pow_right (by omega) (by have := few_le T t.size; omega))
theorem size_len {T : Ts} (hT : WF T) {x : Nat} {t : Ty} (h : Val T x t) (hx : x < T.length) : t.size ≤ 2 ^ (T.length + 1) :=
  Nat.le_of_lt (Nat.lt_of_lt_of_le (size_pairs hT h hx) (Nat.pow_le_pow_right (by omega) (by have := pairs_le T; omega)))
end Go.Proofs.YtjbihammbmiieaaDoor.Un
