/- Types that are made one, as trees: what a table of types stands for, what making two of them one does to its solutions, and that tables with the same solutions have the same texts. -/
namespace Go.Proofs.YtjbihammbmiieaaDoor.Un

/-- a type as a tree; var: an open one -/
inductive Ty where
  | var (n : Nat)
  | int
  | bool
  | unit
  | pair (a b : Ty)
namespace Ty
def size : Ty → Nat
  | .pair a b => a.size + b.size + 1
  | _ => 1
def sub (σ : Nat → Ty) : Ty → Ty
  | .var n => σ n
  | .int => .int
  | .bool => .bool
  | .unit => .unit
  | .pair a b => .pair (a.sub σ) (b.sub σ)
/-- does an open one stand in it? -/
def Occ (n : Nat) : Ty → Prop
  | .var m => n = m
  | .pair a b => a.Occ n ∨ b.Occ n
  | _ => False
instance (n : Nat) : (t : Ty) → Decidable (t.Occ n)
  | .var m => inferInstanceAs (Decidable (n = m))
  | .pair a b => have := instDecidableOcc n a; have := instDecidableOcc n b; inferInstanceAs (Decidable (a.Occ n ∨ b.Occ n))
  | .int => isFalse (fun h => h)
  | .bool => isFalse (fun h => h)
  | .unit => isFalse (fun h => h)
theorem size_pos : ∀ t : Ty, 1 ≤ t.size
  | .var _ => Nat.le_refl _
  | .int => Nat.le_refl _
  | .bool => Nat.le_refl _
  | .unit => Nat.le_refl _
  | .pair _ _ => by simp [size]
theorem sub_congr {σ τ : Nat → Ty} : ∀ {t : Ty}, (∀ n, t.Occ n → σ n = τ n) → t.sub σ = t.sub τ
  | .var n, h => h n rfl
  | .int, _ => rfl
  | .bool, _ => rfl
  | .unit, _ => rfl
  | .pair a b, h => by rw [sub, sub, sub_congr (fun n hn => h n (.inl hn)), sub_congr (fun n hn => h n (.inr hn))]
theorem sub_var : ∀ t : Ty, t.sub .var = t
  | .var _ => rfl
  | .int => rfl
  | .bool => rfl
  | .unit => rfl
  | .pair a b => by rw [sub, sub_var a, sub_var b]
theorem sub_sub (σ τ : Nat → Ty) : ∀ t : Ty, (t.sub σ).sub τ = t.sub (fun n => (σ n).sub τ)
  | .var _ => rfl
  | .int => rfl
  | .bool => rfl
  | .unit => rfl
  | .pair a b => by rw [sub, sub, sub, sub_sub σ τ a, sub_sub σ τ b]
theorem occ_size {σ : Nat → Ty} {n : Nat} : ∀ {t : Ty}, t.Occ n → (σ n).size ≤ (t.sub σ).size
  | .var _, h => by rw [show n = _ from h]; exact Nat.le_refl _
  | .pair a b, h => by
    rw [sub, size]
    rcases h with h | h
    · have := occ_size (σ := σ) h; omega
    · have := occ_size (σ := σ) h; omega
/-- an open one is none that it stands in -/
theorem occ_ne {σ : Nat → Ty} {n : Nat} : ∀ {t : Ty}, t.Occ n → t ≠ .var n → σ n ≠ t.sub σ
  | .var m, h, hne => absurd (by rw [show n = m from h]) hne
  | .pair a b, h, _ => fun e => by
    have h1 : (σ n).size = (((Ty.pair a b).sub σ)).size := congrArg size e
    rw [sub, size] at h1
    rcases h with h | h
    · have := occ_size (σ := σ) h; omega
    · have := occ_size (σ := σ) h; omega
/-- one open one for a tree -/
def one (a : Nat) (u : Ty) : Nat → Ty := fun n => if n = a then u else .var n
theorem sub_one_no {a : Nat} {u t : Ty} (h : ¬ t.Occ a) : t.sub (one a u) = t := by
  refine (sub_congr (τ := .var) fun n hn => ?_).trans (sub_var t)
  exact if_neg (fun (e : n = a) => h (e ▸ hn))
theorem occ_sub {σ : Nat → Ty} {n : Nat} : ∀ {t : Ty}, (t.sub σ).Occ n → ∃ m, t.Occ m ∧ (σ m).Occ n
  | .var m, h => ⟨m, rfl, h⟩
  | .pair a b, h => by
    rcases h with h | h
    · obtain ⟨m, h1, h2⟩ := occ_sub h; exact ⟨m, .inl h1, h2⟩
    · obtain ⟨m, h1, h2⟩ := occ_sub h; exact ⟨m, .inr h1, h2⟩
end Ty

/-- a row of the table: its kind (0 open, 1 int, 2 bool, 3 unit, 4 pair), its parts, what it is told to be -/
structure Tm where
  kind : Nat
  a : Nat
  b : Nat
  is_ : Option Nat
abbrev Ts := List Tm
def tm (T : Ts) (x : Nat) : Tm := T.getD x ⟨0, 0, 0, none⟩
/-- the table stands: parts are there, only an open one is told to be another -/
structure WF (T : Ts) : Prop where
  kind : ∀ x, x < T.length → (tm T x).kind ≤ 4
  parts : ∀ x, x < T.length → (tm T x).kind = 4 → (tm T x).a < T.length ∧ (tm T x).b < T.length
  is_ : ∀ x b, x < T.length → (tm T x).is_ = some b → (tm T x).kind = 0 ∧ b < T.length

/-- the tree that a type stands for -/
inductive Val (T : Ts) : Nat → Ty → Prop where
  | is_ {x b : Nat} {t : Ty} (h : (tm T x).is_ = some b) (k : Val T b t) : Val T x t
  | var {x : Nat} (h : (tm T x).is_ = none) (k : (tm T x).kind = 0) : Val T x (.var x)
  | int {x : Nat} (h : (tm T x).is_ = none) (k : (tm T x).kind = 1) : Val T x .int
  | bool {x : Nat} (h : (tm T x).is_ = none) (k : (tm T x).kind = 2) : Val T x .bool
  | unit {x : Nat} (h : (tm T x).is_ = none) (k : (tm T x).kind = 3) : Val T x .unit
  | pair {x : Nat} {s t : Ty} (h : (tm T x).is_ = none) (k : (tm T x).kind = 4) (l : Val T (tm T x).a s) (r : Val T (tm T x).b t) : Val T x (.pair s t)
theorem Val.same {T : Ts} {x : Nat} {s t : Ty} (h : Val T x s) (k : Val T x t) : s = t := by
  induction h generalizing t with
  | is_ h1 _ ih =>
    cases k with
    | is_ k1 k2 => rw [h1] at k1; injection k1 with e; subst e; exact ih k2
    | _ => simp_all
  | var h1 h2 => cases k <;> simp_all
  | int h1 h2 => cases k <;> simp_all
  | bool h1 h2 => cases k <;> simp_all
  | unit h1 h2 => cases k <;> simp_all
  | pair h1 h2 _ _ ih1 ih2 =>
    cases k with
    | pair _ _ l r => rw [ih1 l, ih2 r]
    | _ => simp_all
/-- each type stands for a tree -/
def Full (T : Ts) : Prop := ∀ x, x < T.length → ∃ t, Val T x t
/-- trees for all types, as the table says -/
structure Sol (T : Ts) (σ : Nat → Ty) : Prop where
  int : ∀ x, x < T.length → (tm T x).kind = 1 → σ x = .int
  bool : ∀ x, x < T.length → (tm T x).kind = 2 → σ x = .bool
  unit : ∀ x, x < T.length → (tm T x).kind = 3 → σ x = .unit
  pair : ∀ x, x < T.length → (tm T x).kind = 4 → σ x = .pair (σ (tm T x).a) (σ (tm T x).b)
  is_ : ∀ x b, x < T.length → (tm T x).is_ = some b → σ x = σ b
/-- any solution is that tree with something for what is open -/
theorem Val.sol {T : Ts} (hT : WF T) {σ : Nat → Ty} (hσ : Sol T σ) {x : Nat} {t : Ty} (h : Val T x t) (hx : x < T.length) : σ x = t.sub σ := by
  induction h with
  | is_ h1 _ ih => rw [hσ.is_ _ _ hx h1]; exact ih (hT.is_ _ _ hx h1).2
  | var _ _ => rfl
  | int _ k => exact hσ.int _ hx k
  | bool _ k => exact hσ.bool _ hx k
  | unit _ k => exact hσ.unit _ hx k
  | pair _ k _ _ ih1 ih2 => rw [hσ.pair _ hx k, ih1 (hT.parts _ hx k).1, ih2 (hT.parts _ hx k).2]; rfl
/-- the trees themselves are one -/
theorem Full.sol {T : Ts} (hT : WF T) {σ : Nat → Ty} (h : ∀ x, x < T.length → Val T x (σ x)) : Sol T σ := by
  have no : ∀ x, x < T.length → (tm T x).kind ≠ 0 → (tm T x).is_ = none := fun x hx hk => by
    cases e : (tm T x).is_ with
    | none => rfl
    | some b => exact absurd (hT.is_ x b hx e).1 hk
  refine ⟨fun x hx k => ?_, fun x hx k => ?_, fun x hx k => ?_, fun x hx k => ?_, fun x b hx e => ?_⟩
  · exact (h x hx).same (.int (no x hx (by omega)) k)
  · exact (h x hx).same (.bool (no x hx (by omega)) k)
  · exact (h x hx).same (.unit (no x hx (by omega)) k)
  · exact (h x hx).same (.pair (no x hx (by omega)) k (h _ (hT.parts x hx k).1) (h _ (hT.parts x hx k).2))
  · exact (h x hx).same (.is_ e (h b (hT.is_ x b hx e).2))

/-- an open one is told to be another -/
def bind (T : Ts) (a b : Nat) : Ts := T.set a { tm T a with is_ := some b }
theorem bind_len (T : Ts) (a b : Nat) : (bind T a b).length = T.length := by simp [bind]
theorem tm_bind {T : Ts} {a b : Nat} (ha : a < T.length) (x : Nat) : tm (bind T a b) x = if x = a then { tm T a with is_ := some b } else tm T x := by
  simp only [tm, bind, List.getD_eq_getElem?_getD, List.getElem?_set]
  by_cases e : a = x
  · subst e; simp [ha]
  · rw [if_neg e, if_neg (fun h => e h.symm)]
theorem bind_ne {T : Ts} {a b x : Nat} (ha : a < T.length) (h : x ≠ a) : tm (bind T a b) x = tm T x := by rw [tm_bind ha, if_neg h]
theorem bind_eq {T : Ts} {a b : Nat} (ha : a < T.length) : tm (bind T a b) a = { tm T a with is_ := some b } := by rw [tm_bind ha, if_pos rfl]
theorem bind_kind {T : Ts} {a b : Nat} (ha : a < T.length) (x : Nat) : (tm (bind T a b) x).kind = (tm T x).kind ∧ (tm (bind T a b) x).a = (tm T x).a ∧ (tm (bind T a b) x).b = (tm T x).b := by
  rw [tm_bind ha]; split
  · rename_i e; subst e; exact ⟨rfl, rfl, rfl⟩
  · exact ⟨rfl, rfl, rfl⟩
theorem WF.bind {T : Ts} {a b : Nat} (h : WF T) (ha : a < T.length) (hk : (tm T a).kind = 0) (hb : b < T.length) : WF (bind T a b) := by
  refine ⟨fun x hx => ?_, fun x hx k => ?_, fun x c hx e => ?_⟩
  · rw [(bind_kind ha x).1]; exact h.kind x (by rwa [bind_len] at hx)
  · rw [(bind_kind ha x).1] at k
    rw [(bind_kind ha x).2.1, (bind_kind ha x).2.2, bind_len]
    exact h.parts x (by rwa [bind_len] at hx) k
  · rw [bind_len] at hx ⊢
    rw [(bind_kind ha x).1]
    by_cases ex : x = a
    · subst ex; rw [bind_eq ha] at e; injection e with e; subst e; exact ⟨hk, hb⟩
    · rw [bind_ne ha ex] at e; exact h.is_ x c hx e
/-- what has no place for it stays -/
theorem Val.keep {T : Ts} {a b : Nat} (ha : a < T.length) (hk : (tm T a).kind = 0) (hn : (tm T a).is_ = none) {x : Nat} {t : Ty} (h : Val T x t) (ho : ¬ t.Occ a) : Val (Un.bind T a b) x t := by
  induction h with
  | @is_ x c t h1 _ ih =>
    have hx : x ≠ a := fun e => by subst e; rw [hn] at h1; cases h1
    exact .is_ (by rw [bind_ne ha hx]; exact h1) (ih ho)
  | @var x h1 h2 =>
    have hx : x ≠ a := fun e => ho e.symm
    exact .var (by rw [bind_ne ha hx]; exact h1) (by rw [bind_ne ha hx]; exact h2)
  | @int x h1 h2 =>
    have hx : x ≠ a := fun e => by subst e; omega
    exact .int (by rw [bind_ne ha hx]; exact h1) (by rw [bind_ne ha hx]; exact h2)
  | @bool x h1 h2 =>
    have hx : x ≠ a := fun e => by subst e; omega
    exact .bool (by rw [bind_ne ha hx]; exact h1) (by rw [bind_ne ha hx]; exact h2)
  | @unit x h1 h2 =>
    have hx : x ≠ a := fun e => by subst e; omega
    exact .unit (by rw [bind_ne ha hx]; exact h1) (by rw [bind_ne ha hx]; exact h2)
  | @pair x s t h1 h2 _ _ ih1 ih2 =>
    have hx : x ≠ a := fun e => by subst e; omega
    exact .pair (by rw [bind_ne ha hx]; exact h1) (by rw [bind_ne ha hx]; exact h2) (by rw [bind_ne ha hx]; exact ih1 (fun e => ho (.inl e))) (by rw [bind_ne ha hx]; exact ih2 (fun e => ho (.inr e)))
/-- what has one gets the other's tree there -/
theorem Val.put {T : Ts} {a b : Nat} {u : Ty} (ha : a < T.length) (hk : (tm T a).kind = 0) (hn : (tm T a).is_ = none) (hu : Val T b u) (ho : ¬ u.Occ a) {x : Nat} {t : Ty} (h : Val T x t) : Val (Un.bind T a b) x (t.sub (Ty.one a u)) := by
  induction h with
  | @is_ x c t h1 _ ih =>
    have hx : x ≠ a := fun e => by subst e; rw [hn] at h1; cases h1
    exact .is_ (by rw [bind_ne ha hx]; exact h1) ih
  | @var x h1 h2 =>
    by_cases hx : x = a
    · subst hx
      rw [Ty.sub, Ty.one, if_pos rfl]
      exact .is_ (by rw [bind_eq ha]) (hu.keep ha hk hn ho)
    · rw [Ty.sub, Ty.one, if_neg hx]
      exact .var (by rw [bind_ne ha hx]; exact h1) (by rw [bind_ne ha hx]; exact h2)
  | @int x h1 h2 =>
    have hx : x ≠ a := fun e => by subst e; omega
    exact .int (by rw [bind_ne ha hx]; exact h1) (by rw [bind_ne ha hx]; exact h2)
  | @bool x h1 h2 =>
    have hx : x ≠ a := fun e => by subst e; omega
    exact .bool (by rw [bind_ne ha hx]; exact h1) (by rw [bind_ne ha hx]; exact h2)
  | @unit x h1 h2 =>
    have hx : x ≠ a := fun e => by subst e; omega
    exact .unit (by rw [bind_ne ha hx]; exact h1) (by rw [bind_ne ha hx]; exact h2)
  | @pair x s t h1 h2 _ _ ih1 ih2 =>
    have hx : x ≠ a := fun e => by subst e; omega
    exact .pair (by rw [bind_ne ha hx]; exact h1) (by rw [bind_ne ha hx]; exact h2) (by rw [bind_ne ha hx]; exact ih1) (by rw [bind_ne ha hx]; exact ih2)
theorem Full.bind {T : Ts} {a b : Nat} {u : Ty} (h : Full T) (ha : a < T.length) (hk : (tm T a).kind = 0) (hn : (tm T a).is_ = none) (hu : Val T b u) (ho : ¬ u.Occ a) : Full (bind T a b) := fun x hx => by
  obtain ⟨t, ht⟩ := h x (by rwa [bind_len] at hx)
  exact ⟨_, Val.put ha hk hn hu ho ht⟩
/-- its solutions: those where both are one -/
theorem sol_bind {T : Ts} {a b : Nat} (ha : a < T.length) (hk : (tm T a).kind = 0) (hn : (tm T a).is_ = none) (σ : Nat → Ty) : Sol (bind T a b) σ ↔ Sol T σ ∧ σ a = σ b := by
  constructor
  · intro h
    refine ⟨⟨fun x hx k => h.int x (by rwa [bind_len]) (by rwa [(bind_kind ha x).1]), fun x hx k => h.bool x (by rwa [bind_len]) (by rwa [(bind_kind ha x).1]), fun x hx k => h.unit x (by rwa [bind_len]) (by rwa [(bind_kind ha x).1]), fun x hx k => ?_, fun x c hx e => ?_⟩, ?_⟩
    · have := h.pair x (by rwa [bind_len]) (by rwa [(bind_kind ha x).1])
      rwa [(bind_kind ha x).2.1, (bind_kind ha x).2.2] at this
    · have ex : x ≠ a := fun e' => by subst e'; rw [hn] at e; cases e
      exact h.is_ x c (by rwa [bind_len]) (by rw [bind_ne ha ex]; exact e)
    · exact h.is_ a b (by rwa [bind_len]) (by rw [bind_eq ha])
  · rintro ⟨h, e0⟩
    refine ⟨fun x hx k => h.int x (by rwa [bind_len] at hx) (by rwa [(bind_kind ha x).1] at k), fun x hx k => h.bool x (by rwa [bind_len] at hx) (by rwa [(bind_kind ha x).1] at k), fun x hx k => h.unit x (by rwa [bind_len] at hx) (by rwa [(bind_kind ha x).1] at k), fun x hx k => ?_, fun x c hx e => ?_⟩
    · rw [(bind_kind ha x).2.1, (bind_kind ha x).2.2]
      exact h.pair x (by rwa [bind_len] at hx) (by rwa [(bind_kind ha x).1] at k)
    · by_cases ex : x = a
      · subst ex; rw [bind_eq ha] at e; injection e with e; subst e; exact e0
      · rw [bind_ne ha ex] at e; exact h.is_ x c (by rwa [bind_len] at hx) e

/-- two tables of the same types with the same solutions: their trees are the same but for the names of what is open -/
theorem renamed {T S : Ts} (hT : WF T) (hS : WF S) (hl : T.length = S.length) (h : ∀ σ, Sol T σ ↔ Sol S σ) {σ τ : Nat → Ty} (hσ : ∀ x, x < T.length → Val T x (σ x)) (hτ : ∀ x, x < S.length → Val S x (τ x)) :
    ∃ ρ : Nat → Nat, ∀ x, x < T.length → τ x = (σ x).sub (fun n => .var (ρ n)) ∧ ∀ n, (σ x).Occ n → σ (ρ n) = .var n := by
  have s1 : Sol S σ := (h σ).1 (Full.sol hT hσ)
  have s2 : Sol T τ := (h τ).2 (Full.sol hS hτ)
  have e1 : ∀ x, x < T.length → τ x = (σ x).sub τ := fun x hx => (hσ x hx).sol hT s2 hx
  have e2 : ∀ x, x < T.length → σ x = (τ x).sub σ := fun x hx => (hτ x (hl ▸ hx)).sol hS s1 (hl ▸ hx)
  have fix : ∀ t : Ty, t.sub (fun n => (τ n).sub σ) = t → ∀ n, t.Occ n → (τ n).sub σ = .var n := by
    intro t
    induction t with
    | var m => intro e n hn; rw [show n = m from hn]; exact e
    | pair a b iha ihb =>
      intro e n hn
      rw [Ty.sub] at e; injection e with ea eb
      rcases hn with hn | hn
      · exact iha ea n hn
      · exact ihb eb n hn
    | _ => intro _ n hn; exact hn.elim
  have key : ∀ x, x < T.length → ∀ n, (σ x).Occ n → ∃ m, τ n = .var m ∧ σ m = .var n := by
    intro x hx n hn
    have e : (σ x).sub (fun n => (τ n).sub σ) = σ x := by rw [← Ty.sub_sub, ← e1 x hx, ← e2 x hx]
    have e3 := fix _ e n hn
    cases ht : τ n with
    | var m => rw [ht] at e3; exact ⟨m, rfl, e3⟩
    | _ => rw [ht] at e3; cases e3
  refine ⟨fun n => match τ n with | .var m => m | _ => 0, fun x hx => ⟨?_, fun n hn => ?_⟩⟩
  · rw [e1 x hx]
    exact Ty.sub_congr fun n hn => by
      obtain ⟨m, e, _⟩ := key x hx n hn
      simp only [e]
  · obtain ⟨m, e, e'⟩ := key x hx n hn
    simp only [e]; exact e'
end Go.Proofs.YtjbihammbmiieaaDoor.Un
