/- Types that come, and two tables side by side. -/
import Derived.Test.YtjbihammbmiieaaDoorUo
namespace Go.Proofs.YtjbihammbmiieaaDoor.Un

theorem tm_app_lt {T : Ts} {r : Tm} {x : Nat} (h : x < T.length) : tm (T ++ [r]) x = tm T x := by
  simp [tm, List.getD_eq_getElem?_getD, List.getElem?_append_left h]
theorem tm_app_eq {T : Ts} {r : Tm} : tm (T ++ [r]) T.length = r := by
  simp [tm, List.getD_eq_getElem?_getD]
/-- a type that may come: open, or a pair of types that are there -/
structure New (T : Ts) (r : Tm) : Prop where
  kind : r.kind = 0 ∨ r.kind = 4
  parts : r.kind = 4 → r.a < T.length ∧ r.b < T.length
  is_ : r.is_ = none
theorem new_var (T : Ts) : New T ⟨0, 0, 0, none⟩ := ⟨.inl rfl, fun e => (by cases e), rfl⟩
theorem new_pair {T : Ts} {a b : Nat} (ha : a < T.length) (hb : b < T.length) : New T ⟨4, a, b, none⟩ := ⟨.inr rfl, fun _ => ⟨ha, hb⟩, rfl⟩
theorem Val.app {T : Ts} (hT : WF T) {r : Tm} {x : Nat} {t : Ty} (h : Val T x t) (hx : x < T.length) : Val (T ++ [r]) x t := by
  induction h with
  | is_ h1 _ ih => exact .is_ (by rw [tm_app_lt hx]; exact h1) (ih (hT.is_ _ _ hx h1).2)
  | var h k => exact .var (by rw [tm_app_lt hx]; exact h) (by rw [tm_app_lt hx]; exact k)
  | int h k => exact .int (by rw [tm_app_lt hx]; exact h) (by rw [tm_app_lt hx]; exact k)
  | bool h k => exact .bool (by rw [tm_app_lt hx]; exact h) (by rw [tm_app_lt hx]; exact k)
  | unit h k => exact .unit (by rw [tm_app_lt hx]; exact h) (by rw [tm_app_lt hx]; exact k)
  | pair h k _ _ ih1 ih2 => exact .pair (by rw [tm_app_lt hx]; exact h) (by rw [tm_app_lt hx]; exact k) (by rw [tm_app_lt hx]; exact ih1 (hT.parts _ hx k).1) (by rw [tm_app_lt hx]; exact ih2 (hT.parts _ hx k).2)
theorem Good.app {T : Ts} (h : Good T) {r : Tm} (hr : New T r) : Good (T ++ [r]) := by
  have hlen : (T ++ [r]).length = T.length + 1 := by simp
  have cases_ : ∀ x, x < (T ++ [r]).length → x < T.length ∨ x = T.length := fun x hx => by rw [hlen] at hx; omega
  refine ⟨⟨fun x hx => ?_, fun x hx k => ?_, fun x b hx e => ?_⟩, fun x hx => ?_⟩
  · rcases cases_ x hx with h1 | rfl
    · rw [tm_app_lt h1]; exact h.wf.kind x h1
    · rw [tm_app_eq]; rcases hr.kind with e | e <;> omega
  · rcases cases_ x hx with h1 | rfl
    · rw [tm_app_lt h1] at k ⊢
      have := h.wf.parts x h1 k; omega
    · rw [tm_app_eq] at k ⊢
      have := hr.parts k; omega
  · rcases cases_ x hx with h1 | rfl
    · rw [tm_app_lt h1] at e ⊢
      have := h.wf.is_ x b h1 e; exact ⟨this.1, by omega⟩
    · rw [tm_app_eq, hr.is_] at e; cases e
  · rcases cases_ x hx with h1 | rfl
    · obtain ⟨t, ht⟩ := h.full x h1
      exact ⟨t, ht.app h.wf h1⟩
    · rcases hr.kind with k | k
      · exact ⟨_, .var (by rw [tm_app_eq]; exact hr.is_) (by rw [tm_app_eq]; exact k)⟩
      · obtain ⟨s, hs⟩ := h.full r.a (hr.parts k).1
        obtain ⟨t, ht⟩ := h.full r.b (hr.parts k).2
        exact ⟨_, .pair (by rw [tm_app_eq]; exact hr.is_) (by rw [tm_app_eq]; exact k) (by rw [tm_app_eq]; exact hs.app h.wf (hr.parts k).1) (by rw [tm_app_eq]; exact ht.app h.wf (hr.parts k).2)⟩
theorem sol_app {T : Ts} {r : Tm} (hr : New T r) (σ : Nat → Ty) : Sol (T ++ [r]) σ ↔ Sol T σ ∧ (r.kind = 4 → σ T.length = .pair (σ r.a) (σ r.b)) := by
  have hlen : (T ++ [r]).length = T.length + 1 := by simp
  have cases_ : ∀ x, x < (T ++ [r]).length → x < T.length ∨ x = T.length := fun x hx => by rw [hlen] at hx; omega
  have hk := hr.kind
  constructor
  · intro h
    refine ⟨⟨fun x hx k => h.int x (by omega) (by rwa [tm_app_lt hx]), fun x hx k => h.bool x (by omega) (by rwa [tm_app_lt hx]), fun x hx k => h.unit x (by omega) (by rwa [tm_app_lt hx]), fun x hx k => ?_, fun x b hx e => h.is_ x b (by omega) (by rwa [tm_app_lt hx])⟩, fun k => ?_⟩
    · have := h.pair x (by omega) (by rwa [tm_app_lt hx])
      rwa [tm_app_lt hx] at this
    · have := h.pair T.length (by omega) (by rwa [tm_app_eq])
      rwa [tm_app_eq] at this
  · rintro ⟨h, h4⟩
    refine ⟨fun x hx k => ?_, fun x hx k => ?_, fun x hx k => ?_, fun x hx k => ?_, fun x b hx e => ?_⟩
    · rcases cases_ x hx with h1 | rfl
      · rw [tm_app_lt h1] at k; exact h.int x h1 k
      · rw [tm_app_eq] at k; omega
    · rcases cases_ x hx with h1 | rfl
      · rw [tm_app_lt h1] at k; exact h.bool x h1 k
      · rw [tm_app_eq] at k; omega
    · rcases cases_ x hx with h1 | rfl
      · rw [tm_app_lt h1] at k; exact h.unit x h1 k
      · rw [tm_app_eq] at k; omega
    · rcases cases_ x hx with h1 | rfl
      · rw [tm_app_lt h1] at k ⊢; exact h.pair x h1 k
      · rw [tm_app_eq] at k ⊢; exact h4 k
    · rcases cases_ x hx with h1 | rfl
      · rw [tm_app_lt h1] at e; exact h.is_ x b h1 e
      · rw [tm_app_eq, hr.is_] at e; cases e

/-- two tables of the same types with the same solutions -/
structure Twins (T S : Ts) : Prop where
  good : Good T
  good' : Good S
  len : T.length = S.length
  sol : ∀ σ, Sol T σ ↔ Sol S σ
theorem Twins.refl {T : Ts} (h : Good T) : Twins T T := ⟨h, h, rfl, fun _ => Iff.rfl⟩
theorem Twins.symm {T S : Ts} (h : Twins T S) : Twins S T := ⟨h.good', h.good, h.len.symm, fun σ => (h.sol σ).symm⟩
theorem New.like {T S : Ts} {r : Tm} (h : New T r) (hl : T.length = S.length) : New S r := ⟨h.kind, fun e => by rw [← hl]; exact h.parts e, h.is_⟩
theorem Twins.app {T S : Ts} (h : Twins T S) {r : Tm} (hr : New T r) : Twins (T ++ [r]) (S ++ [r]) :=
  ⟨h.good.app hr, h.good'.app (hr.like h.len), by simp [h.len], fun σ => by rw [sol_app hr, sol_app (hr.like h.len), h.sol σ, h.len]⟩
/-- a good table has a solution -/
theorem Good.some {T : Ts} (h : Good T) : ∃ σ, Sol T σ ∧ ∀ x, x < T.length → Val T x (σ x) := by
  have : ∀ x, ∃ t, x < T.length → Val T x t := fun x => by
    by_cases hx : x < T.length
    · obtain ⟨t, ht⟩ := h.full x hx; exact ⟨t, fun _ => ht⟩
    · exact ⟨.int, fun hx' => absurd hx' hx⟩
  exact ⟨fun x => (this x).choose, Full.sol h.wf fun x hx => (this x).choose_spec hx, fun x hx => (this x).choose_spec hx⟩
/-- both make two one, or none does -/
theorem Twins.flag {T S T' S' : Ts} {a b : Nat} {p q : Bool} (h : Twins T S) (h1 : OneP T a b p T') (h2 : OneP S a b q S') : p = q := by
  cases p with
  | true =>
    cases q with
    | true => rfl
    | false =>
      obtain ⟨σ, hσ, _⟩ := h1.good.some
      have := (h1.yes rfl σ).1 hσ
      exact absurd this.2 (h2.no rfl σ ((h.sol σ).1 this.1))
  | false =>
    cases q with
    | true =>
      obtain ⟨σ, hσ, _⟩ := h2.good.some
      have := (h2.yes rfl σ).1 hσ
      exact absurd this.2 (h1.no rfl σ ((h.sol σ).2 this.1))
    | false => rfl
theorem Twins.one {T S T' S' : Ts} {a b : Nat} (h : Twins T S) (h1 : OneP T a b true T') (h2 : OneP S a b true S') : Twins T' S' :=
  ⟨h1.good, h2.good, by rw [h1.like.len, h2.like.len, h.len], fun σ => by rw [h1.yes rfl, h2.yes rfl, h.sol σ]⟩
/-- both have the same texts -/
theorem Twins.shows {T S : Ts} (h : Twins T S) {σ τ : Nat → Ty} (hσ : ∀ x, x < T.length → Val T x (σ x)) (hτ : ∀ x, x < S.length → Val S x (τ x)) (xs : List Int) : shows (picks T.length σ xs) [] = shows (picks S.length τ xs) [] :=
  shows_same h.good.wf h.good'.wf h.len h.sol hσ hτ xs

/-- equations one after the other: what is left has the solutions of all -/
structure All (T : Ts) (l : List (Nat × Nat)) (S : Ts) : Prop where
  like : Like T S
  good : Good S
  sol : ∀ σ, Sol S σ ↔ Sol T σ ∧ ∀ p ∈ l, σ p.1 = σ p.2
theorem All.nil {T : Ts} (h : Good T) : All T [] T := ⟨Like.refl T, h, fun _ => ⟨fun h => ⟨h, fun _ hp => by cases hp⟩, fun h => h.1⟩⟩
theorem All.snoc {T S R : Ts} {l : List (Nat × Nat)} {a b : Nat} (h : All T l S) (k : OneP S a b true R) : All T (l ++ [(a, b)]) R :=
  ⟨h.like.trans k.like, k.good, fun σ => by
    rw [k.yes rfl, h.sol]
    constructor
    · rintro ⟨⟨h1, h2⟩, h3⟩
      refine ⟨h1, fun p hp => ?_⟩
      rcases List.mem_append.1 hp with hp | hp
      · exact h2 p hp
      · rw [List.mem_singleton.1 hp]; exact h3
    · rintro ⟨h1, h2⟩
      exact ⟨⟨h1, fun p hp => h2 p (List.mem_append_left _ hp)⟩, h2 (a, b) (List.mem_append_right _ (List.mem_singleton.2 rfl))⟩⟩
/-- the same equations in any order: twins -/
theorem All.twins {T S R : Ts} {l k : List (Nat × Nat)} (h1 : All T l S) (h2 : All T k R) (e : ∀ p, p ∈ l ↔ p ∈ k) : Twins S R :=
  ⟨h1.good, h2.good, by rw [h1.like.len, h2.like.len], fun σ => by
    rw [h1.sol, h2.sol]
    exact ⟨fun h => ⟨h.1, fun p hp => h.2 p ((e p).2 hp)⟩, fun h => ⟨h.1, fun p hp => h.2 p ((e p).1 hp)⟩⟩⟩
/-- where all can be made one in an order, none fails in another -/
theorem All.never {T S R Q : Ts} {l k : List (Nat × Nat)} {a b : Nat} (h1 : All T l S) (h2 : All T k R) (e : ∀ p ∈ k, p ∈ l) (m : (a, b) ∈ l) (h3 : OneP R a b false Q) : False := by
  obtain ⟨σ, hσ, _⟩ := h1.good.some
  obtain ⟨h4, h5⟩ := (h1.sol σ).1 hσ
  exact h3.no rfl σ ((h2.sol σ).2 ⟨h4, fun p hp => h5 p (e p hp)⟩) (h5 _ m)
end Go.Proofs.YtjbihammbmiieaaDoor.Un
