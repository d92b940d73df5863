/- Making two types one: what each case of it does to a table's solutions, and what gets smaller. -/
import Derived.Test.YtjbihammbmiieaaDoorTx
namespace Go.Proofs.YtjbihammbmiieaaDoor.Un

/-- from a type to what it is told to be, in so many steps -/
inductive To (T : Ts) : Nat → Nat → Nat → Prop where
  | here {x : Nat} (h : (tm T x).is_ = none) : To T 0 x x
  | step {n x b y : Nat} (h : (tm T x).is_ = some b) (k : To T n b y) : To T (n + 1) x y
theorem To.root {T : Ts} {n x y : Nat} (h : To T n x y) : (tm T y).is_ = none := by
  induction h with
  | here h => exact h
  | step _ _ ih => exact ih
theorem To.val {T : Ts} {n x y : Nat} {t : Ty} (h : To T n x y) (k : Val T y t) : Val T x t := by
  induction h with
  | here _ => exact k
  | step h1 _ ih => exact .is_ h1 (ih k)
theorem To.sol {T : Ts} (hT : WF T) {σ : Nat → Ty} (hσ : Sol T σ) {n x y : Nat} (h : To T n x y) (hx : x < T.length) : σ x = σ y ∧ y < T.length := by
  induction h with
  | here _ => exact ⟨rfl, hx⟩
  | step h1 _ ih =>
    have h2 := ih (hT.is_ _ _ hx h1).2
    exact ⟨(hσ.is_ _ _ hx h1).trans h2.1, h2.2⟩
theorem To.lt {T : Ts} (hT : WF T) {n x y : Nat} (h : To T n x y) (hx : x < T.length) : y < T.length := by
  induction h with
  | here _ => exact hx
  | step h1 _ ih => exact ih (hT.is_ _ _ hx h1).2
/-- whatever stands for a tree leads to one that is told nothing -/
theorem Val.to {T : Ts} {x : Nat} {t : Ty} (h : Val T x t) : ∃ n y, To T n x y ∧ Val T y t := by
  induction h with
  | is_ h1 _ ih => obtain ⟨n, y, h2, h3⟩ := ih; exact ⟨n + 1, y, .step h1 h2, h3⟩
  | var h k => exact ⟨0, _, .here h, .var h k⟩
  | int h k => exact ⟨0, _, .here h, .int h k⟩
  | bool h k => exact ⟨0, _, .here h, .bool h k⟩
  | unit h k => exact ⟨0, _, .here h, .unit h k⟩
  | pair h k l r => exact ⟨0, _, .here h, .pair h k l r⟩
theorem To.same {T : Ts} {n m x y z : Nat} (h : To T n x y) (k : To T m x z) : y = z ∧ n = m := by
  induction h generalizing m with
  | here h =>
    cases k with
    | here _ => exact ⟨rfl, rfl⟩
    | step k1 _ => rw [h] at k1; cases k1
  | step h1 _ ih =>
    cases k with
    | here k1 => rw [h1] at k1; cases k1
    | step k1 k2 => rw [h1] at k1; injection k1 with e; subst e; obtain ⟨e1, e2⟩ := ih k2; exact ⟨e1, by rw [e2]⟩

/-- how many are open -/
def isOpen (r : Tm) : Bool := r.kind == 0 && r.is_.isNone
def opens (T : Ts) : Nat := T.countP isOpen
theorem count_set {p : Tm → Bool} : ∀ {l : List Tm} {i : Nat} {x y : Tm}, l[i]? = some x → p x = true → p y = false → (l.set i y).countP p + 1 = l.countP p
  | [], i, x, y, h, _, _ => by simp at h
  | z :: l, 0, x, y, h, h1, h2 => by
    rw [List.getElem?_cons_zero] at h; injection h with e; subst e
    rw [List.set_cons_zero, List.countP_cons_of_neg (by rw [h2]; decide), List.countP_cons_of_pos h1]
  | z :: l, i + 1, x, y, h, h1, h2 => by
    rw [List.getElem?_cons_succ] at h
    have := count_set (l := l) h h1 h2
    rw [List.set_cons_succ, List.countP_cons, List.countP_cons]; omega
theorem opens_bind {T : Ts} {a b : Nat} (ha : a < T.length) (hk : (tm T a).kind = 0) (hn : (tm T a).is_ = none) : opens (bind T a b) + 1 = opens T := by
  refine count_set (x := tm T a) ?_ ?_ ?_
  · simp [tm, List.getD_eq_getElem?_getD, List.getElem?_eq_getElem ha]
  · simp [isOpen, hk, hn]
  · simp [isOpen]

/-- the same types, but for what they are told to be -/
structure Like (T S : Ts) : Prop where
  len : S.length = T.length
  kind : ∀ x, (tm S x).kind = (tm T x).kind ∧ (tm S x).a = (tm T x).a ∧ (tm S x).b = (tm T x).b
theorem Like.refl (T : Ts) : Like T T := ⟨rfl, fun _ => ⟨rfl, rfl, rfl⟩⟩
theorem Like.trans {A B C : Ts} (h : Like A B) (k : Like B C) : Like A C := ⟨k.len.trans h.len, fun x => ⟨(k.kind x).1.trans (h.kind x).1, (k.kind x).2.1.trans (h.kind x).2.1, (k.kind x).2.2.trans (h.kind x).2.2⟩⟩
/-- a table in order -/
structure Good (T : Ts) : Prop where
  wf : WF T
  full : Full T
/-- what making a and b one leaves: ok, with the solutions where both are one; or there is none -/
structure OneP (T : Ts) (a b : Nat) (ok : Bool) (S : Ts) : Prop where
  like : Like T S
  good : Good S
  less : S = T ∨ opens S < opens T
  yes : ok = true → ∀ σ, Sol S σ ↔ Sol T σ ∧ σ a = σ b
  no : ok = false → ∀ σ, Sol T σ → σ a ≠ σ b

section
variable {T : Ts} {a b x y n m : Nat}
theorem one_same (hT : Good T) (ha : a < T.length) (hb : b < T.length) (ka : To T n a x) (kb : To T m b x) : OneP T a b true T :=
  ⟨Like.refl T, hT, .inl rfl, fun _ σ => ⟨fun h => ⟨h, (ka.sol hT.wf h ha).1.trans (kb.sol hT.wf h hb).1.symm⟩, fun h => h.1⟩, fun e => by cases e⟩
theorem OneP.symm {ok : Bool} {S : Ts} (h : OneP T a b ok S) : OneP T b a ok S :=
  ⟨h.like, h.good, h.less, fun e σ => (h.yes e σ).trans ⟨fun k => ⟨k.1, k.2.symm⟩, fun k => ⟨k.1, k.2.symm⟩⟩, fun e σ k e1 => h.no e σ k e1.symm⟩
/-- it hangs on what they are told to be alone -/
theorem OneP.at_ {ok : Bool} {S : Ts} (hT : Good T) (ha : a < T.length) (hb : b < T.length) (ka : To T n a x) (kb : To T m b y) (h : OneP T x y ok S) : OneP T a b ok S :=
  ⟨h.like, h.good, h.less, fun e σ => (h.yes e σ).trans ⟨fun k => ⟨k.1, by rw [(ka.sol hT.wf k.1 ha).1, (kb.sol hT.wf k.1 hb).1]; exact k.2⟩, fun k => ⟨k.1, by rw [← (ka.sol hT.wf k.1 ha).1, ← (kb.sol hT.wf k.1 hb).1]; exact k.2⟩⟩,
    fun e σ k e1 => h.no e σ k (by rw [← (ka.sol hT.wf k ha).1, ← (kb.sol hT.wf k hb).1]; exact e1)⟩
theorem one_bind {u : Ty} (hT : Good T) (ha : a < T.length) (hb : b < T.length) (hk : (tm T a).kind = 0) (hn : (tm T a).is_ = none) (hu : Val T b u) (ho : ¬ u.Occ a) : OneP T a b true (bind T a b) :=
  ⟨⟨bind_len T a b, bind_kind ha⟩, ⟨hT.wf.bind ha hk hb, Full.bind hT.full ha hk hn hu ho⟩, .inr (by have := opens_bind (b := b) ha hk hn; omega), fun _ σ => sol_bind ha hk hn σ, fun e => by cases e⟩
theorem one_occ {u : Ty} (hT : Good T) (hb : b < T.length) (hu : Val T b u) (ho : u.Occ a) (hne : u ≠ .var a) : OneP T a b false T :=
  ⟨Like.refl T, hT, .inl rfl, fun e => (by cases e), fun _ σ h => by rw [hu.sol hT.wf h hb]; exact Ty.occ_ne ho hne⟩
/-- a tree's head -/
def hd : Ty → Nat
  | .var _ => 0
  | .int => 1
  | .bool => 2
  | .unit => 3
  | .pair _ _ => 4
theorem Sol.head {σ : Nat → Ty} (h : Sol T σ) (hT : WF T) (ha : a < T.length) (hk : (tm T a).kind ≠ 0) : hd (σ a) = (tm T a).kind := by
  have h1 := hT.kind a ha
  rcases (show (tm T a).kind = 1 ∨ (tm T a).kind = 2 ∨ (tm T a).kind = 3 ∨ (tm T a).kind = 4 by omega) with k | k | k | k
  · rw [h.int a ha k, k]; rfl
  · rw [h.bool a ha k, k]; rfl
  · rw [h.unit a ha k, k]; rfl
  · rw [h.pair a ha k, k]; rfl
theorem one_clash (hT : Good T) (ha : a < T.length) (hb : b < T.length) (hka : (tm T a).kind ≠ 0) (hkb : (tm T b).kind ≠ 0) (hne : (tm T a).kind ≠ (tm T b).kind) : OneP T a b false T :=
  ⟨Like.refl T, hT, .inl rfl, fun e => (by cases e), fun _ σ h e => hne (by rw [← h.head hT.wf ha hka, ← h.head hT.wf hb hkb, e])⟩
theorem one_leaf (hT : Good T) (ha : a < T.length) (hb : b < T.length) (hka : (tm T a).kind ≠ 0) (h4 : (tm T a).kind ≠ 4) (he : (tm T a).kind = (tm T b).kind) : OneP T a b true T := by
  refine ⟨Like.refl T, hT, .inl rfl, fun _ σ => ⟨fun h => ⟨h, ?_⟩, fun h => h.1⟩, fun e => by cases e⟩
  have h1 := hT.wf.kind a ha
  rcases (show (tm T a).kind = 1 ∨ (tm T a).kind = 2 ∨ (tm T a).kind = 3 by omega) with k | k | k
  · rw [h.int a ha k, h.int b hb (he ▸ k)]
  · rw [h.bool a ha k, h.bool b hb (he ▸ k)]
  · rw [h.unit a ha k, h.unit b hb (he ▸ k)]
theorem one_first {S : Ts} (ha : a < T.length) (hb : b < T.length) (hka : (tm T a).kind = 4) (hkb : (tm T b).kind = 4) (h1 : OneP T (tm T a).a (tm T b).a false S) : OneP T a b false S :=
  ⟨h1.like, h1.good, h1.less, fun e => (by cases e), fun _ σ h e => by
    rw [h.pair a ha hka, h.pair b hb hkb] at e
    injection e with e1 e2
    exact h1.no rfl σ h e1⟩
theorem one_pair {S R : Ts} {ok : Bool} (ha : a < T.length) (hb : b < T.length) (hka : (tm T a).kind = 4) (hkb : (tm T b).kind = 4) (h1 : OneP T (tm T a).a (tm T b).a true S) (h2 : OneP S (tm T a).b (tm T b).b ok R) : OneP T a b ok R := by
  refine ⟨h1.like.trans h2.like, h2.good, ?_, fun e σ => ?_, fun e σ h e' => ?_⟩
  · rcases h1.less with e1 | e1
    · subst e1; exact h2.less
    · rcases h2.less with e2 | e2
      · subst e2; exact .inr e1
      · exact .inr (Nat.lt_trans e2 e1)
  · rw [h2.yes e σ, h1.yes rfl σ]
    constructor
    · rintro ⟨⟨h, e1⟩, e2⟩
      exact ⟨h, by rw [h.pair a ha hka, h.pair b hb hkb, e1, e2]⟩
    · rintro ⟨h, e1⟩
      rw [h.pair a ha hka, h.pair b hb hkb] at e1
      injection e1 with e1 e2
      exact ⟨⟨h, e1⟩, e2⟩
  · rw [h.pair a ha hka, h.pair b hb hkb] at e'
    injection e' with e1 e2
    exact h2.no e σ ((h1.yes rfl σ).2 ⟨h, e1⟩) e2
end
end Go.Proofs.YtjbihammbmiieaaDoor.Un
