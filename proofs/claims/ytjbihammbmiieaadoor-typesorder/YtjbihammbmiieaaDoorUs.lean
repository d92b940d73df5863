/- What is still to be done when two types are made one, as a list: what it stands for, and that it comes to its end. -/
import Derived.Test.YtjbihammbmiieaaDoorUm
namespace Go.Proofs.YtjbihammbmiieaaDoor.Un

structure Step where
  a : Nat
  b : Nat
  p : Bool
def Eqs (l : List Step) (σ : Nat → Ty) : Prop := ∀ s ∈ l, s.p = false → σ s.a = σ s.b
/-- what is only noted holds by then -/
def Just (A : (Nat → Ty) → Prop) : List Step → Prop
  | [] => True
  | s :: l => (s.p = true → ∀ σ, A σ → σ s.a = σ s.b) ∧ Just (fun σ => A σ ∧ (s.p = false → σ s.a = σ s.b)) l
theorem Just.mono : ∀ {l : List Step} {A B : (Nat → Ty) → Prop}, (∀ σ, B σ → A σ) → Just A l → Just B l
  | [], _, _, _, _ => trivial
  | _ :: _, _, _, h, k => ⟨fun e σ hσ => k.1 e σ (h σ hσ), Just.mono (fun σ hσ => ⟨h σ hσ.1, hσ.2⟩) k.2⟩
structure Todo (G : (Nat → Ty) → Prop) (T : Ts) (l : List Step) : Prop where
  good : Good T
  ins : ∀ s ∈ l, s.a < T.length ∧ s.b < T.length
  sol : ∀ σ, G σ ↔ Sol T σ ∧ Eqs l σ
  just : Just (Sol T) l
def wt (τ : Nat → Ty) : List Step → Nat
  | [] => 0
  | s :: l => (if s.p then 1 else 3 * (τ s.a).size) + wt τ l
def big (n : Nat) : Nat := 3 * 2 ^ (n + 1) + 1
def Ranked (T : Ts) (l : List Step) (n : Nat) : Prop := ∃ τ : Nat → Ty, (∀ x, x < T.length → Val T x (τ x)) ∧ wt τ l * big T.length ^ opens T = n

theorem Ranked.some {T : Ts} (h : Good T) (l : List Step) : ∃ n, Ranked T l n := by
  obtain ⟨σ, _, h2⟩ := h.some
  exact ⟨_, σ, h2, rfl⟩
theorem Ranked.same {T S : Ts} {l : List Step} {n : Nat} (h : Ranked T l n) (k : Same T S) : Ranked S l n := by
  obtain ⟨τ, h1, h2⟩ := h
  exact ⟨τ, fun x hx => k.val x _ (by rw [← k.len]; exact hx) (h1 x (by rw [← k.len]; exact hx)), by rw [k.len, k.opens]; exact h2⟩
theorem Todo.same {G : (Nat → Ty) → Prop} {T S : Ts} {l : List Step} (h : Todo G T l) (k : Same T S) : Todo G S l :=
  ⟨k.good, fun s hs => by rw [k.len]; exact h.ins s hs, fun σ => by rw [k.sol h.good]; exact h.sol σ, h.just.mono fun σ hσ => (k.sol h.good σ).1 hσ⟩
theorem Todo.start {T : Ts} {a b : Nat} (h : Good T) (ha : a < T.length) (hb : b < T.length) : Todo (fun σ => Sol T σ ∧ σ a = σ b) T [⟨a, b, false⟩] :=
  ⟨h, fun s hs => by rw [List.mem_singleton.1 hs]; exact ⟨ha, hb⟩, fun σ => ⟨fun k => ⟨k.1, fun s hs _ => by rw [List.mem_singleton.1 hs]; exact k.2⟩, fun k => ⟨k.1, k.2 _ (List.mem_singleton.2 rfl) rfl⟩⟩, ⟨fun e => (by cases e), trivial⟩⟩
theorem eqs_cons {s : Step} {l : List Step} {σ : Nat → Ty} : Eqs (s :: l) σ ↔ (s.p = false → σ s.a = σ s.b) ∧ Eqs l σ :=
  ⟨fun h => ⟨fun e => h s (List.mem_cons_self ..) e, fun x hx => h x (List.mem_cons_of_mem _ hx)⟩, fun h x hx e => by
    rcases List.mem_cons.1 hx with rfl | hx
    · exact h.1 e
    · exact h.2 x hx e⟩
theorem Todo.skip {G : (Nat → Ty) → Prop} {T : Ts} {s : Step} {l : List Step} (h : Todo G T (s :: l)) (k : ∀ σ, Sol T σ → σ s.a = σ s.b) : Todo G T l :=
  ⟨h.good, fun x hx => h.ins x (List.mem_cons_of_mem _ hx), fun σ => by
    rw [h.sol, eqs_cons]
    exact ⟨fun q => ⟨q.1, q.2.2⟩, fun q => ⟨q.1, fun _ => k σ q.1, q.2⟩⟩, h.just.2.mono fun σ hσ => ⟨hσ, fun _ => k σ hσ⟩⟩
theorem big_pos (n : Nat) : 0 < big n := by unfold big; omega
theorem pow_pos' (n k : Nat) : 0 < big n ^ k := Nat.pow_pos (big_pos n)
theorem wt_pos (τ : Nat → Ty) (s : Step) : 1 ≤ (if s.p then 1 else 3 * (τ s.a).size) := by
  split
  · exact Nat.le_refl _
  · have := (τ s.a).size_pos; omega
theorem Ranked.skip {T : Ts} {s : Step} {l : List Step} {n : Nat} (h : Ranked T (s :: l) n) : ∃ m, m < n ∧ Ranked T l m := by
  obtain ⟨τ, h1, h2⟩ := h
  refine ⟨_, ?_, τ, h1, rfl⟩
  rw [← h2]
  refine Nat.mul_lt_mul_of_pos_right ?_ (pow_pos' _ _)
  rw [wt]; have := wt_pos τ s; omega
theorem wt_le {T : Ts} (hT : WF T) {τ τ' : Nat → Ty} (h : ∀ x, x < T.length → Val T x (τ' x)) : ∀ {l : List Step}, (∀ s ∈ l, s.a < T.length ∧ s.b < T.length) → wt τ' l ≤ 3 * 2 ^ (T.length + 1) * wt τ l
  | [], _ => Nat.le_refl _
  | s :: l, hl => by
    have ih := wt_le hT (τ := τ) h (l := l) (fun x hx => hl x (List.mem_cons_of_mem _ hx))
    have hs := size_len hT (h s.a (hl s (List.mem_cons_self ..)).1) (hl s (List.mem_cons_self ..)).1
    have h1 := wt_pos τ s
    rw [wt, wt, Nat.mul_add]
    refine Nat.add_le_add (Nat.le_trans ?_ (Nat.mul_le_mul_left (3 * 2 ^ (T.length + 1)) h1)) ih
    split
    · have := Nat.two_pow_pos (T.length + 1); omega
    · omega
theorem Ranked.bind {T S : Ts} {s : Step} {l : List Step} {n : Nat} (h : Ranked T (s :: l) n) (hS : Good S) (hl : S.length = T.length) (ho : opens S < opens T) (hi : ∀ s ∈ l, s.a < T.length ∧ s.b < T.length) : ∃ m, m < n ∧ Ranked S l m := by
  obtain ⟨τ, h1, h2⟩ := h
  obtain ⟨τ', _, h3⟩ := hS.some
  refine ⟨_, ?_, τ', h3, rfl⟩
  have w1 := wt_le hS.wf (τ := τ) h3 (l := l) (by rw [hl]; exact hi)
  rw [hl] at w1 ⊢
  rw [← h2]
  have w2 : 1 ≤ wt τ (s :: l) := by rw [wt]; have := wt_pos τ s; omega
  have w3 : wt τ l ≤ wt τ (s :: l) := by rw [wt]; omega
  have e : big T.length = 3 * 2 ^ (T.length + 1) + 1 := rfl
  have p1 : big T.length ^ (opens S + 1) ≤ big T.length ^ opens T := Nat.pow_le_pow_right (big_pos _) ho
  refine Nat.lt_of_lt_of_le ?_ (Nat.mul_le_mul_left _ p1)
  rw [Nat.pow_succ, Nat.mul_comm (big T.length ^ opens S), ← Nat.mul_assoc]
  refine Nat.mul_lt_mul_of_pos_right ?_ (pow_pos' _ _)
  calc wt τ' l ≤ 3 * 2 ^ (T.length + 1) * wt τ (s :: l) := Nat.le_trans w1 (Nat.mul_le_mul_left _ w3)
    _ < wt τ (s :: l) * big T.length := by rw [Nat.mul_comm, e, Nat.mul_add, Nat.mul_one]; omega
theorem Todo.bind {G : (Nat → Ty) → Prop} {T S : Ts} {s : Step} {l : List Step} (h : Todo G T (s :: l)) (hp : s.p = false) (k : OneP T s.a s.b true S) : Todo G S l :=
  ⟨k.good, fun x hx => by rw [k.like.len]; exact h.ins x (List.mem_cons_of_mem _ hx), fun σ => by
    rw [h.sol, eqs_cons, k.yes rfl]
    exact ⟨fun q => ⟨⟨q.1, q.2.1 hp⟩, q.2.2⟩, fun q => ⟨q.1.1, fun _ => q.1.2, q.2⟩⟩, h.just.2.mono fun σ hσ => ⟨((k.yes rfl σ).1 hσ).1, fun _ => ((k.yes rfl σ).1 hσ).2⟩⟩
theorem Todo.no {G : (Nat → Ty) → Prop} {T S : Ts} {s : Step} {l : List Step} (h : Todo G T (s :: l)) (hp : s.p = false) (k : OneP T s.a s.b false S) (σ : Nat → Ty) : ¬ G σ := fun g => by
  obtain ⟨h1, h2⟩ := (h.sol σ).1 g
  exact k.no rfl σ h1 ((eqs_cons.1 h2).1 hp)
theorem Todo.done {G : (Nat → Ty) → Prop} {T : Ts} (h : Todo G T []) (σ : Nat → Ty) : G σ ↔ Sol T σ := (h.sol σ).trans ⟨fun q => q.1, fun q => ⟨q, fun _ hs => by cases hs⟩⟩
section
variable {T : Ts} {a b n m : Nat} {s : Step} {l : List Step}
theorem Todo.push {G : (Nat → Ty) → Prop} (h : Todo G T (s :: l)) (hp : s.p = false) (ka : To T n s.a a) (kb : To T m s.b b) (h4 : (tm T a).kind = 4) (k4 : (tm T b).kind = 4) :
    Todo G T (⟨(tm T a).a, (tm T b).a, false⟩ :: ⟨(tm T a).b, (tm T b).b, false⟩ :: ⟨a, b, true⟩ :: l) := by
  obtain ⟨hsa, hsb⟩ := h.ins s (List.mem_cons_self ..)
  have ha := ka.lt h.good.wf hsa
  have hb := kb.lt h.good.wf hsb
  have pa := h.good.wf.parts a ha h4
  have pb := h.good.wf.parts b hb k4
  have eq : ∀ σ, Sol T σ → (σ s.a = σ s.b ↔ σ (tm T a).a = σ (tm T b).a ∧ σ (tm T a).b = σ (tm T b).b) := fun σ hσ => by
    rw [(ka.sol h.good.wf hσ hsa).1, (kb.sol h.good.wf hσ hsb).1, hσ.pair a ha h4, hσ.pair b hb k4]
    exact ⟨fun e => by injection e with e1 e2; exact ⟨e1, e2⟩, fun e => by rw [e.1, e.2]⟩
  refine ⟨h.good, fun x hx => ?_, fun σ => ?_, ⟨fun e => (by cases e), fun e => (by cases e), fun _ σ hσ => ?_, h.just.2.mono fun σ hσ => ?_⟩⟩
  · rcases List.mem_cons.1 hx with rfl | hx
    · exact ⟨pa.1, pb.1⟩
    rcases List.mem_cons.1 hx with rfl | hx
    · exact ⟨pa.2, pb.2⟩
    rcases List.mem_cons.1 hx with rfl | hx
    · exact ⟨ha, hb⟩
    · exact h.ins x (List.mem_cons_of_mem _ hx)
  · rw [h.sol, eqs_cons, eqs_cons, eqs_cons, eqs_cons]
    constructor
    · rintro ⟨h1, h2, h3⟩
      have := (eq σ h1).1 (h2 hp)
      exact ⟨h1, fun _ => this.1, fun _ => this.2, fun e => (by cases e), h3⟩
    · rintro ⟨h1, h2, h3, _, h4⟩
      exact ⟨h1, fun _ => (eq σ h1).2 ⟨h2 rfl, h3 rfl⟩, h4⟩
  · obtain ⟨⟨h1, h2⟩, h3⟩ := hσ
    rw [← (ka.sol h.good.wf h1 hsa).1, ← (kb.sol h.good.wf h1 hsb).1]
    exact (eq σ h1).2 ⟨h2 rfl, h3 rfl⟩
  · obtain ⟨⟨⟨h1, h2⟩, h3⟩, _⟩ := hσ
    exact ⟨h1, fun _ => (eq σ h1).2 ⟨h2 rfl, h3 rfl⟩⟩
theorem Ranked.push (h : Ranked T (s :: l) n) (hT : WF T) (hp : s.p = false) (hs : s.a < T.length) (ka : To T m s.a a) (na : (tm T a).is_ = none) (h4 : (tm T a).kind = 4) (x y : Nat) :
    ∃ m, m < n ∧ Ranked T (⟨(tm T a).a, x, false⟩ :: ⟨(tm T a).b, y, false⟩ :: ⟨a, b, true⟩ :: l) m := by
  obtain ⟨τ, h1, h2⟩ := h
  refine ⟨_, ?_, τ, h1, rfl⟩
  rw [← h2]
  refine Nat.mul_lt_mul_of_pos_right ?_ (pow_pos' _ _)
  have ha := ka.lt hT hs
  have pa := hT.parts a ha h4
  have e1 : τ s.a = .pair (τ (tm T a).a) (τ (tm T a).b) := (h1 _ hs).same (ka.val (.pair na h4 (h1 _ pa.1) (h1 _ pa.2)))
  have e2 : (τ s.a).size = (τ (tm T a).a).size + (τ (tm T a).b).size + 1 := by rw [e1]; rfl
  simp only [wt, hp, e2]
  simp only [Bool.false_eq_true, if_false, if_true]
  omega
/-- int, bool and unit are there once -/
def Uniq (T : Ts) : Prop := ∀ x, x < T.length → (tm T x).kind ≠ 0 → (tm T x).kind ≠ 4 → (tm T x).kind = x + 1
theorem Uniq.alike (hu : Uniq T) (ha : a < T.length) (hb : b < T.length) (hne : a ≠ b) (na : (tm T a).is_ = none) (nb : (tm T b).is_ = none) {t : Ty} (h1 : Val T a t) (h2 : Val T b t) : ∃ s u, t = .pair s u := by
  have one : ∀ {x : Nat}, x < T.length → (tm T x).kind ≠ 0 → (tm T x).kind ≠ 4 → (tm T x).kind = x + 1 := fun hx => hu _ hx
  cases h1 with
  | is_ k _ => rw [na] at k; cases k
  | var _ k =>
    cases h2 with
    | is_ k' _ => rw [nb] at k'; cases k'
    | var _ _ => exact absurd rfl hne
  | int _ k =>
    cases h2 with
    | is_ k' _ => rw [nb] at k'; cases k'
    | int _ k' => have := one ha (by omega) (by omega); have := one hb (by omega) (by omega); omega
  | bool _ k =>
    cases h2 with
    | is_ k' _ => rw [nb] at k'; cases k'
    | bool _ k' => have := one ha (by omega) (by omega); have := one hb (by omega) (by omega); omega
  | unit _ k =>
    cases h2 with
    | is_ k' _ => rw [nb] at k'; cases k'
    | unit _ k' => have := one ha (by omega) (by omega); have := one hb (by omega) (by omega); omega
  | pair _ _ _ _ => exact ⟨_, _, rfl⟩
/-- a noted pair, told -/
theorem Todo.told {G : (Nat → Ty) → Prop} (h : Todo G T (s :: l)) (hu : Uniq T) (hp : s.p = true) (ka : To T n s.a a) (kb : To T m s.b b) (hne : a ≠ b) : Same T (T.set a (told b)) := by
  obtain ⟨hsa, hsb⟩ := h.ins s (List.mem_cons_self ..)
  have ha := ka.lt h.good.wf hsa
  have hb := kb.lt h.good.wf hsb
  obtain ⟨σ, h1, h2⟩ := h.good.some
  have e := h.just.1 hp σ h1
  have va : Val T a (σ s.a) := by obtain ⟨t, ht⟩ := h.good.full a ha; rw [(h2 _ hsa).same (ka.val ht)]; exact ht
  have vb : Val T b (σ s.a) := by obtain ⟨t, ht⟩ := h.good.full b hb; rw [e, (h2 _ hsb).same (kb.val ht)]; exact ht
  obtain ⟨x, y, e2⟩ := hu.alike ha hb hne ka.root kb.root va vb
  rw [e2] at va vb
  exact alike h.good ha hb hne ka.root kb.root va vb
/-- two that can't be one -/
theorem clash (hT : Good T) (hu : Uniq T) (ha : a < T.length) (hb : b < T.length) (hne : a ≠ b) (na : (tm T a).is_ = none) (nb : (tm T b).is_ = none) (h1 : (tm T a).kind = 0 → ∀ t, Val T b t → t.Occ a) (h2 : (tm T b).kind = 0 → ∀ t, Val T a t → t.Occ b) (h4 : ¬ ((tm T a).kind = 4 ∧ (tm T b).kind = 4)) : OneP T a b false T := by
  by_cases ka : (tm T a).kind = 0
  · obtain ⟨t, ht⟩ := hT.full b hb
    refine one_occ hT hb ht (h1 ka t ht) fun e => ?_
    subst e
    cases ht with
    | is_ k _ => rw [nb] at k; cases k
    | var _ _ => exact hne rfl
  by_cases kb : (tm T b).kind = 0
  · obtain ⟨t, ht⟩ := hT.full a ha
    refine (one_occ hT ha ht (h2 kb t ht) fun e => ?_).symm
    subst e
    cases ht with
    | is_ k _ => rw [na] at k; cases k
    | var _ _ => exact hne rfl
  refine one_clash hT ha hb ka kb fun e => ?_
  by_cases k4 : (tm T a).kind = 4
  · exact h4 ⟨k4, by omega⟩
  · have := hu a ha ka k4
    have := hu b hb kb (by omega)
    omega

/-- a tree that is in a list, or has no open ones -/
def Cov (T : Ts) (l : List Nat) (t : Ty) : Prop := (∀ n, ¬ t.Occ n) ∨ ∃ y ∈ l, Val T y t
theorem cov_occ {l : List Nat} (h1 : ∀ y ∈ l, (tm T y).is_ = none) (h2 : ∀ y ∈ l, ∀ s u, Val T y (.pair s u) → Cov T l s ∧ Cov T l u) : ∀ (t : Ty) (y : Nat), y ∈ l → Val T y t → t.Occ a → a ∈ l
  | .var n, y, hy, hv, ho => by
    have hr := h1 y hy
    cases hv with
    | is_ k _ => rw [hr] at k; cases k
    | var _ _ => have e : a = _ := ho; rw [e]; exact hy
  | .pair s u, y, hy, hv, ho => by
    obtain ⟨c1, c2⟩ := h2 y hy s u hv
    rcases ho with ho | ho
    · rcases c1 with c | ⟨z, hz, hv⟩
      · exact absurd ho (c a)
      · exact cov_occ h1 h2 s z hz hv ho
    · rcases c2 with c | ⟨z, hz, hv⟩
      · exact absurd ho (c a)
      · exact cov_occ h1 h2 u z hz hv ho
end
end Go.Proofs.YtjbihammbmiieaaDoor.Un
