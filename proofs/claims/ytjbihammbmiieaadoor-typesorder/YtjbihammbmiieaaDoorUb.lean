/- What is still to be done is never long. -/
import Derived.Test.YtjbihammbmiieaaDoorUs
namespace Go.Proofs.YtjbihammbmiieaaDoor.Un

/-- a tree that stands in another one -/
inductive PSub : Ty → Ty → Prop where
  | left (a b : Ty) : PSub a (.pair a b)
  | right (a b : Ty) : PSub b (.pair a b)
  | trans {a b c : Ty} (h : PSub a b) (k : PSub b c) : PSub a c
theorem PSub.lt {a b : Ty} (h : PSub a b) : a.size < b.size := by
  induction h with
  | left a b => rw [Ty.size]; omega
  | right a b => rw [Ty.size]; omega
  | trans _ _ h k => omega
theorem PSub.isPair {a b : Ty} (h : PSub a b) : ∃ s u, b = .pair s u := by
  induction h with
  | left a b => exact ⟨_, _, rfl⟩
  | right a b => exact ⟨_, _, rfl⟩
  | trans _ _ _ k => exact k
/-- the pair that is noted next -/
def near : List Step → Option Nat
  | [] => none
  | s :: l => if s.p then some s.a else near l
def Okk (A : (Nat → Ty) → Prop) : List Step → Prop
  | [] => True
  | s :: l => Okk A l ∧ ∀ p, near l = some p → ∀ σ, A σ → PSub (σ s.a) (σ p)
def parts : List Step → Nat
  | [] => 0
  | s :: l => (if s.p then 1 else 0) + parts l
def plain : List Step → Nat
  | [] => 0
  | s :: l => (if s.p then 0 else 1) + plain l
def Bal : List Step → Prop
  | [] => True
  | s :: l => plain (s :: l) ≤ parts (s :: l) + 1 ∧ (s.p = true → plain l ≤ parts l) ∧ Bal l
theorem Okk.mono {A B : (Nat → Ty) → Prop} (h : ∀ σ, B σ → A σ) : ∀ {l : List Step}, Okk A l → Okk B l
  | [], _ => trivial
  | _ :: _, k => ⟨Okk.mono h k.1, fun p e σ hσ => k.2 p e σ (h σ hσ)⟩
theorem len_parts : ∀ l : List Step, l.length = plain l + parts l
  | [] => rfl
  | s :: l => by
    have := len_parts l
    rw [List.length_cons, plain, parts]
    split <;> omega
structure Stk (A : (Nat → Ty) → Prop) (l : List Step) : Prop where
  ok : Okk A l
  bal : Bal l
theorem Stk.mono {A B : (Nat → Ty) → Prop} {l : List Step} (h : Stk A l) (k : ∀ σ, B σ → A σ) : Stk B l := ⟨h.ok.mono k, h.bal⟩
theorem Stk.tail {A : (Nat → Ty) → Prop} {s : Step} {l : List Step} (h : Stk A (s :: l)) : Stk A l := ⟨h.ok.1, h.bal.2.2⟩
theorem Stk.start (A : (Nat → Ty) → Prop) (a b : Nat) : Stk A [⟨a, b, false⟩] := ⟨⟨trivial, fun p e => (by cases e)⟩, ⟨Nat.le_refl _, fun e => (by cases e), trivial⟩⟩
theorem Stk.push {T : Ts} (hT : WF T) {s : Step} {l : List Step} {n a b y z : Nat} (h : Stk (Sol T) (s :: l)) (hp : s.p = false) (hs : s.a < T.length) (ka : To T n s.a a) (h4 : (tm T a).kind = 4) : Stk (Sol T) (⟨(tm T a).a, y, false⟩ :: ⟨(tm T a).b, z, false⟩ :: ⟨a, b, true⟩ :: l) := by
  have ha := ka.lt hT hs
  obtain ⟨h1, h2⟩ := h.ok
  obtain ⟨b1, b2, b3⟩ := h.bal
  have e : plain l ≤ parts l := by
    simp only [plain, parts, hp, Bool.false_eq_true, if_false] at b1; omega
  refine ⟨⟨⟨⟨h1, fun p hpn σ hσ => ?_⟩, fun p hpn σ hσ => ?_⟩, fun p hpn σ hσ => ?_⟩, ?_⟩
  · rw [← (ka.sol hT hσ hs).1]; exact h2 p hpn σ hσ
  · have hpn' : some a = some p := hpn
    injection hpn' with hpn'; subst hpn'
    rw [hσ.pair a ha h4]; exact .right _ _
  · have hpn' : some a = some p := hpn
    injection hpn' with hpn'; subst hpn'
    rw [hσ.pair a ha h4]; exact .left _ _
  · simp only [Bal, plain, parts, Bool.false_eq_true, if_false, if_true]
    refine ⟨by omega, fun e => (by cases e), by omega, fun e => (by cases e), by omega, fun _ => e, b3⟩
theorem parts_few {T : Ts} (hT : Good T) {τ : Nat → Ty} (hτ : Sol T τ) (hv : ∀ x, x < T.length → Val T x (τ x)) : ∀ {l : List Step}, (∀ s ∈ l, s.a < T.length ∧ s.b < T.length) → Okk (Sol T) l →
    (near l = none → parts l = 0) ∧ ∀ p, near l = some p → p < T.length ∧ parts l + few T (τ p).size ≤ T.length + 1
  | [], _, _ => ⟨fun _ => rfl, fun p e => (by cases e)⟩
  | s :: l, hl, h => by
    obtain ⟨i1, i2⟩ := parts_few hT hτ hv (l := l) (fun x hx => hl x (List.mem_cons_of_mem _ hx)) h.1
    have hs := (hl s (List.mem_cons_self ..)).1
    by_cases hp : s.p = true
    · refine ⟨fun e => (by rw [near, if_pos hp] at e; cases e), fun p e => ?_⟩
      rw [near, if_pos hp] at e; injection e with e; subst e
      refine ⟨hs, ?_⟩
      rw [parts, if_pos hp]
      cases hn : near l with
      | none =>
        rw [i1 hn]
        have := few_le T (τ s.a).size
        have := pairs_le T
        omega
      | some q =>
        obtain ⟨hq, hc⟩ := i2 q hn
        have hsub := h.2 q hn τ hτ
        obtain ⟨x, y, e⟩ := hsub.isPair
        have hvq := hv q hq
        obtain ⟨n, r, hto, hvr⟩ := hvq.to
        have hr := hto.lt hT.wf hq
        rw [e] at hvr
        have k4 : (tm T r).kind = 4 := by
          cases hvr with
          | is_ k _ => rw [hto.root] at k; cases k
          | pair _ k _ _ => exact k
        have := few_lt (k := (τ s.a).size) (m := (τ q).size) hr hto.root k4 hvr (by rw [← e]; exact hsub.lt) (by rw [e]; exact Nat.le_refl _)
        omega
    · have hp' : s.p = false := by simpa using hp
      rw [near, if_neg hp, parts, if_neg hp]
      exact ⟨fun e => (by rw [i1 e]), fun p e => by obtain ⟨j1, j2⟩ := i2 p e; exact ⟨j1, by omega⟩⟩
/-- it is never long -/
theorem Stk.short {G : (Nat → Ty) → Prop} {T : Ts} {l : List Step} (h : Stk (Sol T) l) (k : Todo G T l) : l.length ≤ 2 * T.length + 3 := by
  obtain ⟨τ, hτ, hv⟩ := k.good.some
  obtain ⟨h1, h2⟩ := parts_few k.good hτ hv k.ins h.ok
  have hp : parts l ≤ T.length + 1 := by
    cases e : near l with
    | none => rw [h1 e]; omega
    | some p => have := (h2 p e).2; omega
  have hb : plain l ≤ parts l + 1 := by
    cases l with
    | nil => exact Nat.zero_le _
    | cons s l => exact h.bal.1
  rw [len_parts]; omega
end Go.Proofs.YtjbihammbmiieaaDoor.Un
