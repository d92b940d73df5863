/- The texts of types: what is open is numbered as it comes, so that other names for what is open give the same texts. -/
import Derived.Test.YtjbihammbmiieaaDoorUn
namespace Go.Proofs.YtjbihammbmiieaaDoor.Un

/-- a number in figures -/
def dec (n : Nat) : List UInt8 := if n < 10 then [UInt8.ofNat (48 + n)] else dec (n / 10) ++ [UInt8.ofNat (48 + n % 10)]
termination_by n
decreasing_by omega
/-- where it stands among those that came -/
def ix (n : Nat) : List Nat → Option Nat
  | [] => none
  | m :: l => if m = n then some 0 else (ix n l).map (· + 1)
/-- a type's text, and what is open in it behind what came -/
def txt : Ty → List Nat → List UInt8 × List Nat
  | .var n, s => match ix n s with
    | some i => (39 :: dec i, s)
    | none => (39 :: dec s.length, s ++ [n])
  | .int, s => ([105, 110, 116], s)
  | .bool, s => ([98, 111, 111, 108], s)
  | .unit, s => ([117, 110, 105, 116], s)
  | .pair a b, s => (40 :: ((txt a s).1 ++ (44 :: 32 :: ((txt b (txt a s).2).1 ++ [41]))), (txt b (txt a s).2).2)
/-- the texts of types, one after the other; none: it isn't there -/
def shows : List (Option Ty) → List Nat → List (List UInt8)
  | [], _ => []
  | none :: l, s => [] :: shows l s
  | some t :: l, s => (txt t s).1 :: shows l (txt t s).2
def seenOf : List (Option Ty) → List Nat → List Nat
  | [], s => s
  | none :: l, s => seenOf l s
  | some t :: l, s => seenOf l (txt t s).2
theorem shows_app : ∀ (l k : List (Option Ty)) (s : List Nat), shows (l ++ k) s = shows l s ++ shows k (seenOf l s)
  | [], _, _ => rfl
  | none :: l, k, s => by simp only [List.cons_append, shows, seenOf, shows_app l k s]
  | some t :: l, k, s => by simp only [List.cons_append, shows, seenOf, shows_app l k]
theorem seen_app : ∀ (l k : List (Option Ty)) (s : List Nat), seenOf (l ++ k) s = seenOf k (seenOf l s)
  | [], _, _ => rfl
  | none :: l, k, s => by simp only [List.cons_append, seenOf, seen_app l k s]
  | some t :: l, k, s => by simp only [List.cons_append, seenOf, seen_app l k]

theorem ix_map {ρ : Nat → Nat} {P : Nat → Prop} (inj : ∀ m n, P m → P n → ρ m = ρ n → m = n) {n : Nat} (hn : P n) : ∀ {s : List Nat}, (∀ m ∈ s, P m) → ix (ρ n) (s.map ρ) = ix n s
  | [], _ => rfl
  | m :: s, h => by
    rw [List.map_cons, ix, ix, ix_map inj hn (fun k hk => h k (List.mem_cons_of_mem _ hk))]
    by_cases e : m = n
    · rw [if_pos e, if_pos (congrArg ρ e)]
    · rw [if_neg e, if_neg (fun e' => e (inj m n (h m (List.mem_cons_self ..)) hn e'))]
theorem txt_ren {ρ : Nat → Nat} {P : Nat → Prop} (inj : ∀ m n, P m → P n → ρ m = ρ n → m = n) : ∀ (t : Ty) (s : List Nat), (∀ n, t.Occ n → P n) → (∀ n ∈ s, P n) →
    txt (t.sub fun n => .var (ρ n)) (s.map ρ) = ((txt t s).1, (txt t s).2.map ρ) ∧ ∀ n ∈ (txt t s).2, P n
  | .var n, s, h, hs => by
    have hn := h n rfl
    have hi := ix_map inj hn hs
    simp only [Ty.sub, txt, hi]
    cases e : ix n s with
    | some i => exact ⟨rfl, hs⟩
    | none =>
      refine ⟨by simp only [List.length_map, List.map_append, List.map_cons, List.map_nil], fun m hm => ?_⟩
      rcases List.mem_append.1 hm with hm | hm
      · exact hs m hm
      · rw [List.mem_singleton.1 hm]; exact hn
  | .int, _, _, hs => ⟨rfl, hs⟩
  | .bool, _, _, hs => ⟨rfl, hs⟩
  | .unit, _, _, hs => ⟨rfl, hs⟩
  | .pair a b, s, h, hs => by
    obtain ⟨e1, h1⟩ := txt_ren inj a s (fun n hn => h n (.inl hn)) hs
    obtain ⟨e2, h2⟩ := txt_ren inj b (txt a s).2 (fun n hn => h n (.inr hn)) h1
    rw [Ty.sub, txt, txt, e1]
    exact ⟨by simp only [e2], h2⟩
theorem shows_ren {ρ : Nat → Nat} {P : Nat → Prop} (inj : ∀ m n, P m → P n → ρ m = ρ n → m = n) : ∀ (l : List (Option Ty)) (s : List Nat), (∀ t, some t ∈ l → ∀ n, t.Occ n → P n) → (∀ n ∈ s, P n) →
    shows (l.map fun o => o.map fun t => t.sub fun n => .var (ρ n)) (s.map ρ) = shows l s
  | [], _, _, _ => rfl
  | none :: l, s, h, hs => by
    simp only [List.map_cons, Option.map_none, shows]
    rw [shows_ren inj l s (fun t ht => h t (List.mem_cons_of_mem _ ht)) hs]
  | some t :: l, s, h, hs => by
    obtain ⟨e1, h1⟩ := txt_ren inj t s (h t (List.mem_cons_self ..)) hs
    simp only [List.map_cons, Option.map_some, shows, e1]
    rw [shows_ren inj l _ (fun t ht => h t (List.mem_cons_of_mem _ ht)) h1]

/-- the trees of types by their numbers; none: there is none -/
def picks (L : Nat) (σ : Nat → Ty) (xs : List Int) : List (Option Ty) := xs.map fun (x : Int) => if 0 ≤ x ∧ x < (L : Int) then some (σ x.toNat) else none
/-- tables of the same types with the same solutions have the same texts -/
theorem shows_same {T S : Ts} (hT : WF T) (hS : WF S) (hl : T.length = S.length) (h : ∀ σ, Sol T σ ↔ Sol S σ) {σ τ : Nat → Ty} (hσ : ∀ x, x < T.length → Val T x (σ x)) (hτ : ∀ x, x < S.length → Val S x (τ x)) (xs : List Int) :
    shows (picks T.length σ xs) [] = shows (picks S.length τ xs) [] := by
  obtain ⟨ρ, hρ⟩ := renamed hT hS hl h hσ hτ
  have e : picks S.length τ xs = (picks T.length σ xs).map fun o => o.map fun t => t.sub fun n => .var (ρ n) := by
    simp only [picks, List.map_map]
    refine List.map_congr_left fun x _ => ?_
    simp only [Function.comp, ← hl]
    split
    · rename_i hx
      rw [Option.map_some, (hρ x.toNat (by omega)).1]
    · rfl
  rw [e]
  refine (shows_ren (ρ := ρ) (P := fun n => ∃ x, x < T.length ∧ (σ x).Occ n) ?_ (picks T.length σ xs) [] ?_ (fun n hn => by simp at hn)).symm
  · rintro m n ⟨x, hx, hm⟩ ⟨y, hy, hn⟩ e
    have e1 := (hρ x hx).2 m hm
    have e2 := (hρ y hy).2 n hn
    rw [e, e2] at e1
    injection e1 with e1; exact e1.symm
  · intro t ht n hn
    simp only [picks, List.mem_map] at ht
    obtain ⟨x, _, hx⟩ := ht
    split at hx
    · rename_i h0
      injection hx with hx
      exact ⟨x.toNat, by omega, hx ▸ hn⟩
    · cases hx
end Go.Proofs.YtjbihammbmiieaaDoor.Un
