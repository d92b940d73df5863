import Derived.WalkKit
import Derived.Test.YtcelelnmphdlbaaGreatDoorRows
import Derived.WalkSpells
import Derived.WalkLawsBesides
import Derived.Laws.BitsAllLaws
import Derived.Lib.Hide

/- Plain mathematics for the layer of orders: sets of points as masks, what a closure is, and the laws of a lattice that is given by masks; no program is named here. -/
namespace Go.Proofs.YtcelelnmphdlbaaGreatDoor.Od
namespace M

/-- the first number below n at which f is x, or -1 -/
def findN (f : Nat → Nat) (x n : Nat) : Int :=
  match (List.range n).find? (fun i => f i == x) with
  | some i => (i : Int)
  | none => -1

theorem findN_hit {f : Nat → Nat} {x n k : Nat} (h : ∀ i, i < k → f i ≠ x) (hk : k < n) (he : f k = x) : findN f x n = k := by
  have : (List.range n).find? (fun i => f i == x) = some k := by
    rw [List.find?_range_eq_some]
    refine ⟨by simpa using he, by simpa using hk, fun j hj => ?_⟩
    simpa using h j hj
  unfold findN; rw [this]

theorem findN_miss {f : Nat → Nat} {x n : Nat} (h : ∀ i, i < n → f i ≠ x) : findN f x n = -1 := by
  have : (List.range n).find? (fun i => f i == x) = none := by
    rw [List.find?_eq_none]
    intro i hi
    simpa using h i (by simpa using hi)
  unfold findN; rw [this]

/-- what findN tells: a place, or that there is none -/
theorem findN_cases (f : Nat → Nat) (x n : Nat) :
    (∃ p, p < n ∧ f p = x ∧ findN f x n = p ∧ ∀ i, i < p → f i ≠ x) ∨ ((∀ i, i < n → f i ≠ x) ∧ findN f x n = -1) := by
  cases h : (List.range n).find? (fun i => f i == x) with
  | some p =>
    rw [List.find?_range_eq_some] at h
    obtain ⟨h1, h2, h3⟩ := h
    refine Or.inl ⟨p, by simpa using h2, by simpa using h1, ?_, ?_⟩
    · exact findN_hit (fun i hi => by simpa using h3 i hi) (by simpa using h2) (by simpa using h1)
    · intro i hi; simpa using h3 i hi
  | none =>
    rw [List.find?_eq_none] at h
    have h' : ∀ i, i < n → f i ≠ x := fun i hi => by simpa using h i (by simpa using hi)
    exact Or.inr ⟨h', findN_miss h'⟩

/-- the mask of one point -/
def bit (k : Nat) : Nat := 2 ^ k
/-- the mask of the first n points -/
def full (n : Nat) : Nat := 2 ^ n - 1
theorem bit_lt32 {a : Nat} (h : a < 32) : bit a < 4294967296 := by
  have : 2 ^ a < 2 ^ 32 := Nat.pow_lt_pow_right (by omega) h
  simpa [bit] using this
theorem testBit_bit (a i : Nat) : (bit a).testBit i = decide (a = i) := by unfold bit; rw [Nat.testBit_two_pow]
theorem and_bit (s i : Nat) : (s &&& bit i != 0) = s.testBit i := by
  cases h : s.testBit i with
  | true =>
    have : (s &&& bit i).testBit i = true := by rw [Nat.testBit_and, h, testBit_bit]; simp
    rw [bne_iff_ne]; intro e; rw [e] at this; simp at this
  | false =>
    have : s &&& bit i = 0 := by
      apply Nat.eq_of_testBit_eq; intro j
      rw [Nat.testBit_and, testBit_bit]
      by_cases e : i = j
      · subst e; simp [h]
      · simp [e]
    simp [this]

/-- masks of n points that have the same points are one -/
theorem mask_ext {n x y : Nat} (hx : x < 2 ^ n) (hy : y < 2 ^ n) (h : ∀ i, i < n → x.testBit i = y.testBit i) : x = y := by
  apply Nat.eq_of_testBit_eq
  intro i
  by_cases hi : i < n
  · exact h i hi
  · rw [Nat.testBit_lt_two_pow (Nat.lt_of_lt_of_le hx (Nat.pow_le_pow_right (by omega) (by omega))),
      Nat.testBit_lt_two_pow (Nat.lt_of_lt_of_le hy (Nat.pow_le_pow_right (by omega) (by omega)))]

theorem bit_lt {n x i : Nat} (hx : x < 2 ^ n) (h : x.testBit i = true) : i < n := by
  apply Classical.byContradiction
  intro hi
  rw [Nat.testBit_lt_two_pow (Nat.lt_of_lt_of_le hx (Nat.pow_le_pow_right (by omega) (by omega)))] at h
  exact absurd h (by simp)

/-- F is the least transitive relation of points below n that has r -/
def IsClosure (n : Nat) (r F : Nat → Nat → Prop) : Prop :=
  (∀ a b, a < n → b < n → r a b → F a b) ∧ (∀ a b c, a < n → b < n → c < n → F a b → F b c → F a c) ∧
  ∀ T : Nat → Nat → Prop, (∀ a b, a < n → b < n → r a b → T a b) → (∀ a b c, a < n → b < n → c < n → T a b → T b c → T a c) → ∀ a b, a < n → b < n → F a b → T a b

theorem closure_unique {n : Nat} {r F G : Nat → Nat → Prop} (hF : IsClosure n r F) (hG : IsClosure n r G) (a b : Nat) (ha : a < n) (hb : b < n) : F a b ↔ G a b :=
  ⟨hF.2.2 G hG.1 hG.2.1 a b ha hb, hG.2.2 F hF.1 hF.2.1 a b ha hb⟩

/-- a lattice of n points: f the points above each, u those under each -/
structure Lat (n : Nat) (f u : Nat → Nat) : Prop where
  pos : 0 < n
  lim : ∀ i, i < n → f i < 2 ^ n
  ulim : ∀ i, i < n → u i < 2 ^ n
  refl : ∀ i, i < n → (f i).testBit i = true
  trans : ∀ a b c, a < n → b < n → c < n → (f a).testBit b = true → (f b).testBit c = true → (f a).testBit c = true
  rev : ∀ a b, a < n → b < n → (u b).testBit a = (f a).testBit b
  inj : ∀ a b, a < n → b < n → f a = f b → a = b
  join : ∀ a b, a < n → b < n → ∃ p, p < n ∧ f p = f a &&& f b
  meet : ∀ a b, a < n → b < n → ∃ p, p < n ∧ u p = u a &&& u b

namespace Lat
variable {n : Nat} {f u : Nat → Nat} (L : Lat n f u)
include L

theorem sub {a b : Nat} (ha : a < n) (hb : b < n) (h : (f a).testBit b = true) : f a &&& f b = f b := by
  apply Nat.eq_of_testBit_eq
  intro i
  rw [Nat.testBit_and]
  by_cases hi : (f b).testBit i = true
  · have := bit_lt (L.lim b hb) hi
    rw [hi, L.trans a b i ha hb this h hi]; rfl
  · simp at hi; rw [hi]; simp

theorem of_sub {a b : Nat} (_ha : a < n) (hb : b < n) (h : f a &&& f b = f b) : (f a).testBit b = true := by
  have := L.refl b hb
  rw [← h, Nat.testBit_and] at this
  simp at this; exact this.1

theorem usub {a b : Nat} (ha : a < n) (hb : b < n) (h : (f a).testBit b = true) : u a &&& u b = u a := by
  apply Nat.eq_of_testBit_eq
  intro i
  rw [Nat.testBit_and]
  by_cases hi : (u a).testBit i = true
  · have hin := bit_lt (L.ulim a ha) hi
    have h1 : (f i).testBit a = true := by rw [← L.rev i a hin ha]; exact hi
    have h2 := L.trans i a b hin ha hb h1 h
    rw [hi, L.rev i b hin hb, h2]; rfl
  · simp at hi; rw [hi]; simp

theorem of_usub {a b : Nat} (ha : a < n) (hb : b < n) (h : u a &&& u b = u a) : (f a).testBit b = true := by
  have h1 : (u a).testBit a = true := by rw [L.rev a a ha ha]; exact L.refl a ha
  rw [← h, Nat.testBit_and] at h1
  simp at h1
  rw [← L.rev a b ha hb]; exact h1.2

theorem uinj (a b : Nat) (ha : a < n) (hb : b < n) (h : u a = u b) : a = b := by
  have h1 : (f a).testBit b = true := L.of_usub ha hb (by rw [h, Nat.and_self])
  have h2 : (f b).testBit a = true := L.of_usub hb ha (by rw [h, Nat.and_self])
  apply L.inj a b ha hb
  have e1 := L.sub ha hb h1
  have e2 := L.sub hb ha h2
  rw [Nat.and_comm] at e2
  rw [← e2, e1]

/-- the join and the meet of two points absorb one another -/
theorem absorb_j {a m : Nat} {b : Nat} (ha : a < n) (hm : m < n) (h : u m = u a &&& u b) : f a &&& f m = f a := by
  have : (f m).testBit a = true := L.of_usub hm ha (by rw [h]; apply Nat.eq_of_testBit_eq; intro i; simp only [Nat.testBit_and]; cases (u a).testBit i <;> cases (u b).testBit i <;> rfl)
  rw [Nat.and_comm]; exact L.sub hm ha this

theorem absorb_m {a j : Nat} {b : Nat} (ha : a < n) (hj : j < n) (h : f j = f a &&& f b) : u a &&& u j = u a := by
  have : (f a).testBit j = true := L.of_sub ha hj (by rw [h]; apply Nat.eq_of_testBit_eq; intro i; simp only [Nat.testBit_and]; cases (f a).testBit i <;> cases (f b).testBit i <;> rfl)
  exact L.usub ha hj this

theorem bottom_ex : ∃ p, p < n ∧ f p = full n := by
  have key : ∀ k, k < n → ∃ p, p < n ∧ ∀ i, i ≤ k → (f p).testBit i = true := by
    intro k
    induction k with
    | zero => intro h; exact ⟨0, h, fun i hi => by
        have e : i = 0 := (by omega)
        subst e; exact L.refl 0 h⟩
    | succ k ih =>
      intro h
      obtain ⟨p, hp, hpi⟩ := ih (by omega)
      obtain ⟨q, hq, hqe⟩ := L.meet p (k + 1) hp h
      have h1 : (f q).testBit p = true := L.of_usub hq hp (by rw [hqe]; apply Nat.eq_of_testBit_eq; intro i; simp only [Nat.testBit_and]; cases (u p).testBit i <;> cases (u (k+1)).testBit i <;> rfl)
      have h2 : (f q).testBit (k + 1) = true := L.of_usub hq h (by rw [hqe]; apply Nat.eq_of_testBit_eq; intro i; simp only [Nat.testBit_and]; cases (u p).testBit i <;> cases (u (k+1)).testBit i <;> rfl)
      refine ⟨q, hq, fun i hi => ?_⟩
      by_cases hik : i = k + 1
      · subst hik; exact h2
      · exact L.trans q p i hq hp (by omega) h1 (hpi i (by omega))
  obtain ⟨p, hp, hall⟩ := key (n - 1) (by have := L.pos; omega)
  refine ⟨p, hp, mask_ext (L.lim p hp) (by have := Nat.two_pow_pos n; unfold full; omega) fun i hi => ?_⟩
  rw [hall i (by omega), full, Nat.testBit_two_pow_sub_one]; simp [hi]

theorem top_ex : ∃ p, p < n ∧ u p = full n := by
  have key : ∀ k, k < n → ∃ p, p < n ∧ ∀ i, i ≤ k → (f i).testBit p = true := by
    intro k
    induction k with
    | zero => intro h; exact ⟨0, h, fun i hi => by
        have e : i = 0 := (by omega)
        subst e; exact L.refl 0 h⟩
    | succ k ih =>
      intro h
      obtain ⟨p, hp, hpi⟩ := ih (by omega)
      obtain ⟨q, hq, hqe⟩ := L.join p (k + 1) hp h
      have h1 : (f p).testBit q = true := L.of_sub hp hq (by rw [hqe]; apply Nat.eq_of_testBit_eq; intro i; simp only [Nat.testBit_and]; cases (f p).testBit i <;> cases (f (k+1)).testBit i <;> rfl)
      have h2 : (f (k + 1)).testBit q = true := L.of_sub h hq (by rw [hqe]; apply Nat.eq_of_testBit_eq; intro i; simp only [Nat.testBit_and]; cases (f p).testBit i <;> cases (f (k+1)).testBit i <;> rfl)
      refine ⟨q, hq, fun i hi => ?_⟩
      by_cases hik : i = k + 1
      · subst hik; exact h2
      · exact L.trans i p q (by omega) hp hq (hpi i (by omega)) h1
  obtain ⟨p, hp, hall⟩ := key (n - 1) (by have := L.pos; omega)
  refine ⟨p, hp, mask_ext (L.ulim p hp) (by have := Nat.two_pow_pos n; unfold full; omega) fun i hi => ?_⟩
  rw [L.rev i p hi hp, hall i (by omega), full, Nat.testBit_two_pow_sub_one]; simp [hi]

end Lat
end M
end Go.Proofs.YtcelelnmphdlbaaGreatDoor.Od


/- The walks of the small functions of package order: only, all, contains, find. -/
namespace Go.Proofs.YtcelelnmphdlbaaGreatDoor.Od
open Go.RowKit

theorem pow_nat (a : Nat) : ((2 : Int) ^ a) = (M.bit a : Int) := by simp [M.bit]
theorem ret_int {k : IntKind} {a b : Int} (h : a = b) : Ending.returned (.int k a) = .returned (.int k b) := by rw [h]
theorem ret_bool {a b : Bool} (h : a = b) : Ending.returned (.bool a) = .returned (.bool b) := by rw [h]

theorem only_any (a : Int) (w : World) (h0 : 0 ≤ a) (h1 : a < 32) :
    Calls Tryz.prog 20 #[.int .i64 a] w fun e w' => e = .returned (.int .u32 (M.bit a.toNat : Int)) ∧ w = w' := by
  go_enter Tryz.func20, Tryz.ntmps20
  go_wp2
  go_ret
  refine ⟨ret_int ?_, rfl⟩
  have := M.bit_lt32 (a := a.toNat) (by omega)
  rw [pow_nat]; omega

theorem all_any (a : Int) (w : World) (h0 : 0 ≤ a) (h1 : a ≤ 32) :
    Calls Tryz.prog 27 #[.int .i64 a] w fun e w' => e = .returned (.int .u32 (M.full a.toNat : Int)) ∧ w = w' := by
  go_enter Tryz.func27, Tryz.ntmps27
  go_wp2
  go_ret
  refine ⟨ret_int ?_, rfl⟩
  have hp : 0 < M.bit a.toNat := Nat.two_pow_pos a.toNat
  have hf : M.full a.toNat = M.bit a.toNat - 1 := rfl
  rw [pow_nat]
  by_cases h : a.toNat < 32
  · have := M.bit_lt32 h; omega
  · have e : a.toNat = 32 := by omega
    rw [e]; rfl

theorem contains_any (s : Nat) (a : Int) (w : World) (hs : s < 4294967296) (h0 : 0 ≤ a) (h1 : a < 32) :
    Calls Tryz.prog 25 #[.int .u32 (s : Int), .int .i64 a] w fun e w' => e = .returned (.bool (s.testBit a.toNat)) ∧ w = w' := by
  have hl := M.bit_lt32 (a := a.toNat) (by omega)
  go_enter Tryz.func25, Tryz.ntmps25
  go_wp2_with fail
  refine (only_any _ _ (by omega) (by omega)).mono ?_
  rintro e w' ⟨rfl, rfl⟩
  go_wp2
  go_ret
  refine ⟨ret_bool ?_, rfl⟩
  rw [u32_and_nat s _ hs hl, ← M.and_bit]
  rw [Bool.eq_iff_iff]; simp

/-- n cells of a block hold these masks -/
def RowAt (w : World) (b n : Nat) (f : Nat → Nat) : Prop := ∀ i, i < n → w.cell? ⟨b, i, none⟩ = some (.int .u32 (f i : Int))

set_option maxHeartbeats 400000 in
theorem find_any (b n x : Nat) (f : Nat → Nat) (w : World) (hn : n ≤ 32) (hr : RowAt w b n f) :
    Calls Tryz.prog 26 #[.slice (some ⟨b, 0, none⟩) n n, .int .u32 (x : Int)] w fun e w' => e = .returned (.int .i64 (M.findN f x n)) ∧ w = w' := by
  go_enter Tryz.func26, Tryz.ntmps26
  go_wp2
  go_loop [9] (fun i => ∃ k : Nat, k ≤ n ∧ i = .int .i64 k ∧ ∀ j, j < k → f j ≠ x) (fun i => n - (intOf i).toNat)
  case atStart => exact ⟨0, Nat.zero_le _, rfl, by intro j hj; omega⟩
  case round =>
    obtain ⟨k, hk, rfl, hno⟩ := hrel
    have HNO := Lib.hid hno; clear hno
    by_cases hlt : k < n
    · have hc := hr k hlt
      by_cases he : f k = x
      · have HE := Lib.hid he; 
        have hb : ((f k : Int) == (x : Int)) = true := by simp [he]
        clear he
        go_wp2
        go_ret
        exact ⟨ret_int (M.findN_hit HNO.out hlt HE.out).symm, rfl⟩
      · have hb : ((f k : Int) == (x : Int)) = false := by simp; omega
        have HE := Lib.hid he; clear he
        go_wp2
        go_round
        case rel => 
          refine ⟨k + 1, by omega, by go_num, ?_⟩
          intro j hj
          by_cases hjk : j = k
          · subst hjk; exact HE.out
          · exact HNO.out j (by omega)
        case measure => simp [intOf]; omega
    · have : k = n := by omega
      subst this
      go_wp2
      go_ret
      exact ⟨ret_int (M.findN_miss HNO.out).symm, rfl⟩
end Go.Proofs.YtcelelnmphdlbaaGreatDoor.Od
