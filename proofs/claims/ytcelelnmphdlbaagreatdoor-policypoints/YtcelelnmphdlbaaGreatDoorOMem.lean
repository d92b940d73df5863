/- What a call leaves that writes to one block of cells alone, and rows of masks behind such writes; the plain steps of the closure and of the reversal. -/
import Derived.Test.YtcelelnmphdlbaaGreatDoorOMeth
namespace Go.Proofs.YtcelelnmphdlbaaGreatDoor.Od
open Go.RowKit

/-- w' is w, but for the cells of block B, and draws -/
structure Only (B : Nat) (w w' : World) : Prop where
  os : w'.os = w.os
  tape : w'.tape = w.tape
  output : w'.output = w.output
  size : w'.heap.size = w.heap.size
  block : ∀ k, k ≠ B → w'.heap[k]? = w.heap[k]?
  frozen : ∀ p, w'.frozen? p = w.frozen? p

theorem Only.refl (B : Nat) (w : World) : Only B w w := ⟨rfl, rfl, rfl, rfl, fun _ _ => rfl, fun _ => rfl⟩
theorem Only.trans {B : Nat} {a b c : World} (h : Only B a b) (k : Only B b c) : Only B a c :=
  ⟨k.os.trans h.os, k.tape.trans h.tape, k.output.trans h.output, k.size.trans h.size, fun i hi => (k.block i hi).trans (h.block i hi), fun p => (k.frozen p).trans (h.frozen p)⟩
theorem Only.drew {B : Nat} {a w : World} (h : Only B a w) : Only B a w.drew := ⟨h.os, h.tape, h.output, h.size, h.block, h.frozen⟩
theorem Only.drewN {B : Nat} {a w : World} (h : Only B a w) (n : Nat) : Only B a (w.drewN n) := ⟨h.os, h.tape, h.output, h.size, h.block, h.frozen⟩
theorem Only.setCell {B : Nat} {a w : World} (h : Only B a w) (i : Nat) (v : Value) : Only B a (w.setCell ⟨B, i, none⟩ v) :=
  h.trans ⟨rfl, rfl, rfl, by simp, fun k hk => Below.heap_setCell _ _ _ _ (by simpa using hk), fun p => by simp⟩
theorem Only.cell {B : Nat} {w w' : World} (h : Only B w w') {b i : Nat} (hp : b ≠ B) : w'.cell? ⟨b, i, none⟩ = w.cell? ⟨b, i, none⟩ :=
  World.cell?_of_block (w := w) (h.block b hp)
theorem Only.row {B : Nat} {w w' : World} (h : Only B w w') {b n : Nat} {f : Nat → Nat} (hp : b ≠ B) (hr : RowAt w b n f) : RowAt w' b n f :=
  fun i hi => by rw [h.cell hp]; exact hr i hi
theorem Only.below {B B' : Nat} {w w' : World} (h : Only B w w') (hB : B' ≤ B) : Below B' w w' :=
  ⟨h.os, h.tape, h.output, by rw [h.size]; omega, fun k hk => h.block k (by omega)⟩

theorem RowAt.congr {w : World} {b n : Nat} {f g : Nat → Nat} (h : RowAt w b n f) (e : ∀ i, i < n → f i = g i) : RowAt w b n g :=
  fun i hi => by rw [← e i hi]; exact h i hi
theorem RowAt.drew {w : World} {b n : Nat} {f : Nat → Nat} (h : RowAt w b n f) : RowAt w.drew b n f := fun i hi => by simpa using h i hi
theorem RowAt.set {w : World} {b n j x : Nat} {f : Nat → Nat} (h : RowAt w b n f) : RowAt (w.setCell ⟨b, j, none⟩ (.int .u32 (x : Int))) b n (fun i => if i = j then x else f i) := by
  intro i hi
  by_cases e : i = j
  · subst e; simp only [if_true]; exact World.cell?_setCell_same _ _ _ (h i hi)
  · have hne : (⟨b, j, none⟩ : Addr) ≠ ⟨b, i, none⟩ := by intro hh; simp only [Addr.mk.injEq] at hh; omega
    rw [World.cell?_setCell_other _ _ _ _ hne]; simp only [e, if_false]; exact h i hi

namespace M
/-- behind the first k points as middle ones: what follows through these is there, and nothing that does not follow -/
structure CInv (n : Nat) (f : Nat → Nat) (k : Nat) (g : Nat → Nat) : Prop where
  lim : ∀ a, a < n → g a < 2 ^ n
  has : ∀ a b, a < n → b < n → (f a).testBit b = true → (g a).testBit b = true
  thru : ∀ m a b, m < k → m < n → a < n → b < n → (g a).testBit m = true → (g m).testBit b = true → (g a).testBit b = true
  least : ∀ T : Nat → Nat → Prop, (∀ a b, a < n → b < n → (f a).testBit b = true → T a b) → (∀ a b c, a < n → b < n → c < n → T a b → T b c → T a c) → ∀ a b, a < n → b < n → (g a).testBit b = true → T a b

theorem CInv.start {n : Nat} {f : Nat → Nat} (h : ∀ a, a < n → f a < 2 ^ n) : CInv n f 0 f :=
  ⟨h, fun _ _ _ _ h => h, fun _ _ _ h => by omega, fun T h1 _ a b ha hb h => h1 a b ha hb h⟩

/-- the rows below j have what follows through the middle point m -/
def stepTo (g : Nat → Nat) (m j : Nat) (a : Nat) : Nat := if a < j ∧ (g a).testBit m = true then g a ||| g m else g a

theorem stepTo_zero (g : Nat → Nat) (m a : Nat) : stepTo g m 0 a = g a := by simp [stepTo]
theorem stepTo_at (g : Nat → Nat) (m j : Nat) : stepTo g m j j = g j := by simp [stepTo]
theorem stepTo_mid (g : Nat → Nat) (m j : Nat) : stepTo g m j m = g m := by simp [stepTo]
theorem stepTo_yes (g : Nat → Nat) (m j a : Nat) (h : (g j).testBit m = true) : stepTo g m (j + 1) a = if a = j then g j ||| g m else stepTo g m j a := by
  unfold stepTo
  by_cases e : a = j
  · subst e; simp [h]
  · have : a < j + 1 ↔ a < j := by omega
    simp [e, this]
theorem stepTo_no (g : Nat → Nat) (m j a : Nat) (h : (g j).testBit m = false) : stepTo g m (j + 1) a = stepTo g m j a := by
  unfold stepTo
  by_cases e : a = j
  · subst e; simp [h]
  · have : a < j + 1 ↔ a < j := by omega
    simp [this]

theorem stepTo_bit (g : Nat → Nat) (m n a b : Nat) (ha : a < n) : (stepTo g m n a).testBit b = ((g a).testBit b || ((g a).testBit m && (g m).testBit b)) := by
  unfold stepTo
  by_cases h : (g a).testBit m = true
  · simp [ha, h]
  · simp at h; simp [h]

theorem CInv.step {n k : Nat} {f g : Nat → Nat} (h : CInv n f k g) (hk : k < n) : CInv n f (k + 1) (stepTo g k n) where
  lim a ha := by
    unfold stepTo
    split
    · exact Nat.or_lt_two_pow (h.lim a ha) (h.lim k hk)
    · exact h.lim a ha
  has a b ha hb hf := by rw [stepTo_bit g k n a b ha, h.has a b ha hb hf]; rfl
  thru m a b hm hmn ha hb h1 h2 := by
    rw [stepTo_bit g k n _ _ ha] at h1 ⊢
    rw [stepTo_bit g k n _ _ hmn] at h2
    simp only [Bool.or_eq_true, Bool.and_eq_true] at h1 h2 ⊢
    by_cases e : m = k
    · subst e
      rcases h1 with h1 | ⟨h1, _⟩ <;> rcases h2 with h2 | ⟨_, h2⟩ <;> exact Or.inr ⟨h1, h2⟩
    · have t := h.thru m
      rcases h1 with h1 | ⟨h1, h1'⟩ <;> rcases h2 with h2 | ⟨h2, h2'⟩
      · exact Or.inl (t a b (by omega) hmn ha hb h1 h2)
      · exact Or.inr ⟨t a k (by omega) hmn ha hk h1 h2, h2'⟩
      · exact Or.inr ⟨h1, t k b (by omega) hmn hk hb h1' h2⟩
      · exact Or.inr ⟨h1, h2'⟩
  least T h1 h2 a b ha hb hs := by
    rw [stepTo_bit g k n a b ha] at hs
    simp only [Bool.or_eq_true, Bool.and_eq_true] at hs
    rcases hs with hs | ⟨hs, hs'⟩
    · exact h.least T h1 h2 a b ha hb hs
    · exact h2 a k b ha hk hb (h.least T h1 h2 a k ha hk hs) (h.least T h1 h2 k b hk hb hs')

theorem CInv.closure {n : Nat} {f g : Nat → Nat} (h : CInv n f n g) : IsClosure n (fun a b => (f a).testBit b = true) (fun a b => (g a).testBit b = true) :=
  ⟨h.has, fun a b c ha hb hc h1 h2 => h.thru b a c hb hb ha hc h1 h2, h.least⟩
end M
end Go.Proofs.YtcelelnmphdlbaaGreatDoor.Od
