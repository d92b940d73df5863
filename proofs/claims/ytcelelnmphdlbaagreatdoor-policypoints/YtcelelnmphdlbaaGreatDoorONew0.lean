/- What New has made so far, and the plain facts of its two loops. -/
import Derived.Test.YtcelelnmphdlbaaGreatDoorOIsLat
import Derived.Deep.OwnRows
import Derived.Deep.DeepCutAuto
namespace Go.Proofs.YtcelelnmphdlbaaGreatDoor.Od
open Go.RowKit
theorem Tryz.info77 : (Tryz.prog.info? 77).map (fun i => (i.zero, i.size, i.bytes)) = some (some (.int .u32 0), 1, 4) := by kernel_rfl

/-- an order in the making lies in wx: the points above are f, those under are none yet; all its blocks are newer than w0, and of w0 nothing has turned -/
structure Mk (w0 : World) (N o ba bu : Nat) (f : Nat → Nat) (wx : World) : Prop where
  c0 : wx.cell? ⟨o, 0, none⟩ = some (.slice (some ⟨ba, 0, none⟩) N N)
  c1 : wx.cell? ⟨o, 1, none⟩ = some (.slice (some ⟨bu, 0, none⟩) N N)
  ra : RowAt wx ba N f
  ru : RowAt wx bu N (fun _ => 0)
  fa : ∀ i, i < N → wx.frozen? ⟨ba, i, none⟩ = false
  fu : ∀ i, i < N → wx.frozen? ⟨bu, i, none⟩ = false
  oa : o ≠ ba
  ou : o ≠ bu
  ab : ba ≠ bu
  lo : w0.heap.size ≤ o ∧ w0.heap.size ≤ ba ∧ w0.heap.size ≤ bu
  hi : o < wx.heap.size ∧ ba < wx.heap.size ∧ bu < wx.heap.size
  below : Below w0.heap.size w0 wx

theorem Mk.drew {w0 : World} {N o ba bu : Nat} {f : Nat → Nat} {wx : World} (h : Mk w0 N o ba bu f wx) : Mk w0 N o ba bu f wx.drew :=
  ⟨by simpa using h.c0, by simpa using h.c1, h.ra.drew, h.ru.drew, by simpa using h.fa, by simpa using h.fu, h.oa, h.ou, h.ab, h.lo, by simpa using h.hi, h.below.drew⟩
theorem Mk.congr {w0 : World} {N o ba bu : Nat} {f g : Nat → Nat} {wx : World} (h : Mk w0 N o ba bu f wx) (e : ∀ i, i < N → f i = g i) : Mk w0 N o ba bu g wx :=
  ⟨h.c0, h.c1, h.ra.congr e, h.ru, h.fa, h.fu, h.oa, h.ou, h.ab, h.lo, h.hi, h.below⟩
theorem Mk.set {w0 : World} {N o ba bu : Nat} {f : Nat → Nat} {wx : World} (h : Mk w0 N o ba bu f wx) (j x : Nat) :
    Mk w0 N o ba bu (fun i => if i = j then x else f i) (wx.setCell ⟨ba, j, none⟩ (.int .u32 (x : Int))) := by
  have on : Only ba wx (wx.setCell ⟨ba, j, none⟩ (.int .u32 (x : Int))) := (Only.refl ba wx).setCell j _
  exact ⟨by rw [on.cell h.oa]; exact h.c0, by rw [on.cell h.oa]; exact h.c1, h.ra.set, on.row (Ne.symm h.ab) h.ru, fun i hi => by rw [on.frozen]; exact h.fa i hi, fun i hi => by rw [on.frozen]; exact h.fu i hi,
    h.oa, h.ou, h.ab, h.lo, by rw [on.size]; exact h.hi, h.below.trans (on.below h.lo.2.1)⟩
theorem Mk.alloc {w0 : World} {N o ba bu : Nat} {f : Nat → Nat} {wx : World} (h : Mk w0 N o ba bu f wx) (x : Obj) : Mk w0 N o ba bu f (wx.alloc x) := by
  have cell : ∀ b i, b < wx.heap.size → (wx.alloc x).cell? ⟨b, i, none⟩ = wx.cell? ⟨b, i, none⟩ := fun b i hb => World.cell?_alloc_lt _ _ _ hb
  have froz : ∀ b i, b < wx.heap.size → (wx.alloc x).frozen? ⟨b, i, none⟩ = wx.frozen? ⟨b, i, none⟩ := fun b i hb => World.frozen?_alloc_old _ _ _ (by simp; omega)
  obtain ⟨h1, h2, h3⟩ := h.hi
  exact ⟨by rw [cell _ _ h1]; exact h.c0, by rw [cell _ _ h1]; exact h.c1, fun i hi => by rw [cell _ _ h2]; exact h.ra i hi, fun i hi => by rw [cell _ _ h3]; exact h.ru i hi,
    fun i hi => by rw [froz _ _ h2]; exact h.fa i hi, fun i hi => by rw [froz _ _ h3]; exact h.fu i hi, h.oa, h.ou, h.ab, h.lo, by simp; omega, h.below.alloc (by have := h.below.size; omega) _⟩

theorem made_cell (w : World) (N i : Nat) (hi : i < N) : (w.alloc (.cells (madeCells #[Value.int .u32 0] N) 77)).cell? ⟨w.heap.size, i, none⟩ = some (.int .u32 0) := by
  rw [World.cell?_alloc_new]
  simp [madeCells, hi, Nat.mod_one]

/-- the world behind the three new blocks; x and y: which of the two rows was laid first -/
theorem mk_made (w : World) (N : Nat) (s : Bool) :
    Mk w N (w.heap.size + 2) (if s then w.heap.size else w.heap.size + 1) (if s then w.heap.size + 1 else w.heap.size) (fun _ => 0)
      (((w.alloc (.cells (madeCells #[Value.int .u32 0] N) 77)).alloc (.cells (madeCells #[Value.int .u32 0] N) 77)).alloc
        (.cells #[.slice (some ⟨if s then w.heap.size else w.heap.size + 1, 0, none⟩) N N, .slice (some ⟨if s then w.heap.size + 1 else w.heap.size, 0, none⟩) N N] 75)) := by
  generalize hA : (Obj.cells (madeCells #[Value.int .u32 0] N) 77) = A
  generalize hC : (Obj.cells #[.slice (some ⟨if s then w.heap.size else w.heap.size + 1, 0, none⟩) N N, .slice (some ⟨if s then w.heap.size + 1 else w.heap.size, 0, none⟩) N N] 75) = C
  have c1 : ∀ i, i < N → (((w.alloc A).alloc A).alloc C).cell? ⟨w.heap.size, i, none⟩ = some (.int .u32 0) := by
    intro i hi
    rw [World.cell?_alloc_lt _ _ _ (by simp; omega), World.cell?_alloc_lt _ _ _ (by simp), ← hA]
    exact made_cell w N i hi
  have c2 : ∀ i, i < N → (((w.alloc A).alloc A).alloc C).cell? ⟨w.heap.size + 1, i, none⟩ = some (.int .u32 0) := by
    intro i hi
    rw [World.cell?_alloc_lt _ _ _ (by simp)]
    have := made_cell (w.alloc A) N i hi
    rw [hA] at this; simpa using this
  have f1 : ∀ i, (((w.alloc A).alloc A).alloc C).frozen? ⟨w.heap.size, i, none⟩ = false := by
    intro i
    rw [World.frozen?_alloc_old _ _ _ (by simp; omega), World.frozen?_alloc_old _ _ _ (by simp), ← hA]
    exact World.frozen?_alloc_new _ _ _ _
  have f2 : ∀ i, (((w.alloc A).alloc A).alloc C).frozen? ⟨w.heap.size + 1, i, none⟩ = false := by
    intro i
    rw [World.frozen?_alloc_old _ _ _ (by simp)]
    have := World.frozen?_alloc_new (w.alloc A) (madeCells #[Value.int .u32 0] N) 77 i
    rw [hA] at this; simpa using this
  have o0 : (((w.alloc A).alloc A).alloc C).cell? ⟨w.heap.size + 2, 0, none⟩ = some (.slice (some ⟨if s then w.heap.size else w.heap.size + 1, 0, none⟩) N N) := by
    rw [← hC]
    have := World.cell?_alloc_new ((w.alloc A).alloc A) #[.slice (some ⟨if s then w.heap.size else w.heap.size + 1, 0, none⟩) N N, .slice (some ⟨if s then w.heap.size + 1 else w.heap.size, 0, none⟩) N N] 75 0
    simpa using this
  have o1 : (((w.alloc A).alloc A).alloc C).cell? ⟨w.heap.size + 2, 1, none⟩ = some (.slice (some ⟨if s then w.heap.size + 1 else w.heap.size, 0, none⟩) N N) := by
    rw [← hC]
    have := World.cell?_alloc_new ((w.alloc A).alloc A) #[.slice (some ⟨if s then w.heap.size else w.heap.size + 1, 0, none⟩) N N, .slice (some ⟨if s then w.heap.size + 1 else w.heap.size, 0, none⟩) N N] 75 1
    simpa using this
  have bl : Below w.heap.size w (((w.alloc A).alloc A).alloc C) := (((Below.refl _ w).alloc (by simp) A).alloc (by simp) A).alloc (by simp; omega) C
  clear hA hC
  cases s
  · exact ⟨o0, o1, c2, c1, fun i _ => f2 i, fun i _ => f1 i, by simp, by simp, by simp, by simp <;> omega, by simp <;> omega, bl⟩
  · exact ⟨o0, o1, c1, c2, fun i _ => f1 i, fun i _ => f2 i, by simp, by simp, by simp, by simp <;> omega, by simp <;> omega, bl⟩

namespace M
/-- the first k rows have their own points -/
def initTo (k a : Nat) : Nat := if a < k then bit a else 0
theorem initTo_succ (k a : Nat) : initTo (k + 1) a = if a = k then bit k else initTo k a := by
  unfold initTo
  by_cases e : a = k
  · subst e; simp
  · have : a < k + 1 ↔ a < k := by omega
    simp [e, this]

/-- behind the first k pairs: each point's mask has itself, and what the pairs say -/
structure PInv (n : Nat) (p q : Nat → Int) (k : Nat) (f : Nat → Nat) : Prop where
  lim : ∀ a, a < n → f a < 2 ^ n
  bits : ∀ a b, a < n → b < n → ((f a).testBit b = true ↔ (a = b ∨ ∃ i, i < k ∧ p i = a ∧ q i = b))

theorem PInv.start (n : Nat) (p q : Nat → Int) : PInv n p q 0 (initTo n) where
  lim a ha := by unfold initTo; rw [if_pos ha]; exact Nat.pow_lt_pow_right (by omega) ha
  bits a b ha hb := by
    unfold initTo; rw [if_pos ha, testBit_bit]
    constructor
    · intro h; exact Or.inl (by simpa using h)
    · rintro (h | ⟨i, hi, _⟩)
      · simpa using h
      · omega

theorem PInv.step {n k : Nat} {p q : Nat → Int} {f : Nat → Nat} (h : PInv n p q k f) {a b : Nat} (ha : a < n) (hb : b < n) (ea : p k = a) (eb : q k = b) : PInv n p q (k + 1) (fun i => if i = a then f a ||| bit b else f i) where
  lim x hx := by
    split
    · exact Nat.or_lt_two_pow (h.lim a ha) (Nat.pow_lt_pow_right (by omega) hb)
    · exact h.lim x hx
  bits x y hx hy := by
    have hold := h.bits x y hx hy
    by_cases e : x = a
    · subst e
      rw [if_pos rfl, Nat.testBit_or, Bool.or_eq_true, hold, testBit_bit]
      constructor
      · rintro ((h1 | ⟨i, hi, h2, h3⟩) | h1)
        · exact Or.inl h1
        · exact Or.inr ⟨i, by omega, h2, h3⟩
        · have hy' : b = y := by simpa using h1
          subst hy'
          exact Or.inr ⟨k, by omega, ea, eb⟩
      · rintro (h1 | ⟨i, hi, h2, h3⟩)
        · exact Or.inl (Or.inl h1)
        · by_cases hik : i = k
          · subst hik
            right
            rw [eb] at h3
            simp; omega
          · exact Or.inl (Or.inr ⟨i, by omega, h2, h3⟩)
    · rw [if_neg e, hold]
      constructor
      · rintro (h1 | ⟨i, hi, h2, h3⟩)
        · exact Or.inl h1
        · exact Or.inr ⟨i, by omega, h2, h3⟩
      · rintro (h1 | ⟨i, hi, h2, h3⟩)
        · exact Or.inl h1
        · by_cases hik : i = k
          · subst hik; rw [ea] at h2; exact absurd (Int.ofNat.inj h2).symm e
          · exact Or.inr ⟨i, by omega, h2, h3⟩
end M

/-- len pairs lie where a slice's address says -/
def PairsAt (w : World) (ao : Option Addr) (len : Nat) (p q : Nat → Int) : Prop :=
  ∀ i, i < len → ∃ b off, ao = some ⟨b, off, none⟩ ∧ b < w.heap.size ∧ w.cell? ⟨b, off + i * 2, none⟩ = some (.int .i64 (p i)) ∧ w.cell? ⟨b, off + i * 2 + 1, none⟩ = some (.int .i64 (q i))
end Go.Proofs.YtcelelnmphdlbaaGreatDoor.Od
