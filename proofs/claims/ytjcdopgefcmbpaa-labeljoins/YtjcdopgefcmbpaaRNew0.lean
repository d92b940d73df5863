/- What the document's own New has made so far: the rows of truths, as cells. -/
import Derived.Test.YtjcdopgefcmbpaaRef3
import Derived.Test.YtjcdopgefcmbpaaNew0
import Derived.Deep.AppendLies
import Derived.Deep.RegionHeld3
namespace Go.Proofs.Ytjcdopgefcmbpaa
open Go.RowKit
theorem Try.info4 : (Try.prog.info? 4).map (fun i => (i.zero, i.size, i.bytes)) = some (some (.bool false), 1, 1) := by kernel_rfl
theorem Try.info45 : (Try.prog.info? 45).map (fun i => (i.zero, i.size, i.bytes)) = some (some (.slice none 0 0), 1, 24) := by kernel_rfl

structure G1 (w0 : World) (n k : Nat) (v : Value) (rows : Nat → Nat) (R : Nat → Nat → Bool) (wr : World) : Prop where
  o0 : wr.cell? ⟨w0.heap.size + 1, 0, none⟩ = some (.int .i64 (n : Int))
  o1 : wr.cell? ⟨w0.heap.size + 1, 1, none⟩ = some v
  of : wr.frozen? ⟨w0.heap.size + 1, 1, none⟩ = false
  q0 : wr.cell? ⟨w0.heap.size, 0, none⟩ = some (.int .i64 0)
  q1 : wr.cell? ⟨w0.heap.size, 1, none⟩ = some (.slice none 0 0)
  qf : ∀ i, wr.frozen? ⟨w0.heap.size, i, none⟩ = false
  own : wr.ownsRow (w0.heap.size + 2) 45 1 v k ((List.range k).map fun i => .slice (some ⟨rows i, 0, none⟩) n n)
  row : ∀ i j, i < k → j < n → wr.cell? ⟨rows i, j, none⟩ = some (.bool (R i j))
  fz : ∀ i j, i < k → j < n → wr.frozen? ⟨rows i, j, none⟩ = false
  inj : ∀ i j, i < k → j < k → rows i = rows j → i = j
  far : ∀ i, i < k → w0.heap.size + 2 ≤ rows i ∧ rows i < wr.heap.size ∧ v.ownBlock ≠ some (rows i)
  sz : w0.heap.size + 2 ≤ wr.heap.size
  below : Below w0.heap.size w0 wr

/-- one more truth -/
def upd (R : Nat → Nat → Bool) (a c : Nat) : Nat → Nat → Bool := fun i j => if i = a ∧ j = c then true else R i j

theorem G1.drew {w0 : World} {n k : Nat} {v : Value} {rows : Nat → Nat} {R : Nat → Nat → Bool} {wr : World} (h : G1 w0 n k v rows R wr) : G1 w0 n k v rows R wr.drew :=
  ⟨h.o0, h.o1, h.of, h.q0, h.q1, h.qf, h.own.drew, h.row, h.fz, h.inj, h.far, h.sz, h.below.drew⟩
theorem G1.congr {w0 : World} {n k : Nat} {v : Value} {rows : Nat → Nat} {R R' : Nat → Nat → Bool} {wr : World} (h : G1 w0 n k v rows R wr) (e : ∀ i j, i < k → j < n → R i j = R' i j) : G1 w0 n k v rows R' wr :=
  ⟨h.o0, h.o1, h.of, h.q0, h.q1, h.qf, h.own, fun i j hi hj => by rw [← e i j hi hj]; exact h.row i j hi hj, h.fz, h.inj, h.far, h.sz, h.below⟩

theorem G1.set {w0 : World} {n k : Nat} {v : Value} {rows : Nat → Nat} {R : Nat → Nat → Bool} {wr : World} (h : G1 w0 n k v rows R wr) {a c : Nat} (ha : a < k) :
    G1 w0 n k v rows (upd R a c) (wr.setCell ⟨rows a, c, none⟩ (.bool true)) := by
  have on : Only (rows a) wr (wr.setCell ⟨rows a, c, none⟩ (.bool true)) := (Only.refl _ wr).setCell c _
  obtain ⟨f1, f2, f3⟩ := h.far a ha
  refine ⟨by rw [on.cell (by omega)]; exact h.o0, by rw [on.cell (by omega)]; exact h.o1, by rw [on.frozen]; exact h.of, by rw [on.cell (by omega)]; exact h.q0, by rw [on.cell (by omega)]; exact h.q1, fun i => by rw [on.frozen]; exact h.qf i, ?_, ?_,
    fun i j hi hj => by rw [on.frozen]; exact h.fz i j hi hj, h.inj, fun i hi => by rw [on.size]; exact h.far i hi, by rw [on.size]; exact h.sz, h.below.trans (on.below (by omega))⟩
  · have hg : wr.grownBy (wr.setCell ⟨rows a, c, none⟩ (.bool true)) (some (rows a)) := ⟨rfl, rfl, rfl, by simp, fun k _ hne => on.block k (fun e => hne (by rw [e]))⟩
    exact h.own.kept hg (Or.inr f3)
  · intro i j hi hj
    unfold upd
    by_cases e : i = a
    · subst e
      by_cases e' : j = c
      · subst e'
        rw [World.cell?_setCell_same _ _ _ (h.row i j hi hj)]; simp
      · have hne : (⟨rows i, c, none⟩ : Addr) ≠ ⟨rows i, j, none⟩ := by intro hh; simp only [Addr.mk.injEq] at hh; omega
        rw [World.cell?_setCell_other _ _ _ _ hne, if_neg (fun hh => e' hh.2)]; exact h.row i j hi hj
    · have hne : rows i ≠ rows a := fun hh => e (h.inj i a hi ha hh)
      rw [on.cell hne, if_neg (fun hh => e hh.1)]; exact h.row i j hi hj

theorem madeB_cell (w : World) (N i : Nat) (hi : i < N) : (w.alloc (.cells (madeCells #[Value.bool false] N) 4)).cell? ⟨w.heap.size, i, none⟩ = some (.bool false) := by
  rw [World.cell?_alloc_new]
  simp [madeCells, hi, Nat.mod_one]

theorem G1.push {w0 : World} {n k : Nat} {v : Value} {rows : Nat → Nat} {R : Nat → Nat → Bool} {wr w1 : World} {g cap : Nat} (h : G1 w0 n k v rows R wr)
    (hown : w1.ownsRow (w0.heap.size + 2) 45 1 (.slice (some ⟨g, 0, none⟩) (k + 1) cap) (k + 1) (((List.range k).map fun i => .slice (some ⟨rows i, 0, none⟩) n n) ++ [.slice (some ⟨wr.heap.size, 0, none⟩) n n]))
    (hgrow : ((wr.alloc (.cells (madeCells #[Value.bool false] n) 4)).alloc (.cells #[.slice (some ⟨wr.heap.size, 0, none⟩) n n] 45)).grownBy w1 v.ownBlock)
    (hat : v.ownBlock = some g ∨ g = wr.heap.size + 2) :
    G1 w0 n (k + 1) (.slice (some ⟨g, 0, none⟩) (k + 1) cap) (fun i => if i = k then wr.heap.size else rows i) (fun i j => if i = k then false else R i j)
      (w1.setCell ⟨w0.heap.size + 1, 1, none⟩ (.slice (some ⟨g, 0, none⟩) (k + 1) cap)) := by
  have own_lt := h.own.lt
  have hsz := h.sz
  have hgs : wr.heap.size + 2 ≤ w1.heap.size := by have := hgrow.size; simp at this; omega
  have glo : w0.heap.size + 2 ≤ g := by
    rcases hat with hat | hat
    · exact (own_lt g hat).1
    · omega
  -- a cell of a block that is neither the row's own nor new
  have cell1 : ∀ b i, b < wr.heap.size → v.ownBlock ≠ some b → w1.cell? ⟨b, i, none⟩ = wr.cell? ⟨b, i, none⟩ := by
    intro b i hb hne
    rw [hgrow.cell_far ⟨b, i, none⟩ (by simp; omega) (Ne.symm hne), World.cell?_alloc_lt _ _ _ (by simp; omega), World.cell?_alloc_lt _ _ _ hb]
  have froz1 : ∀ b i, b < wr.heap.size → v.ownBlock ≠ some b → w1.frozen? ⟨b, i, none⟩ = wr.frozen? ⟨b, i, none⟩ := by
    intro b i hb hne
    rw [hgrow.frozen_far ⟨b, i, none⟩ (by simp; omega) (Ne.symm hne), World.frozen?_alloc_old _ _ _ (by simp; omega), World.frozen?_alloc_old _ _ _ (by simp; omega)]
  have newne : v.ownBlock ≠ some wr.heap.size := fun e => by have := (own_lt _ e).2; omega
  have cellN : ∀ j, j < n → w1.cell? ⟨wr.heap.size, j, none⟩ = some (.bool false) := by
    intro j hj
    rw [hgrow.cell_far ⟨wr.heap.size, j, none⟩ (by simp; omega) (Ne.symm newne), World.cell?_alloc_lt _ _ _ (by simp)]
    exact madeB_cell wr n j hj
  have frozN : ∀ j, w1.frozen? ⟨wr.heap.size, j, none⟩ = false := by
    intro j
    rw [hgrow.frozen_far ⟨wr.heap.size, j, none⟩ (by simp; omega) (Ne.symm newne), World.frozen?_alloc_old _ _ _ (by simp)]
    exact World.frozen?_alloc_new _ _ _ _
  have lowne : ∀ b, b < w0.heap.size + 2 → v.ownBlock ≠ some b := fun b hb e => by have := (own_lt _ e).1; omega
  have on : Only (w0.heap.size + 1) w1 (w1.setCell ⟨w0.heap.size + 1, 1, none⟩ (.slice (some ⟨g, 0, none⟩) (k + 1) cap)) := (Only.refl _ w1).setCell 1 _
  have hb1 : Below w0.heap.size w0 w1 := by
    refine h.below.trans ⟨hgrow.os, hgrow.tape, hgrow.output, by omega, fun i hi => ?_⟩
    rw [hgrow.block i (by simp; omega) (Ne.symm (lowne i (by omega))), Below.heap_alloc _ _ _ (by simp; omega), Below.heap_alloc _ _ _ (by omega)]
  have o0' : w1.cell? ⟨w0.heap.size + 1, 0, none⟩ = some (.int .i64 (n : Int)) := by rw [cell1 _ _ (by omega) (lowne _ (by omega))]; exact h.o0
  have o1' : w1.cell? ⟨w0.heap.size + 1, 1, none⟩ = some v := by rw [cell1 _ _ (by omega) (lowne _ (by omega))]; exact h.o1
  refine ⟨?_, World.cell?_setCell_same _ _ _ o1', by rw [on.frozen, froz1 _ _ (by omega) (lowne _ (by omega))]; exact h.of, by rw [on.cell (by omega), cell1 _ _ (by omega) (lowne _ (by omega))]; exact h.q0,
    by rw [on.cell (by omega), cell1 _ _ (by omega) (lowne _ (by omega))]; exact h.q1, fun i => by rw [on.frozen, froz1 _ _ (by omega) (lowne _ (by omega))]; exact h.qf i, ?_, ?_, ?_, ?_, ?_, by rw [on.size]; omega, hb1.trans (on.below (by omega))⟩
  · have hne : (⟨w0.heap.size + 1, 1, none⟩ : Addr) ≠ ⟨w0.heap.size + 1, 0, none⟩ := by intro hh; simp at hh
    rw [World.cell?_setCell_other _ _ _ _ hne]; exact o0'
  · have e : ((List.range (k + 1)).map fun i => Value.slice (some ⟨if i = k then wr.heap.size else rows i, 0, none⟩) n n) = ((List.range k).map fun i => Value.slice (some ⟨rows i, 0, none⟩) n n) ++ [.slice (some ⟨wr.heap.size, 0, none⟩) n n] := by
      rw [List.range_succ, List.map_append]
      congr 1
      · refine List.map_congr_left fun i hi => ?_
        have : i ≠ k := by have := List.mem_range.1 hi; omega
        simp [this]
      · simp
    rw [e]
    exact ownsRow_setCell_below hown (by simp) _
  · intro i j hi hj
    by_cases e : i = k
    · simp only [e, if_true]
      rw [on.cell (by omega)]; exact cellN j hj
    · simp only [e, if_false]
      have hf := h.far i (by omega)
      rw [on.cell (by omega), cell1 _ _ hf.2.1 hf.2.2]; exact h.row i j (by omega) hj
  · intro i j hi hj
    rw [on.frozen]
    by_cases e : i = k
    · simp only [e, if_true]; exact frozN j
    · simp only [e, if_false]
      have hf := h.far i (by omega)
      rw [froz1 _ _ hf.2.1 hf.2.2]; exact h.fz i j (by omega) hj
  · intro i j hi hj hij
    by_cases e : i = k
    · by_cases e' : j = k
      · omega
      · simp only [e, if_true, e', if_false] at hij
        have := (h.far j (by omega)).2.1; omega
    · by_cases e' : j = k
      · simp only [e, if_false, e', if_true] at hij
        have := (h.far i (by omega)).2.1; omega
      · simp only [e, if_false, e'] at hij
        exact h.inj i j (by omega) (by omega) hij
  · intro i hi
    rw [on.size]
    by_cases e : i = k
    · simp only [e, if_true, Value.ownBlock]
      refine ⟨by omega, by omega, ?_⟩
      intro hh
      have hg : g = wr.heap.size := by simpa using hh
      rcases hat with hat | hat
      · have := (own_lt g hat).2; omega
      · omega
    · simp only [e, if_false, Value.ownBlock]
      have hf := h.far i (by omega)
      refine ⟨hf.1, by omega, ?_⟩
      intro hh
      have hg : g = rows i := by simpa using hh
      rcases hat with hat | hat
      · exact hf.2.2 (by rw [hat, hg])
      · omega

theorem G1.head {w0 : World} {n k g cap : Nat} {rows : Nat → Nat} {R : Nat → Nat → Bool} {wr : World} (h : G1 w0 n k (.slice (some ⟨g, 0, none⟩) k cap) rows R wr) (i : Nat) (hi : i < k) :
    wr.cell? ⟨g, i, none⟩ = some (.slice (some ⟨rows i, 0, none⟩) n n) := by
  rw [h.own.cellAt i (by omega)]
  simp [hi]

theorem G1.grid {w0 : World} {n g cap : Nat} {rows : Nat → Nat} {R : Nat → Nat → Bool} {wr : World} (h : G1 w0 n n (.slice (some ⟨g, 0, none⟩) n cap) rows R wr) (hn : n ≤ 32) : GridAt wr g n rows R :=
  ⟨hn, fun i hi => h.head i hi, fun i j hi hj => h.row i j hi hj⟩

namespace M
/-- how many truths lack -/
def cntF (n : Nat) (R : Nat → Nat → Bool) : Nat := (((List.range n).flatMap fun i => (List.range n).map fun j => (i, j)).filter fun x => !R x.1 x.2).length

theorem filter_lt {α : Type} {p q : α → Bool} : ∀ (l : List α), (∀ x, x ∈ l → q x = true → p x = true) → ∀ x, x ∈ l → p x = true → q x = false → (l.filter q).length < (l.filter p).length
  | [], _, x, hx, _, _ => by simp at hx
  | y :: l, h, x, hx, hp, hq => by
    have hle : ∀ (l : List α), (∀ x, x ∈ l → q x = true → p x = true) → (l.filter q).length ≤ (l.filter p).length := by
      intro l
      induction l with
      | nil => intro _; simp
      | cons z l ih =>
        intro h
        have ih' := ih (fun x hx => h x (List.mem_cons_of_mem _ hx))
        cases e : q z with
        | true => rw [List.filter_cons_of_pos e, List.filter_cons_of_pos (h z (List.mem_cons_self) e)]; simp; exact ih'
        | false =>
          rw [List.filter_cons_of_neg (by simp [e])]
          cases e' : p z with
          | true => rw [List.filter_cons_of_pos e']; simp; omega
          | false => rw [List.filter_cons_of_neg (by simp [e'])]; exact ih'
    have hl := hle l (fun x hx => h x (List.mem_cons_of_mem _ hx))
    rcases List.mem_cons.1 hx with rfl | hx'
    · rw [List.filter_cons_of_pos hp, List.filter_cons_of_neg (by simp [hq])]; simp; omega
    · have ih := filter_lt l (fun x hx => h x (List.mem_cons_of_mem _ hx)) x hx' hp hq
      cases e : q y with
      | true => rw [List.filter_cons_of_pos e, List.filter_cons_of_pos (h y (List.mem_cons_self) e)]; simp; exact ih
      | false =>
        rw [List.filter_cons_of_neg (by simp [e])]
        cases e' : p y with
        | true => rw [List.filter_cons_of_pos e']; simp; omega
        | false => rw [List.filter_cons_of_neg (by simp [e'])]; exact ih

theorem cntF_upd {n : Nat} {R : Nat → Nat → Bool} {a c : Nat} (ha : a < n) (hc : c < n) (h : R a c = false) : cntF n (upd R a c) < cntF n R := by
  unfold cntF
  refine filter_lt _ ?_ (a, c) ?_ (by simp [h]) (by simp [upd])
  · rintro ⟨i, j⟩ _ hq
    simp only [upd] at hq
    split at hq
    · simp at hq
    · exact hq
  · rw [List.mem_flatMap]
    exact ⟨a, List.mem_range.2 ha, List.mem_map.2 ⟨c, List.mem_range.2 hc, rfl⟩⟩

/-- what the pairs say is there, and nothing that does not follow -/
structure Mid (n : Nat) (r : Nat → Nat → Prop) (R : Nat → Nat → Bool) : Prop where
  has : ∀ a b, a < n → b < n → r a b → R a b = true
  least : ∀ T : Nat → Nat → Prop, (∀ a b, a < n → b < n → r a b → T a b) → (∀ a b c, a < n → b < n → c < n → T a b → T b c → T a c) → ∀ a b, a < n → b < n → R a b = true → T a b
def TransR (n : Nat) (R : Nat → Nat → Bool) : Prop := ∀ a b c, a < n → b < n → c < n → R a b = true → R b c = true → R a c = true

/-- within a pass: F lacked when it began; what stands ahead of a, b, c is done -/
structure Pass (n F a b c : Nat) (m : Bool) (R : Nat → Nat → Bool) : Prop where
  same : m = false → cntF n R = F ∧ ∀ x y z, x < n → y < n → z < n → (x < a ∨ x = a ∧ (y < b ∨ y = b ∧ z < c)) → R x y = true → R y z = true → R x z = true
  less : m = true → cntF n R < F

theorem Pass.start (n : Nat) (R : Nat → Nat → Bool) : Pass n (cntF n R) 0 0 0 false R := ⟨fun _ => ⟨rfl, fun x y z _ _ _ h => by omega⟩, (fun h => by cases h)⟩
theorem Pass.skip {n F a b c : Nat} {m : Bool} {R : Nat → Nat → Bool} (h : Pass n F a b c m R) (hs : R a b = true → R b c = true → R a c = true) : Pass n F a b (c + 1) m R where
  same hm := by
    refine ⟨(h.same hm).1, fun x y z hx hy hz hd => ?_⟩
    by_cases e : x = a ∧ y = b ∧ z = c
    · obtain ⟨rfl, rfl, rfl⟩ := e; exact hs
    · exact (h.same hm).2 x y z hx hy hz (by omega)
  less := h.less
theorem Pass.add {n F a b c : Nat} {m : Bool} {R : Nat → Nat → Bool} (h : Pass n F a b c m R) (ha : a < n) (hc : c < n) (hr : R a c = false) : Pass n F a b (c + 1) true (upd R a c) where
  same hm := by cases hm
  less _ := by
    have := cntF_upd ha hc hr
    cases m with
    | true => have := h.less rfl; omega
    | false => have := (h.same rfl).1; omega
theorem Pass.nextB {n F a b : Nat} {m : Bool} {R : Nat → Nat → Bool} (h : Pass n F a b n m R) : Pass n F a (b + 1) 0 m R where
  same hm := ⟨(h.same hm).1, fun x y z hx hy hz hd => (h.same hm).2 x y z hx hy hz (by omega)⟩
  less := h.less
theorem Pass.nextA {n F a : Nat} {m : Bool} {R : Nat → Nat → Bool} (h : Pass n F a n 0 m R) : Pass n F (a + 1) 0 0 m R where
  same hm := ⟨(h.same hm).1, fun x y z hx hy hz hd => (h.same hm).2 x y z hx hy hz (by omega)⟩
  less := h.less
theorem Pass.done {n F : Nat} {R : Nat → Nat → Bool} (h : Pass n F n 0 0 false R) : TransR n R :=
  fun x y z hx hy hz => (h.same rfl).2 x y z hx hy hz (by omega)
theorem Mid.add {n : Nat} {r : Nat → Nat → Prop} {R : Nat → Nat → Bool} (h : Mid n r R) {a b c : Nat} (ha : a < n) (hb : b < n) (hc : c < n) (h1 : R a b = true) (h2 : R b c = true) : Mid n r (upd R a c) where
  has x y hx hy hr := by
    unfold upd
    split
    · rfl
    · exact h.has x y hx hy hr
  least T t1 t2 x y hx hy hs := by
    unfold upd at hs
    split at hs
    · rename_i e; obtain ⟨rfl, rfl⟩ := e
      exact t2 x b y hx hb hy (h.least T t1 t2 x b hx hb h1) (h.least T t1 t2 b y hb hy h2)
    · exact h.least T t1 t2 x y hx hy hs
end M
end Go.Proofs.Ytjcdopgefcmbpaa
