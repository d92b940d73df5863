/- What the laws want besides. -/
import Derived.Test.YtjbihammbmiieaaDoorLa
import Derived.Test.YtjbihammbmiieaaDoorSx
import Derived.Test.YtjbihammbmiieaaDoorRn2
import Derived.Test.YtjbihammbmiieaaDoorRs
namespace Go.Proofs.YtjbihammbmiieaaDoor
open Go.RowKit Un

theorem twins_vals {T S S' : Ts} {σ : Nat → Ty} (h : Twins S T) (hg : Un.Good S') (hl : S'.length = S.length) (h1 : ∀ x, x < S.length → Val S x (σ x)) (h2 : ∀ x, x < S'.length → Val S' x (σ x)) : Twins S' T := by
  refine ⟨hg, h.good', by rw [hl, h.len], fun ρ => ?_⟩
  rw [← h.sol ρ, sol_iff hg, sol_iff h.good]
  constructor
  · intro k x t hx ht
    rw [ht.same (h1 x hx)]
    exact k x _ (by rw [hl]; exact hx) (h2 x (by rw [hl]; exact hx))
  · intro k x t hx ht
    rw [ht.same (h2 x hx)]
    exact k x _ (by rw [← hl]; exact hx) (h1 x (by rw [← hl]; exact hx))
set_option maxRecDepth 100000 in
theorem unify_no (B bt : Nat) (R : List Nx) (v : Value) (x y : Int) (w : World) (h : TabAt B w bt R v) (hx : -1000000 ≤ x ∧ x ≤ 1000000) (hy : -1000000 ≤ y ∧ y ≤ 1000000) (hn : ¬ ((0 ≤ x ∧ x < R.length + 3) ∧ (0 ≤ y ∧ y < R.length + 3))) : Calls Tryd.prog 13 #[.pointer (some ⟨bt, 0, none⟩), .int .i64 x, .int .i64 y] w fun e w' => e = .returned (.int .i64 1) ∧ w = w' := by
  have H := Lib.hid h
  clear h
  by_cases h1 : 0 ≤ x ∧ x < (R.length : Int) + 3
  · have h2 : ¬ (0 ≤ y ∧ y < (R.length : Int) + 3) := fun e => hn ⟨h1, e⟩
    have D1 := Lib.hid h1; have D2 := Lib.hid h2
    clear h1 h2 hn
    go_enter Tryd.func13, Tryd.ntmps13
    go_wp2_with fail
    refine (has_any B bt R v x w H.out (by omega) (by omega)).mono ?_
    rintro e w1 ⟨rfl, rfl⟩
    rw [decide_eq_true D1.out]
    go_wp2_with fail
    refine (has_any B bt R v y w H.out (by omega) (by omega)).mono ?_
    rintro e w1 ⟨rfl, rfl⟩
    rw [decide_eq_false D2.out]
    go_wp2
    go_ret
    exact ⟨rfl, rfl⟩
  · have D1 := Lib.hid h1
    clear h1 hn
    go_enter Tryd.func13, Tryd.ntmps13
    go_wp2_with fail
    refine (has_any B bt R v x w H.out (by omega) (by omega)).mono ?_
    rintro e w1 ⟨rfl, rfl⟩
    rw [decide_eq_false D1.out]
    go_wp2
    go_ret
    exact ⟨rfl, rfl⟩
theorem unify_nil (x y : Int) (w : World) : Calls Tryd.prog 13 #[.pointer none, .int .i64 x, .int .i64 y] w fun e w' => e = .returned (.int .i64 1) ∧ w = w' := by
  go_enter Tryd.func13, Tryd.ntmps13
  go_wp2_with fail
  refine (has_nil x w).mono ?_
  rintro e w1 ⟨rfl, rfl⟩
  go_wp2
  go_ret
  exact ⟨rfl, rfl⟩
/-- both lists, as far as they are made -/
structure UpAt (w9 : World) (A C : List Int) (av cv : Value) (wr : World) : Prop where
  a : wr.ownsRow w9.heap.size 35 1 av A.length (zs A)
  c : wr.ownsRow w9.heap.size 3 1 cv C.length (zs C)
  below : Below w9.heap.size w9 wr
theorem UpAt.more1 {w9 wr w' : World} {A C : List Int} {av cv v' : Value} {x : Int} {o : Obj} (h : UpAt w9 A C av cv wr) (hown : w'.ownsRow w9.heap.size 35 1 v' (A.length + 1) (zs A ++ [.int .i64 x])) (hg : (wr.alloc o).grownBy w' av.ownBlock) : UpAt w9 (A ++ [x]) C v' cv w' := by
  have hba : Below wr.heap.size wr (wr.alloc o) := (Below.refl _ wr).alloc (Nat.le_refl _) _
  have hg4 : But (fun q => av.ownBlock = some q) (wr.alloc o) w' := But.of_grown hg (fun _ e => e)
  refine ⟨?_, ?_, ?_⟩
  · rw [zs_app, List.length_append]; exact hown
  · exact hg4.own (own_below h.c hba) (fun g hg e => row_apart (own_below h.c hba) (own_below h.a hba) (by decide) g e hg)
  · exact (h.below.trans (hba.mono h.below.size)).trans (But.below hg4 (by have := h.below.size; simp; omega) (fun q e => (own_tag (own_below h.a hba) e).1))
theorem UpAt.more2 {w9 wr w' : World} {A C : List Int} {av cv v' : Value} {x : Int} {o : Obj} (h : UpAt w9 A C av cv wr) (hown : w'.ownsRow w9.heap.size 3 1 v' (C.length + 1) (zs C ++ [.int .i64 x])) (hg : (wr.alloc o).grownBy w' cv.ownBlock) : UpAt w9 A (C ++ [x]) av v' w' := by
  have hba : Below wr.heap.size wr (wr.alloc o) := (Below.refl _ wr).alloc (Nat.le_refl _) _
  have hg4 : But (fun q => cv.ownBlock = some q) (wr.alloc o) w' := But.of_grown hg (fun _ e => e)
  refine ⟨?_, ?_, ?_⟩
  · exact hg4.own (own_below h.a hba) (fun g hg e => row_apart (own_below h.a hba) (own_below h.c hba) (by decide) g e hg)
  · rw [zs_app, List.length_append]; exact hown
  · exact (h.below.trans (hba.mono h.below.size)).trans (But.below hg4 (by have := h.below.size; simp; omega) (fun q e => (own_tag (own_below h.c hba) e).1))
def upto (j : Nat) : List Int := (List.range j).map fun i : Nat => (i : Int) - 1
theorem upto_len (j : Nat) : (upto j).length = j := by simp [upto]
theorem upto_succ (j : Nat) : upto (j + 1) = upto j ++ [(j : Int) - 1] := by simp [upto, List.range_succ]
theorem upto_mem {j : Nat} {x : Int} (h : x ∈ upto j) : -1 ≤ x ∧ x < j := by
  obtain ⟨i, hi, rfl⟩ := List.mem_map.1 h
  have := List.mem_range.1 hi
  omega
end Go.Proofs.YtjbihammbmiieaaDoor
