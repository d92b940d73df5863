/- The law's texts, and what the plain functions say of them. -/
import Derived.Test.YtcelelnmphdlbaaGreatDoorFamP
import Derived.Test.YtcelelnmphdlbaaGreatDoorOrderOf
namespace Go.Proofs.YtcelelnmphdlbaaGreatDoor
open Lx

namespace Lx
theorem nm_inj {kd kd' : UInt8} {i j : Nat} (hi : i < 9) (hj : j < 9) (h : nm kd i = nm kd' j) : kd = kd' ∧ i = j := by
  unfold nm at h
  injection h with h1 h2
  injection h2 with _ h2
  injection h2 with h2 _
  have := congrArg UInt8.toNat h2
  simp only [UInt8.toNat_ofNat'] at this
  exact ⟨h1, by omega⟩
/-- the item of the k-th pair -/
def oit (x y k : Nat) (p : Nat × Nat) : It := if k % 2 = 0 then .od 99 (p.1 % x) (p.2 % x) else .od 105 (p.1 % y) (p.2 % y)
def oits (x y : Nat) : Nat → List (Nat × Nat) → List It
  | _, [] => []
  | k, p :: l => oit x y k p :: oits x y (k + 1) l
theorem oits_snoc (x y : Nat) (p : Nat × Nat) : ∀ (l : List (Nat × Nat)) (k : Nat), oits x y k (l ++ [p]) = oits x y k l ++ [oit x y (k + l.length) p]
  | [], k => rfl
  | a :: l, k => by
    show oit x y k a :: oits x y (k + 1) (l ++ [p]) = _
    rw [oits_snoc x y p l (k + 1), List.length_cons, show k + 1 + l.length = k + (l.length + 1) by omega]; rfl
theorem oits_len (x y : Nat) : ∀ (l : List (Nat × Nat)) (k : Nat), (oits x y k l).length = l.length
  | [], _ => rfl
  | a :: l, k => by rw [oits, List.length_cons, oits_len x y l (k + 1), List.length_cons]
/-- the pairs of the one kind, and of the other one -/
def cps (x : Nat) : Nat → List (Nat × Nat) → List (Nat × Nat)
  | _, [] => []
  | k, p :: l => if k % 2 = 0 then (p.1 % x, p.2 % x) :: cps x (k + 1) l else cps x (k + 1) l
def tps (y : Nat) : Nat → List (Nat × Nat) → List (Nat × Nat)
  | _, [] => []
  | k, p :: l => if k % 2 = 0 then tps y (k + 1) l else (p.1 % y, p.2 % y) :: tps y (k + 1) l
theorem cps_snoc (x : Nat) (p : Nat × Nat) : ∀ (l : List (Nat × Nat)) (k : Nat), cps x k (l ++ [p]) = cps x k l ++ (if (k + l.length) % 2 = 0 then [(p.1 % x, p.2 % x)] else [])
  | [], k => by simp [cps]
  | a :: l, k => by
    show (if k % 2 = 0 then (a.1 % x, a.2 % x) :: cps x (k + 1) (l ++ [p]) else cps x (k + 1) (l ++ [p])) = _
    rw [cps_snoc x p l (k + 1), List.length_cons, show k + 1 + l.length = k + (l.length + 1) by omega, cps]
    split <;> simp
theorem tps_snoc (y : Nat) (p : Nat × Nat) : ∀ (l : List (Nat × Nat)) (k : Nat), tps y k (l ++ [p]) = tps y k l ++ (if (k + l.length) % 2 = 0 then [] else [(p.1 % y, p.2 % y)])
  | [], k => by simp [tps]
  | a :: l, k => by
    show (if k % 2 = 0 then tps y (k + 1) (l ++ [p]) else (a.1 % y, a.2 % y) :: tps y (k + 1) (l ++ [p])) = _
    rw [tps_snoc y p l (k + 1), List.length_cons, show k + 1 + l.length = k + (l.length + 1) by omega, tps]
    split <;> simp
theorem cps_len (x : Nat) : ∀ (l : List (Nat × Nat)) (k : Nat), (cps x k l).length ≤ l.length
  | [], _ => by simp [cps]
  | a :: l, k => by
    have := cps_len x l (k + 1)
    rw [cps]; split <;> simp <;> omega
theorem tps_len (y : Nat) : ∀ (l : List (Nat × Nat)) (k : Nat), (tps y k l).length ≤ l.length
  | [], _ => by simp [tps]
  | a :: l, k => by
    have := tps_len y l (k + 1)
    rw [tps]; split <;> simp <;> omega
/-- all items -/
def base1 (x : Nat) : List It := (List.range x).map It.cf
def base2 (x y : Nat) : List It := base1 x ++ (List.range y).map It.ig
def items (x y : Nat) (l : List (Nat × Nat)) : List It := base2 x y ++ oits x y 0 l
theorem items_ok {x y : Nat} (hx1 : 1 ≤ x) (hx : x ≤ 9) (hy1 : 1 ≤ y) (hy : y ≤ 9) (l : List (Nat × Nat)) : ∀ it ∈ items x y l, it.ok := by
  have ho : ∀ (l : List (Nat × Nat)) (k : Nat), ∀ it ∈ oits x y k l, it.ok := by
    intro l
    induction l with
    | nil => intro k it h; cases h
    | cons p l ih =>
      intro k it h
      rcases List.mem_cons.1 h with rfl | h
      · unfold oit
        have h1 := Nat.mod_lt p.1 (show 0 < x by omega); have h2 := Nat.mod_lt p.2 (show 0 < x by omega)
        have h3 := Nat.mod_lt p.1 (show 0 < y by omega); have h4 := Nat.mod_lt p.2 (show 0 < y by omega)
        split
        · exact ⟨.inl rfl, by omega, by omega⟩
        · exact ⟨.inr rfl, by omega, by omega⟩
      · exact ih (k + 1) it h
  intro it h
  rcases List.mem_append.1 h with h | h
  · rcases List.mem_append.1 h with h | h
    · obtain ⟨i, hi, rfl⟩ := List.mem_map.1 h
      have := List.mem_range.1 hi
      show i < 9; omega
    · obtain ⟨i, hi, rfl⟩ := List.mem_map.1 h
      have := List.mem_range.1 hi
      show i < 9; omega
  · exact ho l 0 it h
theorem items_len (x y : Nat) (l : List (Nat × Nat)) : (items x y l).length = x + y + l.length := by simp [items, base2, base1, oits_len]; omega
end Lx

namespace Py
open Lx
theorem confs_app : ∀ a b : List It, confs (a ++ b) = confs a ++ confs b
  | [], b => rfl
  | it :: a, b => by cases it <;> simp [confs, confs_app a b]
theorem integs_app : ∀ a b : List It, integs (a ++ b) = integs a ++ integs b
  | [], b => rfl
  | it :: a, b => by cases it <;> simp [integs, integs_app a b]
theorem pairs_app : ∀ a b : List It, pairs (a ++ b) = pairs a ++ pairs b
  | [], b => rfl
  | it :: a, b => by cases it <;> simp [pairs, pairs_app a b]
theorem confs_cf : ∀ l : List Nat, confs (l.map It.cf) = l.map (nm 99)
  | [] => rfl
  | i :: l => by simp [confs, confs_cf l]
theorem confs_ig : ∀ l : List Nat, confs (l.map It.ig) = []
  | [] => rfl
  | i :: l => by simp [confs, confs_ig l]
theorem integs_cf : ∀ l : List Nat, integs (l.map It.cf) = []
  | [] => rfl
  | i :: l => by simp [integs, integs_cf l]
theorem integs_ig : ∀ l : List Nat, integs (l.map It.ig) = l.map (nm 105)
  | [] => rfl
  | i :: l => by simp [integs, integs_ig l]
theorem pairs_cf : ∀ l : List Nat, pairs (l.map It.cf) = []
  | [] => rfl
  | i :: l => by simp [pairs, pairs_cf l]
theorem pairs_ig : ∀ l : List Nat, pairs (l.map It.ig) = []
  | [] => rfl
  | i :: l => by simp [pairs, pairs_ig l]
theorem oits_conf (x y : Nat) : ∀ (l : List (Nat × Nat)) (k : Nat), confs (oits x y k l) = []
  | [], _ => rfl
  | p :: l, k => by rw [oits, oit]; split <;> simp [confs, oits_conf x y l]
theorem oits_integ (x y : Nat) : ∀ (l : List (Nat × Nat)) (k : Nat), integs (oits x y k l) = []
  | [], _ => rfl
  | p :: l, k => by rw [oits, oit]; split <;> simp [integs, oits_integ x y l]
theorem items_conf (x y : Nat) (l : List (Nat × Nat)) : confs (items x y l) = (List.range x).map (nm 99) := by
  simp [items, base2, base1, confs_app, confs_cf, confs_ig, oits_conf]
theorem items_integ (x y : Nat) (l : List (Nat × Nat)) : integs (items x y l) = (List.range y).map (nm 105) := by
  simp [items, base2, base1, integs_app, integs_cf, integs_ig, oits_integ]
theorem items_pairs (x y : Nat) (l : List (Nat × Nat)) : pairs (items x y l) = pairs (oits x y 0 l) := by
  simp [items, base2, base1, pairs_app, pairs_cf, pairs_ig]
/-- a name's number among these -/
theorem ix_nm {kd : UInt8} {x i : Nat} (hx : x ≤ 9) (hi : i < x) : ix ((List.range x).map (nm kd)) (nm kd i) = some i := by
  refine ix_some (by simp [hi]) (fun j hj e => ?_)
  have hjx : j < x := by omega
  simp [hjx] at e
  have := (nm_inj (by omega) (by omega) e).2
  omega
theorem ix_other {kd kd' : UInt8} {x i : Nat} (hx : x ≤ 9) (hi : i < 9) (hk : kd ≠ kd') : ix ((List.range x).map (nm kd)) (nm kd' i) = none :=
  ix_none (fun e => by
    obtain ⟨j, hj, e⟩ := List.mem_map.1 e
    have := List.mem_range.1 hj
    exact hk (nm_inj (by omega) hi e).1)
theorem prs_conf {x y : Nat} (hx1 : 1 ≤ x) (hx : x ≤ 9) (hy1 : 1 ≤ y) (hy : y ≤ 9) : ∀ (l : List (Nat × Nat)) (k : Nat), prs ((List.range x).map (nm 99)) (pairs (oits x y k l)) = cps x k l
  | [], _ => rfl
  | p :: l, k => by
    rw [oits, oit, cps]
    split
    · rw [pairs, prs, ix_nm hx (Nat.mod_lt _ hx1), ix_nm hx (Nat.mod_lt _ hx1)]
      simp only [prs_conf hx1 hx hy1 hy l (k + 1)]
    · have h3 := Nat.mod_lt p.1 hy1
      rw [pairs, prs, ix_other hx (by omega) (by decide)]
      simp only [prs_conf hx1 hx hy1 hy l (k + 1)]
theorem prs_integ {x y : Nat} (hx1 : 1 ≤ x) (hx : x ≤ 9) (hy1 : 1 ≤ y) (hy : y ≤ 9) : ∀ (l : List (Nat × Nat)) (k : Nat), prs ((List.range y).map (nm 105)) (pairs (oits x y k l)) = tps y k l
  | [], _ => rfl
  | p :: l, k => by
    rw [oits, oit, tps]
    split
    · have h3 := Nat.mod_lt p.1 hx1
      rw [pairs, prs, ix_other hy (by omega) (by decide)]
      simp only [prs_integ hx1 hx hy1 hy l (k + 1)]
    · rw [pairs, prs, ix_nm hy (Nat.mod_lt _ hy1), ix_nm hy (Nat.mod_lt _ hy1)]
      simp only [prs_integ hx1 hx hy1 hy l (k + 1)]
theorem pairs_form {x y : Nat} (hx1 : 1 ≤ x) (hy1 : 1 ≤ y) : ∀ (l : List (Nat × Nat)) (k : Nat), ∀ p ∈ pairs (oits x y k l), (∃ i j, i < x ∧ j < x ∧ p = (nm 99 i, nm 99 j)) ∨ (∃ i j, i < y ∧ j < y ∧ p = (nm 105 i, nm 105 j))
  | [], _, p, h => by cases h
  | a :: l, k, p, h => by
    rw [oits, oit] at h
    split at h
    · rcases List.mem_cons.1 h with rfl | h
      · exact .inl ⟨_, _, Nat.mod_lt _ hx1, Nat.mod_lt _ hx1, rfl⟩
      · exact pairs_form hx1 hy1 l (k + 1) p h
    · rcases List.mem_cons.1 h with rfl | h
      · exact .inr ⟨_, _, Nat.mod_lt _ hy1, Nat.mod_lt _ hy1, rfl⟩
      · exact pairs_form hx1 hy1 l (k + 1) p h
theorem names_nodup {x y : Nat} (hx : x ≤ 9) (hy : y ≤ 9) : ((List.range x).map (nm 99) ++ (List.range y).map (nm 105)).Nodup := by
  have one : ∀ (kd : UInt8) (z : Nat), z ≤ 9 → ((List.range z).map (nm kd)).Nodup := fun kd z hz => by
    refine List.pairwise_map.2 (List.Pairwise.imp_of_mem ?_ List.nodup_range)
    intro a b ha hb hne e
    have := List.mem_range.1 ha; have := List.mem_range.1 hb
    exact hne (nm_inj (by omega) (by omega) e).2
  refine List.nodup_append.2 ⟨one 99 x hx, one 105 y hy, fun a ha b hb e => ?_⟩
  obtain ⟨i, hi, rfl⟩ := List.mem_map.1 ha
  obtain ⟨j, hj, rfl⟩ := List.mem_map.1 hb
  have := List.mem_range.1 hi; have := List.mem_range.1 hj
  exact absurd (nm_inj (by omega) (by omega) e).1 (by decide)
end Py
end Go.Proofs.YtcelelnmphdlbaaGreatDoor
