/- The walks of the document's own Join, Meet, Bottom, Top. -/
import Derived.Test.YtjcdopgefcmbpaaMem
namespace Go.Proofs.Ytjcdopgefcmbpaa
open Go.RowKit

namespace M
/-- the first number below n with p, or -1 -/
def findP (p : Nat → Bool) (n : Nat) : Int :=
  match (List.range n).find? p with
  | some i => (i : Int)
  | none => -1
theorem findP_hit {p : Nat → Bool} {n k : Nat} (h : ∀ i, i < k → p i = false) (hk : k < n) (he : p k = true) : findP p n = k := by
  have : (List.range n).find? p = some k := by
    rw [List.find?_range_eq_some]
    exact ⟨he, by simpa using hk, fun j hj => by simp [h j hj]⟩
  unfold findP; rw [this]
theorem findP_miss {p : Nat → Bool} {n : Nat} (h : ∀ i, i < n → p i = false) : findP p n = -1 := by
  have : (List.range n).find? p = none := by
    rw [List.find?_eq_none]
    intro i hi
    simp [h i (by simpa using hi)]
  unfold findP; rw [this]
theorem findP_congr {p q : Nat → Bool} {n : Nat} (h : ∀ i, i < n → p i = q i) : findP p n = findP q n := by
  by_cases hq : ∃ k, k < n ∧ q k = true ∧ ∀ i, i < k → q i = false
  · obtain ⟨k, hk, h1, h2⟩ := hq
    rw [findP_hit h2 hk h1, findP_hit (fun i hi => by rw [h i (by omega)]; exact h2 i hi) hk (by rw [h k hk]; exact h1)]
  · have hn : ∀ i, i < n → q i = false := by
      intro i
      induction i using Nat.strongRecOn with
      | _ i ih =>
        intro hi
        cases e : q i with
        | false => rfl
        | true => exact absurd ⟨i, hi, e, fun j hj => ih j hj (by omega)⟩ hq
    rw [findP_miss hn, findP_miss (fun i hi => by rw [h i hi]; exact hn i hi)]
theorem findN_eq (f : Nat → Nat) (x n : Nat) : findN f x n = findP (fun i => f i == x) n := rfl

/-- p holds of all numbers below n -/
def allB (p : Nat → Bool) : Nat → Bool
  | 0 => true
  | n + 1 => allB p n && p n
theorem allB_true {p : Nat → Bool} {n : Nat} : allB p n = true ↔ ∀ i, i < n → p i = true := by
  induction n with
  | zero => simp [allB]
  | succ n ih =>
    simp only [allB, Bool.and_eq_true, ih]
    constructor
    · rintro ⟨h1, h2⟩ i hi
      by_cases e : i = n
      · subst e; exact h2
      · exact h1 i (by omega)
    · intro h
      exact ⟨fun i hi => h i (by omega), h n (by omega)⟩

def jOne (R : Nat → Nat → Bool) (a b c d : Nat) : Bool := !(R a d && R b d && !R c d)
def jTo (R : Nat → Nat → Bool) (a b c j : Nat) : Bool := R a c && R b c && allB (jOne R a b c) j
def joinR (n : Nat) (R : Nat → Nat → Bool) (a b : Nat) : Int := findP (fun c => jTo R a b c n) n
def flipR (R : Nat → Nat → Bool) (a b : Nat) : Bool := R b a
def meetR (n : Nat) (R : Nat → Nat → Bool) (a b : Nat) : Int := joinR n (flipR R) a b
def bottomR (n : Nat) (R : Nat → Nat → Bool) : Int := findP (fun a => allB (R a) n) n
def topR (n : Nat) (R : Nat → Nat → Bool) : Int := findP (fun a => allB (flipR R a) n) n
theorem jTo_succ (R : Nat → Nat → Bool) (a b c j : Nat) : jTo R a b c (j + 1) = (jTo R a b c j && jOne R a b c j) := by simp [jTo, allB, Bool.and_assoc]
end M

/-- a square of n times n truths, a row a block -/
structure GridAt (w : World) (bb n : Nat) (rows : Nat → Nat) (R : Nat → Nat → Bool) : Prop where
  n32 : n ≤ 32
  head : ∀ i, i < n → w.cell? ⟨bb, i, none⟩ = some (.slice (some ⟨rows i, 0, none⟩) n n)
  row : ∀ i j, i < n → j < n → w.cell? ⟨rows i, j, none⟩ = some (.bool (R i j))

theorem GridAt.below {w w' : World} {bb n : Nat} {rows : Nat → Nat} {R : Nat → Nat → Bool} (h : GridAt w bb n rows R) (hb : Below w.heap.size w w') : GridAt w' bb n rows R :=
  ⟨h.n32, fun i hi => by rw [hb.cell (World.block_lt_of_cell? _ _ (h.head i hi))]; exact h.head i hi, fun i j hi hj => by rw [hb.cell (World.block_lt_of_cell? _ _ (h.row i j hi hj))]; exact h.row i j hi hj⟩
theorem GridAt.drewN {w : World} {bb n : Nat} {rows : Nat → Nat} {R : Nat → Nat → Bool} (h : GridAt w bb n rows R) (k : Nat) : GridAt (w.drewN k) bb n rows R := h.below (below_drewN (Below.refl _ _) _)
theorem GridAt.drew {w : World} {bb n : Nat} {rows : Nat → Nat} {R : Nat → Nat → Bool} (h : GridAt w bb n rows R) : GridAt w.drew bb n rows R := h.below (Below.refl _ _).drew

/-- the value of the document's order -/
def ordV (n bb cap : Nat) : Value := .agg #[.int .i64 (n : Int), .slice (some ⟨bb, 0, none⟩) n cap]

set_option maxHeartbeats 1000000 in
theorem rjoin_any (w : World) (bb n cap : Nat) (rows : Nat → Nat) (R : Nat → Nat → Bool) (a b : Nat) (h : GridAt w bb n rows R) (ha : a < n) (hb : b < n) :
    Calls Try.prog 37 #[.agg #[.int .i64 (n : Int), .slice (some ⟨bb, 0, none⟩) n cap], .int .i64 (a : Int), .int .i64 (b : Int)] w fun e w' => e = .returned (.int .i64 (M.joinR n R a b)) ∧ Below w.heap.size w w' := by
  have hn := h.n32
  have hbl : Below w.heap.size w (w.alloc (.cells #[.int .i64 (n : Int), .slice (some ⟨bb, 0, none⟩) n cap] 33)) := (Below.refl _ _).alloc (Nat.le_refl _) _
  have hg := h.below hbl
  have c0 : (w.alloc (.cells #[.int .i64 (n : Int), .slice (some ⟨bb, 0, none⟩) n cap] 33)).cell? ⟨w.heap.size, 0, none⟩ = some (.int .i64 (n : Int)) := by rw [World.cell?_alloc_new]; rfl
  have c1 : (w.alloc (.cells #[.int .i64 (n : Int), .slice (some ⟨bb, 0, none⟩) n cap] 33)).cell? ⟨w.heap.size, 1, none⟩ = some (.slice (some ⟨bb, 0, none⟩) n cap) := by rw [World.cell?_alloc_new]; rfl
  go_enter Try.func37, Try.ntmps37
  go_wp2
  generalize w.alloc (.cells #[.int .i64 (n : Int), .slice (some ⟨bb, 0, none⟩) n cap] 33) = w1 at *
  have HBL := Lib.hid hbl; clear hbl
  have cha := hg.head a ha
  have chb := hg.head b hb
  go_loop [7] (fun i => ∃ k : Nat, k ≤ n ∧ i = .int .i64 (k : Int) ∧ ∀ c, c < k → M.jTo R a b c n = false) (fun i => n - (intOf i).toNat)
  case atStart => exact ⟨0, Nat.zero_le _, rfl, fun c hc => by omega⟩
  case round =>
    obtain ⟨k, hk, rfl, hno⟩ := hrel
    have HNO := Lib.hid hno; clear hno
    by_cases hlt : k < n
    · have chk := hg.head k hlt
      have r1 := hg.row a k ha hlt
      have r2 := hg.row b k hb hlt
      have st : M.jTo R a b k 0 = (R a k && R b k) := by simp [M.jTo, M.allB]
      have ST := Lib.hid st; clear st
      cases e1 : R a k
      all_goals cases e2 : R b k
      all_goals
        rw [e1] at r1
        rw [e2] at r2
        have E1 := Lib.hid e1; clear e1
        have E2 := Lib.hid e2; clear e2
        go_wp2
        clear r1 r2
        go_loop [8, 9] (fun s i => ∃ j : Nat, j ≤ n ∧ i = .int .i64 (j : Int) ∧ s = .bool (M.jTo R a b k j)) (fun _ i => n - (intOf i).toNat)
        case atStart => exact ⟨0, Nat.zero_le _, rfl, by rw [ST.out, E1.out, E2.out]; rfl⟩
        case round =>
          obtain ⟨j, hj, rfl, rfl⟩ := hrel
          by_cases hlj : j < n
          · have r1 := hg.row a j ha hlj
            have r2 := hg.row b j hb hlj
            have r3 := hg.row k j hlt hlj
            have js := M.jTo_succ R a b k j
            have jo : M.jOne R a b k j = !(R a j && R b j && !R k j) := rfl
            rw [jo] at js
            clear jo
            have JS := Lib.hid js; clear js
            cases f1 : R a j
            all_goals cases f2 : R b j
            all_goals cases f3 : R k j
            all_goals
              rw [f1] at r1
              rw [f2] at r2
              rw [f3] at r3
              have F1 := Lib.hid f1; clear f1
              have F2 := Lib.hid f2; clear f2
              have F3 := Lib.hid f3; clear f3
              go_wp2
              go_round
              case rel => exact ⟨j + 1, by omega, by go_num, by rw [JS.out, F1.out, F2.out, F3.out]; simp⟩
              case measure => simp [intOf]; omega
          · have hjn : n = j := by omega
            subst hjn
            cases hr : M.jTo R a b k n with
            | true =>
              have HR := Lib.hid hr; clear hr
              go_wp2
              go_ret
              exact ⟨ret_int (M.findP_hit HNO.out hlt HR.out).symm, HBL.out⟩
            | false =>
              have HR := Lib.hid hr; clear hr
              go_wp2
              go_round
              case rel =>
                refine ⟨k + 1, by omega, by go_num, ?_⟩
                intro c hc
                by_cases e : c = k
                · subst e; exact HR.out
                · exact HNO.out c (by omega)
              case measure => simp [intOf]; omega
    · have hkn : n = k := by omega
      subst hkn
      go_wp2
      go_ret
      exact ⟨ret_int (M.findP_miss HNO.out).symm, HBL.out⟩
end Go.Proofs.Ytjcdopgefcmbpaa
