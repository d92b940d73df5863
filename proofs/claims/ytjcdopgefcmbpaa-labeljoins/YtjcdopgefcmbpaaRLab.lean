/- The walks of the document's own functions of layer 2: Right, Below, Bottom, Two, Join. -/
import Derived.Test.YtjcdopgefcmbpaaLab
namespace Go.Proofs.Ytjcdopgefcmbpaa
open Go.RowKit

/-- the document's order lies at block b, and says what masks say, of a lattice -/
structure DocAt (w : World) (b n : Nat) (rows : Nat → Nat) (R : Nat → Nat → Bool) (f u : Nat → Nat) : Prop where
  grid : GridAt w b n rows R
  same : M.Same n f R
  flip : M.Same n u (M.flipR R)
  lat : M.Lat n f u

theorem DocAt.below {w w' : World} {b n : Nat} {rows : Nat → Nat} {R : Nat → Nat → Bool} {f u : Nat → Nat} (h : DocAt w b n rows R f u) (hb : Below w.heap.size w w') : DocAt w' b n rows R f u := ⟨h.grid.below hb, h.same, h.flip, h.lat⟩

theorem joinI_in {n : Nat} {f u : Nat → Nat} (L : M.Lat n f u) {a b : Int} (ha : hasB n a = true) (hb : hasB n b = true) : hasB n (joinI n f a b) = true := by
  obtain ⟨a0, a1⟩ := of_hasB ha
  obtain ⟨b0, b1⟩ := of_hasB hb
  obtain ⟨p, hp, _, hf⟩ := findN_point (L.join a.toNat b.toNat (by omega) (by omega))
  unfold joinI
  rw [ha, hb, if_pos (by rfl), hf]
  exact hasB_true (by omega) (by omega)
theorem joinsI_in {n : Nat} {f u : Nat → Nat} (L : M.Lat n f u) {x : Nat → Int} : ∀ k, (∀ i, i < k → hasB n (x i) = true) → hasB n (joinsI n f x k) = true
  | 0, _ => by
    obtain ⟨p, hp, _, hf⟩ := findN_point L.bottom_ex
    show hasB n (M.findN f (M.full n) n) = true
    rw [hf]; exact hasB_true (by omega) (by omega)
  | k + 1, h => joinI_in L (joinsI_in L k fun i hi => h i (by omega)) (h k (by omega))

theorem rjoin_tot (w : World) (b n cap : Nat) (rows : Nat → Nat) (R : Nat → Nat → Bool) (f u : Nat → Nat) (x y : Int) (d : DocAt w b n rows R f u) (hx : hasB n x = true) (hy : hasB n y = true) :
    Calls Try.prog 37 #[.agg #[.int .i64 (n : Int), .slice (some ⟨b, 0, none⟩) n cap], .int .i64 x, .int .i64 y] w fun e w' => e = .returned (.int .i64 (joinI n f x y)) ∧ Below w.heap.size w w' := by
  obtain ⟨x0, x1⟩ := of_hasB hx
  obtain ⟨y0, y1⟩ := of_hasB hy
  obtain ⟨a, rfl⟩ := Int.eq_ofNat_of_zero_le x0
  obtain ⟨c, rfl⟩ := Int.eq_ofNat_of_zero_le y0
  have e : joinI n f (a : Int) (c : Int) = M.joinR n R a c := by
    unfold joinI
    rw [hx, hy, if_pos (by rfl)]
    exact (d.same.join (by omega) (by omega)).symm
  rw [e]
  exact rjoin_any w b n cap rows R a c d.grid (by omega) (by omega)

section
variable (w : World) (b1 n1 k1 : Nat) (rows1 : Nat → Nat) (R1 : Nat → Nat → Bool) (f1 g1 : Nat → Nat) (b2 n2 k2 : Nat) (rows2 : Nat → Nat) (R2 : Nat → Nat → Bool) (f2 g2 : Nat → Nat)

set_option maxHeartbeats 1000000 in
theorem rright_any (c i : Int) (a1 a2 : Option Addr) (l1 l2 : Nat) :
    Calls Try.prog 7 #[.agg #[.int .i64 (n1 : Int), .slice a1 l1 k1, .int .i64 (n2 : Int), .slice a2 l2 k2], .agg #[.int .i64 c, .int .i64 i]] w fun e w' => e = .returned (.bool (hasB n1 c && hasB n2 i)) ∧ Below w.heap.size w w' := by
  have hbl : Below w.heap.size w ((w.alloc (.cells #[.int .i64 (n1 : Int), .slice a1 l1 k1, .int .i64 (n2 : Int), .slice a2 l2 k2] 35)).alloc (.cells #[.int .i64 c, .int .i64 i] 39)) := ((Below.refl _ _).alloc (Nat.le_refl _) _).alloc (by simp) _
  have HBL := Lib.hid hbl; clear hbl
  by_cases h1 : 0 ≤ c
  · have t1 : decide (0 ≤ c) = true := by simpa using h1
    by_cases h2 : c < (n1 : Int)
    · have t2 : decide (c < (n1 : Int)) = true := by simpa using h2
      have e1 := hasB_true h1 h2
      have E1 := Lib.hid e1; clear e1 h1 h2
      by_cases h3 : 0 ≤ i
      · have t3 : decide (0 ≤ i) = true := by simpa using h3
        have e2 : hasB n2 i = decide (i < (n2 : Int)) := by simp [hasB, h3]
        have E2 := Lib.hid e2; clear e2 h3
        go_enter Try.func7, Try.ntmps7
        go_wp2
        go_ret
        exact ⟨by rw [E1.out, E2.out]; rfl, HBL.out⟩
      · have t3 : decide (0 ≤ i) = false := by simpa using h3
        have e2 : hasB n2 i = false := hasB_false (by omega)
        have E2 := Lib.hid e2; clear e2 h3
        go_enter Try.func7, Try.ntmps7
        go_wp2
        go_ret
        exact ⟨by rw [E1.out, E2.out]; rfl, HBL.out⟩
    · have t2 : decide (c < (n1 : Int)) = false := by simpa using h2
      have e1 : hasB n1 c = false := hasB_false (by omega)
      have E1 := Lib.hid e1; clear e1 h1 h2
      go_enter Try.func7, Try.ntmps7
      go_wp2
      go_ret
      exact ⟨by rw [E1.out]; rfl, HBL.out⟩
  · have t1 : decide (0 ≤ c) = false := by simpa using h1
    have e1 : hasB n1 c = false := hasB_false (by omega)
    have E1 := Lib.hid e1; clear e1 h1
    go_enter Try.func7, Try.ntmps7
    go_wp2
    go_ret
    exact ⟨by rw [E1.out]; rfl, HBL.out⟩
set_option maxHeartbeats 4000000 in
theorem rbelow_any (c i c' i' : Int) (d1 : DocAt w b1 n1 rows1 R1 f1 g1) (d2 : DocAt w b2 n2 rows2 R2 f2 g2) :
    Calls Try.prog 9 #[.agg #[.int .i64 (n1 : Int), .slice (some ⟨b1, 0, none⟩) n1 k1, .int .i64 (n2 : Int), .slice (some ⟨b2, 0, none⟩) n2 k2], .agg #[.int .i64 c, .int .i64 i], .agg #[.int .i64 c', .int .i64 i']] w fun e w' => e = .returned (.bool (belowI n1 f1 c c' && belowI n2 f2 i i')) ∧ Below w.heap.size w w' := by
  cases hp : (hasB n1 c && hasB n2 i) with
  | false =>
    have eb : (belowI n1 f1 c c' && belowI n2 f2 i i') = false := by
      unfold belowI
      cases h1 : hasB n1 c <;> cases h2 : hasB n2 i <;> simp_all
    have EB := Lib.hid eb; clear eb
    have HP := Lib.hid hp; clear hp
    clear d1 d2
    have hbl : Below w.heap.size w (((w.alloc (.cells #[.int .i64 (n1 : Int), .slice (some ⟨b1, 0, none⟩) n1 k1, .int .i64 (n2 : Int), .slice (some ⟨b2, 0, none⟩) n2 k2] 35)).alloc (.cells #[.int .i64 c, .int .i64 i] 39)).alloc (.cells #[.int .i64 c', .int .i64 i'] 39)) := (((Below.refl _ _).alloc (Nat.le_refl _) _).alloc (by simp) _).alloc (by simp; omega) _
    have x0 : (((w.alloc (.cells #[.int .i64 (n1 : Int), .slice (some ⟨b1, 0, none⟩) n1 k1, .int .i64 (n2 : Int), .slice (some ⟨b2, 0, none⟩) n2 k2] 35)).alloc (.cells #[.int .i64 c, .int .i64 i] 39)).alloc (.cells #[.int .i64 c', .int .i64 i'] 39)).cell? ⟨w.heap.size, 0, none⟩ = some (.int .i64 (n1 : Int)) := by simp [go_sem]
    have x1 : (((w.alloc (.cells #[.int .i64 (n1 : Int), .slice (some ⟨b1, 0, none⟩) n1 k1, .int .i64 (n2 : Int), .slice (some ⟨b2, 0, none⟩) n2 k2] 35)).alloc (.cells #[.int .i64 c, .int .i64 i] 39)).alloc (.cells #[.int .i64 c', .int .i64 i'] 39)).cell? ⟨w.heap.size, 1, none⟩ = some (.slice (some ⟨b1, 0, none⟩) n1 k1) := by simp [go_sem]
    have x2 : (((w.alloc (.cells #[.int .i64 (n1 : Int), .slice (some ⟨b1, 0, none⟩) n1 k1, .int .i64 (n2 : Int), .slice (some ⟨b2, 0, none⟩) n2 k2] 35)).alloc (.cells #[.int .i64 c, .int .i64 i] 39)).alloc (.cells #[.int .i64 c', .int .i64 i'] 39)).cell? ⟨w.heap.size, 2, none⟩ = some (.int .i64 (n2 : Int)) := by simp [go_sem]
    have x3 : (((w.alloc (.cells #[.int .i64 (n1 : Int), .slice (some ⟨b1, 0, none⟩) n1 k1, .int .i64 (n2 : Int), .slice (some ⟨b2, 0, none⟩) n2 k2] 35)).alloc (.cells #[.int .i64 c, .int .i64 i] 39)).alloc (.cells #[.int .i64 c', .int .i64 i'] 39)).cell? ⟨w.heap.size, 3, none⟩ = some (.slice (some ⟨b2, 0, none⟩) n2 k2) := by simp [go_sem]
    have p0 : (((w.alloc (.cells #[.int .i64 (n1 : Int), .slice (some ⟨b1, 0, none⟩) n1 k1, .int .i64 (n2 : Int), .slice (some ⟨b2, 0, none⟩) n2 k2] 35)).alloc (.cells #[.int .i64 c, .int .i64 i] 39)).alloc (.cells #[.int .i64 c', .int .i64 i'] 39)).cell? ⟨w.heap.size + 1, 0, none⟩ = some (.int .i64 c) := by simp [go_sem]
    have p1 : (((w.alloc (.cells #[.int .i64 (n1 : Int), .slice (some ⟨b1, 0, none⟩) n1 k1, .int .i64 (n2 : Int), .slice (some ⟨b2, 0, none⟩) n2 k2] 35)).alloc (.cells #[.int .i64 c, .int .i64 i] 39)).alloc (.cells #[.int .i64 c', .int .i64 i'] 39)).cell? ⟨w.heap.size + 1, 1, none⟩ = some (.int .i64 i) := by simp [go_sem]
    have q0 : (((w.alloc (.cells #[.int .i64 (n1 : Int), .slice (some ⟨b1, 0, none⟩) n1 k1, .int .i64 (n2 : Int), .slice (some ⟨b2, 0, none⟩) n2 k2] 35)).alloc (.cells #[.int .i64 c, .int .i64 i] 39)).alloc (.cells #[.int .i64 c', .int .i64 i'] 39)).cell? ⟨w.heap.size + 1 + 1, 0, none⟩ = some (.int .i64 c') := by simp [go_sem]
    have q1 : (((w.alloc (.cells #[.int .i64 (n1 : Int), .slice (some ⟨b1, 0, none⟩) n1 k1, .int .i64 (n2 : Int), .slice (some ⟨b2, 0, none⟩) n2 k2] 35)).alloc (.cells #[.int .i64 c, .int .i64 i] 39)).alloc (.cells #[.int .i64 c', .int .i64 i'] 39)).cell? ⟨w.heap.size + 1 + 1, 1, none⟩ = some (.int .i64 i') := by simp [go_sem]
    have hsz : w.heap.size + 1 + 1 < (((w.alloc (.cells #[.int .i64 (n1 : Int), .slice (some ⟨b1, 0, none⟩) n1 k1, .int .i64 (n2 : Int), .slice (some ⟨b2, 0, none⟩) n2 k2] 35)).alloc (.cells #[.int .i64 c, .int .i64 i] 39)).alloc (.cells #[.int .i64 c', .int .i64 i'] 39)).heap.size := by simp
    go_enter Try.func9, Try.ntmps9
    go_wp2_with fail
    generalize ((w.alloc (.cells #[.int .i64 (n1 : Int), .slice (some ⟨b1, 0, none⟩) n1 k1, .int .i64 (n2 : Int), .slice (some ⟨b2, 0, none⟩) n2 k2] 35)).alloc (.cells #[.int .i64 c, .int .i64 i] 39)).alloc (.cells #[.int .i64 c', .int .i64 i'] 39) = w1 at *
    refine (rright_any w1 n1 k1 n2 k2 c i _ _ _ _).mono ?_
    rintro e w2 ⟨rfl, hb2⟩
    have y0 : w2.cell? ⟨w.heap.size, 0, none⟩ = some (.int .i64 (n1 : Int)) := by rw [hb2.cell (show w.heap.size < _ by omega)]; exact x0
    have y1 : w2.cell? ⟨w.heap.size, 1, none⟩ = some (.slice (some ⟨b1, 0, none⟩) n1 k1) := by rw [hb2.cell (show w.heap.size < _ by omega)]; exact x1
    have y2 : w2.cell? ⟨w.heap.size, 2, none⟩ = some (.int .i64 (n2 : Int)) := by rw [hb2.cell (show w.heap.size < _ by omega)]; exact x2
    have y3 : w2.cell? ⟨w.heap.size, 3, none⟩ = some (.slice (some ⟨b2, 0, none⟩) n2 k2) := by rw [hb2.cell (show w.heap.size < _ by omega)]; exact x3
    have r0 : w2.cell? ⟨w.heap.size + 1, 0, none⟩ = some (.int .i64 c) := by rw [hb2.cell (show w.heap.size + 1 < _ by omega)]; exact p0
    have r1 : w2.cell? ⟨w.heap.size + 1, 1, none⟩ = some (.int .i64 i) := by rw [hb2.cell (show w.heap.size + 1 < _ by omega)]; exact p1
    have s0 : w2.cell? ⟨w.heap.size + 1 + 1, 0, none⟩ = some (.int .i64 c') := by rw [hb2.cell hsz]; exact q0
    have s1 : w2.cell? ⟨w.heap.size + 1 + 1, 1, none⟩ = some (.int .i64 i') := by rw [hb2.cell hsz]; exact q1
    have hbl2 : Below w.heap.size w w2 := hbl.trans (hb2.mono hbl.size)
    have hsz2 : w.heap.size + 1 + 1 < w2.heap.size := by have := hb2.size; omega
    clear x0 x1 x2 x3 p0 p1 q0 q1 hbl hb2 hsz
    go_wp2_with fail
    refine (rright_any w2 n1 k1 n2 k2 c' i' _ _ _ _).mono ?_
    rintro e w3 ⟨rfl, hb3⟩
    have z0 : w3.cell? ⟨w.heap.size, 0, none⟩ = some (.int .i64 (n1 : Int)) := by rw [hb3.cell (show w.heap.size < _ by omega)]; exact y0
    have z1 : w3.cell? ⟨w.heap.size, 1, none⟩ = some (.slice (some ⟨b1, 0, none⟩) n1 k1) := by rw [hb3.cell (show w.heap.size < _ by omega)]; exact y1
    have z2 : w3.cell? ⟨w.heap.size, 2, none⟩ = some (.int .i64 (n2 : Int)) := by rw [hb3.cell (show w.heap.size < _ by omega)]; exact y2
    have z3 : w3.cell? ⟨w.heap.size, 3, none⟩ = some (.slice (some ⟨b2, 0, none⟩) n2 k2) := by rw [hb3.cell (show w.heap.size < _ by omega)]; exact y3
    have a0 : w3.cell? ⟨w.heap.size + 1, 0, none⟩ = some (.int .i64 c) := by rw [hb3.cell (show w.heap.size + 1 < _ by omega)]; exact r0
    have a1 : w3.cell? ⟨w.heap.size + 1, 1, none⟩ = some (.int .i64 i) := by rw [hb3.cell (show w.heap.size + 1 < _ by omega)]; exact r1
    have c0 : w3.cell? ⟨w.heap.size + 1 + 1, 0, none⟩ = some (.int .i64 c') := by rw [hb3.cell hsz2]; exact s0
    have c1 : w3.cell? ⟨w.heap.size + 1 + 1, 1, none⟩ = some (.int .i64 i') := by rw [hb3.cell hsz2]; exact s1
    have hbl3 : Below w.heap.size w w3 := hbl2.trans (hb3.mono hbl2.size)
    clear y0 y1 y2 y3 r0 r1 s0 s1 hbl2 hb3 hsz2
    rw [HP.out]
    go_upto_region 3 with fail
    go_quiet (fail)
    go_wp2
    go_ret
    exact ⟨by rw [EB.out]; rfl, below_drewN hbl3 _⟩
  | true =>
    cases hq : (hasB n1 c' && hasB n2 i') with
    | false =>
      have eb : (belowI n1 f1 c c' && belowI n2 f2 i i') = false := by
        unfold belowI
        cases h1 : hasB n1 c' <;> cases h2 : hasB n2 i' <;> simp_all
      have EB := Lib.hid eb; clear eb
      have HP := Lib.hid hp; clear hp
      have HQ := Lib.hid hq; clear hq
      clear d1 d2
      have hbl : Below w.heap.size w (((w.alloc (.cells #[.int .i64 (n1 : Int), .slice (some ⟨b1, 0, none⟩) n1 k1, .int .i64 (n2 : Int), .slice (some ⟨b2, 0, none⟩) n2 k2] 35)).alloc (.cells #[.int .i64 c, .int .i64 i] 39)).alloc (.cells #[.int .i64 c', .int .i64 i'] 39)) := (((Below.refl _ _).alloc (Nat.le_refl _) _).alloc (by simp) _).alloc (by simp; omega) _
      have x0 : (((w.alloc (.cells #[.int .i64 (n1 : Int), .slice (some ⟨b1, 0, none⟩) n1 k1, .int .i64 (n2 : Int), .slice (some ⟨b2, 0, none⟩) n2 k2] 35)).alloc (.cells #[.int .i64 c, .int .i64 i] 39)).alloc (.cells #[.int .i64 c', .int .i64 i'] 39)).cell? ⟨w.heap.size, 0, none⟩ = some (.int .i64 (n1 : Int)) := by simp [go_sem]
      have x1 : (((w.alloc (.cells #[.int .i64 (n1 : Int), .slice (some ⟨b1, 0, none⟩) n1 k1, .int .i64 (n2 : Int), .slice (some ⟨b2, 0, none⟩) n2 k2] 35)).alloc (.cells #[.int .i64 c, .int .i64 i] 39)).alloc (.cells #[.int .i64 c', .int .i64 i'] 39)).cell? ⟨w.heap.size, 1, none⟩ = some (.slice (some ⟨b1, 0, none⟩) n1 k1) := by simp [go_sem]
      have x2 : (((w.alloc (.cells #[.int .i64 (n1 : Int), .slice (some ⟨b1, 0, none⟩) n1 k1, .int .i64 (n2 : Int), .slice (some ⟨b2, 0, none⟩) n2 k2] 35)).alloc (.cells #[.int .i64 c, .int .i64 i] 39)).alloc (.cells #[.int .i64 c', .int .i64 i'] 39)).cell? ⟨w.heap.size, 2, none⟩ = some (.int .i64 (n2 : Int)) := by simp [go_sem]
      have x3 : (((w.alloc (.cells #[.int .i64 (n1 : Int), .slice (some ⟨b1, 0, none⟩) n1 k1, .int .i64 (n2 : Int), .slice (some ⟨b2, 0, none⟩) n2 k2] 35)).alloc (.cells #[.int .i64 c, .int .i64 i] 39)).alloc (.cells #[.int .i64 c', .int .i64 i'] 39)).cell? ⟨w.heap.size, 3, none⟩ = some (.slice (some ⟨b2, 0, none⟩) n2 k2) := by simp [go_sem]
      have p0 : (((w.alloc (.cells #[.int .i64 (n1 : Int), .slice (some ⟨b1, 0, none⟩) n1 k1, .int .i64 (n2 : Int), .slice (some ⟨b2, 0, none⟩) n2 k2] 35)).alloc (.cells #[.int .i64 c, .int .i64 i] 39)).alloc (.cells #[.int .i64 c', .int .i64 i'] 39)).cell? ⟨w.heap.size + 1, 0, none⟩ = some (.int .i64 c) := by simp [go_sem]
      have p1 : (((w.alloc (.cells #[.int .i64 (n1 : Int), .slice (some ⟨b1, 0, none⟩) n1 k1, .int .i64 (n2 : Int), .slice (some ⟨b2, 0, none⟩) n2 k2] 35)).alloc (.cells #[.int .i64 c, .int .i64 i] 39)).alloc (.cells #[.int .i64 c', .int .i64 i'] 39)).cell? ⟨w.heap.size + 1, 1, none⟩ = some (.int .i64 i) := by simp [go_sem]
      have q0 : (((w.alloc (.cells #[.int .i64 (n1 : Int), .slice (some ⟨b1, 0, none⟩) n1 k1, .int .i64 (n2 : Int), .slice (some ⟨b2, 0, none⟩) n2 k2] 35)).alloc (.cells #[.int .i64 c, .int .i64 i] 39)).alloc (.cells #[.int .i64 c', .int .i64 i'] 39)).cell? ⟨w.heap.size + 1 + 1, 0, none⟩ = some (.int .i64 c') := by simp [go_sem]
      have q1 : (((w.alloc (.cells #[.int .i64 (n1 : Int), .slice (some ⟨b1, 0, none⟩) n1 k1, .int .i64 (n2 : Int), .slice (some ⟨b2, 0, none⟩) n2 k2] 35)).alloc (.cells #[.int .i64 c, .int .i64 i] 39)).alloc (.cells #[.int .i64 c', .int .i64 i'] 39)).cell? ⟨w.heap.size + 1 + 1, 1, none⟩ = some (.int .i64 i') := by simp [go_sem]
      have hsz : w.heap.size + 1 + 1 < (((w.alloc (.cells #[.int .i64 (n1 : Int), .slice (some ⟨b1, 0, none⟩) n1 k1, .int .i64 (n2 : Int), .slice (some ⟨b2, 0, none⟩) n2 k2] 35)).alloc (.cells #[.int .i64 c, .int .i64 i] 39)).alloc (.cells #[.int .i64 c', .int .i64 i'] 39)).heap.size := by simp
      go_enter Try.func9, Try.ntmps9
      go_wp2_with fail
      generalize ((w.alloc (.cells #[.int .i64 (n1 : Int), .slice (some ⟨b1, 0, none⟩) n1 k1, .int .i64 (n2 : Int), .slice (some ⟨b2, 0, none⟩) n2 k2] 35)).alloc (.cells #[.int .i64 c, .int .i64 i] 39)).alloc (.cells #[.int .i64 c', .int .i64 i'] 39) = w1 at *
      refine (rright_any w1 n1 k1 n2 k2 c i _ _ _ _).mono ?_
      rintro e w2 ⟨rfl, hb2⟩
      have y0 : w2.cell? ⟨w.heap.size, 0, none⟩ = some (.int .i64 (n1 : Int)) := by rw [hb2.cell (show w.heap.size < _ by omega)]; exact x0
      have y1 : w2.cell? ⟨w.heap.size, 1, none⟩ = some (.slice (some ⟨b1, 0, none⟩) n1 k1) := by rw [hb2.cell (show w.heap.size < _ by omega)]; exact x1
      have y2 : w2.cell? ⟨w.heap.size, 2, none⟩ = some (.int .i64 (n2 : Int)) := by rw [hb2.cell (show w.heap.size < _ by omega)]; exact x2
      have y3 : w2.cell? ⟨w.heap.size, 3, none⟩ = some (.slice (some ⟨b2, 0, none⟩) n2 k2) := by rw [hb2.cell (show w.heap.size < _ by omega)]; exact x3
      have r0 : w2.cell? ⟨w.heap.size + 1, 0, none⟩ = some (.int .i64 c) := by rw [hb2.cell (show w.heap.size + 1 < _ by omega)]; exact p0
      have r1 : w2.cell? ⟨w.heap.size + 1, 1, none⟩ = some (.int .i64 i) := by rw [hb2.cell (show w.heap.size + 1 < _ by omega)]; exact p1
      have s0 : w2.cell? ⟨w.heap.size + 1 + 1, 0, none⟩ = some (.int .i64 c') := by rw [hb2.cell hsz]; exact q0
      have s1 : w2.cell? ⟨w.heap.size + 1 + 1, 1, none⟩ = some (.int .i64 i') := by rw [hb2.cell hsz]; exact q1
      have hbl2 : Below w.heap.size w w2 := hbl.trans (hb2.mono hbl.size)
      have hsz2 : w.heap.size + 1 + 1 < w2.heap.size := by have := hb2.size; omega
      clear x0 x1 x2 x3 p0 p1 q0 q1 hbl hb2 hsz
      go_wp2_with fail
      refine (rright_any w2 n1 k1 n2 k2 c' i' _ _ _ _).mono ?_
      rintro e w3 ⟨rfl, hb3⟩
      have z0 : w3.cell? ⟨w.heap.size, 0, none⟩ = some (.int .i64 (n1 : Int)) := by rw [hb3.cell (show w.heap.size < _ by omega)]; exact y0
      have z1 : w3.cell? ⟨w.heap.size, 1, none⟩ = some (.slice (some ⟨b1, 0, none⟩) n1 k1) := by rw [hb3.cell (show w.heap.size < _ by omega)]; exact y1
      have z2 : w3.cell? ⟨w.heap.size, 2, none⟩ = some (.int .i64 (n2 : Int)) := by rw [hb3.cell (show w.heap.size < _ by omega)]; exact y2
      have z3 : w3.cell? ⟨w.heap.size, 3, none⟩ = some (.slice (some ⟨b2, 0, none⟩) n2 k2) := by rw [hb3.cell (show w.heap.size < _ by omega)]; exact y3
      have a0 : w3.cell? ⟨w.heap.size + 1, 0, none⟩ = some (.int .i64 c) := by rw [hb3.cell (show w.heap.size + 1 < _ by omega)]; exact r0
      have a1 : w3.cell? ⟨w.heap.size + 1, 1, none⟩ = some (.int .i64 i) := by rw [hb3.cell (show w.heap.size + 1 < _ by omega)]; exact r1
      have c0 : w3.cell? ⟨w.heap.size + 1 + 1, 0, none⟩ = some (.int .i64 c') := by rw [hb3.cell hsz2]; exact s0
      have c1 : w3.cell? ⟨w.heap.size + 1 + 1, 1, none⟩ = some (.int .i64 i') := by rw [hb3.cell hsz2]; exact s1
      have hbl3 : Below w.heap.size w w3 := hbl2.trans (hb3.mono hbl2.size)
      clear y0 y1 y2 y3 r0 r1 s0 s1 hbl2 hb3 hsz2
      rw [HP.out, HQ.out]
      go_upto_region 3 with fail
      go_quiet (fail)
      go_wp2
      go_ret
      exact ⟨by rw [EB.out]; rfl, below_drewN hbl3 _⟩
    | true =>
      rw [Bool.and_eq_true] at hp hq
      obtain ⟨⟨u0, u1⟩, ⟨v0, v1⟩⟩ := And.intro (of_hasB hp.1) (of_hasB hp.2)
      obtain ⟨⟨s0, s1⟩, ⟨t0, t1⟩⟩ := And.intro (of_hasB hq.1) (of_hasB hq.2)
      obtain ⟨A, rfl⟩ := Int.eq_ofNat_of_zero_le u0
      obtain ⟨I, rfl⟩ := Int.eq_ofNat_of_zero_le v0
      obtain ⟨A', rfl⟩ := Int.eq_ofNat_of_zero_le s0
      obtain ⟨I', rfl⟩ := Int.eq_ofNat_of_zero_le t0
      have hA : A < n1 := by omega
      have hI : I < n2 := by omega
      have hA' : A' < n1 := by omega
      have hI' : I' < n2 := by omega
      clear u0 u1 v0 v1 s0 s1 t0 t1
      have e1 : belowI n1 f1 (A : Int) (A' : Int) = R1 A A' := by
        unfold belowI; rw [hp.1, hq.1, d1.same.eq A A' hA hA']; simp
      have e2 : belowI n2 f2 (I : Int) (I' : Int) = R2 I I' := by
        unfold belowI; rw [hp.2, hq.2, d2.same.eq I I' hI hI']; simp
      have eb : (belowI n1 f1 (A : Int) (A' : Int) && belowI n2 f2 (I : Int) (I' : Int)) = (R1 A A' && R2 I I') := by rw [e1, e2]
      have hpp : (hasB n1 (A : Int) && hasB n2 (I : Int)) = true := by rw [hp.1, hp.2]; rfl
      have hqq : (hasB n1 (A' : Int) && hasB n2 (I' : Int)) = true := by rw [hq.1, hq.2]; rfl
      clear e1 e2 hp hq
      have HP := Lib.hid hpp; clear hpp
      have HQ := Lib.hid hqq; clear hqq
      have n32 := d1.grid.n32
      have n32' := d2.grid.n32
      cases er : R1 A A' with
      | false =>
        rw [er] at eb
        have ER := Lib.hid er; clear er
        have EB := Lib.hid eb; clear eb
        have hbl : Below w.heap.size w (((w.alloc (.cells #[.int .i64 (n1 : Int), .slice (some ⟨b1, 0, none⟩) n1 k1, .int .i64 (n2 : Int), .slice (some ⟨b2, 0, none⟩) n2 k2] 35)).alloc (.cells #[.int .i64 (A : Int), .int .i64 (I : Int)] 39)).alloc (.cells #[.int .i64 (A' : Int), .int .i64 (I' : Int)] 39)) := (((Below.refl _ _).alloc (Nat.le_refl _) _).alloc (by simp) _).alloc (by simp; omega) _
        have x0 : (((w.alloc (.cells #[.int .i64 (n1 : Int), .slice (some ⟨b1, 0, none⟩) n1 k1, .int .i64 (n2 : Int), .slice (some ⟨b2, 0, none⟩) n2 k2] 35)).alloc (.cells #[.int .i64 (A : Int), .int .i64 (I : Int)] 39)).alloc (.cells #[.int .i64 (A' : Int), .int .i64 (I' : Int)] 39)).cell? ⟨w.heap.size, 0, none⟩ = some (.int .i64 (n1 : Int)) := by simp [go_sem]
        have x1 : (((w.alloc (.cells #[.int .i64 (n1 : Int), .slice (some ⟨b1, 0, none⟩) n1 k1, .int .i64 (n2 : Int), .slice (some ⟨b2, 0, none⟩) n2 k2] 35)).alloc (.cells #[.int .i64 (A : Int), .int .i64 (I : Int)] 39)).alloc (.cells #[.int .i64 (A' : Int), .int .i64 (I' : Int)] 39)).cell? ⟨w.heap.size, 1, none⟩ = some (.slice (some ⟨b1, 0, none⟩) n1 k1) := by simp [go_sem]
        have x2 : (((w.alloc (.cells #[.int .i64 (n1 : Int), .slice (some ⟨b1, 0, none⟩) n1 k1, .int .i64 (n2 : Int), .slice (some ⟨b2, 0, none⟩) n2 k2] 35)).alloc (.cells #[.int .i64 (A : Int), .int .i64 (I : Int)] 39)).alloc (.cells #[.int .i64 (A' : Int), .int .i64 (I' : Int)] 39)).cell? ⟨w.heap.size, 2, none⟩ = some (.int .i64 (n2 : Int)) := by simp [go_sem]
        have x3 : (((w.alloc (.cells #[.int .i64 (n1 : Int), .slice (some ⟨b1, 0, none⟩) n1 k1, .int .i64 (n2 : Int), .slice (some ⟨b2, 0, none⟩) n2 k2] 35)).alloc (.cells #[.int .i64 (A : Int), .int .i64 (I : Int)] 39)).alloc (.cells #[.int .i64 (A' : Int), .int .i64 (I' : Int)] 39)).cell? ⟨w.heap.size, 3, none⟩ = some (.slice (some ⟨b2, 0, none⟩) n2 k2) := by simp [go_sem]
        have p0 : (((w.alloc (.cells #[.int .i64 (n1 : Int), .slice (some ⟨b1, 0, none⟩) n1 k1, .int .i64 (n2 : Int), .slice (some ⟨b2, 0, none⟩) n2 k2] 35)).alloc (.cells #[.int .i64 (A : Int), .int .i64 (I : Int)] 39)).alloc (.cells #[.int .i64 (A' : Int), .int .i64 (I' : Int)] 39)).cell? ⟨w.heap.size + 1, 0, none⟩ = some (.int .i64 (A : Int)) := by simp [go_sem]
        have p1 : (((w.alloc (.cells #[.int .i64 (n1 : Int), .slice (some ⟨b1, 0, none⟩) n1 k1, .int .i64 (n2 : Int), .slice (some ⟨b2, 0, none⟩) n2 k2] 35)).alloc (.cells #[.int .i64 (A : Int), .int .i64 (I : Int)] 39)).alloc (.cells #[.int .i64 (A' : Int), .int .i64 (I' : Int)] 39)).cell? ⟨w.heap.size + 1, 1, none⟩ = some (.int .i64 (I : Int)) := by simp [go_sem]
        have q0 : (((w.alloc (.cells #[.int .i64 (n1 : Int), .slice (some ⟨b1, 0, none⟩) n1 k1, .int .i64 (n2 : Int), .slice (some ⟨b2, 0, none⟩) n2 k2] 35)).alloc (.cells #[.int .i64 (A : Int), .int .i64 (I : Int)] 39)).alloc (.cells #[.int .i64 (A' : Int), .int .i64 (I' : Int)] 39)).cell? ⟨w.heap.size + 1 + 1, 0, none⟩ = some (.int .i64 (A' : Int)) := by simp [go_sem]
        have q1 : (((w.alloc (.cells #[.int .i64 (n1 : Int), .slice (some ⟨b1, 0, none⟩) n1 k1, .int .i64 (n2 : Int), .slice (some ⟨b2, 0, none⟩) n2 k2] 35)).alloc (.cells #[.int .i64 (A : Int), .int .i64 (I : Int)] 39)).alloc (.cells #[.int .i64 (A' : Int), .int .i64 (I' : Int)] 39)).cell? ⟨w.heap.size + 1 + 1, 1, none⟩ = some (.int .i64 (I' : Int)) := by simp [go_sem]
        have hsz : w.heap.size + 1 + 1 < (((w.alloc (.cells #[.int .i64 (n1 : Int), .slice (some ⟨b1, 0, none⟩) n1 k1, .int .i64 (n2 : Int), .slice (some ⟨b2, 0, none⟩) n2 k2] 35)).alloc (.cells #[.int .i64 (A : Int), .int .i64 (I : Int)] 39)).alloc (.cells #[.int .i64 (A' : Int), .int .i64 (I' : Int)] 39)).heap.size := by simp
        go_enter Try.func9, Try.ntmps9
        go_wp2_with fail
        generalize ((w.alloc (.cells #[.int .i64 (n1 : Int), .slice (some ⟨b1, 0, none⟩) n1 k1, .int .i64 (n2 : Int), .slice (some ⟨b2, 0, none⟩) n2 k2] 35)).alloc (.cells #[.int .i64 (A : Int), .int .i64 (I : Int)] 39)).alloc (.cells #[.int .i64 (A' : Int), .int .i64 (I' : Int)] 39) = w1 at *
        refine (rright_any w1 n1 k1 n2 k2 (A : Int) (I : Int) _ _ _ _).mono ?_
        rintro e w2 ⟨rfl, hb2⟩
        have y0 : w2.cell? ⟨w.heap.size, 0, none⟩ = some (.int .i64 (n1 : Int)) := by rw [hb2.cell (show w.heap.size < _ by omega)]; exact x0
        have y1 : w2.cell? ⟨w.heap.size, 1, none⟩ = some (.slice (some ⟨b1, 0, none⟩) n1 k1) := by rw [hb2.cell (show w.heap.size < _ by omega)]; exact x1
        have y2 : w2.cell? ⟨w.heap.size, 2, none⟩ = some (.int .i64 (n2 : Int)) := by rw [hb2.cell (show w.heap.size < _ by omega)]; exact x2
        have y3 : w2.cell? ⟨w.heap.size, 3, none⟩ = some (.slice (some ⟨b2, 0, none⟩) n2 k2) := by rw [hb2.cell (show w.heap.size < _ by omega)]; exact x3
        have r0 : w2.cell? ⟨w.heap.size + 1, 0, none⟩ = some (.int .i64 (A : Int)) := by rw [hb2.cell (show w.heap.size + 1 < _ by omega)]; exact p0
        have r1 : w2.cell? ⟨w.heap.size + 1, 1, none⟩ = some (.int .i64 (I : Int)) := by rw [hb2.cell (show w.heap.size + 1 < _ by omega)]; exact p1
        have s0 : w2.cell? ⟨w.heap.size + 1 + 1, 0, none⟩ = some (.int .i64 (A' : Int)) := by rw [hb2.cell hsz]; exact q0
        have s1 : w2.cell? ⟨w.heap.size + 1 + 1, 1, none⟩ = some (.int .i64 (I' : Int)) := by rw [hb2.cell hsz]; exact q1
        have hbl2 : Below w.heap.size w w2 := hbl.trans (hb2.mono hbl.size)
        have hsz2 : w.heap.size + 1 + 1 < w2.heap.size := by have := hb2.size; omega
        clear x0 x1 x2 x3 p0 p1 q0 q1 hbl hb2 hsz
        go_wp2_with fail
        refine (rright_any w2 n1 k1 n2 k2 (A' : Int) (I' : Int) _ _ _ _).mono ?_
        rintro e w3 ⟨rfl, hb3⟩
        have z0 : w3.cell? ⟨w.heap.size, 0, none⟩ = some (.int .i64 (n1 : Int)) := by rw [hb3.cell (show w.heap.size < _ by omega)]; exact y0
        have z1 : w3.cell? ⟨w.heap.size, 1, none⟩ = some (.slice (some ⟨b1, 0, none⟩) n1 k1) := by rw [hb3.cell (show w.heap.size < _ by omega)]; exact y1
        have z2 : w3.cell? ⟨w.heap.size, 2, none⟩ = some (.int .i64 (n2 : Int)) := by rw [hb3.cell (show w.heap.size < _ by omega)]; exact y2
        have z3 : w3.cell? ⟨w.heap.size, 3, none⟩ = some (.slice (some ⟨b2, 0, none⟩) n2 k2) := by rw [hb3.cell (show w.heap.size < _ by omega)]; exact y3
        have a0 : w3.cell? ⟨w.heap.size + 1, 0, none⟩ = some (.int .i64 (A : Int)) := by rw [hb3.cell (show w.heap.size + 1 < _ by omega)]; exact r0
        have a1 : w3.cell? ⟨w.heap.size + 1, 1, none⟩ = some (.int .i64 (I : Int)) := by rw [hb3.cell (show w.heap.size + 1 < _ by omega)]; exact r1
        have c0 : w3.cell? ⟨w.heap.size + 1 + 1, 0, none⟩ = some (.int .i64 (A' : Int)) := by rw [hb3.cell hsz2]; exact s0
        have c1 : w3.cell? ⟨w.heap.size + 1 + 1, 1, none⟩ = some (.int .i64 (I' : Int)) := by rw [hb3.cell hsz2]; exact s1
        have hbl3 : Below w.heap.size w w3 := hbl2.trans (hb3.mono hbl2.size)
        clear y0 y1 y2 y3 r0 r1 s0 s1 hbl2 hb3 hsz2
        rw [HP.out, HQ.out]
        have gh := (d1.below hbl3).grid.head A hA
        have gr := (d1.below hbl3).grid.row A A' hA hA'
        rw [ER.out] at gr
        go_upto_region 3 with fail
        go_quiet (fail)
        go_wp2
        go_ret
        exact ⟨by rw [EB.out]; rfl, below_drewN hbl3 _⟩
      | true =>
        rw [er] at eb
        have ER := Lib.hid er; clear er
        have EB := Lib.hid eb; clear eb
        have hbl : Below w.heap.size w (((w.alloc (.cells #[.int .i64 (n1 : Int), .slice (some ⟨b1, 0, none⟩) n1 k1, .int .i64 (n2 : Int), .slice (some ⟨b2, 0, none⟩) n2 k2] 35)).alloc (.cells #[.int .i64 (A : Int), .int .i64 (I : Int)] 39)).alloc (.cells #[.int .i64 (A' : Int), .int .i64 (I' : Int)] 39)) := (((Below.refl _ _).alloc (Nat.le_refl _) _).alloc (by simp) _).alloc (by simp; omega) _
        have x0 : (((w.alloc (.cells #[.int .i64 (n1 : Int), .slice (some ⟨b1, 0, none⟩) n1 k1, .int .i64 (n2 : Int), .slice (some ⟨b2, 0, none⟩) n2 k2] 35)).alloc (.cells #[.int .i64 (A : Int), .int .i64 (I : Int)] 39)).alloc (.cells #[.int .i64 (A' : Int), .int .i64 (I' : Int)] 39)).cell? ⟨w.heap.size, 0, none⟩ = some (.int .i64 (n1 : Int)) := by simp [go_sem]
        have x1 : (((w.alloc (.cells #[.int .i64 (n1 : Int), .slice (some ⟨b1, 0, none⟩) n1 k1, .int .i64 (n2 : Int), .slice (some ⟨b2, 0, none⟩) n2 k2] 35)).alloc (.cells #[.int .i64 (A : Int), .int .i64 (I : Int)] 39)).alloc (.cells #[.int .i64 (A' : Int), .int .i64 (I' : Int)] 39)).cell? ⟨w.heap.size, 1, none⟩ = some (.slice (some ⟨b1, 0, none⟩) n1 k1) := by simp [go_sem]
        have x2 : (((w.alloc (.cells #[.int .i64 (n1 : Int), .slice (some ⟨b1, 0, none⟩) n1 k1, .int .i64 (n2 : Int), .slice (some ⟨b2, 0, none⟩) n2 k2] 35)).alloc (.cells #[.int .i64 (A : Int), .int .i64 (I : Int)] 39)).alloc (.cells #[.int .i64 (A' : Int), .int .i64 (I' : Int)] 39)).cell? ⟨w.heap.size, 2, none⟩ = some (.int .i64 (n2 : Int)) := by simp [go_sem]
        have x3 : (((w.alloc (.cells #[.int .i64 (n1 : Int), .slice (some ⟨b1, 0, none⟩) n1 k1, .int .i64 (n2 : Int), .slice (some ⟨b2, 0, none⟩) n2 k2] 35)).alloc (.cells #[.int .i64 (A : Int), .int .i64 (I : Int)] 39)).alloc (.cells #[.int .i64 (A' : Int), .int .i64 (I' : Int)] 39)).cell? ⟨w.heap.size, 3, none⟩ = some (.slice (some ⟨b2, 0, none⟩) n2 k2) := by simp [go_sem]
        have p0 : (((w.alloc (.cells #[.int .i64 (n1 : Int), .slice (some ⟨b1, 0, none⟩) n1 k1, .int .i64 (n2 : Int), .slice (some ⟨b2, 0, none⟩) n2 k2] 35)).alloc (.cells #[.int .i64 (A : Int), .int .i64 (I : Int)] 39)).alloc (.cells #[.int .i64 (A' : Int), .int .i64 (I' : Int)] 39)).cell? ⟨w.heap.size + 1, 0, none⟩ = some (.int .i64 (A : Int)) := by simp [go_sem]
        have p1 : (((w.alloc (.cells #[.int .i64 (n1 : Int), .slice (some ⟨b1, 0, none⟩) n1 k1, .int .i64 (n2 : Int), .slice (some ⟨b2, 0, none⟩) n2 k2] 35)).alloc (.cells #[.int .i64 (A : Int), .int .i64 (I : Int)] 39)).alloc (.cells #[.int .i64 (A' : Int), .int .i64 (I' : Int)] 39)).cell? ⟨w.heap.size + 1, 1, none⟩ = some (.int .i64 (I : Int)) := by simp [go_sem]
        have q0 : (((w.alloc (.cells #[.int .i64 (n1 : Int), .slice (some ⟨b1, 0, none⟩) n1 k1, .int .i64 (n2 : Int), .slice (some ⟨b2, 0, none⟩) n2 k2] 35)).alloc (.cells #[.int .i64 (A : Int), .int .i64 (I : Int)] 39)).alloc (.cells #[.int .i64 (A' : Int), .int .i64 (I' : Int)] 39)).cell? ⟨w.heap.size + 1 + 1, 0, none⟩ = some (.int .i64 (A' : Int)) := by simp [go_sem]
        have q1 : (((w.alloc (.cells #[.int .i64 (n1 : Int), .slice (some ⟨b1, 0, none⟩) n1 k1, .int .i64 (n2 : Int), .slice (some ⟨b2, 0, none⟩) n2 k2] 35)).alloc (.cells #[.int .i64 (A : Int), .int .i64 (I : Int)] 39)).alloc (.cells #[.int .i64 (A' : Int), .int .i64 (I' : Int)] 39)).cell? ⟨w.heap.size + 1 + 1, 1, none⟩ = some (.int .i64 (I' : Int)) := by simp [go_sem]
        have hsz : w.heap.size + 1 + 1 < (((w.alloc (.cells #[.int .i64 (n1 : Int), .slice (some ⟨b1, 0, none⟩) n1 k1, .int .i64 (n2 : Int), .slice (some ⟨b2, 0, none⟩) n2 k2] 35)).alloc (.cells #[.int .i64 (A : Int), .int .i64 (I : Int)] 39)).alloc (.cells #[.int .i64 (A' : Int), .int .i64 (I' : Int)] 39)).heap.size := by simp
        go_enter Try.func9, Try.ntmps9
        go_wp2_with fail
        generalize ((w.alloc (.cells #[.int .i64 (n1 : Int), .slice (some ⟨b1, 0, none⟩) n1 k1, .int .i64 (n2 : Int), .slice (some ⟨b2, 0, none⟩) n2 k2] 35)).alloc (.cells #[.int .i64 (A : Int), .int .i64 (I : Int)] 39)).alloc (.cells #[.int .i64 (A' : Int), .int .i64 (I' : Int)] 39) = w1 at *
        refine (rright_any w1 n1 k1 n2 k2 (A : Int) (I : Int) _ _ _ _).mono ?_
        rintro e w2 ⟨rfl, hb2⟩
        have y0 : w2.cell? ⟨w.heap.size, 0, none⟩ = some (.int .i64 (n1 : Int)) := by rw [hb2.cell (show w.heap.size < _ by omega)]; exact x0
        have y1 : w2.cell? ⟨w.heap.size, 1, none⟩ = some (.slice (some ⟨b1, 0, none⟩) n1 k1) := by rw [hb2.cell (show w.heap.size < _ by omega)]; exact x1
        have y2 : w2.cell? ⟨w.heap.size, 2, none⟩ = some (.int .i64 (n2 : Int)) := by rw [hb2.cell (show w.heap.size < _ by omega)]; exact x2
        have y3 : w2.cell? ⟨w.heap.size, 3, none⟩ = some (.slice (some ⟨b2, 0, none⟩) n2 k2) := by rw [hb2.cell (show w.heap.size < _ by omega)]; exact x3
        have r0 : w2.cell? ⟨w.heap.size + 1, 0, none⟩ = some (.int .i64 (A : Int)) := by rw [hb2.cell (show w.heap.size + 1 < _ by omega)]; exact p0
        have r1 : w2.cell? ⟨w.heap.size + 1, 1, none⟩ = some (.int .i64 (I : Int)) := by rw [hb2.cell (show w.heap.size + 1 < _ by omega)]; exact p1
        have s0 : w2.cell? ⟨w.heap.size + 1 + 1, 0, none⟩ = some (.int .i64 (A' : Int)) := by rw [hb2.cell hsz]; exact q0
        have s1 : w2.cell? ⟨w.heap.size + 1 + 1, 1, none⟩ = some (.int .i64 (I' : Int)) := by rw [hb2.cell hsz]; exact q1
        have hbl2 : Below w.heap.size w w2 := hbl.trans (hb2.mono hbl.size)
        have hsz2 : w.heap.size + 1 + 1 < w2.heap.size := by have := hb2.size; omega
        clear x0 x1 x2 x3 p0 p1 q0 q1 hbl hb2 hsz
        go_wp2_with fail
        refine (rright_any w2 n1 k1 n2 k2 (A' : Int) (I' : Int) _ _ _ _).mono ?_
        rintro e w3 ⟨rfl, hb3⟩
        have z0 : w3.cell? ⟨w.heap.size, 0, none⟩ = some (.int .i64 (n1 : Int)) := by rw [hb3.cell (show w.heap.size < _ by omega)]; exact y0
        have z1 : w3.cell? ⟨w.heap.size, 1, none⟩ = some (.slice (some ⟨b1, 0, none⟩) n1 k1) := by rw [hb3.cell (show w.heap.size < _ by omega)]; exact y1
        have z2 : w3.cell? ⟨w.heap.size, 2, none⟩ = some (.int .i64 (n2 : Int)) := by rw [hb3.cell (show w.heap.size < _ by omega)]; exact y2
        have z3 : w3.cell? ⟨w.heap.size, 3, none⟩ = some (.slice (some ⟨b2, 0, none⟩) n2 k2) := by rw [hb3.cell (show w.heap.size < _ by omega)]; exact y3
        have a0 : w3.cell? ⟨w.heap.size + 1, 0, none⟩ = some (.int .i64 (A : Int)) := by rw [hb3.cell (show w.heap.size + 1 < _ by omega)]; exact r0
        have a1 : w3.cell? ⟨w.heap.size + 1, 1, none⟩ = some (.int .i64 (I : Int)) := by rw [hb3.cell (show w.heap.size + 1 < _ by omega)]; exact r1
        have c0 : w3.cell? ⟨w.heap.size + 1 + 1, 0, none⟩ = some (.int .i64 (A' : Int)) := by rw [hb3.cell hsz2]; exact s0
        have c1 : w3.cell? ⟨w.heap.size + 1 + 1, 1, none⟩ = some (.int .i64 (I' : Int)) := by rw [hb3.cell hsz2]; exact s1
        have hbl3 : Below w.heap.size w w3 := hbl2.trans (hb3.mono hbl2.size)
        clear y0 y1 y2 y3 r0 r1 s0 s1 hbl2 hb3 hsz2
        rw [HP.out, HQ.out]
        have gh := (d1.below hbl3).grid.head A hA
        have gr := (d1.below hbl3).grid.row A A' hA hA'
        rw [ER.out] at gr
        have gh2 := (d2.below hbl3).grid.head I hI
        have gr2 := (d2.below hbl3).grid.row I I' hI hI'
        go_upto_region 3 with fail
        go_quiet (fail)
        go_wp2
        go_ret
        exact ⟨by rw [EB.out]; rfl, below_drewN hbl3 _⟩
set_option maxHeartbeats 2000000 in
theorem rbottom2_any (d1 : DocAt w b1 n1 rows1 R1 f1 g1) (d2 : DocAt w b2 n2 rows2 R2 f2 g2) :
    Calls Try.prog 24 #[.agg #[.int .i64 (n1 : Int), .slice (some ⟨b1, 0, none⟩) n1 k1, .int .i64 (n2 : Int), .slice (some ⟨b2, 0, none⟩) n2 k2]] w fun e w' => e = .returned (.agg #[.int .i64 (M.findN f1 (M.full n1) n1), .int .i64 (M.findN f2 (M.full n2) n2)]) ∧ Below w.heap.size w w' := by
  have hbl : Below w.heap.size w ((w.alloc (.cells #[.int .i64 (n1 : Int), .slice (some ⟨b1, 0, none⟩) n1 k1, .int .i64 (n2 : Int), .slice (some ⟨b2, 0, none⟩) n2 k2] 35)).alloc (.cells #[.int .i64 0, .int .i64 0] 39)) := ((Below.refl _ _).alloc (Nat.le_refl _) _).alloc (by simp) _
  have e1 := d1.below hbl
  have e2 := d2.below hbl
  have c0 : ((w.alloc (.cells #[.int .i64 (n1 : Int), .slice (some ⟨b1, 0, none⟩) n1 k1, .int .i64 (n2 : Int), .slice (some ⟨b2, 0, none⟩) n2 k2] 35)).alloc (.cells #[.int .i64 0, .int .i64 0] 39)).cell? ⟨w.heap.size, 0, none⟩ = some (.int .i64 (n1 : Int)) := by simp [go_sem]
  have c1 : ((w.alloc (.cells #[.int .i64 (n1 : Int), .slice (some ⟨b1, 0, none⟩) n1 k1, .int .i64 (n2 : Int), .slice (some ⟨b2, 0, none⟩) n2 k2] 35)).alloc (.cells #[.int .i64 0, .int .i64 0] 39)).cell? ⟨w.heap.size, 1, none⟩ = some (.slice (some ⟨b1, 0, none⟩) n1 k1) := by simp [go_sem]
  have c2 : ((w.alloc (.cells #[.int .i64 (n1 : Int), .slice (some ⟨b1, 0, none⟩) n1 k1, .int .i64 (n2 : Int), .slice (some ⟨b2, 0, none⟩) n2 k2] 35)).alloc (.cells #[.int .i64 0, .int .i64 0] 39)).cell? ⟨w.heap.size, 2, none⟩ = some (.int .i64 (n2 : Int)) := by simp [go_sem]
  have c3 : ((w.alloc (.cells #[.int .i64 (n1 : Int), .slice (some ⟨b1, 0, none⟩) n1 k1, .int .i64 (n2 : Int), .slice (some ⟨b2, 0, none⟩) n2 k2] 35)).alloc (.cells #[.int .i64 0, .int .i64 0] 39)).cell? ⟨w.heap.size, 3, none⟩ = some (.slice (some ⟨b2, 0, none⟩) n2 k2) := by simp [go_sem]
  have r0 : ((w.alloc (.cells #[.int .i64 (n1 : Int), .slice (some ⟨b1, 0, none⟩) n1 k1, .int .i64 (n2 : Int), .slice (some ⟨b2, 0, none⟩) n2 k2] 35)).alloc (.cells #[.int .i64 0, .int .i64 0] 39)).cell? ⟨w.heap.size + 1, 0, none⟩ = some (.int .i64 0) := by simp [go_sem]
  have r1 : ((w.alloc (.cells #[.int .i64 (n1 : Int), .slice (some ⟨b1, 0, none⟩) n1 k1, .int .i64 (n2 : Int), .slice (some ⟨b2, 0, none⟩) n2 k2] 35)).alloc (.cells #[.int .i64 0, .int .i64 0] 39)).cell? ⟨w.heap.size + 1, 1, none⟩ = some (.int .i64 0) := by simp [go_sem]
  have z : ∀ i, ((w.alloc (.cells #[.int .i64 (n1 : Int), .slice (some ⟨b1, 0, none⟩) n1 k1, .int .i64 (n2 : Int), .slice (some ⟨b2, 0, none⟩) n2 k2] 35)).alloc (.cells #[.int .i64 0, .int .i64 0] 39)).frozen? ⟨w.heap.size + 1, i, none⟩ = false := fun i => by simp [go_sem]
  go_enter Try.func24, Try.ntmps24
  go_upto_region 1 with fail
  generalize (w.alloc (.cells #[.int .i64 (n1 : Int), .slice (some ⟨b1, 0, none⟩) n1 k1, .int .i64 (n2 : Int), .slice (some ⟨b2, 0, none⟩) n2 k2] 35)).alloc (.cells #[.int .i64 0, .int .i64 0] 39) = w1 at *
  have hsz : w.heap.size + 1 < w1.heap.size := World.block_lt_of_cell? _ _ r0
  have y0 := fun x : Later w1 => Later.cell c0 x
  have y1 := fun x : Later w1 => Later.cell c1 x
  have y2 := fun x : Later w1 => Later.cell c2 x
  have y3 := fun x : Later w1 => Later.cell c3 x
  have q1 : ∀ x : Later w1, Calls Try.prog 11 #[.agg #[.int .i64 (n1 : Int), .slice (some ⟨b1, 0, none⟩) n1 k1]] x.wx fun e w'' => e = .returned (.int .i64 (M.findN f1 (M.full n1) n1)) ∧ ∃ y : Later w1, w'' = y.wx := fun x => by
    rw [← d1.same.bottom]; exact calls_later (rbottom_any x.wx b1 n1 k1 rows1 R1 (e1.below x.le).grid)
  have q2 : ∀ x : Later w1, Calls Try.prog 11 #[.agg #[.int .i64 (n2 : Int), .slice (some ⟨b2, 0, none⟩) n2 k2]] x.wx fun e w'' => e = .returned (.int .i64 (M.findN f2 (M.full n2) n2)) ∧ ∃ y : Later w1, w'' = y.wx := fun x => by
    rw [← d2.same.bottom]; exact calls_later (rbottom_any x.wx b2 n2 k2 rows2 R2 (e2.below x.le).grid)
  have K1 := Lib.hid q1; clear q1
  have K2 := Lib.hid q2; clear q2
  refine wp_region_later_tail 7 (by kernel_rfl) (by kernel_rfl) ?_
  simp only [List.take_succ_cons, List.take_zero, List.drop_succ_cons, List.drop_zero]
  repeat (go_big_quiet_step (first | (go_at_call 11; with_reducible exact K1.out _) | (go_at_call 11; with_reducible exact K2.out _)))
  refine wpQuiet_nil ?_
  intro x
  have s0 := Later.cell r0 x
  have s1 := Later.cell r1 x
  have z0 : x.wx.frozen? ⟨w.heap.size + 1, 0, none⟩ = false := by rw [x.le.frozen hsz]; exact z 0
  have z1 : x.wx.frozen? ⟨w.heap.size + 1, 1, none⟩ = false := by rw [x.le.frozen hsz]; exact z 1
  have hx : Below w.heap.size w x.wx := hbl.trans (x.le.mono hbl.size)
  clear y0 y1 y2 y3 c0 c1 c2 c3 r0 r1 z
  generalize x.wx = wx at *
  go_wp2
  have t := set_two wx (w.heap.size + 1) (.int .i64 (M.findN f1 (M.full n1) n1)) (.int .i64 (M.findN f2 (M.full n2) n2)) _ _ s0 s1
  exact bodyPost_ret (v := .agg #[.int .i64 (M.findN f1 (M.full n1) n1), .int .i64 (M.findN f2 (M.full n2) n2)]) (by simp [results, Try.results24, go_sem, t.1, t.2]) rfl ⟨rfl, (hx.setCell (by simp) _).setCell (by simp) _⟩

set_option maxHeartbeats 2000000 in
theorem two_any (c i c' i' : Int) (hc : hasB n1 c = true) (hi : hasB n2 i = true) (hc' : hasB n1 c' = true) (hi' : hasB n2 i' = true) (d1 : DocAt w b1 n1 rows1 R1 f1 g1) (d2 : DocAt w b2 n2 rows2 R2 f2 g2) :
    Calls Try.prog 25 #[.agg #[.int .i64 (n1 : Int), .slice (some ⟨b1, 0, none⟩) n1 k1, .int .i64 (n2 : Int), .slice (some ⟨b2, 0, none⟩) n2 k2], .agg #[.int .i64 c, .int .i64 i], .agg #[.int .i64 c', .int .i64 i']] w fun e w' => e = .returned (.agg #[.int .i64 (joinI n1 f1 c c'), .int .i64 (joinI n2 f2 i i')]) ∧ Below w.heap.size w w' := by
  have hbl : Below w.heap.size w ((((w.alloc (.cells #[.int .i64 (n1 : Int), .slice (some ⟨b1, 0, none⟩) n1 k1, .int .i64 (n2 : Int), .slice (some ⟨b2, 0, none⟩) n2 k2] 35)).alloc (.cells #[.int .i64 c, .int .i64 i] 39)).alloc (.cells #[.int .i64 c', .int .i64 i'] 39)).alloc (.cells #[.int .i64 0, .int .i64 0] 39)) := ((((Below.refl _ _).alloc (Nat.le_refl _) _).alloc (by simp) _).alloc (by simp; omega) _).alloc (by simp; omega) _
  have e1 := d1.below hbl
  have e2 := d2.below hbl
  have c0 : ((((w.alloc (.cells #[.int .i64 (n1 : Int), .slice (some ⟨b1, 0, none⟩) n1 k1, .int .i64 (n2 : Int), .slice (some ⟨b2, 0, none⟩) n2 k2] 35)).alloc (.cells #[.int .i64 c, .int .i64 i] 39)).alloc (.cells #[.int .i64 c', .int .i64 i'] 39)).alloc (.cells #[.int .i64 0, .int .i64 0] 39)).cell? ⟨w.heap.size, 0, none⟩ = some (.int .i64 (n1 : Int)) := by simp [go_sem]
  have c1 : ((((w.alloc (.cells #[.int .i64 (n1 : Int), .slice (some ⟨b1, 0, none⟩) n1 k1, .int .i64 (n2 : Int), .slice (some ⟨b2, 0, none⟩) n2 k2] 35)).alloc (.cells #[.int .i64 c, .int .i64 i] 39)).alloc (.cells #[.int .i64 c', .int .i64 i'] 39)).alloc (.cells #[.int .i64 0, .int .i64 0] 39)).cell? ⟨w.heap.size, 1, none⟩ = some (.slice (some ⟨b1, 0, none⟩) n1 k1) := by simp [go_sem]
  have c2 : ((((w.alloc (.cells #[.int .i64 (n1 : Int), .slice (some ⟨b1, 0, none⟩) n1 k1, .int .i64 (n2 : Int), .slice (some ⟨b2, 0, none⟩) n2 k2] 35)).alloc (.cells #[.int .i64 c, .int .i64 i] 39)).alloc (.cells #[.int .i64 c', .int .i64 i'] 39)).alloc (.cells #[.int .i64 0, .int .i64 0] 39)).cell? ⟨w.heap.size, 2, none⟩ = some (.int .i64 (n2 : Int)) := by simp [go_sem]
  have c3 : ((((w.alloc (.cells #[.int .i64 (n1 : Int), .slice (some ⟨b1, 0, none⟩) n1 k1, .int .i64 (n2 : Int), .slice (some ⟨b2, 0, none⟩) n2 k2] 35)).alloc (.cells #[.int .i64 c, .int .i64 i] 39)).alloc (.cells #[.int .i64 c', .int .i64 i'] 39)).alloc (.cells #[.int .i64 0, .int .i64 0] 39)).cell? ⟨w.heap.size, 3, none⟩ = some (.slice (some ⟨b2, 0, none⟩) n2 k2) := by simp [go_sem]
  have p0 : ((((w.alloc (.cells #[.int .i64 (n1 : Int), .slice (some ⟨b1, 0, none⟩) n1 k1, .int .i64 (n2 : Int), .slice (some ⟨b2, 0, none⟩) n2 k2] 35)).alloc (.cells #[.int .i64 c, .int .i64 i] 39)).alloc (.cells #[.int .i64 c', .int .i64 i'] 39)).alloc (.cells #[.int .i64 0, .int .i64 0] 39)).cell? ⟨w.heap.size + 1, 0, none⟩ = some (.int .i64 c) := by simp [go_sem]
  have p1 : ((((w.alloc (.cells #[.int .i64 (n1 : Int), .slice (some ⟨b1, 0, none⟩) n1 k1, .int .i64 (n2 : Int), .slice (some ⟨b2, 0, none⟩) n2 k2] 35)).alloc (.cells #[.int .i64 c, .int .i64 i] 39)).alloc (.cells #[.int .i64 c', .int .i64 i'] 39)).alloc (.cells #[.int .i64 0, .int .i64 0] 39)).cell? ⟨w.heap.size + 1, 1, none⟩ = some (.int .i64 i) := by simp [go_sem]
  have o0 : ((((w.alloc (.cells #[.int .i64 (n1 : Int), .slice (some ⟨b1, 0, none⟩) n1 k1, .int .i64 (n2 : Int), .slice (some ⟨b2, 0, none⟩) n2 k2] 35)).alloc (.cells #[.int .i64 c, .int .i64 i] 39)).alloc (.cells #[.int .i64 c', .int .i64 i'] 39)).alloc (.cells #[.int .i64 0, .int .i64 0] 39)).cell? ⟨w.heap.size + 1 + 1, 0, none⟩ = some (.int .i64 c') := by simp [go_sem]
  have o1 : ((((w.alloc (.cells #[.int .i64 (n1 : Int), .slice (some ⟨b1, 0, none⟩) n1 k1, .int .i64 (n2 : Int), .slice (some ⟨b2, 0, none⟩) n2 k2] 35)).alloc (.cells #[.int .i64 c, .int .i64 i] 39)).alloc (.cells #[.int .i64 c', .int .i64 i'] 39)).alloc (.cells #[.int .i64 0, .int .i64 0] 39)).cell? ⟨w.heap.size + 1 + 1, 1, none⟩ = some (.int .i64 i') := by simp [go_sem]
  have r0 : ((((w.alloc (.cells #[.int .i64 (n1 : Int), .slice (some ⟨b1, 0, none⟩) n1 k1, .int .i64 (n2 : Int), .slice (some ⟨b2, 0, none⟩) n2 k2] 35)).alloc (.cells #[.int .i64 c, .int .i64 i] 39)).alloc (.cells #[.int .i64 c', .int .i64 i'] 39)).alloc (.cells #[.int .i64 0, .int .i64 0] 39)).cell? ⟨w.heap.size + 1 + 1 + 1, 0, none⟩ = some (.int .i64 0) := by simp [go_sem]
  have r1 : ((((w.alloc (.cells #[.int .i64 (n1 : Int), .slice (some ⟨b1, 0, none⟩) n1 k1, .int .i64 (n2 : Int), .slice (some ⟨b2, 0, none⟩) n2 k2] 35)).alloc (.cells #[.int .i64 c, .int .i64 i] 39)).alloc (.cells #[.int .i64 c', .int .i64 i'] 39)).alloc (.cells #[.int .i64 0, .int .i64 0] 39)).cell? ⟨w.heap.size + 1 + 1 + 1, 1, none⟩ = some (.int .i64 0) := by simp [go_sem]
  have z : ∀ j, ((((w.alloc (.cells #[.int .i64 (n1 : Int), .slice (some ⟨b1, 0, none⟩) n1 k1, .int .i64 (n2 : Int), .slice (some ⟨b2, 0, none⟩) n2 k2] 35)).alloc (.cells #[.int .i64 c, .int .i64 i] 39)).alloc (.cells #[.int .i64 c', .int .i64 i'] 39)).alloc (.cells #[.int .i64 0, .int .i64 0] 39)).frozen? ⟨w.heap.size + 1 + 1 + 1, j, none⟩ = false := fun j => by simp [go_sem]
  go_enter Try.func25, Try.ntmps25
  go_upto_region 1 with fail
  generalize (((w.alloc (.cells #[.int .i64 (n1 : Int), .slice (some ⟨b1, 0, none⟩) n1 k1, .int .i64 (n2 : Int), .slice (some ⟨b2, 0, none⟩) n2 k2] 35)).alloc (.cells #[.int .i64 c, .int .i64 i] 39)).alloc (.cells #[.int .i64 c', .int .i64 i'] 39)).alloc (.cells #[.int .i64 0, .int .i64 0] 39) = w1 at *
  have hsz : w.heap.size + 1 + 1 + 1 < w1.heap.size := World.block_lt_of_cell? _ _ r0
  have y0 := fun x : Later w1 => Later.cell c0 x
  have y1 := fun x : Later w1 => Later.cell c1 x
  have y2 := fun x : Later w1 => Later.cell c2 x
  have y3 := fun x : Later w1 => Later.cell c3 x
  have y4 := fun x : Later w1 => Later.cell p0 x
  have y5 := fun x : Later w1 => Later.cell p1 x
  have y6 := fun x : Later w1 => Later.cell o0 x
  have y7 := fun x : Later w1 => Later.cell o1 x
  have q1 : ∀ x : Later w1, Calls Try.prog 37 #[.agg #[.int .i64 (n1 : Int), .slice (some ⟨b1, 0, none⟩) n1 k1], .int .i64 c, .int .i64 c'] x.wx fun e w'' => e = .returned (.int .i64 (joinI n1 f1 c c')) ∧ ∃ y : Later w1, w'' = y.wx := fun x =>
    calls_later (rjoin_tot x.wx b1 n1 k1 rows1 R1 f1 g1 c c' (e1.below x.le) hc hc')
  have q2 : ∀ x : Later w1, Calls Try.prog 37 #[.agg #[.int .i64 (n2 : Int), .slice (some ⟨b2, 0, none⟩) n2 k2], .int .i64 i, .int .i64 i'] x.wx fun e w'' => e = .returned (.int .i64 (joinI n2 f2 i i')) ∧ ∃ y : Later w1, w'' = y.wx := fun x =>
    calls_later (rjoin_tot x.wx b2 n2 k2 rows2 R2 f2 g2 i i' (e2.below x.le) hi hi')
  have K1 := Lib.hid q1; clear q1
  have K2 := Lib.hid q2; clear q2
  clear hc hi hc' hi'
  refine wp_region_later_tail 15 (by kernel_rfl) (by kernel_rfl) ?_
  simp only [List.take_succ_cons, List.take_zero, List.drop_succ_cons, List.drop_zero]
  repeat (go_big_quiet_step (first | (go_at_call 37; with_reducible exact K1.out _) | (go_at_call 37; with_reducible exact K2.out _)))
  refine wpQuiet_nil ?_
  intro x
  have s0 := Later.cell r0 x
  have s1 := Later.cell r1 x
  have z0 : x.wx.frozen? ⟨w.heap.size + 1 + 1 + 1, 0, none⟩ = false := by rw [x.le.frozen hsz]; exact z 0
  have z1 : x.wx.frozen? ⟨w.heap.size + 1 + 1 + 1, 1, none⟩ = false := by rw [x.le.frozen hsz]; exact z 1
  have hx : Below w.heap.size w x.wx := hbl.trans (x.le.mono hbl.size)
  clear y0 y1 y2 y3 y4 y5 y6 y7 c0 c1 c2 c3 r0 r1 z p0 p1 o0 o1
  generalize x.wx = wx at *
  go_wp2
  have t := set_two wx (w.heap.size + 1 + 1 + 1) (.int .i64 (joinI n1 f1 c c')) (.int .i64 (joinI n2 f2 i i')) _ _ s0 s1
  exact bodyPost_ret (v := .agg #[.int .i64 (joinI n1 f1 c c'), .int .i64 (joinI n2 f2 i i')]) (by simp [results, Try.results25, go_sem, t.1, t.2]) rfl ⟨rfl, (hx.setCell (by simp; omega) _).setCell (by simp; omega) _⟩

set_option maxHeartbeats 4000000 in
theorem rjoin2_any (ao : Option Addr) (len cap : Nat) (p q : Nat → Int) (hlen : len ≤ 140737488351232) (hps : PairsAt w ao len p q) (hp : ∀ i, i < len → hasB n1 (p i) = true) (hq : ∀ i, i < len → hasB n2 (q i) = true)
    (d1 : DocAt w b1 n1 rows1 R1 f1 g1) (d2 : DocAt w b2 n2 rows2 R2 f2 g2) :
    Calls Try.prog 16 #[.agg #[.int .i64 (n1 : Int), .slice (some ⟨b1, 0, none⟩) n1 k1, .int .i64 (n2 : Int), .slice (some ⟨b2, 0, none⟩) n2 k2], .slice ao len cap] w fun e w' => e = .returned (.agg #[.int .i64 (joinsI n1 f1 p len), .int .i64 (joinsI n2 f2 q len)]) ∧ Below w.heap.size w w' := by
  have hbl : Below w.heap.size w ((w.alloc (.cells #[.int .i64 (n1 : Int), .slice (some ⟨b1, 0, none⟩) n1 k1, .int .i64 (n2 : Int), .slice (some ⟨b2, 0, none⟩) n2 k2] 35)).alloc (.cells #[.int .i64 0, .int .i64 0] 39)) := ((Below.refl _ _).alloc (Nat.le_refl _) _).alloc (by simp) _
  have c0 : ((w.alloc (.cells #[.int .i64 (n1 : Int), .slice (some ⟨b1, 0, none⟩) n1 k1, .int .i64 (n2 : Int), .slice (some ⟨b2, 0, none⟩) n2 k2] 35)).alloc (.cells #[.int .i64 0, .int .i64 0] 39)).cell? ⟨w.heap.size, 0, none⟩ = some (.int .i64 (n1 : Int)) := by simp [go_sem]
  have c1 : ((w.alloc (.cells #[.int .i64 (n1 : Int), .slice (some ⟨b1, 0, none⟩) n1 k1, .int .i64 (n2 : Int), .slice (some ⟨b2, 0, none⟩) n2 k2] 35)).alloc (.cells #[.int .i64 0, .int .i64 0] 39)).cell? ⟨w.heap.size, 1, none⟩ = some (.slice (some ⟨b1, 0, none⟩) n1 k1) := by simp [go_sem]
  have c2 : ((w.alloc (.cells #[.int .i64 (n1 : Int), .slice (some ⟨b1, 0, none⟩) n1 k1, .int .i64 (n2 : Int), .slice (some ⟨b2, 0, none⟩) n2 k2] 35)).alloc (.cells #[.int .i64 0, .int .i64 0] 39)).cell? ⟨w.heap.size, 2, none⟩ = some (.int .i64 (n2 : Int)) := by simp [go_sem]
  have c3 : ((w.alloc (.cells #[.int .i64 (n1 : Int), .slice (some ⟨b1, 0, none⟩) n1 k1, .int .i64 (n2 : Int), .slice (some ⟨b2, 0, none⟩) n2 k2] 35)).alloc (.cells #[.int .i64 0, .int .i64 0] 39)).cell? ⟨w.heap.size, 3, none⟩ = some (.slice (some ⟨b2, 0, none⟩) n2 k2) := by simp [go_sem]
  have r0 : ((w.alloc (.cells #[.int .i64 (n1 : Int), .slice (some ⟨b1, 0, none⟩) n1 k1, .int .i64 (n2 : Int), .slice (some ⟨b2, 0, none⟩) n2 k2] 35)).alloc (.cells #[.int .i64 0, .int .i64 0] 39)).cell? ⟨w.heap.size + 1, 0, none⟩ = some (.int .i64 0) := by simp [go_sem]
  have r1 : ((w.alloc (.cells #[.int .i64 (n1 : Int), .slice (some ⟨b1, 0, none⟩) n1 k1, .int .i64 (n2 : Int), .slice (some ⟨b2, 0, none⟩) n2 k2] 35)).alloc (.cells #[.int .i64 0, .int .i64 0] 39)).cell? ⟨w.heap.size + 1, 1, none⟩ = some (.int .i64 0) := by simp [go_sem]
  have z : ∀ i, ((w.alloc (.cells #[.int .i64 (n1 : Int), .slice (some ⟨b1, 0, none⟩) n1 k1, .int .i64 (n2 : Int), .slice (some ⟨b2, 0, none⟩) n2 k2] 35)).alloc (.cells #[.int .i64 0, .int .i64 0] 39)).frozen? ⟨w.heap.size + 1, i, none⟩ = false := fun i => by simp [go_sem]
  have HPS := Lib.hid (hps.below hbl); clear hps
  have HP := Lib.hid hp; clear hp
  have HQ := Lib.hid hq; clear hq
  have e1 := d1.below hbl
  have e2 := d2.below hbl
  clear d1 d2
  go_enter Try.func16, Try.ntmps16
  go_wp2_with fail
  generalize (w.alloc (.cells #[.int .i64 (n1 : Int), .slice (some ⟨b1, 0, none⟩) n1 k1, .int .i64 (n2 : Int), .slice (some ⟨b2, 0, none⟩) n2 k2] 35)).alloc (.cells #[.int .i64 0, .int .i64 0] 39) = w1 at *
  have hsz : w.heap.size + 1 < w1.heap.size := World.block_lt_of_cell? _ _ r0
  refine (rbottom2_any _ b1 n1 k1 rows1 R1 f1 g1 b2 n2 k2 rows2 R2 f2 g2 e1 e2).mono ?_
  rintro e w2 ⟨rfl, hb2⟩
  have y0 : w2.cell? ⟨w.heap.size, 0, none⟩ = some (.int .i64 (n1 : Int)) := by rw [hb2.cell (show w.heap.size < _ by omega)]; exact c0
  have y1 : w2.cell? ⟨w.heap.size, 1, none⟩ = some (.slice (some ⟨b1, 0, none⟩) n1 k1) := by rw [hb2.cell (show w.heap.size < _ by omega)]; exact c1
  have y2 : w2.cell? ⟨w.heap.size, 2, none⟩ = some (.int .i64 (n2 : Int)) := by rw [hb2.cell (show w.heap.size < _ by omega)]; exact c2
  have y3 : w2.cell? ⟨w.heap.size, 3, none⟩ = some (.slice (some ⟨b2, 0, none⟩) n2 k2) := by rw [hb2.cell (show w.heap.size < _ by omega)]; exact c3
  have y4 : w2.cell? ⟨w.heap.size + 1, 0, none⟩ = some (.int .i64 0) := by rw [hb2.cell hsz]; exact r0
  have y5 : w2.cell? ⟨w.heap.size + 1, 1, none⟩ = some (.int .i64 0) := by rw [hb2.cell hsz]; exact r1
  have y : ∀ i, w2.frozen? ⟨w.heap.size + 1, i, none⟩ = false := fun i => by rw [hb2.frozen hsz]; exact z i
  have hw2 : Below w.heap.size w w2 := hbl.trans (hb2.mono hbl.size)
  have hs2 : w.heap.size + 1 < w2.heap.size := by have := hb2.size; omega
  have HP2 := Lib.hid (HPS.out.below hb2); clear HPS
  have e3 := e1.below hb2
  have e4 := e2.below hb2
  clear e1 e2 hb2 hbl hsz c0 c1 c2 c3 r0 r1 z w1
  have Y0 := Lib.hid y0; clear y0
  have Y1 := Lib.hid y1; clear y1
  have Y2 := Lib.hid y2; clear y2
  have Y3 := Lib.hid y3; clear y3
  have Y4 := Lib.hid y4; clear y4
  have Y5 := Lib.hid y5; clear y5
  have Y := Lib.hid y; clear y
  go_wp2
  go_loopw [6] (fun i wr => ∃ k : Nat, k ≤ len ∧ i = .int .i64 (k : Int) ∧ Below w2.heap.size w2 wr ∧ wr.cell? ⟨w2.heap.size, 0, none⟩ = some (.int .i64 (joinsI n1 f1 p k)) ∧ wr.cell? ⟨w2.heap.size, 1, none⟩ = some (.int .i64 (joinsI n2 f2 q k)) ∧ ∀ i, wr.frozen? ⟨w2.heap.size, i, none⟩ = false) (fun i _ => len - (intOf i).toNat)
  case atStart =>
    exact ⟨0, Nat.zero_le _, rfl, (Below.refl _ _).alloc (Nat.le_refl _) _, by rw [World.cell?_alloc_new]; rfl, by rw [World.cell?_alloc_new]; rfl, fun i => World.frozen?_alloc_new _ _ _ _⟩
  case round =>
    obtain ⟨k, hk, rfl, hbr, s0, s1, sf⟩ := hrel
    have hB : w2.heap.size < wr.heap.size := World.block_lt_of_cell? _ _ s0
    by_cases hlt : k < len
    · obtain ⟨b, off, rfl, hb, hcp, hcq⟩ := HP2.out k hlt
      have hcp' : wr.cell? ⟨b, off + k * 2, none⟩ = some (.int .i64 (p k)) := by rw [hbr.cell hb]; exact hcp
      have hcq' : wr.cell? ⟨b, off + k * 2 + 1, none⟩ = some (.int .i64 (q k)) := by rw [hbr.cell hb]; exact hcq
      clear hcp hcq
      have l0 : wr.cell? ⟨w.heap.size, 0, none⟩ = some (.int .i64 (n1 : Int)) := by rw [hbr.cell (show w.heap.size < _ by omega)]; exact Y0.out
      have l1 : wr.cell? ⟨w.heap.size, 1, none⟩ = some (.slice (some ⟨b1, 0, none⟩) n1 k1) := by rw [hbr.cell (show w.heap.size < _ by omega)]; exact Y1.out
      have l2 : wr.cell? ⟨w.heap.size, 2, none⟩ = some (.int .i64 (n2 : Int)) := by rw [hbr.cell (show w.heap.size < _ by omega)]; exact Y2.out
      have l3 : wr.cell? ⟨w.heap.size, 3, none⟩ = some (.slice (some ⟨b2, 0, none⟩) n2 k2) := by rw [hbr.cell (show w.heap.size < _ by omega)]; exact Y3.out
      go_upto_region 5 with fail
      have m0 := fun x : Later wr => Later.cell l0 x
      have m1 := fun x : Later wr => Later.cell l1 x
      have m2 := fun x : Later wr => Later.cell l2 x
      have m3 := fun x : Later wr => Later.cell l3 x
      have m4 := fun x : Later wr => Later.cell s0 x
      have m5 := fun x : Later wr => Later.cell s1 x
      have m6 := fun x : Later wr => Later.cell hcp' x
      have m7 := fun x : Later wr => Later.cell hcq' x
      have q1 : ∀ x : Later wr, Calls Try.prog 25 #[.agg #[.int .i64 (n1 : Int), .slice (some ⟨b1, 0, none⟩) n1 k1, .int .i64 (n2 : Int), .slice (some ⟨b2, 0, none⟩) n2 k2], .agg #[.int .i64 (joinsI n1 f1 p k), .int .i64 (joinsI n2 f2 q k)], .agg #[.int .i64 (p k), .int .i64 (q k)]] x.wx fun e w'' => e = .returned (.agg #[.int .i64 (joinsI n1 f1 p (k + 1)), .int .i64 (joinsI n2 f2 q (k + 1))]) ∧ ∃ y : Later wr, w'' = y.wx := fun x =>
        calls_later (two_any x.wx b1 n1 k1 rows1 R1 f1 g1 b2 n2 k2 rows2 R2 f2 g2 _ _ _ _ (joinsI_in e3.lat k fun i hi => HP.out i (by omega)) (joinsI_in e4.lat k fun i hi => HQ.out i (by omega)) (HP.out k hlt) (HQ.out k hlt) ((e3.below hbr).below x.le) ((e4.below hbr).below x.le))
      have K1 := Lib.hid q1; clear q1
      refine wp_region_later_tail 7 (by kernel_rfl) (by kernel_rfl) ?_
      simp only [List.take_succ_cons, List.take_zero, List.drop_succ_cons, List.drop_zero]
      repeat (go_big_quiet_step ((go_at_call 25; with_reducible exact K1.out _)))
      refine wpQuiet_nil ?_
      intro x
      have v0 := Later.cell s0 x
      have v1 := Later.cell s1 x
      have z : ∀ i, x.wx.frozen? ⟨w2.heap.size, i, none⟩ = false := fun i => by rw [x.le.frozen hB]; exact sf i
      have z0 := z 0
      have z1 := z 1
      have hx : Below w2.heap.size w2 x.wx := hbr.trans (x.le.mono hbr.size)
      clear m0 m1 m2 m3 m4 m5 m6 m7 l0 l1 l2 l3 hcp' hcq' s0 s1 sf
      have Z := Lib.hid z; clear z
      generalize x.wx = wx at *
      go_wp2
      have t := set_two wx w2.heap.size (.int .i64 (joinsI n1 f1 p (k + 1))) (.int .i64 (joinsI n2 f2 q (k + 1))) _ _ v0 v1
      go_roundw
      case rel =>
        refine ⟨k + 1, by omega, by go_num, (hx.setCell (by simp) _).setCell (by simp) _, t.1, t.2, ?_⟩
        intro i
        rw [(((Only.refl w2.heap.size wx).setCell 0 _).setCell 1 _).frozen]; exact Z.out i
      case measure => simp [intOf]; omega
    · have hkn : k = len := by omega
      subst hkn
      have x0 : wr.cell? ⟨w.heap.size + 1, 0, none⟩ = some (.int .i64 0) := by rw [hbr.cell hs2]; exact Y4.out
      have x1 : wr.cell? ⟨w.heap.size + 1, 1, none⟩ = some (.int .i64 0) := by rw [hbr.cell hs2]; exact Y5.out
      have z0 : wr.frozen? ⟨w.heap.size + 1, 0, none⟩ = false := by rw [hbr.frozen hs2]; exact Y.out 0
      have z1 : wr.frozen? ⟨w.heap.size + 1, 1, none⟩ = false := by rw [hbr.frozen hs2]; exact Y.out 1
      go_wp2
      have t := set_two wr (w.heap.size + 1) (.int .i64 (joinsI n1 f1 p k)) (.int .i64 (joinsI n2 f2 q k)) _ _ x0 x1
      have hx : Below w.heap.size w wr := hw2.trans (hbr.mono hw2.size)
      exact bodyPost_ret (v := .agg #[.int .i64 (joinsI n1 f1 p k), .int .i64 (joinsI n2 f2 q k)]) (by simp [results, Try.results16, go_sem, t.1, t.2]) rfl ⟨rfl, (hx.setCell (by simp) _).setCell (by simp) _⟩
end
end Go.Proofs.Ytjcdopgefcmbpaa
