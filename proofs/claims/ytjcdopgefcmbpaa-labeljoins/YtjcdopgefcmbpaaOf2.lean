/- The walk of the law's Of of layer 2: two orders, the program's and the document's. -/
import Derived.Test.YtjcdopgefcmbpaaRLab
import Derived.BigRegion
namespace Go.Proofs.Ytjcdopgefcmbpaa
open Go.RowKit

theorem of_all (w : World) (n : Int) (ao : Option Addr) (len cap : Nat) (p q : Nat → Int) (hlen : len ≤ 140737488351232) (hps : PairsAt w ao len p q) :
    Calls Try.prog 18 #[.int .i64 n, .slice ao len cap] w (OfPost w) := by
  by_cases h : n < 1 ∨ 32 < n
  · exact of_out w n ao len cap h
  · obtain ⟨k, rfl⟩ := Int.eq_ofNat_of_zero_le (show 0 ≤ n by omega)
    exact of_in w k ao len cap p q (by omega) (by omega) hlen hps

/-- not two orders; or the program's and the document's, which say the same -/
def Of2Post (w : World) (e : Ending) (w' : World) : Prop :=
  Below w.heap.size w w' ∧
  ((∃ (P1 P2 : Option Addr) (k1 k2 : Int) (a1 a2 : Option Addr) (j1 q1 j2 q2 : Nat), e = .returned (.tuple #[.agg #[.pointer P1, .pointer P2], .agg #[.int .i64 k1, .slice a1 j1 q1, .int .i64 k2, .slice a2 j2 q2], .bool false])) ∨
   ∃ (n1 o1 a1 u1 b1 k1 : Nat) (f1 g1 r1 : Nat → Nat) (R1 : Nat → Nat → Bool) (n2 o2 a2 u2 b2 k2 : Nat) (f2 g2 r2 : Nat → Nat) (R2 : Nat → Nat → Bool),
     e = .returned (.tuple #[.agg #[.pointer (some ⟨o1, 0, none⟩), .pointer (some ⟨o2, 0, none⟩)], .agg #[.int .i64 (n1 : Int), .slice (some ⟨b1, 0, none⟩) n1 k1, .int .i64 (n2 : Int), .slice (some ⟨b2, 0, none⟩) n2 k2], .bool true]) ∧
     TwoAt w' o1 n1 a1 u1 f1 g1 o2 n2 a2 u2 f2 g2 ∧ DocAt w' b1 n1 r1 R1 f1 g1 ∧ DocAt w' b2 n2 r2 R2 f2 g2)

theorem OfPost.split {w w' : World} {e : Ending} (h : OfPost w e w') : Below w.heap.size w w' ∧ ∃ (P : Option Addr) (k : Int) (a : Option Addr) (l c : Nat), e = .returned (.tuple #[.pointer P, .agg #[.int .i64 k, .slice a l c], .bool true]) ∧
    (P = none ∨ ∃ (n o ba bu g : Nat) (f u rows : Nat → Nat) (R : Nat → Nat → Bool), P = some ⟨o, 0, none⟩ ∧ k = (n : Int) ∧ a = some ⟨g, 0, none⟩ ∧ l = n ∧ OrdAt w' o n ba bu f u ∧ DocAt w' g n rows R f u) := by
  obtain ⟨hb, ⟨k, a, l, c, rfl⟩ | ⟨n, o, ba, bu, g, cap, f, u, rows, R, _, rfl, ho, hg, s1, s2, L⟩⟩ := h
  · exact ⟨hb, _, k, a, l, c, rfl, Or.inl rfl⟩
  · exact ⟨hb, _, _, _, _, _, rfl, Or.inr ⟨n, o, ba, bu, g, f, u, rows, R, rfl, rfl, rfl, rfl, ho, hg, s1, s2, L⟩⟩

theorem set_four (w : World) (b : Nat) (x0 x1 x2 x3 y0 y1 y2 y3 : Value) (h0 : w.cell? ⟨b, 0, none⟩ = some y0) (h1 : w.cell? ⟨b, 1, none⟩ = some y1) (h2 : w.cell? ⟨b, 2, none⟩ = some y2) (h3 : w.cell? ⟨b, 3, none⟩ = some y3) :
    ((((w.setCell ⟨b, 0, none⟩ x0).setCell ⟨b, 1, none⟩ x1).setCell ⟨b, 2, none⟩ x2).setCell ⟨b, 3, none⟩ x3).cell? ⟨b, 0, none⟩ = some x0 ∧
    ((((w.setCell ⟨b, 0, none⟩ x0).setCell ⟨b, 1, none⟩ x1).setCell ⟨b, 2, none⟩ x2).setCell ⟨b, 3, none⟩ x3).cell? ⟨b, 1, none⟩ = some x1 ∧
    ((((w.setCell ⟨b, 0, none⟩ x0).setCell ⟨b, 1, none⟩ x1).setCell ⟨b, 2, none⟩ x2).setCell ⟨b, 3, none⟩ x3).cell? ⟨b, 2, none⟩ = some x2 ∧
    ((((w.setCell ⟨b, 0, none⟩ x0).setCell ⟨b, 1, none⟩ x1).setCell ⟨b, 2, none⟩ x2).setCell ⟨b, 3, none⟩ x3).cell? ⟨b, 3, none⟩ = some x3 := by
  have ne : ∀ i j : Nat, i ≠ j → (⟨b, i, none⟩ : Addr) ≠ ⟨b, j, none⟩ := fun i j h hh => h (by injection hh)
  refine ⟨?_, ?_, ?_, ?_⟩
  · rw [World.cell?_setCell_other _ _ _ _ (ne 3 0 (by omega)), World.cell?_setCell_other _ _ _ _ (ne 2 0 (by omega)), World.cell?_setCell_other _ _ _ _ (ne 1 0 (by omega))]; exact World.cell?_setCell_same _ _ _ h0
  · rw [World.cell?_setCell_other _ _ _ _ (ne 3 1 (by omega)), World.cell?_setCell_other _ _ _ _ (ne 2 1 (by omega))]
    refine World.cell?_setCell_same (u := y1) _ _ _ ?_
    rw [World.cell?_setCell_other _ _ _ _ (ne 0 1 (by omega))]; exact h1
  · rw [World.cell?_setCell_other _ _ _ _ (ne 3 2 (by omega))]
    refine World.cell?_setCell_same (u := y2) _ _ _ ?_
    rw [World.cell?_setCell_other _ _ _ _ (ne 1 2 (by omega)), World.cell?_setCell_other _ _ _ _ (ne 0 2 (by omega))]; exact h2
  · refine World.cell?_setCell_same (u := y3) _ _ _ ?_
    rw [World.cell?_setCell_other _ _ _ _ (ne 2 3 (by omega)), World.cell?_setCell_other _ _ _ _ (ne 1 3 (by omega)), World.cell?_setCell_other _ _ _ _ (ne 0 3 (by omega))]; exact h3

theorem OrdAt.farP {w w' : World} {o n ba bu b : Nat} {f u : Nat → Nat} (h : OrdAt w o n ba bu f u) (hn : 1 ≤ n) (d0 : w.cell? ⟨b, 0, none⟩ = some (.pointer none)) (hw : Only b w w') : OrdAt w' o n ba bu f u := by
  have n1 : o ≠ b := by rintro rfl; have := h.c0; rw [d0] at this; simp at this
  have n2 : ba ≠ b := by rintro rfl; have := h.ra 0 (by omega); rw [d0] at this; simp at this
  have n3 : bu ≠ b := by rintro rfl; have := h.ru 0 (by omega); rw [d0] at this; simp at this
  exact ⟨h.n32, by rw [hw.cell n1]; exact h.c0, by rw [hw.cell n1]; exact h.c1, hw.row n2 h.ra, hw.row n3 h.ru, h.fl, h.ul⟩
theorem GridAt.farP {w w' : World} {g n b : Nat} {rows : Nat → Nat} {R : Nat → Nat → Bool} (h : GridAt w g n rows R) (hn : 1 ≤ n) (d0 : w.cell? ⟨b, 0, none⟩ = some (.pointer none)) (hw : Only b w w') : GridAt w' g n rows R := by
  have n1 : g ≠ b := by rintro rfl; have := h.head 0 (by omega); rw [d0] at this; simp at this
  have n2 : ∀ i, i < n → rows i ≠ b := by rintro i hi rfl; have := h.row i 0 hi (by omega); rw [d0] at this; simp at this
  exact ⟨h.n32, fun i hi => by rw [hw.cell n1]; exact h.head i hi, fun i j hi hj => by rw [hw.cell (n2 i hi)]; exact h.row i j hi hj⟩
theorem DocAt.one {w : World} {b n : Nat} {rows : Nat → Nat} {R : Nat → Nat → Bool} {f u : Nat → Nat} (h : DocAt w b n rows R f u) : 1 ≤ n := h.lat.pos
theorem DocAt.far {w w' : World} {b n c : Nat} {rows : Nat → Nat} {R : Nat → Nat → Bool} {f u : Nat → Nat} (h : DocAt w b n rows R f u) (d0 : w.cell? ⟨c, 0, none⟩ = some (.int .i64 0)) (hw : Only c w w') : DocAt w' b n rows R f u := ⟨h.grid.far h.one d0 hw, h.same, h.flip, h.lat⟩
theorem DocAt.farP {w w' : World} {b n c : Nat} {rows : Nat → Nat} {R : Nat → Nat → Bool} {f u : Nat → Nat} (h : DocAt w b n rows R f u) (d0 : w.cell? ⟨c, 0, none⟩ = some (.pointer none)) (hw : Only c w w') : DocAt w' b n rows R f u := ⟨h.grid.farP h.one d0 hw, h.same, h.flip, h.lat⟩

set_option maxHeartbeats 4000000 in
theorem of2_any (w : World) (n m : Int) (hn1 : -128 ≤ n) (hn2 : n ≤ 127) (hm1 : -128 ≤ m) (hm2 : m ≤ 127) (ao bo : Option Addr) (l1 c1 l2 c2 : Nat) (p q p' q' : Nat → Int) (h1 : PairsAt w ao l1 p q) (h2 : PairsAt w bo l2 p' q') :
    Calls Try.prog 5 #[.agg #[.int .i8 n, .int .i8 m, .slice ao l1 c1, .slice bo l2 c2]] w (Of2Post w) := by
  have hbl : Below w.heap.size w (((w.alloc (.cells #[.int .i8 n, .int .i8 m, .slice ao l1 c1, .slice bo l2 c2] 25)).alloc (.cells #[.pointer none, .pointer none] 30)).alloc (.cells #[.int .i64 0, .slice none 0 0, .int .i64 0, .slice none 0 0] 35)) := (((Below.refl _ _).alloc (Nat.le_refl _) _).alloc (by simp) _).alloc (by simp; omega) _
  have x1 : (((w.alloc (.cells #[.int .i8 n, .int .i8 m, .slice ao l1 c1, .slice bo l2 c2] 25)).alloc (.cells #[.pointer none, .pointer none] 30)).alloc (.cells #[.int .i64 0, .slice none 0 0, .int .i64 0, .slice none 0 0] 35)).cell? ⟨w.heap.size, 1, none⟩ = some (.int .i8 m) := by simp [go_sem]
  have x3 : (((w.alloc (.cells #[.int .i8 n, .int .i8 m, .slice ao l1 c1, .slice bo l2 c2] 25)).alloc (.cells #[.pointer none, .pointer none] 30)).alloc (.cells #[.int .i64 0, .slice none 0 0, .int .i64 0, .slice none 0 0] 35)).cell? ⟨w.heap.size, 3, none⟩ = some (.slice bo l2 c2) := by simp [go_sem]
  have r0 : (((w.alloc (.cells #[.int .i8 n, .int .i8 m, .slice ao l1 c1, .slice bo l2 c2] 25)).alloc (.cells #[.pointer none, .pointer none] 30)).alloc (.cells #[.int .i64 0, .slice none 0 0, .int .i64 0, .slice none 0 0] 35)).cell? ⟨w.heap.size + 1, 0, none⟩ = some (.pointer none) := by simp [go_sem]
  have r1 : (((w.alloc (.cells #[.int .i8 n, .int .i8 m, .slice ao l1 c1, .slice bo l2 c2] 25)).alloc (.cells #[.pointer none, .pointer none] 30)).alloc (.cells #[.int .i64 0, .slice none 0 0, .int .i64 0, .slice none 0 0] 35)).cell? ⟨w.heap.size + 1, 1, none⟩ = some (.pointer none) := by simp [go_sem]
  have s0 : (((w.alloc (.cells #[.int .i8 n, .int .i8 m, .slice ao l1 c1, .slice bo l2 c2] 25)).alloc (.cells #[.pointer none, .pointer none] 30)).alloc (.cells #[.int .i64 0, .slice none 0 0, .int .i64 0, .slice none 0 0] 35)).cell? ⟨w.heap.size + 1 + 1, 0, none⟩ = some (.int .i64 0) := by simp [go_sem]
  have s1 : (((w.alloc (.cells #[.int .i8 n, .int .i8 m, .slice ao l1 c1, .slice bo l2 c2] 25)).alloc (.cells #[.pointer none, .pointer none] 30)).alloc (.cells #[.int .i64 0, .slice none 0 0, .int .i64 0, .slice none 0 0] 35)).cell? ⟨w.heap.size + 1 + 1, 1, none⟩ = some (.slice none 0 0) := by simp [go_sem]
  have s2 : (((w.alloc (.cells #[.int .i8 n, .int .i8 m, .slice ao l1 c1, .slice bo l2 c2] 25)).alloc (.cells #[.pointer none, .pointer none] 30)).alloc (.cells #[.int .i64 0, .slice none 0 0, .int .i64 0, .slice none 0 0] 35)).cell? ⟨w.heap.size + 1 + 1, 2, none⟩ = some (.int .i64 0) := by simp [go_sem]
  have s3 : (((w.alloc (.cells #[.int .i8 n, .int .i8 m, .slice ao l1 c1, .slice bo l2 c2] 25)).alloc (.cells #[.pointer none, .pointer none] 30)).alloc (.cells #[.int .i64 0, .slice none 0 0, .int .i64 0, .slice none 0 0] 35)).cell? ⟨w.heap.size + 1 + 1, 3, none⟩ = some (.slice none 0 0) := by simp [go_sem]
  have zr : ∀ i, (((w.alloc (.cells #[.int .i8 n, .int .i8 m, .slice ao l1 c1, .slice bo l2 c2] 25)).alloc (.cells #[.pointer none, .pointer none] 30)).alloc (.cells #[.int .i64 0, .slice none 0 0, .int .i64 0, .slice none 0 0] 35)).frozen? ⟨w.heap.size + 1, i, none⟩ = false := fun i => by simp [go_sem]
  have zs : ∀ i, (((w.alloc (.cells #[.int .i8 n, .int .i8 m, .slice ao l1 c1, .slice bo l2 c2] 25)).alloc (.cells #[.pointer none, .pointer none] 30)).alloc (.cells #[.int .i64 0, .slice none 0 0, .int .i64 0, .slice none 0 0] 35)).frozen? ⟨w.heap.size + 1 + 1, i, none⟩ = false := fun i => by simp [go_sem]
  have hsz : w.heap.size + 1 + 1 < (((w.alloc (.cells #[.int .i8 n, .int .i8 m, .slice ao l1 c1, .slice bo l2 c2] 25)).alloc (.cells #[.pointer none, .pointer none] 30)).alloc (.cells #[.int .i64 0, .slice none 0 0, .int .i64 0, .slice none 0 0] 35)).heap.size := by simp
  by_cases t : 100 < l1 ∨ 100 < l2
  · have fr0 := zr 0
    have fr1 := zr 1
    have fs0 := zs 0
    have fs1 := zs 1
    have fs2 := zs 2
    have fs3 := zs 3
    have g0 := r0
    have g1' := r1
    have i0 := s0
    have i1 := s1
    have i2 := s2
    have i3 := s3
    clear zr zs x1 x3 r0 r1 s0 s1 s2 s3
    rcases (by omega : 100 < l1 ∨ (l1 ≤ 100 ∧ 100 < l2)) with t1 | ⟨t1, t2⟩
    · have d1 : decide ((100 : Int) < (l1 : Int)) = true := by simp; omega
      go_enter Try.func5, Try.ntmps5
      go_upto_region 2 with fail
      generalize ((w.alloc (.cells #[.int .i8 n, .int .i8 m, .slice ao l1 c1, .slice bo l2 c2] 25)).alloc (.cells #[.pointer none, .pointer none] 30)).alloc (.cells #[.int .i64 0, .slice none 0 0, .int .i64 0, .slice none 0 0] 35) = w1 at *
      go_wp2
      have tt := set_two w1 (w.heap.size + 1) (.pointer none) (.pointer none) _ _ g0 g1'
      have on : Only (w.heap.size + 1) w1 ((w1.setCell ⟨w.heap.size + 1, 0, none⟩ (.pointer none)).setCell ⟨w.heap.size + 1, 1, none⟩ (.pointer none)) := ((Only.refl _ w1).setCell 0 _).setCell 1 _
      have hbz : Below w.heap.size w ((w1.setCell ⟨w.heap.size + 1, 0, none⟩ (.pointer none)).setCell ⟨w.heap.size + 1, 1, none⟩ (.pointer none)) := ((hbl.setCell (by simp) _).setCell (by simp) _)
      clear fr0 fr1 fs0 fs1 fs2 fs3
      generalize (w1.setCell ⟨w.heap.size + 1, 0, none⟩ (.pointer none)).setCell ⟨w.heap.size + 1, 1, none⟩ (.pointer none) = wy at *
      have hne : w.heap.size + 1 + 1 ≠ w.heap.size + 1 := by omega
      have i0' := (on.cell hne (i := 0)).trans i0
      have i1' := (on.cell hne (i := 1)).trans i1
      have i2' := (on.cell hne (i := 2)).trans i2
      have i3' := (on.cell hne (i := 3)).trans i3
      have tf := set_four wy (w.heap.size + 1 + 1) (.int .i64 0) (.slice none 0 0) (.int .i64 0) (.slice none 0 0) _ _ _ _ i0' i1' i2' i3'
      have on2 : Only (w.heap.size + 1 + 1) wy ((((wy.setCell ⟨w.heap.size + 1 + 1, 0, none⟩ (.int .i64 0)).setCell ⟨w.heap.size + 1 + 1, 1, none⟩ (.slice none 0 0)).setCell ⟨w.heap.size + 1 + 1, 2, none⟩ (.int .i64 0)).setCell ⟨w.heap.size + 1 + 1, 3, none⟩ (.slice none 0 0)) := ((((Only.refl _ wy).setCell 0 _).setCell 1 _).setCell 2 _).setCell 3 _
      have hbf : Below w.heap.size w ((((wy.setCell ⟨w.heap.size + 1 + 1, 0, none⟩ (.int .i64 0)).setCell ⟨w.heap.size + 1 + 1, 1, none⟩ (.slice none 0 0)).setCell ⟨w.heap.size + 1 + 1, 2, none⟩ (.int .i64 0)).setCell ⟨w.heap.size + 1 + 1, 3, none⟩ (.slice none 0 0)) := (((hbz.setCell (by simp; omega) _).setCell (by simp; omega) _).setCell (by simp; omega) _).setCell (by simp; omega) _
      generalize (((wy.setCell ⟨w.heap.size + 1 + 1, 0, none⟩ (.int .i64 0)).setCell ⟨w.heap.size + 1 + 1, 1, none⟩ (.slice none 0 0)).setCell ⟨w.heap.size + 1 + 1, 2, none⟩ (.int .i64 0)).setCell ⟨w.heap.size + 1 + 1, 3, none⟩ (.slice none 0 0) = wz at *
      have tz0 : wz.cell? ⟨w.heap.size + 1, 0, none⟩ = some (.pointer none) := (on2.cell hne.symm (i := 0)).trans tt.1
      have tz1 : wz.cell? ⟨w.heap.size + 1, 1, none⟩ = some (.pointer none) := (on2.cell hne.symm (i := 1)).trans tt.2
      have tz2 : wz.cell? ⟨w.heap.size + 1 + 1, 0, none⟩ = some (.int .i64 0) := tf.1
      have tz3 : wz.cell? ⟨w.heap.size + 1 + 1, 1, none⟩ = some (.slice none 0 0) := tf.2.1
      have tz4 : wz.cell? ⟨w.heap.size + 1 + 1, 2, none⟩ = some (.int .i64 0) := tf.2.2.1
      have tz5 : wz.cell? ⟨w.heap.size + 1 + 1, 3, none⟩ = some (.slice none 0 0) := tf.2.2.2
      have hbz : Below w.heap.size w wz := hbf
      clear i0 i1 i2 i3 g0 g1' i0' i1' i2' i3' on on2 tt tf
      generalize wz = wf at *
      exact bodyPost_ret (v := .tuple #[.agg #[.pointer none, .pointer none], .agg #[.int .i64 0, .slice none 0 0, .int .i64 0, .slice none 0 0], .bool false]) (by simp [results, Try.results5, go_sem, tz0, tz1, tz2, tz3, tz4, tz5]) rfl ⟨hbz, Or.inl ⟨_, _, _, _, _, _, _, _, _, _, rfl⟩⟩
    · have d1 : decide ((100 : Int) < (l1 : Int)) = false := by simp; omega
      have d2 : decide ((100 : Int) < (l2 : Int)) = true := by simp; omega
      go_enter Try.func5, Try.ntmps5
      go_upto_region 2 with fail
      generalize ((w.alloc (.cells #[.int .i8 n, .int .i8 m, .slice ao l1 c1, .slice bo l2 c2] 25)).alloc (.cells #[.pointer none, .pointer none] 30)).alloc (.cells #[.int .i64 0, .slice none 0 0, .int .i64 0, .slice none 0 0] 35) = w1 at *
      go_wp2
      have tt := set_two w1 (w.heap.size + 1) (.pointer none) (.pointer none) _ _ g0 g1'
      have on : Only (w.heap.size + 1) w1 ((w1.setCell ⟨w.heap.size + 1, 0, none⟩ (.pointer none)).setCell ⟨w.heap.size + 1, 1, none⟩ (.pointer none)) := ((Only.refl _ w1).setCell 0 _).setCell 1 _
      have hbz : Below w.heap.size w ((w1.setCell ⟨w.heap.size + 1, 0, none⟩ (.pointer none)).setCell ⟨w.heap.size + 1, 1, none⟩ (.pointer none)) := ((hbl.setCell (by simp) _).setCell (by simp) _)
      clear fr0 fr1 fs0 fs1 fs2 fs3
      generalize (w1.setCell ⟨w.heap.size + 1, 0, none⟩ (.pointer none)).setCell ⟨w.heap.size + 1, 1, none⟩ (.pointer none) = wy at *
      have hne : w.heap.size + 1 + 1 ≠ w.heap.size + 1 := by omega
      have i0' := (on.cell hne (i := 0)).trans i0
      have i1' := (on.cell hne (i := 1)).trans i1
      have i2' := (on.cell hne (i := 2)).trans i2
      have i3' := (on.cell hne (i := 3)).trans i3
      have tf := set_four wy (w.heap.size + 1 + 1) (.int .i64 0) (.slice none 0 0) (.int .i64 0) (.slice none 0 0) _ _ _ _ i0' i1' i2' i3'
      have on2 : Only (w.heap.size + 1 + 1) wy ((((wy.setCell ⟨w.heap.size + 1 + 1, 0, none⟩ (.int .i64 0)).setCell ⟨w.heap.size + 1 + 1, 1, none⟩ (.slice none 0 0)).setCell ⟨w.heap.size + 1 + 1, 2, none⟩ (.int .i64 0)).setCell ⟨w.heap.size + 1 + 1, 3, none⟩ (.slice none 0 0)) := ((((Only.refl _ wy).setCell 0 _).setCell 1 _).setCell 2 _).setCell 3 _
      have hbf : Below w.heap.size w ((((wy.setCell ⟨w.heap.size + 1 + 1, 0, none⟩ (.int .i64 0)).setCell ⟨w.heap.size + 1 + 1, 1, none⟩ (.slice none 0 0)).setCell ⟨w.heap.size + 1 + 1, 2, none⟩ (.int .i64 0)).setCell ⟨w.heap.size + 1 + 1, 3, none⟩ (.slice none 0 0)) := (((hbz.setCell (by simp; omega) _).setCell (by simp; omega) _).setCell (by simp; omega) _).setCell (by simp; omega) _
      generalize (((wy.setCell ⟨w.heap.size + 1 + 1, 0, none⟩ (.int .i64 0)).setCell ⟨w.heap.size + 1 + 1, 1, none⟩ (.slice none 0 0)).setCell ⟨w.heap.size + 1 + 1, 2, none⟩ (.int .i64 0)).setCell ⟨w.heap.size + 1 + 1, 3, none⟩ (.slice none 0 0) = wz at *
      have tz0 : wz.cell? ⟨w.heap.size + 1, 0, none⟩ = some (.pointer none) := (on2.cell hne.symm (i := 0)).trans tt.1
      have tz1 : wz.cell? ⟨w.heap.size + 1, 1, none⟩ = some (.pointer none) := (on2.cell hne.symm (i := 1)).trans tt.2
      have tz2 : wz.cell? ⟨w.heap.size + 1 + 1, 0, none⟩ = some (.int .i64 0) := tf.1
      have tz3 : wz.cell? ⟨w.heap.size + 1 + 1, 1, none⟩ = some (.slice none 0 0) := tf.2.1
      have tz4 : wz.cell? ⟨w.heap.size + 1 + 1, 2, none⟩ = some (.int .i64 0) := tf.2.2.1
      have tz5 : wz.cell? ⟨w.heap.size + 1 + 1, 3, none⟩ = some (.slice none 0 0) := tf.2.2.2
      have hbz : Below w.heap.size w wz := hbf
      clear i0 i1 i2 i3 g0 g1' i0' i1' i2' i3' on on2 tt tf
      generalize wz = wf at *
      exact bodyPost_ret (v := .tuple #[.agg #[.pointer none, .pointer none], .agg #[.int .i64 0, .slice none 0 0, .int .i64 0, .slice none 0 0], .bool false]) (by simp [results, Try.results5, go_sem, tz0, tz1, tz2, tz3, tz4, tz5]) rfl ⟨hbz, Or.inl ⟨_, _, _, _, _, _, _, _, _, _, rfl⟩⟩
  · have t1 : decide ((100 : Int) < (l1 : Int)) = false := by simp; omega
    have t2 : decide ((100 : Int) < (l2 : Int)) = false := by simp; omega
    have hp2 := h2.below hbl
    have hp1 := h1.below hbl
    go_enter Try.func5, Try.ntmps5
    go_wp2_with fail
    generalize ((w.alloc (.cells #[.int .i8 n, .int .i8 m, .slice ao l1 c1, .slice bo l2 c2] 25)).alloc (.cells #[.pointer none, .pointer none] 30)).alloc (.cells #[.int .i64 0, .slice none 0 0, .int .i64 0, .slice none 0 0] 35) = w1 at *
    refine (of_all w1 n ao l1 c1 p q (by omega) hp1).mono ?_
    intro e w2 hO
    obtain ⟨hb2, P1, k1, a1, j1, q1, rfl, hP1⟩ := hO.split
    clear hO hp1 h1 h2
    have y1 : w2.cell? ⟨w.heap.size, 1, none⟩ = some (.int .i8 m) := by rw [hb2.cell (show w.heap.size < _ by omega)]; exact x1
    have y3 : w2.cell? ⟨w.heap.size, 3, none⟩ = some (.slice bo l2 c2) := by rw [hb2.cell (show w.heap.size < _ by omega)]; exact x3
    have hs2 : w.heap.size + 1 + 1 < w2.heap.size := by have := hb2.size; omega
    have hp3 := hp2.below hb2
    clear x1 x3 hp2
    go_upto_region 4 with fail
    have ha : Below w2.heap.size w2 (w2.alloc (.cells #[.int .i64 k1, .slice a1 j1 q1] 33)) := (Below.refl _ _).alloc (Nat.le_refl _) _
    have v0 : (w2.alloc (.cells #[.int .i64 k1, .slice a1 j1 q1] 33)).cell? ⟨w2.heap.size, 0, none⟩ = some (.int .i64 k1) := by rw [World.cell?_alloc_new]; rfl
    have v1 : (w2.alloc (.cells #[.int .i64 k1, .slice a1 j1 q1] 33)).cell? ⟨w2.heap.size, 1, none⟩ = some (.slice a1 j1 q1) := by rw [World.cell?_alloc_new]; rfl
    generalize w2.alloc (.cells #[.int .i64 k1, .slice a1 j1 q1] 33) = w3 at *
    have x1 : w3.cell? ⟨w.heap.size, 1, none⟩ = some (.int .i8 m) := by rw [ha.cell (show w.heap.size < _ by omega)]; exact y1
    have x3 : w3.cell? ⟨w.heap.size, 3, none⟩ = some (.slice bo l2 c2) := by rw [ha.cell (show w.heap.size < _ by omega)]; exact y3
    have hs3 : w2.heap.size < w3.heap.size := World.block_lt_of_cell? _ _ v0
    clear y1 y3
    go_wp2_with fail
    refine (of_all w3 m bo l2 c2 p' q' (by omega) (hp3.below ha)).mono ?_
    intro e w4 hO
    obtain ⟨hb4, P2, k2, a2, j2, q2, rfl, hP2⟩ := hO.split
    clear hO hp3 x1 x3
    have hb24 : Below w2.heap.size w2 w4 := ha.trans (hb4.mono ha.size)
    have hb14 : Below w1.heap.size w1 w4 := hb2.trans (hb24.mono hb2.size)
    have u0 : w4.cell? ⟨w2.heap.size, 0, none⟩ = some (.int .i64 k1) := by rw [hb4.cell hs3]; exact v0
    have u1 : w4.cell? ⟨w2.heap.size, 1, none⟩ = some (.slice a1 j1 q1) := by rw [hb4.cell hs3]; exact v1
    have hs4 : w2.heap.size < w4.heap.size := World.block_lt_of_cell? _ _ u0
    clear v0 v1 hb4 ha hs3
    go_upto_region 5 with fail
    have ha : Below w4.heap.size w4 (w4.alloc (.cells #[.int .i64 k2, .slice a2 j2 q2] 33)) := (Below.refl _ _).alloc (Nat.le_refl _) _
    have v0 : (w4.alloc (.cells #[.int .i64 k2, .slice a2 j2 q2] 33)).cell? ⟨w4.heap.size, 0, none⟩ = some (.int .i64 k2) := by rw [World.cell?_alloc_new]; rfl
    have v1 : (w4.alloc (.cells #[.int .i64 k2, .slice a2 j2 q2] 33)).cell? ⟨w4.heap.size, 1, none⟩ = some (.slice a2 j2 q2) := by rw [World.cell?_alloc_new]; rfl
    generalize w4.alloc (.cells #[.int .i64 k2, .slice a2 j2 q2] 33) = w5 at *
    have e0 : w5.cell? ⟨w2.heap.size, 0, none⟩ = some (.int .i64 k1) := by rw [ha.cell hs4]; exact u0
    have e1 : w5.cell? ⟨w2.heap.size, 1, none⟩ = some (.slice a1 j1 q1) := by rw [ha.cell hs4]; exact u1
    have hb15 : Below w1.heap.size w1 w5 := hb14.trans (ha.mono hb14.size)
    have hb05 : Below w.heap.size w w5 := hbl.trans (hb15.mono hbl.size)
    clear u0 u1
    have g0 : w5.cell? ⟨w.heap.size + 1, 0, none⟩ = some (.pointer none) := by rw [hb15.cell (show w.heap.size + 1 < _ by omega)]; exact r0
    have g1' : w5.cell? ⟨w.heap.size + 1, 1, none⟩ = some (.pointer none) := by rw [hb15.cell (show w.heap.size + 1 < _ by omega)]; exact r1
    have i0 : w5.cell? ⟨w.heap.size + 1 + 1, 0, none⟩ = some (.int .i64 0) := by rw [hb15.cell hsz]; exact s0
    have i1 : w5.cell? ⟨w.heap.size + 1 + 1, 1, none⟩ = some (.slice none 0 0) := by rw [hb15.cell hsz]; exact s1
    have i2 : w5.cell? ⟨w.heap.size + 1 + 1, 2, none⟩ = some (.int .i64 0) := by rw [hb15.cell hsz]; exact s2
    have i3 : w5.cell? ⟨w.heap.size + 1 + 1, 3, none⟩ = some (.slice none 0 0) := by rw [hb15.cell hsz]; exact s3
    have fr : ∀ i, w5.frozen? ⟨w.heap.size + 1, i, none⟩ = false := fun i => by rw [hb15.frozen (show w.heap.size + 1 < _ by omega)]; exact zr i
    have fs : ∀ i, w5.frozen? ⟨w.heap.size + 1 + 1, i, none⟩ = false := fun i => by rw [hb15.frozen hsz]; exact zs i
    have fr0 := fr 0
    have fr1 := fr 1
    have fs0 := fs 0
    have fs1 := fs 1
    have fs2 := fs 2
    have fs3 := fs 3
    have hs5 : w.heap.size + 1 + 1 < w5.heap.size := by have := hb15.size; omega
    clear r0 r1 s0 s1 s2 s3 zr zs t1 t2 t fr fs
    have hb45 : Below w4.heap.size w4 w5 := ha
    have hb25 : Below w2.heap.size w2 w5 := hb24.trans (ha.mono hb24.size)
    clear ha hb24 hb14 hb15
    rcases hP1 with rfl | ⟨N1, o1, ba1, bu1, b1, f1, g1, r1, R1, rfl, rfl, rfl, rfl, ho1, hd1⟩
    · clear hP2
      go_region
      go_wp2
      have tt := set_two w5 (w.heap.size + 1) (.pointer none) (.pointer P2) _ _ g0 g1'
      have on : Only (w.heap.size + 1) w5 ((w5.setCell ⟨w.heap.size + 1, 0, none⟩ (.pointer none)).setCell ⟨w.heap.size + 1, 1, none⟩ (.pointer P2)) := ((Only.refl _ w5).setCell 0 _).setCell 1 _
      have hbz : Below w.heap.size w ((w5.setCell ⟨w.heap.size + 1, 0, none⟩ (.pointer none)).setCell ⟨w.heap.size + 1, 1, none⟩ (.pointer P2)) := ((hb05.setCell (by simp) _).setCell (by simp) _)
      clear fr0 fr1 fs0 fs1 fs2 fs3
      generalize (w5.setCell ⟨w.heap.size + 1, 0, none⟩ (.pointer none)).setCell ⟨w.heap.size + 1, 1, none⟩ (.pointer P2) = wy at *
      have hne : w.heap.size + 1 + 1 ≠ w.heap.size + 1 := by omega
      have i0' := (on.cell hne (i := 0)).trans i0
      have i1' := (on.cell hne (i := 1)).trans i1
      have i2' := (on.cell hne (i := 2)).trans i2
      have i3' := (on.cell hne (i := 3)).trans i3
      have tf := set_four wy (w.heap.size + 1 + 1) (.int .i64 k1) (.slice a1 j1 q1) (.int .i64 k2) (.slice a2 j2 q2) _ _ _ _ i0' i1' i2' i3'
      have on2 : Only (w.heap.size + 1 + 1) wy ((((wy.setCell ⟨w.heap.size + 1 + 1, 0, none⟩ (.int .i64 k1)).setCell ⟨w.heap.size + 1 + 1, 1, none⟩ (.slice a1 j1 q1)).setCell ⟨w.heap.size + 1 + 1, 2, none⟩ (.int .i64 k2)).setCell ⟨w.heap.size + 1 + 1, 3, none⟩ (.slice a2 j2 q2)) := ((((Only.refl _ wy).setCell 0 _).setCell 1 _).setCell 2 _).setCell 3 _
      have hbf : Below w.heap.size w ((((wy.setCell ⟨w.heap.size + 1 + 1, 0, none⟩ (.int .i64 k1)).setCell ⟨w.heap.size + 1 + 1, 1, none⟩ (.slice a1 j1 q1)).setCell ⟨w.heap.size + 1 + 1, 2, none⟩ (.int .i64 k2)).setCell ⟨w.heap.size + 1 + 1, 3, none⟩ (.slice a2 j2 q2)) := (((hbz.setCell (by simp; omega) _).setCell (by simp; omega) _).setCell (by simp; omega) _).setCell (by simp; omega) _
      generalize (((wy.setCell ⟨w.heap.size + 1 + 1, 0, none⟩ (.int .i64 k1)).setCell ⟨w.heap.size + 1 + 1, 1, none⟩ (.slice a1 j1 q1)).setCell ⟨w.heap.size + 1 + 1, 2, none⟩ (.int .i64 k2)).setCell ⟨w.heap.size + 1 + 1, 3, none⟩ (.slice a2 j2 q2) = wz at *
      have tz0 : wz.drew.cell? ⟨w.heap.size + 1, 0, none⟩ = some (.pointer none) := (on2.cell hne.symm (i := 0)).trans tt.1
      have tz1 : wz.drew.cell? ⟨w.heap.size + 1, 1, none⟩ = some (.pointer P2) := (on2.cell hne.symm (i := 1)).trans tt.2
      have tz2 : wz.drew.cell? ⟨w.heap.size + 1 + 1, 0, none⟩ = some (.int .i64 k1) := tf.1
      have tz3 : wz.drew.cell? ⟨w.heap.size + 1 + 1, 1, none⟩ = some (.slice a1 j1 q1) := tf.2.1
      have tz4 : wz.drew.cell? ⟨w.heap.size + 1 + 1, 2, none⟩ = some (.int .i64 k2) := tf.2.2.1
      have tz5 : wz.drew.cell? ⟨w.heap.size + 1 + 1, 3, none⟩ = some (.slice a2 j2 q2) := tf.2.2.2
      have hbz : Below w.heap.size w wz.drew := hbf.drew
      clear i0 i1 i2 i3 g0 g1' i0' i1' i2' i3' on on2 tt tf
      generalize wz.drew = wf at *
      exact bodyPost_ret (v := .tuple #[.agg #[.pointer none, .pointer P2], .agg #[.int .i64 k1, .slice a1 j1 q1, .int .i64 k2, .slice a2 j2 q2], .bool false]) (by simp [results, Try.results5, go_sem, tz0, tz1, tz2, tz3, tz4, tz5]) rfl ⟨hbz, Or.inl ⟨_, _, _, _, _, _, _, _, _, _, rfl⟩⟩
    · have ho1' := ho1.below hb25
      have hd1' := hd1.below hb25
      clear ho1 hd1
      rcases hP2 with rfl | ⟨N2, o2, ba2, bu2, b2, f2, g2, r2, R2, rfl, rfl, rfl, rfl, ho2, hd2⟩
      · clear ho1' hd1'
        go_region
        go_wp2
        have tt := set_two w5 (w.heap.size + 1) (.pointer (some ⟨o1, 0, none⟩)) (.pointer none) _ _ g0 g1'
        have on : Only (w.heap.size + 1) w5 ((w5.setCell ⟨w.heap.size + 1, 0, none⟩ (.pointer (some ⟨o1, 0, none⟩))).setCell ⟨w.heap.size + 1, 1, none⟩ (.pointer none)) := ((Only.refl _ w5).setCell 0 _).setCell 1 _
        have hbz : Below w.heap.size w ((w5.setCell ⟨w.heap.size + 1, 0, none⟩ (.pointer (some ⟨o1, 0, none⟩))).setCell ⟨w.heap.size + 1, 1, none⟩ (.pointer none)) := ((hb05.setCell (by simp) _).setCell (by simp) _)
        clear fr0 fr1 fs0 fs1 fs2 fs3
        generalize (w5.setCell ⟨w.heap.size + 1, 0, none⟩ (.pointer (some ⟨o1, 0, none⟩))).setCell ⟨w.heap.size + 1, 1, none⟩ (.pointer none) = wy at *
        have hne : w.heap.size + 1 + 1 ≠ w.heap.size + 1 := by omega
        have i0' := (on.cell hne (i := 0)).trans i0
        have i1' := (on.cell hne (i := 1)).trans i1
        have i2' := (on.cell hne (i := 2)).trans i2
        have i3' := (on.cell hne (i := 3)).trans i3
        have tf := set_four wy (w.heap.size + 1 + 1) (.int .i64 (j1 : Int)) (.slice (some ⟨b1, 0, none⟩) j1 q1) (.int .i64 k2) (.slice a2 j2 q2) _ _ _ _ i0' i1' i2' i3'
        have on2 : Only (w.heap.size + 1 + 1) wy ((((wy.setCell ⟨w.heap.size + 1 + 1, 0, none⟩ (.int .i64 (j1 : Int))).setCell ⟨w.heap.size + 1 + 1, 1, none⟩ (.slice (some ⟨b1, 0, none⟩) j1 q1)).setCell ⟨w.heap.size + 1 + 1, 2, none⟩ (.int .i64 k2)).setCell ⟨w.heap.size + 1 + 1, 3, none⟩ (.slice a2 j2 q2)) := ((((Only.refl _ wy).setCell 0 _).setCell 1 _).setCell 2 _).setCell 3 _
        have hbf : Below w.heap.size w ((((wy.setCell ⟨w.heap.size + 1 + 1, 0, none⟩ (.int .i64 (j1 : Int))).setCell ⟨w.heap.size + 1 + 1, 1, none⟩ (.slice (some ⟨b1, 0, none⟩) j1 q1)).setCell ⟨w.heap.size + 1 + 1, 2, none⟩ (.int .i64 k2)).setCell ⟨w.heap.size + 1 + 1, 3, none⟩ (.slice a2 j2 q2)) := (((hbz.setCell (by simp; omega) _).setCell (by simp; omega) _).setCell (by simp; omega) _).setCell (by simp; omega) _
        generalize (((wy.setCell ⟨w.heap.size + 1 + 1, 0, none⟩ (.int .i64 (j1 : Int))).setCell ⟨w.heap.size + 1 + 1, 1, none⟩ (.slice (some ⟨b1, 0, none⟩) j1 q1)).setCell ⟨w.heap.size + 1 + 1, 2, none⟩ (.int .i64 k2)).setCell ⟨w.heap.size + 1 + 1, 3, none⟩ (.slice a2 j2 q2) = wz at *
        have tz0 : wz.drew.cell? ⟨w.heap.size + 1, 0, none⟩ = some (.pointer (some ⟨o1, 0, none⟩)) := (on2.cell hne.symm (i := 0)).trans tt.1
        have tz1 : wz.drew.cell? ⟨w.heap.size + 1, 1, none⟩ = some (.pointer none) := (on2.cell hne.symm (i := 1)).trans tt.2
        have tz2 : wz.drew.cell? ⟨w.heap.size + 1 + 1, 0, none⟩ = some (.int .i64 (j1 : Int)) := tf.1
        have tz3 : wz.drew.cell? ⟨w.heap.size + 1 + 1, 1, none⟩ = some (.slice (some ⟨b1, 0, none⟩) j1 q1) := tf.2.1
        have tz4 : wz.drew.cell? ⟨w.heap.size + 1 + 1, 2, none⟩ = some (.int .i64 k2) := tf.2.2.1
        have tz5 : wz.drew.cell? ⟨w.heap.size + 1 + 1, 3, none⟩ = some (.slice a2 j2 q2) := tf.2.2.2
        have hbz : Below w.heap.size w wz.drew := hbf.drew
        clear i0 i1 i2 i3 g0 g1' i0' i1' i2' i3' on on2 tt tf
        generalize wz.drew = wf at *
        exact bodyPost_ret (v := .tuple #[.agg #[.pointer (some ⟨o1, 0, none⟩), .pointer none], .agg #[.int .i64 (j1 : Int), .slice (some ⟨b1, 0, none⟩) j1 q1, .int .i64 k2, .slice a2 j2 q2], .bool false]) (by simp [results, Try.results5, go_sem, tz0, tz1, tz2, tz3, tz4, tz5]) rfl ⟨hbz, Or.inl ⟨_, _, _, _, _, _, _, _, _, _, rfl⟩⟩
      · have ho2' := ho2.below hb45
        have hd2' := hd2.below hb45
        clear ho2 hd2
        go_region
        go_wp2
        have tt := set_two w5 (w.heap.size + 1) (.pointer (some ⟨o1, 0, none⟩)) (.pointer (some ⟨o2, 0, none⟩)) _ _ g0 g1'
        have on : Only (w.heap.size + 1) w5 ((w5.setCell ⟨w.heap.size + 1, 0, none⟩ (.pointer (some ⟨o1, 0, none⟩))).setCell ⟨w.heap.size + 1, 1, none⟩ (.pointer (some ⟨o2, 0, none⟩))) := ((Only.refl _ w5).setCell 0 _).setCell 1 _
        have hbz : Below w.heap.size w ((w5.setCell ⟨w.heap.size + 1, 0, none⟩ (.pointer (some ⟨o1, 0, none⟩))).setCell ⟨w.heap.size + 1, 1, none⟩ (.pointer (some ⟨o2, 0, none⟩))) := ((hb05.setCell (by simp) _).setCell (by simp) _)
        clear fr0 fr1 fs0 fs1 fs2 fs3
        generalize (w5.setCell ⟨w.heap.size + 1, 0, none⟩ (.pointer (some ⟨o1, 0, none⟩))).setCell ⟨w.heap.size + 1, 1, none⟩ (.pointer (some ⟨o2, 0, none⟩)) = wy at *
        have hne : w.heap.size + 1 + 1 ≠ w.heap.size + 1 := by omega
        have i0' := (on.cell hne (i := 0)).trans i0
        have i1' := (on.cell hne (i := 1)).trans i1
        have i2' := (on.cell hne (i := 2)).trans i2
        have i3' := (on.cell hne (i := 3)).trans i3
        have tf := set_four wy (w.heap.size + 1 + 1) (.int .i64 (j1 : Int)) (.slice (some ⟨b1, 0, none⟩) j1 q1) (.int .i64 (j2 : Int)) (.slice (some ⟨b2, 0, none⟩) j2 q2) _ _ _ _ i0' i1' i2' i3'
        have on2 : Only (w.heap.size + 1 + 1) wy ((((wy.setCell ⟨w.heap.size + 1 + 1, 0, none⟩ (.int .i64 (j1 : Int))).setCell ⟨w.heap.size + 1 + 1, 1, none⟩ (.slice (some ⟨b1, 0, none⟩) j1 q1)).setCell ⟨w.heap.size + 1 + 1, 2, none⟩ (.int .i64 (j2 : Int))).setCell ⟨w.heap.size + 1 + 1, 3, none⟩ (.slice (some ⟨b2, 0, none⟩) j2 q2)) := ((((Only.refl _ wy).setCell 0 _).setCell 1 _).setCell 2 _).setCell 3 _
        have hbf : Below w.heap.size w ((((wy.setCell ⟨w.heap.size + 1 + 1, 0, none⟩ (.int .i64 (j1 : Int))).setCell ⟨w.heap.size + 1 + 1, 1, none⟩ (.slice (some ⟨b1, 0, none⟩) j1 q1)).setCell ⟨w.heap.size + 1 + 1, 2, none⟩ (.int .i64 (j2 : Int))).setCell ⟨w.heap.size + 1 + 1, 3, none⟩ (.slice (some ⟨b2, 0, none⟩) j2 q2)) := (((hbz.setCell (by simp; omega) _).setCell (by simp; omega) _).setCell (by simp; omega) _).setCell (by simp; omega) _
        generalize (((wy.setCell ⟨w.heap.size + 1 + 1, 0, none⟩ (.int .i64 (j1 : Int))).setCell ⟨w.heap.size + 1 + 1, 1, none⟩ (.slice (some ⟨b1, 0, none⟩) j1 q1)).setCell ⟨w.heap.size + 1 + 1, 2, none⟩ (.int .i64 (j2 : Int))).setCell ⟨w.heap.size + 1 + 1, 3, none⟩ (.slice (some ⟨b2, 0, none⟩) j2 q2) = wz at *
        have tz0 : wz.drew.cell? ⟨w.heap.size + 1, 0, none⟩ = some (.pointer (some ⟨o1, 0, none⟩)) := (on2.cell hne.symm (i := 0)).trans tt.1
        have tz1 : wz.drew.cell? ⟨w.heap.size + 1, 1, none⟩ = some (.pointer (some ⟨o2, 0, none⟩)) := (on2.cell hne.symm (i := 1)).trans tt.2
        have tz2 : wz.drew.cell? ⟨w.heap.size + 1 + 1, 0, none⟩ = some (.int .i64 (j1 : Int)) := tf.1
        have tz3 : wz.drew.cell? ⟨w.heap.size + 1 + 1, 1, none⟩ = some (.slice (some ⟨b1, 0, none⟩) j1 q1) := tf.2.1
        have tz4 : wz.drew.cell? ⟨w.heap.size + 1 + 1, 2, none⟩ = some (.int .i64 (j2 : Int)) := tf.2.2.1
        have tz5 : wz.drew.cell? ⟨w.heap.size + 1 + 1, 3, none⟩ = some (.slice (some ⟨b2, 0, none⟩) j2 q2) := tf.2.2.2
        have hbz : Below w.heap.size w wz.drew := hbf.drew
        have oo1 : OrdAt wz.drew o1 j1 ba1 bu1 f1 g1 := (ho1'.farP hd1'.one g0 on).far hd1'.one i0' on2.drew
        have oo2 : OrdAt wz.drew o2 j2 ba2 bu2 f2 g2 := (ho2'.farP hd2'.one g0 on).far hd2'.one i0' on2.drew
        have dd1 : DocAt wz.drew b1 j1 r1 R1 f1 g1 := (hd1'.farP g0 on).far i0' on2.drew
        have dd2 : DocAt wz.drew b2 j2 r2 R2 f2 g2 := (hd2'.farP g0 on).far i0' on2.drew
        clear i0 i1 i2 i3 g0 g1' i0' i1' i2' i3' on on2 tt tf
        generalize wz.drew = wf at *
        exact bodyPost_ret (v := .tuple #[.agg #[.pointer (some ⟨o1, 0, none⟩), .pointer (some ⟨o2, 0, none⟩)], .agg #[.int .i64 (j1 : Int), .slice (some ⟨b1, 0, none⟩) j1 q1, .int .i64 (j2 : Int), .slice (some ⟨b2, 0, none⟩) j2 q2], .bool true]) (by simp [results, Try.results5, go_sem, tz0, tz1, tz2, tz3, tz4, tz5]) rfl ⟨hbz, Or.inr ⟨j1, o1, ba1, bu1, b1, q1, f1, g1, r1, R1, j2, o2, ba2, bu2, b2, q2, f2, g2, r2, R2, rfl, ⟨oo1, oo2⟩, dd1, dd2⟩⟩
end Go.Proofs.Ytjcdopgefcmbpaa
