/- A policy's lattice, and the attacker's point. -/
import Derived.Test.YtcelelnmphdlbaaGreatDoorOrderOf
import Derived.StillTailTactics
namespace Go.Proofs.YtcelelnmphdlbaaGreatDoor
open Go.RowKit Tn Lx

theorem ord_sets {w : World} {o n ba bu r : Nat} {f u : Nat → Nat} {x y : Value} (h : Od.OrdAt w o n ba bu f u) (hn : 1 ≤ n) (hr : w.cell? ⟨r, 0, none⟩ = some (.pointer none)) : Od.OrdAt ((w.setCell ⟨r, 0, none⟩ x).setCell ⟨r, 1, none⟩ y) o n ba bu f u := by
  have k : ∀ {b i : Nat} {v : Value}, b ≠ r → w.cell? ⟨b, i, none⟩ = some v → ((w.setCell ⟨r, 0, none⟩ x).setCell ⟨r, 1, none⟩ y).cell? ⟨b, i, none⟩ = some v := fun {b i v} hb e => by
    rw [World.cell?_setCell_other _ _ _ _ (by intro hh; injection hh with h1 _; exact hb h1.symm), World.cell?_setCell_other _ _ _ _ (by intro hh; injection hh with h1 _; exact hb h1.symm)]; exact e
  have h1 : o ≠ r := fun e => by have := h.c0; rw [e, hr] at this; cases this
  have h2 : ba ≠ r := fun e => by have := h.ra 0 hn; rw [e, hr] at this; cases this
  have h3 : bu ≠ r := fun e => by have := h.ru 0 hn; rw [e, hr] at this; cases this
  exact ⟨h.n32, k h1 h.c0, k h1 h.c1, fun i hi => k h2 (h.ra i hi), fun i hi => k h3 (h.ru i hi), h.fl, h.ul⟩

/-- what Lattice answers: the lattice, and the attacker's point; or that something is wrong -/
def LatP (w : World) (n1 n2 : Nat) (l1 l2 : List (Nat × Nat)) (a : Nat) (e : Ending) (w' : World) : Prop :=
  Below w.heap.size w w' ∧ ((¬ (Od.Good n1 l1 ∧ Od.Good n2 l2) ∧ ∃ t v, e = .returned (.tuple #[.agg #[.pointer none, .pointer none], .int .i64 0, .iface t v])) ∨
    (Od.Good n1 l1 ∧ Od.Good n2 l2 ∧ ∃ o1 a1 u1 f1 g1 o2 a2 u2 f2 g2, e = .returned (.tuple #[.agg #[.pointer (some ⟨o1, 0, none⟩), .pointer (some ⟨o2, 0, none⟩)], .int .i64 (a : Int), .nilIface]) ∧ Od.OrdAt w' o1 n1 a1 u1 f1 g1 ∧ Od.OrdAt w' o2 n2 a2 u2 f2 g2 ∧ Od.Built n1 (Od.pf l1) (Od.qf l1) l1.length f1 g1 ∧ Od.Built n2 (Od.pf l2) (Od.qf l2) l2.length f2 g2))

set_option maxRecDepth 100000 in
set_option maxHeartbeats 8000000 in
theorem lattice_any (w : World) (q b1 c1 b2 c2 : Nat) (ao : Option Addr) (c3 : Nat) (g : Py.St) (a : Nat) (h : PolAt w q b1 c1 b2 c2 ao c3 g) (hnd : (Py.tx g.conf ++ Py.tx g.integ).Nodup) (hin : ∀ p ∈ g.ord, p.1.text ∈ Py.tx g.conf ++ Py.tx g.integ ∧ p.2.text ∈ Py.tx g.conf ++ Py.tx g.integ)
    (h11 : 1 ≤ g.conf.length) (h12 : g.conf.length ≤ 32) (h21 : 1 ≤ g.integ.length) (h22 : g.integ.length ≤ 32) (hk1 : ∀ p ∈ g.ord, (Py.ix (Py.tx g.conf) p.1.text = none ↔ Py.ix (Py.tx g.conf) p.2.text = none)) (hk2 : ∀ p ∈ g.ord, (Py.ix (Py.tx g.integ) p.1.text = none ↔ Py.ix (Py.tx g.integ) p.2.text = none)) (ha : Py.ix (Py.tx g.integ) g.att.text = some a) :
    Calls Tryz.prog 7 #[.pointer (some ⟨q, 0, none⟩)] w (LatP w g.conf.length g.integ.length (Py.prs (Py.tx g.conf) (Py.txx g.ord)) (Py.prs (Py.tx g.integ) (Py.txx g.ord)) a) := by
  obtain ⟨V, hV⟩ : ∃ V, w.alloc (.cells #[.pointer none, .pointer none] 35) = V := ⟨_, rfl⟩
  have hbV : Below w.heap.size w V := by rw [← hV]; exact (Below.refl _ w).alloc (Nat.le_refl _) _
  have hrV : V.heap[w.heap.size]? = some (.cells #[.pointer none, .pointer none] 35 (0, 0)) := by rw [← hV]; exact blk_new w _
  have hhV := h.below hbV
  have hC := checks_any V q b1 c1 b2 c2 ao c3 g hhV hnd hin
  have hO1 := fun W (hW : PolAt W q b1 c1 b2 c2 ao c3 g) => orderOf_any W q b1 c1 b2 c2 ao c3 g g.conf b1 c1 hW hW.n1 h11 h12 hk1
  have hO2 := fun W (hW : PolAt W q b1 c1 b2 c2 ao c3 g) => orderOf_any W q b1 c1 b2 c2 ao c3 g g.integ b2 c2 hW hW.n2 h21 h22 hk2
  have hA := fun W (hW : PolAt W q b1 c1 b2 c2 ao c3 g) => point_num W g.integ g.att.text b2 c2 hW.n2 (by omega)
  rw [ha] at hA
  generalize Py.prs (Py.tx g.conf) (Py.txx g.ord) = l1 at *
  generalize Py.prs (Py.tx g.integ) (Py.txx g.ord) = l2 at *
  have HC := Lib.hid hC; have HO1 := Lib.hid hO1; have HO2 := Lib.hid hO2; have HA := Lib.hid hA; have H := Lib.hid hhV; have HV := Lib.hid hV; have HBV := Lib.hid hbV; have HRV := Lib.hid hrV
  clear hC hO1 hO2 hA h hhV hnd hin hk1 hk2 ha hV hbV hrV
  go_enter Tryz.func7, Tryz.ntmps7
  go_wp2_with fail
  rw [HV.out]
  refine HC.out.mono ?_
  rintro e w1 ⟨rfl, hb1⟩
  have hP1 := H.out.below hb1
  have g1 := hP1.g1
  have HP1 := Lib.hid hP1; have HB1 := Lib.hid (HBV.out.trans (hb1.mono HBV.out.size)); have HR1 := Lib.hid ((hb1.block _ (lt_of_heap HRV.out)).trans HRV.out)
  clear hP1 hb1 HC H HV HBV HRV
  go_wp2_with fail
  refine (HO1.out _ HP1.out).mono ?_
  rintro e w2 ⟨hb2, ⟨hn, t, v, rfl⟩ | ⟨hg1, o1, a1, u1, f1, s1, rfl, ho1, hbu1⟩⟩
  · have hr2 := (hb2.block _ (lt_of_heap HR1.out)).trans HR1.out
    have x0 : w2.cell? ⟨w.heap.size, 0, none⟩ = some (.pointer none) := (blk_cell hr2 0).trans rfl
    have x1 : w2.cell? ⟨w.heap.size, 1, none⟩ = some (.pointer none) := (blk_cell hr2 1).trans rfl
    have xf : ∀ i, w2.frozen? ⟨w.heap.size, i, none⟩ = false := fun i => blk_frozen hr2 i
    have HB2 := Lib.hid (HB1.out.trans (hb2.mono HB1.out.size)); have HN := Lib.hid hn; have HR2 := Lib.hid hr2
    clear hb2 hn g1 hr2
    go_wp2
    have hr3 := blk_set (blk_set HR2.out 0 (.pointer none)) 1 (.pointer none)
    have r0 := (blk_cell hr3 0).trans rfl
    have r1 := (blk_cell hr3 1).trans rfl
    refine bodyPost_ret (v := .tuple #[.agg #[.pointer none, .pointer none], .int .i64 0, .iface t v]) (by simp [results, Tryz.results7, go_sem, r0, r1]) rfl ⟨?_, .inl ⟨fun e => HN.out e.1, t, v, rfl⟩⟩
    exact (HB2.out.setCell (Nat.le_refl _) _).setCell (Nat.le_refl _) _
  have hP2 := HP1.out.below hb2
  have g2 := hP2.g2
  have HP2 := Lib.hid hP2; have HB2 := Lib.hid (HB1.out.trans (hb2.mono HB1.out.size)); have HO := Lib.hid ho1; have HBU1 := Lib.hid hbu1; have HG1 := Lib.hid hg1; have HR2 := Lib.hid ((hb2.block _ (lt_of_heap HR1.out)).trans HR1.out)
  clear hP2 hb2 ho1 hbu1 hg1 g1 HR1 HB1
  go_wp2_with fail
  refine (HO2.out _ HP2.out).mono ?_
  rintro e w3 ⟨hb3, ⟨hn, t, v, rfl⟩ | ⟨hg2, o2, a2, u2, f2, s2, rfl, ho2, hbu2⟩⟩
  · have hr2 := (hb3.block _ (lt_of_heap HR2.out)).trans HR2.out
    have x0 : w3.cell? ⟨w.heap.size, 0, none⟩ = some (.pointer none) := (blk_cell hr2 0).trans rfl
    have x1 : w3.cell? ⟨w.heap.size, 1, none⟩ = some (.pointer none) := (blk_cell hr2 1).trans rfl
    have xf : ∀ i, w3.frozen? ⟨w.heap.size, i, none⟩ = false := fun i => blk_frozen hr2 i
    have HB3 := Lib.hid (HB2.out.trans (hb3.mono HB2.out.size)); have HN := Lib.hid hn; have HR3 := Lib.hid hr2
    clear hb3 hn g2 hr2
    go_wp2
    have hr3 := blk_set (blk_set HR3.out 0 (.pointer none)) 1 (.pointer none)
    have r0 := (blk_cell hr3 0).trans rfl
    have r1 := (blk_cell hr3 1).trans rfl
    refine bodyPost_ret (v := .tuple #[.agg #[.pointer none, .pointer none], .int .i64 0, .iface t v]) (by simp [results, Tryz.results7, go_sem, r0, r1]) rfl ⟨?_, .inl ⟨fun e => HN.out e.2, t, v, rfl⟩⟩
    exact (HB3.out.setCell (Nat.le_refl _) _).setCell (Nat.le_refl _) _
  have hP3 := HP2.out.below hb3
  have g2' := hP3.g2; have g4 := hP3.g4
  have HP3 := Lib.hid hP3; have HB3 := Lib.hid (HB2.out.trans (hb3.mono HB2.out.size)); have HOO := Lib.hid (HO.out.below h11 hb3); have HO3 := Lib.hid ho2; have HBU2 := Lib.hid hbu2; have HG2 := Lib.hid hg2; have HR3 := Lib.hid ((hb3.block _ (lt_of_heap HR2.out)).trans HR2.out)
  clear hP3 hb3 ho2 hbu2 hg2 g2 HO HR2 HB2
  go_wp2_with fail
  go_still_tail 9, (by kernel_rfl)
  change wpList _ _ _ _ _ w3.drew
  have hP4 := HP3.out.below (Below.refl _ w3).drew
  have HP4 := Lib.hid hP4
  clear hP4
  go_wp2_with fail
  refine (HA.out _ HP4.out).mono ?_
  rintro e w4 ⟨rfl, hb4'⟩
  have hb4 : Below w3.heap.size w3 w4 := (Below.refl _ w3).drew.trans hb4'
  clear hb4'
  unfold Py.num
  have hr2 := (hb4.block _ (lt_of_heap HR3.out)).trans HR3.out
  have x0 : w4.cell? ⟨w.heap.size, 0, none⟩ = some (.pointer none) := (blk_cell hr2 0).trans rfl
  have x1 : w4.cell? ⟨w.heap.size, 1, none⟩ = some (.pointer none) := (blk_cell hr2 1).trans rfl
  have xf : ∀ i, w4.frozen? ⟨w.heap.size, i, none⟩ = false := fun i => blk_frozen hr2 i
  have HB4 := Lib.hid (HB3.out.trans (hb4.mono HB3.out.size)); have HO4 := Lib.hid (HOO.out.below h11 hb4); have HO5 := Lib.hid (HO3.out.below h21 hb4); have HR4 := Lib.hid hr2
  clear hb4 HOO HO3 HR3 HB3 hr2
  go_wp2
  have hr3 := blk_set (blk_set HR4.out 0 (.pointer (some ⟨o1, 0, none⟩))) 1 (.pointer (some ⟨o2, 0, none⟩))
  have r0 := (blk_cell hr3 0).trans rfl
  have r1 := (blk_cell hr3 1).trans rfl
  refine bodyPost_ret (v := .tuple #[.agg #[.pointer (some ⟨o1, 0, none⟩), .pointer (some ⟨o2, 0, none⟩)], .int .i64 (a : Int), .nilIface]) (by simp [results, Tryz.results7, go_sem, r0, r1]) rfl ⟨?_, .inr ⟨HG1.out, HG2.out, o1, a1, u1, f1, s1, o2, a2, u2, f2, s2, rfl, ?_, ?_, HBU1.out, HBU2.out⟩⟩
  · exact (HB4.out.setCell (Nat.le_refl _) _).setCell (Nat.le_refl _) _
  · exact ord_sets HO4.out h11 x0
  · exact ord_sets HO5.out h21 x0
end Go.Proofs.YtcelelnmphdlbaaGreatDoor
