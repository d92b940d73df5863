/- One label below the other, and the chapter's example, walked. -/
import Derived.Test.YtcelelnmphdlbaaGreatDoorLive7
namespace Go.Proofs.YtcelelnmphdlbaaGreatDoor
open Go.RowKit Tn Lx

set_option maxHeartbeats 2000000 in
theorem lbelow_yes (w : World) (o1 n1 a1 u1 : Nat) (f1 g1 : Nat → Nat) (o2 n2 a2 u2 : Nat) (f2 g2 : Nat → Nat) (h1 : Od.OrdAt w o1 n1 a1 u1 f1 g1) (h2 : Od.OrdAt w o2 n2 a2 u2 f2 g2) (k1 : 2 ≤ n1) (k2 : 2 ≤ n2) (b1 : (f1 0).testBit 1 = true) (b2 : (f2 0).testBit 1 = true) :
    Calls Tryz.prog 14 #[.agg #[.pointer (some ⟨o1, 0, none⟩), .pointer (some ⟨o2, 0, none⟩)], .agg #[.int .i64 0, .int .i64 0], .agg #[.int .i64 1, .int .i64 1]] w fun e w' => e = .returned (.bool true) ∧ Below w.heap.size w w' := by
  have hbl : Below w.heap.size w (((w.alloc (.cells #[.pointer (some ⟨o1, 0, none⟩), .pointer (some ⟨o2, 0, none⟩)] 35)).alloc (.cells #[.int .i64 0, .int .i64 0] 57)).alloc (.cells #[.int .i64 1, .int .i64 1] 57)) := (((Below.refl _ _).alloc (Nat.le_refl _) _).alloc (by simp) _).alloc (by simp; omega) _
  have q1 := Od.below_lat _ o1 n1 a1 u1 f1 g1 0 1 (h1.below (by omega) hbl) (by omega) (by omega)
  have q2 := Od.below_lat _ o2 n2 a2 u2 f2 g2 0 1 (h2.below (by omega) hbl) (by omega) (by omega)
  rw [b1] at q1
  rw [b2] at q2
  have HQ1 := Lib.hid q1; have HQ2 := Lib.hid q2; have HB := Lib.hid hbl
  clear q1 q2 hbl h1 h2 b1 b2
  go_enter Tryz.func14, Tryz.ntmps14
  go_wp2_with fail
  refine HQ1.out.mono ?_
  rintro e w' ⟨rfl, rfl⟩
  go_wp2_with fail
  refine HQ2.out.mono ?_
  rintro e w' ⟨rfl, rfl⟩
  go_wp2
  go_ret
  exact ⟨rfl, HB.out⟩

theorem l_lat (w : World) (q b1 c1 b2 c2 : Nat) (ao : Option Addr) (c3 : Nat) (h : PolAt w q b1 c1 b2 c2 ao c3 lPol) : Calls Tryz.prog 7 #[.pointer (some ⟨q, 0, none⟩)] w (LatP w 2 2 [(0, 1)] [(0, 1)] 1) := by
  have hm : ∀ p ∈ lPol.ord, p = (⟨[108, 111, 119], ⟨1, 23⟩⟩, ⟨[104, 105, 103, 104], ⟨1, 29⟩⟩) ∨ p = (⟨[111, 107], ⟨1, 56⟩⟩, ⟨[98, 97, 100], ⟨1, 61⟩⟩) := fun p hp => by simpa [lPol] using hp
  have e1 : Py.prs (Py.tx lPol.conf) (Py.txx lPol.ord) = [(0, 1)] := by decide
  have e2 : Py.prs (Py.tx lPol.integ) (Py.txx lPol.ord) = [(0, 1)] := by decide
  have := lattice_any w q b1 c1 b2 c2 ao c3 lPol 1 h (by decide) (fun p hp => by rcases hm p hp with rfl | rfl <;> decide) (by decide) (by decide) (by decide) (by decide) (fun p hp => by rcases hm p hp with rfl | rfl <;> decide) (fun p hp => by rcases hm p hp with rfl | rfl <;> decide) (by decide)
  rw [e1, e2] at this
  exact this

set_option maxRecDepth 100000 in
set_option maxHeartbeats 4000000 in
theorem live7_any (w : World) (hT : Lib.Utf8Tabs 1 2 w) : Calls Tryz.prog 4 #[] w fun e w' => e = .returned (.bool true) ∧ Below w.heap.size w w' := by
  have HP := Lib.hid (yparse_ok 5 10 lText lToks lPol w (by omega) (by decide) hT l_whole l_all)
  clear hT
  go_enter Tryz.func4, Tryz.ntmps4
  go_wp2_with fail
  refine HP.out.mono ?_
  rintro e w1 ⟨hb1, c, q, pp, v1, v2, v3, rfl, hP, _⟩
  obtain ⟨b1, c1, b2, c2, ao, c3, hA⟩ := hP.at_ (by decide) (by decide) (by decide) (by decide) (by decide)
  have hL := l_lat w1 q b1 c1 b2 c2 ao c3 hA
  have HL := Lib.hid hL; have HB1 := Lib.hid hb1
  clear hL hb1 hA hP HP
  go_wp2_with fail
  refine HL.out.mono ?_
  rintro e w2 ⟨hb2, ⟨hn, _⟩ | ⟨_, _, o1, a1, u1, f1, g1, o2, a2, u2, f2, g2, rfl, ho1, ho2, hB1, hB2⟩⟩
  · exact absurd ⟨two_good, two_good⟩ hn
  have k1 : (f1 0).testBit 1 = true := by rw [← (Od.built_unique two_built hB1).1 0 (by omega)]; decide
  have k2 : (f2 0).testBit 1 = true := by rw [← (Od.built_unique two_built hB2).1 0 (by omega)]; decide
  have hY := fun W (hb : Below w2.heap.size w2 W) => lbelow_yes W o1 2 a1 u1 f1 g1 o2 2 a2 u2 f2 g2 (ho1.below (by omega) hb) (ho2.below (by omega) hb) (by omega) (by omega) k1 k2
  have HY := Lib.hid hY; have HB2 := Lib.hid (HB1.out.trans (hb2.mono HB1.out.size))
  clear hY hb2 ho1 ho2 hB1 hB2 k1 k2 HL HB1
  go_wp2_with fail
  have hbA := fun o => (Below.refl _ w2).alloc (Nat.le_refl _) o
  refine (HY.out _ (hbA _)).mono ?_
  rintro e w3 ⟨rfl, hb3⟩
  have hB3 := HB2.out.trans (((hbA _).trans (hb3.mono (hbA _).size)).mono HB2.out.size)
  have HB3 := Lib.hid hB3
  clear hB3 hb3 hbA
  go_wp2
  go_ret
  exact ⟨rfl, HB3.out⟩
end Go.Proofs.YtcelelnmphdlbaaGreatDoor
