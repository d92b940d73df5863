/- The walk of the document's own Lattice. -/
import Derived.Test.YtjcdopgefcmbpaaRef2
import Derived.Deep.DeepCutAuto
namespace Go.Proofs.Ytjcdopgefcmbpaa
open Go.RowKit

namespace M
def goodR (n : Nat) (R : Nat → Nat → Bool) (a b : Nat) : Prop := ¬ (a ≠ b ∧ R a b = true ∧ R b a = true) ∧ 0 ≤ joinR n R a b ∧ 0 ≤ meetR n R a b
def LatR (n : Nat) (R : Nat → Nat → Bool) : Prop := ∀ a, a < n → ∀ b, b < n → goodR n R a b
end M
/-- true just if all pairs are good -/
def LatRRes (n : Nat) (R : Nat → Nat → Bool) (w : World) (e : Ending) (w' : World) : Prop :=
  ((e = .returned (.bool true) ∧ M.LatR n R) ∨ (e = .returned (.bool false) ∧ ¬ M.LatR n R)) ∧ Below w.heap.size w w'

theorem size_le {w w' : World} {B : Nat} (h : Below B w w') : w.heap.size ≤ w'.heap.size := h.size

set_option maxHeartbeats 2000000 in
theorem rlattice_any (w : World) (bb n cap : Nat) (rows : Nat → Nat) (R : Nat → Nat → Bool) (h : GridAt w bb n rows R) :
    Calls Try.prog 32 #[.agg #[.int .i64 (n : Int), .slice (some ⟨bb, 0, none⟩) n cap]] w (LatRRes n R w) := by
  have hn := h.n32
  have hbl : Below w.heap.size w (w.alloc (.cells #[.int .i64 (n : Int), .slice (some ⟨bb, 0, none⟩) n cap] 33)) := (Below.refl _ _).alloc (Nat.le_refl _) _
  have hg := h.below hbl
  have c0 : (w.alloc (.cells #[.int .i64 (n : Int), .slice (some ⟨bb, 0, none⟩) n cap] 33)).cell? ⟨w.heap.size, 0, none⟩ = some (.int .i64 (n : Int)) := by rw [World.cell?_alloc_new]; rfl
  have c1 : (w.alloc (.cells #[.int .i64 (n : Int), .slice (some ⟨bb, 0, none⟩) n cap] 33)).cell? ⟨w.heap.size, 1, none⟩ = some (.slice (some ⟨bb, 0, none⟩) n cap) := by rw [World.cell?_alloc_new]; rfl
  have hsz : w.heap.size < (w.alloc (.cells #[.int .i64 (n : Int), .slice (some ⟨bb, 0, none⟩) n cap] 33)).heap.size := by simp
  go_enter Try.func32, Try.ntmps32
  go_wp2
  generalize w.alloc (.cells #[.int .i64 (n : Int), .slice (some ⟨bb, 0, none⟩) n cap] 33) = w1 at *
  have HC0 := Lib.hid c0; clear c0
  have HC1 := Lib.hid c1; clear c1
  have fin : ∀ w', Below w1.heap.size w1 w' → Below w.heap.size w w' := fun w' h => hbl.trans (h.mono (by omega))
  have HFIN := Lib.hid fin; clear fin hbl
  go_loopw [3] (fun i wr => ∃ k : Nat, k ≤ n ∧ i = .int .i64 (k : Int) ∧ (∀ a, a < k → ∀ b, b < n → M.goodR n R a b) ∧ Below w1.heap.size w1 wr) (fun i _ => n - (intOf i).toNat)
  case atStart => exact ⟨0, Nat.zero_le _, rfl, fun c hc => by omega, Below.refl _ _⟩
  case round =>
    obtain ⟨k, hk, rfl, hno, hbr⟩ := hrel
    have HNO := Lib.hid hno; clear hno
    have d0 : wr.cell? ⟨w.heap.size, 0, none⟩ = some (.int .i64 (n : Int)) := by rw [hbr.cell hsz]; exact HC0.out
    by_cases hlt : k < n
    · go_wp2
      go_loopw [4] (fun i wr => ∃ j : Nat, j ≤ n ∧ i = .int .i64 (j : Int) ∧ (∀ b, b < j → M.goodR n R k b) ∧ Below w1.heap.size w1 wr) (fun i _ => n - (intOf i).toNat)
      case atStart => exact ⟨0, Nat.zero_le _, rfl, fun c hc => by omega, hbr⟩
      case round =>
        clear d0 hbr
        obtain ⟨j, hj, rfl, hnj, hbr⟩ := hrel
        have HNJ := Lib.hid hnj; clear hnj
        have d0 : wr.cell? ⟨w.heap.size, 0, none⟩ = some (.int .i64 (n : Int)) := by rw [hbr.cell hsz]; exact HC0.out
        have d1 : wr.cell? ⟨w.heap.size, 1, none⟩ = some (.slice (some ⟨bb, 0, none⟩) n cap) := by rw [hbr.cell hsz]; exact HC1.out
        have hgr := hg.below hbr
        by_cases hlj : j < n
        · have chk := hgr.head k hlt
          have chj := hgr.head j hlj
          have r1 := hgr.row k j hlt hlj
          have r2 := hgr.row j k hlj hlt
          go_upto_region 7 with fail
          go_cut [53] (fun s wx => ∃ bad : Bool, s = .bool bad ∧ Hid (bad = false ↔ M.goodR n R k j) ∧ Below w1.heap.size w1 wx)
          case first =>
            by_cases hbad : k ≠ j ∧ R k j = true ∧ R j k = true
            · obtain ⟨h1, h2, h3⟩ := hbad
              have t1 : ((k : Int) != (j : Int)) = true := by rw [bne_iff_ne]; omega
              rw [h2] at r1
              rw [h3] at r2
              have H2 := Lib.hid h2; clear h2
              have H3 := Lib.hid h3; clear h3
              go_wp2_with fail
              go_meet
              refine ⟨true, rfl, ?_, hbr⟩
              constructor
              · intro h; cases h
              · intro h; exact absurd ⟨h1, H2.out, H3.out⟩ h.1
            · have HB := Lib.hid hbad
              have alt : k = j ∨ (k ≠ j ∧ R k j = false) ∨ (k ≠ j ∧ R k j = true ∧ R j k = false) := by
                by_cases e : k = j
                · exact Or.inl e
                · cases e1 : R k j with
                  | false => exact Or.inr (Or.inl ⟨e, rfl⟩)
                  | true =>
                    cases e2 : R j k with
                    | false => exact Or.inr (Or.inr ⟨e, rfl, rfl⟩)
                    | true => exact absurd ⟨e, e1, e2⟩ hbad
              clear hbad
              have rest : ∀ (bad : Bool), (bad = false ↔ 0 ≤ M.joinR n R k j ∧ 0 ≤ M.meetR n R k j) → (bad = false ↔ M.goodR n R k j) := fun bad hb => by
                rw [hb]; unfold M.goodR
                exact ⟨fun h => ⟨HB.out, h⟩, fun h => h.2⟩
              have REST := Lib.hid rest; clear rest
              rcases alt with e | ⟨e, h2⟩ | ⟨e, h2, h3⟩
              all_goals first
                | (have t1 : ((k : Int) != (j : Int)) = false := by simp [e])
                | (have t1 : ((k : Int) != (j : Int)) = true := by rw [bne_iff_ne]; omega)
              all_goals try rw [h2] at r1
              all_goals try rw [h3] at r2
              all_goals
                have HE := Lib.hid e; clear e
                try (have H2 := Lib.hid h2; clear h2)
                try (have H3 := Lib.hid h3; clear h3)
                go_wp2_with fail
                refine (rjoin_any _ bb n cap rows R k j hgr hlt hlj).mono ?_
                rintro e w2 ⟨rfl, hb2⟩
                have hb2' : Below w1.heap.size w1 w2 := hbr.trans (hb2.mono (size_le hbr))
                have hg2 := hg.below hb2'
                have x0 : w2.cell? ⟨w.heap.size, 0, none⟩ = some (.int .i64 (n : Int)) := by rw [hb2'.cell hsz]; exact HC0.out
                have x1 : w2.cell? ⟨w.heap.size, 1, none⟩ = some (.slice (some ⟨bb, 0, none⟩) n cap) := by rw [hb2'.cell hsz]; exact HC1.out
                by_cases tj : M.joinR n R k j < 0
                · have tj' : decide (M.joinR n R k j < 0) = true := by simpa using tj
                  go_wp2_with fail
                  go_meet
                  exact ⟨true, rfl, REST.out true ⟨(fun h => by cases h), (fun h => by omega)⟩, hb2'⟩
                · have tj' : decide (M.joinR n R k j < 0) = false := by simpa using tj
                  go_wp2_with fail
                  refine (rmeet_any _ bb n cap rows R k j hg2 hlt hlj).mono ?_
                  rintro e w3 ⟨rfl, hb3⟩
                  have hb3' : Below w1.heap.size w1 w3 := hb2'.trans (hb3.mono (size_le hb2'))
                  by_cases tm : M.meetR n R k j < 0
                  · have tm' : decide (M.meetR n R k j < 0) = true := by simpa using tm
                    go_wp2_with fail
                    go_meet
                    exact ⟨true, rfl, REST.out true ⟨(fun h => by cases h), (fun h => by omega)⟩, hb3'⟩
                  · have tm' : decide (M.meetR n R k j < 0) = false := by simpa using tm
                    go_wp2_with fail
                    go_meet
                    exact ⟨false, rfl, REST.out false ⟨fun _ => by omega, fun _ => rfl⟩, hb3'⟩
          case rest =>
            obtain ⟨bad, rfl, HB, hbw⟩ := hcut
            cases bad with
            | true =>
              go_wp2
              go_ret
              exact ⟨Or.inr ⟨rfl, fun hl => by have := HB.out.2 (hl k hlt j hlj); cases this⟩, HFIN.out _ hbw⟩
            | false =>
              go_wp2
              go_roundw
              case rel =>
                refine ⟨j + 1, by omega, by go_num, ?_, hbw⟩
                intro b hb
                by_cases e : b = j
                · subst e; exact HB.out.1 rfl
                · exact HNJ.out b (by omega)
              case measure => simp [intOf]; omega
        · have hjn : n = j := by omega
          subst hjn
          go_wp2
          go_roundw
          case rel =>
            refine ⟨k + 1, by omega, by go_num, ?_, hbr⟩
            intro a ha
            by_cases e : a = k
            · subst e; exact HNJ.out
            · exact HNO.out a (by omega)
          case measure => simp [intOf]; omega
    · have hkn : n = k := by omega
      subst hkn
      go_wp2
      go_ret
      exact ⟨Or.inl ⟨rfl, HNO.out⟩, HFIN.out _ hbr⟩
end Go.Proofs.Ytjcdopgefcmbpaa
