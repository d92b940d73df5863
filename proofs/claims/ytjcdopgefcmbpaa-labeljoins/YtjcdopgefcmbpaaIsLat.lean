/- The walk of isLattice. -/
import Derived.Test.YtjcdopgefcmbpaaRev
namespace Go.Proofs.Ytjcdopgefcmbpaa
open Go.RowKit

namespace M
def good (n : Nat) (f u : Nat → Nat) (a b : Nat) : Prop := f a ≠ f b ∧ findN f (f a &&& f b) n ≠ -1 ∧ findN u (u a &&& u b) n ≠ -1
def LatOK (n : Nat) (f u : Nat → Nat) : Prop := ∀ b, b < n → ∀ a, a < b → good n f u a b
end M
/-- true just if all pairs of points are good -/
def LatRes (n : Nat) (f u : Nat → Nat) (w : World) (e : Ending) (w' : World) : Prop :=
  ((e = .returned (.bool true) ∧ M.LatOK n f u) ∨ (e = .returned (.bool false) ∧ ¬ M.LatOK n f u)) ∧ ∃ k, w' = w.drewN k

set_option maxHeartbeats 1000000 in
theorem isLattice_any (w : World) (o n ba bu : Nat) (f u : Nat → Nat) (h : OrdAt w o n ba bu f u) :
    Calls Try.prog 30 #[.pointer (some ⟨o, 0, none⟩)] w (LatRes n f u w) := by
  have hn := h.n32
  have hc0 := h.c0
  go_enter Try.func30, Try.ntmps30
  go_wp2
  go_loopw [10] (fun i wr => ∃ (k m : Nat), k ≤ n ∧ i = .int .i64 k ∧ (∀ b, b < k → ∀ a, a < b → M.good n f u a b) ∧ wr = w.drewN m) (fun i _ => n - (intOf i).toNat)
  case atStart => exact ⟨0, 0, Nat.zero_le _, rfl, fun b hb => by omega, rfl⟩
  case round =>
    obtain ⟨k, m, hk, rfl, hg, hw⟩ := hrel
    have ho : OrdAt wr o n ba bu f u := by rw [hw]; exact h.drewN _
    have HW := Lib.hid hw; clear hw
    have HG := Lib.hid hg; clear hg
    by_cases hlt : k < n
    · go_wp2
      go_loopw [14] (fun i ws => ∃ (j m : Nat), j ≤ k ∧ i = .int .i64 j ∧ (∀ a, a < j → M.good n f u a k) ∧ ws = w.drewN m) (fun i _ => k - (intOf i).toNat)
      case atStart => exact ⟨0, m, Nat.zero_le _, rfl, fun b hb => by omega, HW.out⟩
      case round =>
        clear ho HW
        obtain ⟨j, m', hj, rfl, hgj, hw⟩ := hrel
        have ho : OrdAt wr o n ba bu f u := by rw [hw]; exact h.drewN _
        have HW := Lib.hid hw; clear hw
        have HGJ := Lib.hid hgj; clear hgj
        have hc0' := ho.c0
        by_cases hlj : j < k
        · have hcj := ho.ra j (by omega)
          have hck := ho.ra k (by omega)
          have i1 : (j : Int) < (n : Int) := by omega
          have i2 : (k : Int) < (n : Int) := by omega
          cases t1 : ((f j : Int) == (f k : Int)) with
          | true =>
            go_wp2_with fail
            go_quiet (fail)
            go_wp2
            go_ret
            refine ⟨Or.inr ⟨rfl, fun hh => (hh k hlt j hlj).1 (by have := beq_iff_eq.1 t1; omega)⟩, m' + nq, by rw [HW.out, World.drewN_drewN]⟩
          | false =>
            cases t2 : (M.findN f (f j &&& f k) n == -1) with
            | true =>
              go_wp2_with fail
              go_quiet ((go_at_call 23; exact Calls.quiet_of (join_in _ o n ba bu f u (j : Int) (k : Int) (ho.drewN _) (by omega) (by omega) (by omega) (by omega))))
              simp only [Int.toNat_natCast]
              go_wp2
              go_ret
              refine ⟨Or.inr ⟨rfl, fun hh => (hh k hlt j hlj).2.1 (by simpa using t2)⟩, m' + nq, by rw [HW.out, World.drewN_drewN]⟩
            | false =>
              cases t3 : (M.findN u (u j &&& u k) n == -1) with
              | true =>
                go_wp2_with fail
                go_quiet (first | (go_at_call 23; exact Calls.quiet_of (join_in _ o n ba bu f u (j : Int) (k : Int) (ho.drewN _) (by omega) (by omega) (by omega) (by omega))) | (go_at_call 38; exact Calls.quiet_of (meet_in _ o n ba bu f u (j : Int) (k : Int) (ho.drewN _) (by omega) (by omega) (by omega) (by omega))))
                simp only [Int.toNat_natCast]
                go_wp2
                go_ret
                refine ⟨Or.inr ⟨rfl, fun hh => (hh k hlt j hlj).2.2 (by simpa using t3)⟩, m' + nq, by rw [HW.out, World.drewN_drewN]⟩
              | false =>
                go_wp2_with fail
                go_quiet (first | (go_at_call 23; exact Calls.quiet_of (join_in _ o n ba bu f u (j : Int) (k : Int) (ho.drewN _) (by omega) (by omega) (by omega) (by omega))) | (go_at_call 38; exact Calls.quiet_of (meet_in _ o n ba bu f u (j : Int) (k : Int) (ho.drewN _) (by omega) (by omega) (by omega) (by omega))))
                simp only [Int.toNat_natCast]
                go_wp2
                go_roundw
                case rel =>
                  refine ⟨j + 1, m' + nq, by omega, by go_num, ?_, by rw [HW.out, World.drewN_drewN]⟩
                  intro a ha
                  by_cases e : a = j
                  · subst e
                    exact ⟨fun hh => by rw [hh] at t1; simp at t1, by simpa using t2, by simpa using t3⟩
                  · exact HGJ.out a (by omega)
                case measure => simp [intOf]; omega
        · have hjk : j = k := by omega
          subst hjk
          go_wp2
          go_roundw
          case rel =>
            refine ⟨j + 1, m', by omega, by go_num, ?_, HW.out⟩
            intro b hb
            by_cases e : b = j
            · subst e; exact HGJ.out
            · exact HG.out b (by omega)
          case measure => simp [intOf]; omega
    · have hkn : k = n := by omega
      subst hkn
      go_wp2
      go_ret
      exact ⟨Or.inl ⟨rfl, HG.out⟩, _, HW.out⟩
end Go.Proofs.Ytjcdopgefcmbpaa
