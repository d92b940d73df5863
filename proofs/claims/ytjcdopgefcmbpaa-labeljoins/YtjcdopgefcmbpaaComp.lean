/- The walk of complete: the masks above become the least transitive ones. -/
import Derived.Test.YtjcdopgefcmbpaaMem
import Derived.RegionTactic
import Derived.BigRegion
namespace Go.Proofs.Ytjcdopgefcmbpaa
open Go.RowKit

theorem lt32 {n x : Nat} (hn : n ≤ 32) (h : x < 2 ^ n) : x < 4294967296 := by
  have : 2 ^ n ≤ 2 ^ 32 := Nat.pow_le_pow_right (by omega) hn
  omega

set_option maxHeartbeats 1000000 in
theorem complete_any (w : World) (o n ba : Nat) (f : Nat → Nat) (hn : n ≤ 32) (hc0 : w.cell? ⟨o, 0, none⟩ = some (.slice (some ⟨ba, 0, none⟩) n n)) (hra : RowAt w ba n f) (hob : o ≠ ba)
    (hfl : ∀ a, a < n → f a < 2 ^ n) (hfz : ∀ i, i < n → w.frozen? ⟨ba, i, none⟩ = false) :
    Calls Try.prog 28 #[.pointer (some ⟨o, 0, none⟩)] w fun e w' => e = .returned (.tuple #[]) ∧ ∃ g, M.CInv n f n g ∧ RowAt w' ba n g ∧ Only ba w w' := by
  have HRA := Lib.hid hra; clear hra
  have HFL := Lib.hid hfl; clear hfl
  have HFZ := Lib.hid hfz; clear hfz
  go_enter Try.func28, Try.ntmps28
  go_wp2
  go_loopw [9] (fun i wr => ∃ (k : Nat) (g : Nat → Nat), k ≤ n ∧ i = .int .i64 k ∧ M.CInv n f k g ∧ RowAt wr ba n g ∧ Only ba w wr) (fun i _ => n - (intOf i).toNat)
  case atStart => exact ⟨0, f, Nat.zero_le _, rfl, M.CInv.start HFL.out, HRA.out, Only.refl _ _⟩
  case round =>
    obtain ⟨k, g, hk, rfl, hci, hrow, hon⟩ := hrel
    have hcr : wr.cell? ⟨o, 0, none⟩ = some (.slice (some ⟨ba, 0, none⟩) n n) := by rw [hon.cell hob]; exact hc0
    by_cases hlt : k < n
    · go_wp2
      go_loopw [17] (fun i ws => ∃ (j : Nat), j ≤ n ∧ i = .int .i64 j ∧ RowAt ws ba n (M.stepTo g k j) ∧ Only ba w ws) (fun i _ => n - (intOf i).toNat)
      case atStart => exact ⟨0, Nat.zero_le _, rfl, hrow.congr (fun i _ => (M.stepTo_zero g k i).symm), hon⟩
      case round =>
        obtain ⟨j, hj, rfl, hrow', hon'⟩ := hrel
        clear hrow hon hcr
        have hcr : wr.cell? ⟨o, 0, none⟩ = some (.slice (some ⟨ba, 0, none⟩) n n) := by rw [hon'.cell hob]; exact hc0
        by_cases hlj : j < n
        · have hfj : wr.frozen? ⟨ba, j, none⟩ = false := by rw [hon'.frozen]; exact HFZ.out j hlj
          have hcj : wr.cell? ⟨ba, j, none⟩ = some (.int .u32 (g j : Int)) := by rw [hrow' j hlj, M.stepTo_at]
          have hck : wr.cell? ⟨ba, k, none⟩ = some (.int .u32 (g k : Int)) := by rw [hrow' k hlt, M.stepTo_mid]
          have gj := lt32 hn (hci.lim j hlj)
          have gk := lt32 hn (hci.lim k hlt)
          have hor := u32_or_nat (g j) (g k) gj gk
          go_wp2_with fail
          refine (contains_any (g j) k _ gj (by omega) (by omega)).mono ?_
          rintro e w' ⟨rfl, rfl⟩
          simp only [Int.toNat_natCast]
          cases hb : (g j).testBit k with
          | true =>
            have HB := Lib.hid hb; clear hb
            go_wp2
            go_region
            all_goals
              go_wp2
              go_roundw
              case rel => exact ⟨j + 1, by omega, by go_num, ((hrow'.set (j := j) (x := g j ||| g k)).drew).congr (fun i _ => (M.stepTo_yes g k j i HB.out).symm), (hon'.setCell j _).drew⟩
              case measure => simp [intOf]; omega
          | false =>
            have HB := Lib.hid hb; clear hb
            go_wp2
            go_roundw
            case rel => exact ⟨j + 1, by omega, by go_num, hrow'.congr (fun i _ => (M.stepTo_no g k j i HB.out).symm), hon'⟩
            case measure => simp [intOf]; omega
        · have hjn : j = n := by omega
          subst hjn
          go_wp2
          go_roundw
          case rel => exact ⟨k + 1, _, by omega, by go_num, hci.step hlt, hrow', hon'⟩
          case measure => simp [intOf]; omega
    · have hkn : k = n := by omega
      subst hkn
      go_wp2
      go_end0
      exact ⟨rfl, g, hci, hrow, hon⟩
end Go.Proofs.Ytjcdopgefcmbpaa
