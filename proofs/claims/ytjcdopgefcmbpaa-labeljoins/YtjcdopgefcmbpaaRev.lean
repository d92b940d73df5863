/- The walk of reverse: the masks under each point, from those above. -/
import Derived.Test.YtjcdopgefcmbpaaComp
import Derived.Deep.RegionWith
namespace Go.Proofs.Ytjcdopgefcmbpaa
open Go.RowKit

namespace M
/-- behind the rows below a, and the first j columns of row a: which points are known to be under which -/
structure RInv (n : Nat) (f : Nat → Nat) (a j : Nat) (u : Nat → Nat) : Prop where
  lim : ∀ b, b < n → u b < 2 ^ n
  bits : ∀ x b, x < n → b < n → (u b).testBit x = (decide (x < a ∨ x = a ∧ b < j) && (f x).testBit b)

theorem RInv.start (n : Nat) (f : Nat → Nat) : RInv n f 0 0 (fun _ => 0) := ⟨fun _ _ => Nat.two_pow_pos n, fun x b _ _ => by simp⟩
theorem RInv.yes {n a j : Nat} {f u : Nat → Nat} (h : RInv n f a j u) (ha : a < n) (hj : j < n) (hb : (f a).testBit j = true) : RInv n f a (j + 1) (fun i => if i = j then u j ||| bit a else u i) where
  lim b hb := by
    split
    · exact Nat.or_lt_two_pow (h.lim j hj) (Nat.pow_lt_pow_right (by omega) ha)
    · exact h.lim b hb
  bits x b hx hbn := by
    split
    · rename_i e; subst e
      rw [Nat.testBit_or, h.bits x b hx hj, testBit_bit]
      by_cases e : a = x
      · subst e; simp [hb]
      · have e' : ¬ x = a := fun h => e h.symm
        simp [e, e']
    · rw [h.bits x b hx hbn]
      have : (x < a ∨ x = a ∧ b < j + 1) ↔ (x < a ∨ x = a ∧ b < j) := by omega
      simp only [this]
theorem RInv.no {n a j : Nat} {f u : Nat → Nat} (h : RInv n f a j u) (hb : (f a).testBit j = false) : RInv n f a (j + 1) u where
  lim := h.lim
  bits x b hx hbn := by
    rw [h.bits x b hx hbn]
    by_cases e : x = a ∧ b = j
    · obtain ⟨rfl, rfl⟩ := e; simp [hb]
    · have : (x < a ∨ x = a ∧ b < j + 1) ↔ (x < a ∨ x = a ∧ b < j) := by omega
      simp only [this]
theorem RInv.next {n a : Nat} {f u : Nat → Nat} (h : RInv n f a n u) : RInv n f (a + 1) 0 u where
  lim := h.lim
  bits x b hx hbn := by
    rw [h.bits x b hx hbn]
    have : (x < a + 1 ∨ x = a + 1 ∧ b < 0) ↔ (x < a ∨ x = a ∧ b < n) := by omega
    simp only [this]
theorem RInv.done {n : Nat} {f u : Nat → Nat} (h : RInv n f n 0 u) (a b : Nat) (ha : a < n) (hb : b < n) : (u b).testBit a = (f a).testBit b := by
  rw [h.bits a b ha hb]; simp [ha]
end M

set_option maxHeartbeats 1000000 in
theorem reverse_any (w : World) (o n ba bu : Nat) (f : Nat → Nat) (hn : n ≤ 32) (hc0 : w.cell? ⟨o, 0, none⟩ = some (.slice (some ⟨ba, 0, none⟩) n n)) (hc1 : w.cell? ⟨o, 1, none⟩ = some (.slice (some ⟨bu, 0, none⟩) n n))
    (hra : RowAt w ba n f) (hru : RowAt w bu n (fun _ => 0)) (hob : o ≠ bu) (hab : ba ≠ bu)
    (hfl : ∀ a, a < n → f a < 2 ^ n) (hfz : ∀ i, i < n → w.frozen? ⟨bu, i, none⟩ = false) :
    Calls Try.prog 29 #[.pointer (some ⟨o, 0, none⟩)] w fun e w' => e = .returned (.tuple #[]) ∧ ∃ u, M.RInv n f n 0 u ∧ RowAt w' bu n u ∧ Only bu w w' := by
  have HRA := Lib.hid hra; clear hra
  have HRU := Lib.hid hru; clear hru
  have HFL := Lib.hid hfl; clear hfl
  have HFZ := Lib.hid hfz; clear hfz
  go_enter Try.func29, Try.ntmps29
  go_wp2
  go_loopw [9] (fun i wr => ∃ (k : Nat) (u : Nat → Nat), k ≤ n ∧ i = .int .i64 k ∧ M.RInv n f k 0 u ∧ RowAt wr bu n u ∧ Only bu w wr) (fun i _ => n - (intOf i).toNat)
  case atStart => exact ⟨0, fun _ => 0, Nat.zero_le _, rfl, M.RInv.start n f, HRU.out, Only.refl _ _⟩
  case round =>
    obtain ⟨k, u, hk, rfl, hci, hrow, hon⟩ := hrel
    have hcr : wr.cell? ⟨o, 0, none⟩ = some (.slice (some ⟨ba, 0, none⟩) n n) := by rw [hon.cell hob]; exact hc0
    have hcr1 : wr.cell? ⟨o, 1, none⟩ = some (.slice (some ⟨bu, 0, none⟩) n n) := by rw [hon.cell hob]; exact hc1
    by_cases hlt : k < n
    · go_wp2
      go_loopw [17] (fun i ws => ∃ (j : Nat) (u : Nat → Nat), j ≤ n ∧ i = .int .i64 j ∧ M.RInv n f k j u ∧ RowAt ws bu n u ∧ Only bu w ws) (fun i _ => n - (intOf i).toNat)
      case atStart => exact ⟨0, u, Nat.zero_le _, rfl, hci, hrow, hon⟩
      case round =>
        clear hrow hon hcr hcr1 hci
        obtain ⟨j, u, hj, rfl, hci, hrow', hon'⟩ := hrel
        have hcr : wr.cell? ⟨o, 0, none⟩ = some (.slice (some ⟨ba, 0, none⟩) n n) := by rw [hon'.cell hob]; exact hc0
        have hcr1 : wr.cell? ⟨o, 1, none⟩ = some (.slice (some ⟨bu, 0, none⟩) n n) := by rw [hon'.cell hob]; exact hc1
        by_cases hlj : j < n
        · have hfj : wr.frozen? ⟨bu, j, none⟩ = false := by rw [hon'.frozen]; exact HFZ.out j hlj
          have hcj : wr.cell? ⟨bu, j, none⟩ = some (.int .u32 (u j : Int)) := hrow' j hlj
          have hck : wr.cell? ⟨ba, k, none⟩ = some (.int .u32 (f k : Int)) := by rw [hon'.cell hab]; exact HRA.out k hlt
          have gk := lt32 hn (HFL.out k hlt)
          have gj := lt32 hn (hci.lim j hlj)
          have bk := M.bit_lt32 (a := k) (by omega)
          have hor := u32_or_nat (u j) (M.bit k) gj bk
          go_wp2_with fail
          refine (contains_any (f k) j _ gk (by omega) (by omega)).mono ?_
          rintro e w' ⟨rfl, rfl⟩
          simp only [Int.toNat_natCast]
          cases hb : (f k).testBit j with
          | true =>
            have HB := Lib.hid hb; clear hb
            go_wp2_with fail
            go_region_with (go_at_call 26; refine (only_any _ _ (by omega) (by omega)).mono ?_; rintro e w' ⟨rfl, rfl⟩; simp only [Int.toNat_natCast])
            all_goals
              go_wp2
              go_roundw
              case rel => exact ⟨j + 1, _, by omega, by go_num, hci.yes hlt hlj HB.out, (hrow'.set (j := j) (x := u j ||| M.bit k)).drew, (hon'.setCell j _).drew⟩
              case measure => simp [intOf]; omega
          | false =>
            have HB := Lib.hid hb; clear hb
            go_wp2
            go_roundw
            case rel => exact ⟨j + 1, u, by omega, by go_num, hci.no HB.out, hrow', hon'⟩
            case measure => simp [intOf]; omega
        · have hjn : j = n := by omega
          subst hjn
          go_wp2
          go_roundw
          case rel => exact ⟨k + 1, u, by omega, by go_num, hci.next, hrow', hon'⟩
          case measure => simp [intOf]; omega
    · have hkn : k = n := by omega
      subst hkn
      go_wp2
      go_end0
      exact ⟨rfl, u, hci, hrow, hon⟩
end Go.Proofs.Ytjcdopgefcmbpaa
