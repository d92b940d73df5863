import Derived.Test.YtcelelnmphdlbaaGreatDoorOMem
import Derived.RegionTactic
import Derived.BigRegion
import Derived.Deep.RegionWith

/- The walk of complete: the masks above become the least transitive ones. -/
namespace Go.Proofs.YtcelelnmphdlbaaGreatDoor.Od
open Go.RowKit

theorem lt32 {n x : Nat} (hn : n ≤ 32) (h : x < 2 ^ n) : x < 4294967296 := by
  have : 2 ^ n ≤ 2 ^ 32 := Nat.pow_le_pow_right (by omega) hn
  omega

set_option maxHeartbeats 1000000 in
theorem complete_any (w : World) (o n ba : Nat) (f : Nat → Nat) (hn : n ≤ 32) (hc0 : w.cell? ⟨o, 0, none⟩ = some (.slice (some ⟨ba, 0, none⟩) n n)) (hra : RowAt w ba n f) (hob : o ≠ ba)
    (hfl : ∀ a, a < n → f a < 2 ^ n) (hfz : ∀ i, i < n → w.frozen? ⟨ba, i, none⟩ = false) :
    Calls Tryz.prog 22 #[.pointer (some ⟨o, 0, none⟩)] w fun e w' => e = .returned (.tuple #[]) ∧ ∃ g, M.CInv n f n g ∧ RowAt w' ba n g ∧ Only ba w w' := by
  have HRA := Lib.hid hra; clear hra
  have HFL := Lib.hid hfl; clear hfl
  have HFZ := Lib.hid hfz; clear hfz
  go_enter Tryz.func22, Tryz.ntmps22
  go_wp2
  go_loopw [9] (fun i wr => ∃ (k : Nat) (g : Nat → Nat), k ≤ n ∧ i = .int .i64 k ∧ M.CInv n f k g ∧ RowAt wr ba n g ∧ Only ba w wr) (fun i _ => n - (intOf i).toNat)
  case atStart => exact ⟨0, f, Nat.zero_le _, rfl, M.CInv.start HFL.out, HRA.out, Only.refl _ _⟩
  case round =>
    obtain ⟨k, g, hk, rfl, hci, hrow, hon⟩ := hrel
    have hcr : wr.cell? ⟨o, 0, none⟩ = some (.slice (some ⟨ba, 0, none⟩) n n) := by rw [hon.cell hob]; exact hc0
    by_cases hlt : k < n
    · go_wp2
      go_loopw [17] (fun i ws => ∃ (j : Nat), j ≤ n ∧ i = .int .i64 j ∧ RowAt ws ba n (M.stepTo g k j) ∧ Only ba w ws) (fun i _ => n - (intOf i).toNat)
      case atStart => exact ⟨0, Nat.zero_le _, rfl, hrow.congr (fun i _ => (M.stepTo_zero g k i).symm), hon⟩
      case round =>
        obtain ⟨j, hj, rfl, hrow', hon'⟩ := hrel
        clear hrow hon hcr
        have hcr : wr.cell? ⟨o, 0, none⟩ = some (.slice (some ⟨ba, 0, none⟩) n n) := by rw [hon'.cell hob]; exact hc0
        by_cases hlj : j < n
        · have hfj : wr.frozen? ⟨ba, j, none⟩ = false := by rw [hon'.frozen]; exact HFZ.out j hlj
          have hcj : wr.cell? ⟨ba, j, none⟩ = some (.int .u32 (g j : Int)) := by rw [hrow' j hlj, M.stepTo_at]
          have hck : wr.cell? ⟨ba, k, none⟩ = some (.int .u32 (g k : Int)) := by rw [hrow' k hlt, M.stepTo_mid]
          have gj := lt32 hn (hci.lim j hlj)
          have gk := lt32 hn (hci.lim k hlt)
          have hor := u32_or_nat (g j) (g k) gj gk
          go_wp2_with fail
          refine (contains_any (g j) k _ gj (by omega) (by omega)).mono ?_
          rintro e w' ⟨rfl, rfl⟩
          simp only [Int.toNat_natCast]
          cases hb : (g j).testBit k with
          | true =>
            have HB := Lib.hid hb; clear hb
            go_wp2
            go_region
            all_goals
              go_wp2
              go_roundw
              case rel => exact ⟨j + 1, by omega, by go_num, ((hrow'.set (j := j) (x := g j ||| g k)).drew).congr (fun i _ => (M.stepTo_yes g k j i HB.out).symm), (hon'.setCell j _).drew⟩
              case measure => simp [intOf]; omega
          | false =>
            have HB := Lib.hid hb; clear hb
            go_wp2
            go_roundw
            case rel => exact ⟨j + 1, by omega, by go_num, hrow'.congr (fun i _ => (M.stepTo_no g k j i HB.out).symm), hon'⟩
            case measure => simp [intOf]; omega
        · have hjn : j = n := by omega
          subst hjn
          go_wp2
          go_roundw
          case rel => exact ⟨k + 1, _, by omega, by go_num, hci.step hlt, hrow', hon'⟩
          case measure => simp [intOf]; omega
    · have hkn : k = n := by omega
      subst hkn
      go_wp2
      go_end0
      exact ⟨rfl, g, hci, hrow, hon⟩
end Go.Proofs.YtcelelnmphdlbaaGreatDoor.Od


/- The walk of reverse: the masks under each point, from those above. -/
namespace Go.Proofs.YtcelelnmphdlbaaGreatDoor.Od
open Go.RowKit

namespace M
/-- behind the rows below a, and the first j columns of row a: which points are known to be under which -/
structure RInv (n : Nat) (f : Nat → Nat) (a j : Nat) (u : Nat → Nat) : Prop where
  lim : ∀ b, b < n → u b < 2 ^ n
  bits : ∀ x b, x < n → b < n → (u b).testBit x = (decide (x < a ∨ x = a ∧ b < j) && (f x).testBit b)

theorem RInv.start (n : Nat) (f : Nat → Nat) : RInv n f 0 0 (fun _ => 0) := ⟨fun _ _ => Nat.two_pow_pos n, fun x b _ _ => by simp⟩
theorem RInv.yes {n a j : Nat} {f u : Nat → Nat} (h : RInv n f a j u) (ha : a < n) (hj : j < n) (hb : (f a).testBit j = true) : RInv n f a (j + 1) (fun i => if i = j then u j ||| bit a else u i) where
  lim b hb := by
    split
    · exact Nat.or_lt_two_pow (h.lim j hj) (Nat.pow_lt_pow_right (by omega) ha)
    · exact h.lim b hb
  bits x b hx hbn := by
    split
    · rename_i e; subst e
      rw [Nat.testBit_or, h.bits x b hx hj, testBit_bit]
      by_cases e : a = x
      · subst e; simp [hb]
      · have e' : ¬ x = a := fun h => e h.symm
        simp [e, e']
    · rw [h.bits x b hx hbn]
      have : (x < a ∨ x = a ∧ b < j + 1) ↔ (x < a ∨ x = a ∧ b < j) := by omega
      simp only [this]
theorem RInv.no {n a j : Nat} {f u : Nat → Nat} (h : RInv n f a j u) (hb : (f a).testBit j = false) : RInv n f a (j + 1) u where
  lim := h.lim
  bits x b hx hbn := by
    rw [h.bits x b hx hbn]
    by_cases e : x = a ∧ b = j
    · obtain ⟨rfl, rfl⟩ := e; simp [hb]
    · have : (x < a ∨ x = a ∧ b < j + 1) ↔ (x < a ∨ x = a ∧ b < j) := by omega
      simp only [this]
theorem RInv.next {n a : Nat} {f u : Nat → Nat} (h : RInv n f a n u) : RInv n f (a + 1) 0 u where
  lim := h.lim
  bits x b hx hbn := by
    rw [h.bits x b hx hbn]
    have : (x < a + 1 ∨ x = a + 1 ∧ b < 0) ↔ (x < a ∨ x = a ∧ b < n) := by omega
    simp only [this]
theorem RInv.done {n : Nat} {f u : Nat → Nat} (h : RInv n f n 0 u) (a b : Nat) (ha : a < n) (hb : b < n) : (u b).testBit a = (f a).testBit b := by
  rw [h.bits a b ha hb]; simp [ha]
end M

set_option maxHeartbeats 1000000 in
theorem reverse_any (w : World) (o n ba bu : Nat) (f : Nat → Nat) (hn : n ≤ 32) (hc0 : w.cell? ⟨o, 0, none⟩ = some (.slice (some ⟨ba, 0, none⟩) n n)) (hc1 : w.cell? ⟨o, 1, none⟩ = some (.slice (some ⟨bu, 0, none⟩) n n))
    (hra : RowAt w ba n f) (hru : RowAt w bu n (fun _ => 0)) (hob : o ≠ bu) (hab : ba ≠ bu)
    (hfl : ∀ a, a < n → f a < 2 ^ n) (hfz : ∀ i, i < n → w.frozen? ⟨bu, i, none⟩ = false) :
    Calls Tryz.prog 23 #[.pointer (some ⟨o, 0, none⟩)] w fun e w' => e = .returned (.tuple #[]) ∧ ∃ u, M.RInv n f n 0 u ∧ RowAt w' bu n u ∧ Only bu w w' := by
  have HRA := Lib.hid hra; clear hra
  have HRU := Lib.hid hru; clear hru
  have HFL := Lib.hid hfl; clear hfl
  have HFZ := Lib.hid hfz; clear hfz
  go_enter Tryz.func23, Tryz.ntmps23
  go_wp2
  go_loopw [9] (fun i wr => ∃ (k : Nat) (u : Nat → Nat), k ≤ n ∧ i = .int .i64 k ∧ M.RInv n f k 0 u ∧ RowAt wr bu n u ∧ Only bu w wr) (fun i _ => n - (intOf i).toNat)
  case atStart => exact ⟨0, fun _ => 0, Nat.zero_le _, rfl, M.RInv.start n f, HRU.out, Only.refl _ _⟩
  case round =>
    obtain ⟨k, u, hk, rfl, hci, hrow, hon⟩ := hrel
    have hcr : wr.cell? ⟨o, 0, none⟩ = some (.slice (some ⟨ba, 0, none⟩) n n) := by rw [hon.cell hob]; exact hc0
    have hcr1 : wr.cell? ⟨o, 1, none⟩ = some (.slice (some ⟨bu, 0, none⟩) n n) := by rw [hon.cell hob]; exact hc1
    by_cases hlt : k < n
    · go_wp2
      go_loopw [17] (fun i ws => ∃ (j : Nat) (u : Nat → Nat), j ≤ n ∧ i = .int .i64 j ∧ M.RInv n f k j u ∧ RowAt ws bu n u ∧ Only bu w ws) (fun i _ => n - (intOf i).toNat)
      case atStart => exact ⟨0, u, Nat.zero_le _, rfl, hci, hrow, hon⟩
      case round =>
        clear hrow hon hcr hcr1 hci
        obtain ⟨j, u, hj, rfl, hci, hrow', hon'⟩ := hrel
        have hcr : wr.cell? ⟨o, 0, none⟩ = some (.slice (some ⟨ba, 0, none⟩) n n) := by rw [hon'.cell hob]; exact hc0
        have hcr1 : wr.cell? ⟨o, 1, none⟩ = some (.slice (some ⟨bu, 0, none⟩) n n) := by rw [hon'.cell hob]; exact hc1
        by_cases hlj : j < n
        · have hfj : wr.frozen? ⟨bu, j, none⟩ = false := by rw [hon'.frozen]; exact HFZ.out j hlj
          have hcj : wr.cell? ⟨bu, j, none⟩ = some (.int .u32 (u j : Int)) := hrow' j hlj
          have hck : wr.cell? ⟨ba, k, none⟩ = some (.int .u32 (f k : Int)) := by rw [hon'.cell hab]; exact HRA.out k hlt
          have gk := lt32 hn (HFL.out k hlt)
          have gj := lt32 hn (hci.lim j hlj)
          have bk := M.bit_lt32 (a := k) (by omega)
          have hor := u32_or_nat (u j) (M.bit k) gj bk
          go_wp2_with fail
          refine (contains_any (f k) j _ gk (by omega) (by omega)).mono ?_
          rintro e w' ⟨rfl, rfl⟩
          simp only [Int.toNat_natCast]
          cases hb : (f k).testBit j with
          | true =>
            have HB := Lib.hid hb; clear hb
            go_wp2_with fail
            go_region_with (go_at_call 20; refine (only_any _ _ (by omega) (by omega)).mono ?_; rintro e w' ⟨rfl, rfl⟩; simp only [Int.toNat_natCast])
            all_goals
              go_wp2
              go_roundw
              case rel => exact ⟨j + 1, _, by omega, by go_num, hci.yes hlt hlj HB.out, (hrow'.set (j := j) (x := u j ||| M.bit k)).drew, (hon'.setCell j _).drew⟩
              case measure => simp [intOf]; omega
          | false =>
            have HB := Lib.hid hb; clear hb
            go_wp2
            go_roundw
            case rel => exact ⟨j + 1, u, by omega, by go_num, hci.no HB.out, hrow', hon'⟩
            case measure => simp [intOf]; omega
        · have hjn : j = n := by omega
          subst hjn
          go_wp2
          go_roundw
          case rel => exact ⟨k + 1, u, by omega, by go_num, hci.next, hrow', hon'⟩
          case measure => simp [intOf]; omega
    · have hkn : k = n := by omega
      subst hkn
      go_wp2
      go_end0
      exact ⟨rfl, u, hci, hrow, hon⟩
end Go.Proofs.YtcelelnmphdlbaaGreatDoor.Od


/- The walk of isLattice. -/
namespace Go.Proofs.YtcelelnmphdlbaaGreatDoor.Od
open Go.RowKit

namespace M
def good (n : Nat) (f u : Nat → Nat) (a b : Nat) : Prop := f a ≠ f b ∧ findN f (f a &&& f b) n ≠ -1 ∧ findN u (u a &&& u b) n ≠ -1
def LatOK (n : Nat) (f u : Nat → Nat) : Prop := ∀ b, b < n → ∀ a, a < b → good n f u a b
end M
/-- true just if all pairs of points are good -/
def LatRes (n : Nat) (f u : Nat → Nat) (w : World) (e : Ending) (w' : World) : Prop :=
  ((e = .returned (.bool true) ∧ M.LatOK n f u) ∨ (e = .returned (.bool false) ∧ ¬ M.LatOK n f u)) ∧ ∃ k, w' = w.drewN k

set_option maxHeartbeats 1000000 in
theorem isLattice_any (w : World) (o n ba bu : Nat) (f u : Nat → Nat) (h : OrdAt w o n ba bu f u) :
    Calls Tryz.prog 24 #[.pointer (some ⟨o, 0, none⟩)] w (LatRes n f u w) := by
  have hn := h.n32
  have hc0 := h.c0
  go_enter Tryz.func24, Tryz.ntmps24
  go_wp2
  go_loopw [10] (fun i wr => ∃ (k m : Nat), k ≤ n ∧ i = .int .i64 k ∧ (∀ b, b < k → ∀ a, a < b → M.good n f u a b) ∧ wr = w.drewN m) (fun i _ => n - (intOf i).toNat)
  case atStart => exact ⟨0, 0, Nat.zero_le _, rfl, fun b hb => by omega, rfl⟩
  case round =>
    obtain ⟨k, m, hk, rfl, hg, hw⟩ := hrel
    have ho : OrdAt wr o n ba bu f u := by rw [hw]; exact h.drewN _
    have HW := Lib.hid hw; clear hw
    have HG := Lib.hid hg; clear hg
    by_cases hlt : k < n
    · go_wp2
      go_loopw [14] (fun i ws => ∃ (j m : Nat), j ≤ k ∧ i = .int .i64 j ∧ (∀ a, a < j → M.good n f u a k) ∧ ws = w.drewN m) (fun i _ => k - (intOf i).toNat)
      case atStart => exact ⟨0, m, Nat.zero_le _, rfl, fun b hb => by omega, HW.out⟩
      case round =>
        clear ho HW
        obtain ⟨j, m', hj, rfl, hgj, hw⟩ := hrel
        have ho : OrdAt wr o n ba bu f u := by rw [hw]; exact h.drewN _
        have HW := Lib.hid hw; clear hw
        have HGJ := Lib.hid hgj; clear hgj
        have hc0' := ho.c0
        by_cases hlj : j < k
        · have hcj := ho.ra j (by omega)
          have hck := ho.ra k (by omega)
          have i1 : (j : Int) < (n : Int) := by omega
          have i2 : (k : Int) < (n : Int) := by omega
          cases t1 : ((f j : Int) == (f k : Int)) with
          | true =>
            go_wp2_with fail
            go_quiet (fail)
            go_wp2
            go_ret
            refine ⟨Or.inr ⟨rfl, fun hh => (hh k hlt j hlj).1 (by have := beq_iff_eq.1 t1; omega)⟩, m' + nq, by rw [HW.out, World.drewN_drewN]⟩
          | false =>
            cases t2 : (M.findN f (f j &&& f k) n == -1) with
            | true =>
              go_wp2_with fail
              go_quiet ((go_at_call 38; exact Calls.quiet_of (join_in _ o n ba bu f u (j : Int) (k : Int) (ho.drewN _) (by omega) (by omega) (by omega) (by omega))))
              simp only [Int.toNat_natCast]
              go_wp2
              go_ret
              refine ⟨Or.inr ⟨rfl, fun hh => (hh k hlt j hlj).2.1 (by simpa using t2)⟩, m' + nq, by rw [HW.out, World.drewN_drewN]⟩
            | false =>
              cases t3 : (M.findN u (u j &&& u k) n == -1) with
              | true =>
                go_wp2_with fail
                go_quiet (first | (go_at_call 38; exact Calls.quiet_of (join_in _ o n ba bu f u (j : Int) (k : Int) (ho.drewN _) (by omega) (by omega) (by omega) (by omega))) | (go_at_call 39; exact Calls.quiet_of (meet_in _ o n ba bu f u (j : Int) (k : Int) (ho.drewN _) (by omega) (by omega) (by omega) (by omega))))
                simp only [Int.toNat_natCast]
                go_wp2
                go_ret
                refine ⟨Or.inr ⟨rfl, fun hh => (hh k hlt j hlj).2.2 (by simpa using t3)⟩, m' + nq, by rw [HW.out, World.drewN_drewN]⟩
              | false =>
                go_wp2_with fail
                go_quiet (first | (go_at_call 38; exact Calls.quiet_of (join_in _ o n ba bu f u (j : Int) (k : Int) (ho.drewN _) (by omega) (by omega) (by omega) (by omega))) | (go_at_call 39; exact Calls.quiet_of (meet_in _ o n ba bu f u (j : Int) (k : Int) (ho.drewN _) (by omega) (by omega) (by omega) (by omega))))
                simp only [Int.toNat_natCast]
                go_wp2
                go_roundw
                case rel =>
                  refine ⟨j + 1, m' + nq, by omega, by go_num, ?_, by rw [HW.out, World.drewN_drewN]⟩
                  intro a ha
                  by_cases e : a = j
                  · subst e
                    exact ⟨fun hh => by rw [hh] at t1; simp at t1, by simpa using t2, by simpa using t3⟩
                  · exact HGJ.out a (by omega)
                case measure => simp [intOf]; omega
        · have hjk : j = k := by omega
          subst hjk
          go_wp2
          go_roundw
          case rel =>
            refine ⟨j + 1, m', by omega, by go_num, ?_, HW.out⟩
            intro b hb
            by_cases e : b = j
            · subst e; exact HGJ.out
            · exact HG.out b (by omega)
          case measure => simp [intOf]; omega
    · have hkn : k = n := by omega
      subst hkn
      go_wp2
      go_ret
      exact ⟨Or.inl ⟨rfl, HG.out⟩, _, HW.out⟩
end Go.Proofs.YtcelelnmphdlbaaGreatDoor.Od
