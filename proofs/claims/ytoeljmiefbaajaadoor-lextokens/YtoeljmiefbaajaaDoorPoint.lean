/- How many bytes the code point has that comes: the document's own way. -/
import Derived.Test.YtoeljmiefbaajaaDoorRef
namespace Go.Proofs.YtoeljmiefbaajaaDoor
open Go.RowKit

def moreL (l : Lx.B) (i lo hi : Nat) : Bool := decide (i < l.length) && (decide (lo ≤ (l.getD i 0).toNat) && decide ((l.getD i 0).toNat ≤ hi))
theorem moreB_L (s : ByteArray) (i lo hi : Nat) : moreB s i (lo : Int) (hi : Int) = moreL s.data.toList i lo hi := by
  have := getD_drop s 0 i
  rw [Nat.zero_add, List.drop_zero] at this
  rw [moreB, moreL, this, ← size_len]
  congr 1
  rw [Bool.eq_iff_iff]; simp only [Bool.and_eq_true, decide_eq_true_eq]; omega

set_option maxRecDepth 100000 in
set_option maxHeartbeats 4000000 in
theorem slow_pt (n b0 b1 b2 b3 sz lo hi : Nat) (h2 : 2 ≤ sz) (h4 : sz ≤ 4) :
    (if Lib.slowN n b0 b1 b2 b3 sz lo hi = (65533, 1) then 0 else (Lib.slowN n b0 b1 b2 b3 sz lo hi).2) =
      if (1 < n ∧ lo ≤ b1 ∧ b1 ≤ hi) ∧ (sz ≤ 2 ∨ (2 < n ∧ 128 ≤ b2 ∧ b2 ≤ 191)) ∧ (sz ≤ 3 ∨ (3 < n ∧ 128 ≤ b3 ∧ b3 ≤ 191)) then sz else 0 := by
  unfold Lib.slowN
  by_cases c1 : n < sz
  · rw [if_pos c1, if_pos rfl, if_neg (by omega)]
  rw [if_neg c1]
  by_cases c2 : b1 < lo ∨ hi < b1
  · rw [if_pos c2, if_pos rfl, if_neg (by omega)]
  rw [if_neg c2]
  by_cases c3 : sz ≤ 2
  · rw [if_pos c3, if_neg (by simp), if_pos (by omega)]; simp; omega
  rw [if_neg c3]
  by_cases c4 : b2 < 128 ∨ 191 < b2
  · rw [if_pos c4, if_pos rfl, if_neg (by omega)]
  rw [if_neg c4]
  by_cases c5 : sz ≤ 3
  · rw [if_pos c5, if_neg (by simp), if_pos (by omega)]; simp; omega
  rw [if_neg c5]
  by_cases c6 : b3 < 128 ∨ 191 < b3
  · rw [if_pos c6, if_pos rfl, if_neg (by omega)]
  rw [if_neg c6, if_neg (by simp), if_pos (by omega)]; simp; omega
theorem point_of_slow (l : Lx.B) (sz lo hi : Nat) (h2 : 2 ≤ sz) (h4 : sz ≤ 4)
    (h : Lib.slowN l.length (l.getD 0 0).toNat (l.getD 1 0).toNat (l.getD 2 0).toNat (l.getD 3 0).toNat sz lo hi = Lib.decodeN l.length (l.getD 0 0).toNat (l.getD 1 0).toNat (l.getD 2 0).toNat (l.getD 3 0).toNat) :
    Lx.point l = if moreL l 1 lo hi && ((decide (sz ≤ 2) || moreL l 2 128 191) && (decide (sz ≤ 3) || moreL l 3 128 191)) then sz else 0 := by
  have hd : Lx.dec l = Lib.slowN l.length (l.getD 0 0).toNat (l.getD 1 0).toNat (l.getD 2 0).toNat (l.getD 3 0).toNat sz lo hi := h.symm
  unfold Lx.point
  rw [hd, slow_pt _ _ _ _ _ _ _ _ h2 h4]
  simp only [moreL, Bool.and_eq_true, Bool.or_eq_true, decide_eq_true_eq]
theorem point_none (l : Lx.B) (h : ∀ n b1 b2 b3, Lib.decodeN n (l.getD 0 0).toNat b1 b2 b3 = (65533, 1)) : Lx.point l = 0 := by
  unfold Lx.point Lx.dec
  rw [h, if_pos rfl]
end Go.Proofs.YtoeljmiefbaajaaDoor
