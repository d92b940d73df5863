/- The document's own small functions: a byte that goes on, a code point, a mark. -/
import Derived.Test.YtoeljmiefbaajaaDoorScan
import Derived.Test.YtoeljmiefbaajaaDoorBehind
import Derived.Test.YtoeljmiefbaajaaDoorTextLen
namespace Go.Proofs.YtoeljmiefbaajaaDoor
open Go.RowKit

/-- Is there a byte at i, between two? -/
def moreB (s : ByteArray) (i : Nat) (low high : Int) : Bool := decide (i < s.size) && (decide (low ≤ ((s.get! i).toNat : Int)) && decide (((s.get! i).toNat : Int) ≤ high))

theorem more_any (s : ByteArray) (i : Nat) (low high : Int) (w : World) : Calls Tryd.prog 44 #[.string s, .int .i64 (i : Int), .int .u8 low, .int .u8 high] w fun e w' => e = .returned (.bool (moreB s i low high)) ∧ w = w' := by
  by_cases hi : i < s.size
  · have hg : s.get! i = s[i]'hi := Utf8W.get!_of_lt s i hi
    generalize hc : s[i]'hi = c at *
    have HG := Lib.hid hg; clear hg
    cases h1 : decide (low ≤ (c.toNat : Int))
    · go_enter Tryd.func44, Tryd.ntmps44
      go_wp2
      all_goals (go_ret; refine ⟨?_, rfl⟩; first | (simp_all [moreB, HG.out]; done) | (simp_all [moreB, HG.out]; omega))
    · cases h2 : decide ((c.toNat : Int) ≤ high)
      all_goals
        go_enter Tryd.func44, Tryd.ntmps44
        go_wp2
        all_goals (go_ret; refine ⟨?_, rfl⟩; first | (simp_all [moreB, HG.out]; done) | (simp_all [moreB, HG.out]; omega))
  · go_enter Tryd.func44, Tryd.ntmps44
    go_wp2
    all_goals (go_ret; refine ⟨?_, rfl⟩; first | (simp_all [moreB]; done) | (simp_all [moreB]; omega))

def shortsZ (z : Int) : Bool := z == 40 || (z == 41 || (z == 123 || (z == 125 || (z == 44 || (z == 59 || (z == 58 || (z == 33 || (z == 43 || (z == 45 || (z == 42 || (z == 61 || z == 60)))))))))))
theorem shorts_eq (c : UInt8) : Lx.shorts.contains c = shortsZ c.toNat := by
  have h : ∀ k : UInt8, (c == k) = ((c.toNat : Int) == (k.toNat : Int)) := fun k => by
    rw [Bool.eq_iff_iff]; simp only [beq_iff_eq, ← UInt8.toNat_inj]; omega
  simp only [Lx.shorts, List.contains_cons, List.contains_nil, Bool.or_false, h, shortsZ]
  rfl

set_option maxRecDepth 100000 in
set_option maxHeartbeats 2000000 in
theorem rmark_any (s : ByteArray) (w : World) (hne : 0 < s.size) : Calls Tryd.prog 31 #[.string s] w fun e w' => e = .returned (.int .i64 (Lx.mark s.data.toList : Int)) ∧ w = w' := by
  obtain ⟨c, hc, hd⟩ := byte_at s 0 hne
  simp only [List.drop_zero] at hd
  have hm : Lx.mark s.data.toList = if s.data.toList.take 2 == [58, 61] || s.data.toList.take 2 == [45, 62] then 2 else if shortsZ c.toNat then 1 else 0 := by rw [hd, ← shorts_eq]; rfl
  have e1 : ((s.extract 0 2).toList == [58, 61]) = (s.data.toList.take 2 == [58, 61]) := by rw [toList_eq, head_list]
  have e2 : ((s.extract 0 2).toList == [45, 62]) = (s.data.toList.take 2 == [45, 62]) := by rw [toList_eq, head_list]
  have h2 : ¬ 1 < s.size → (s.data.toList.take 2 == [58, 61]) = false ∧ (s.data.toList.take 2 == [45, 62]) = false := by
    intro h
    have : (s.data.toList.take 2).length ≠ 2 := by rw [List.length_take, ← size_len]; omega
    constructor
    · cases hb : (s.data.toList.take 2 == [58, 61])
      · rfl
      · exact absurd (by rw [eq_of_beq hb]; rfl) this
    · cases hb : (s.data.toList.take 2 == [45, 62])
      · rfl
      · exact absurd (by rw [eq_of_beq hb]; rfl) this
  generalize (s.data.toList.take 2 == [58, 61]) = b1 at *
  generalize (s.data.toList.take 2 == [45, 62]) = b2 at *
  generalize Lx.mark s.data.toList = M at *
  generalize hz : (c.toNat : Int) = z at *
  have HM := Lib.hid hm
  clear hm hd
  by_cases h1 : 1 < s.size
  · clear h2
    cases b1
    · cases b2
      · go_enter Tryd.func31, Tryd.ntmps31
        go_wp2
        all_goals (go_ret; refine ⟨?_, rfl⟩)
        all_goals first
          | (exfalso; simp_all only; done)
          | (show Ending.returned (.int .i64 1) = _; rw [HM.out]; simp only [shortsZ, Bool.or_true, Bool.true_or, *]; rfl)
          | (show Ending.returned (.int .i64 0) = _; rw [HM.out]; simp only [shortsZ, Bool.or_false, *]; rfl)
      · go_enter Tryd.func31, Tryd.ntmps31
        go_wp2
        go_ret; refine ⟨?_, rfl⟩; rw [HM.out]; rfl
    · go_enter Tryd.func31, Tryd.ntmps31
      go_wp2
      go_ret; refine ⟨?_, rfl⟩; rw [HM.out]; rfl
  · obtain ⟨rfl, rfl⟩ := h2 h1
    clear h2
    go_enter Tryd.func31, Tryd.ntmps31
    go_wp2
    all_goals (go_ret; refine ⟨?_, rfl⟩)
    all_goals first
      | (exfalso; simp_all only; done)
      | (show Ending.returned (.int .i64 1) = _; rw [HM.out]; simp only [shortsZ, Bool.or_true, Bool.true_or, *]; rfl)
      | (show Ending.returned (.int .i64 0) = _; rw [HM.out]; simp only [shortsZ, Bool.or_false, *]; rfl)
end Go.Proofs.YtoeljmiefbaajaaDoor
