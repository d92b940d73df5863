/- Which texts are the language's own names: the program's answer and the document's. -/
import Derived.Test.YtoeljmiefbaajaaDoorLeaf
namespace Go.Proofs.YtoeljmiefbaajaaDoor
open Go.RowKit

set_option maxRecDepth 100000 in
set_option maxHeartbeats 4000000 in
theorem own_any (s : ByteArray) (w : World) : Calls Tryd.prog 10 #[.string s] w fun e w' => e = .returned (.bool (Lx.own s.data.toList)) ∧ w = w' := by
  rw [← toList_eq]
  go_enter Tryd.func10, Tryd.ntmps10
  go_wp2
  all_goals (go_ret; refine ⟨?_, rfl⟩)
  all_goals first
    | (exfalso; simp_all only [Bool.false_eq_true]; done)
    | (show Ending.returned (.bool true) = _; refine ret_bool ?_; simp only [Lx.own, Lx.keys, List.contains_cons, Bool.or_true, Bool.true_or, *]; done)
    | (show Ending.returned (.bool false) = _; refine ret_bool ?_; simp only [Lx.own, Lx.keys, List.contains_cons, List.contains_nil, Bool.or_false, *]; done)
set_option maxRecDepth 100000 in
set_option maxHeartbeats 4000000 in
theorem rown_any (s : ByteArray) (w : World) : Calls Tryd.prog 11 #[.string s] w fun e w' => e = .returned (.bool (Lx.own s.data.toList)) ∧ w = w' := by
  rw [← toList_eq]
  go_enter Tryd.func11, Tryd.ntmps11
  go_wp2
  all_goals (go_ret; refine ⟨?_, rfl⟩)
  all_goals first
    | (exfalso; simp_all only [Bool.false_eq_true]; done)
    | (show Ending.returned (.bool true) = _; refine ret_bool ?_; simp only [Lx.own, Lx.keys, List.contains_cons, Bool.or_true, Bool.true_or, *]; done)
    | (show Ending.returned (.bool false) = _; refine ret_bool ?_; simp only [Lx.own, Lx.keys, List.contains_cons, List.contains_nil, Bool.or_false, *]; done)
end Go.Proofs.YtoeljmiefbaajaaDoor
