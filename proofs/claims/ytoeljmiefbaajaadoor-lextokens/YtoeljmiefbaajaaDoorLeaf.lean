/- What the small functions of the lexer answer, and those of the document's own. -/
import Derived.Test.YtoeljmiefbaajaaDoorProg
import Derived.Test.YtoeljmiefbaajaaDoorLxV
import Derived.WalkKit
import Derived.Lib.Strings
import Derived.Lib.Hide
namespace Go.Proofs.YtoeljmiefbaajaaDoor
open Go.RowKit

theorem ret_bool {a b : Bool} (h : a = b) : Ending.returned (.bool a) = .returned (.bool b) := by rw [h]
theorem isBlank_any (c : Int) (w : World) : Calls Tryd.prog 21 #[.int .u8 c] w fun e w' => e = .returned (.bool (Lx.blankZ c)) ∧ w = w' := by
  go_enter Tryd.func21, Tryd.ntmps21
  go_wp2
  all_goals (go_ret; refine ⟨?_, rfl⟩; simp_all [Lx.blankZ])
theorem isDigit_any (c : Int) (w : World) : Calls Tryd.prog 22 #[.int .u8 c] w fun e w' => e = .returned (.bool (Lx.digitZ c)) ∧ w = w' := by
  go_enter Tryd.func22, Tryd.ntmps22
  go_wp2
  all_goals (go_ret; refine ⟨ret_bool (Bool.eq_iff_iff.2 ?_), rfl⟩; first | (simp [Lx.digitZ]; done) | (simp [Lx.digitZ]; omega))
theorem isLetter_any (c : Int) (w : World) : Calls Tryd.prog 24 #[.int .u8 c] w fun e w' => e = .returned (.bool (Lx.letterZ c)) ∧ w = w' := by
  go_enter Tryd.func24, Tryd.ntmps24
  go_wp2
  all_goals (go_ret; refine ⟨ret_bool (Bool.eq_iff_iff.2 ?_), rfl⟩; first | (simp [Lx.letterZ]; done) | (simp [Lx.letterZ]; omega))
theorem rletter_any (c : Int) (w : World) : Calls Tryd.prog 28 #[.int .u8 c] w fun e w' => e = .returned (.bool (Lx.letterZ c)) ∧ w = w' := by
  go_enter Tryd.func28, Tryd.ntmps28
  go_wp2
  all_goals (go_ret; refine ⟨ret_bool (Bool.eq_iff_iff.2 ?_), rfl⟩; first | (simp [Lx.letterZ]; done) | (simp [Lx.letterZ]; omega))
theorem rdigit_any (c : Int) (w : World) : Calls Tryd.prog 29 #[.int .u8 c] w fun e w' => e = .returned (.bool (Lx.digitZ c)) ∧ w = w' := by
  go_enter Tryd.func29, Tryd.ntmps29
  go_wp2
  all_goals (go_ret; refine ⟨ret_bool (Bool.eq_iff_iff.2 ?_), rfl⟩; first | (simp [Lx.digitZ]; done) | (simp [Lx.digitZ]; omega))
theorem isWord_any (c : Int) (w : World) : Calls Tryd.prog 41 #[.int .u8 c] w fun e w' => e = .returned (.bool (Lx.letterZ c || Lx.digitZ c)) ∧ w = w' := by
  go_enter Tryd.func41, Tryd.ntmps41
  go_wp2_with (first | (go_at_call 24; refine (isLetter_any _ _).mono ?_; rintro e w' ⟨rfl, rfl⟩) | (go_at_call 22; refine (isDigit_any _ _).mono ?_; rintro e w' ⟨rfl, rfl⟩))
  all_goals (go_ret; refine ⟨?_, rfl⟩; simp_all)

/-! the language's own names -/
theorem toList_eq (s : ByteArray) : s.toList = s.data.toList := Lib.toList_data s
theorem ext_list {s t : ByteArray} (h : s.data.toList = t.data.toList) : s = t := by
  cases s; cases t; simp only at h; congr; exact Array.toList_inj.1 h

end Go.Proofs.YtoeljmiefbaajaaDoor
