/- Small numbers in figures, as the library writes them. -/
import Derived.Test.YtjbihammbmiieaaDoorSh1
namespace Go.Proofs.YtjbihammbmiieaaDoor
open Go.RowKit Un

theorem dec_itoa (n : Nat) : dec n = Lib.itoa (n : Int) := by
  induction n using Nat.strongRecOn with
  | _ n ih =>
    by_cases h : n < 10
    · rw [dec, if_pos h, Lib.itoa_nonneg, Lib.decDigits_one h]
    · rw [dec, if_neg h, ih (n / 10) (by omega), Lib.itoa_nonneg, Lib.itoa_nonneg, Lib.decDigits.eq_def n, dif_neg h]
theorem dec_digits (n : Nat) : dec n = Lib.decDigits n := by rw [dec_itoa, Lib.itoa_nonneg]
theorem piece_list (S : ByteArray) (a b : Nat) (l : List UInt8) (h : (S.data.toList.drop a).take (b - a) = l) : S.extract a b = ⟨l.toArray⟩ := by
  apply ByteArray.ext
  rw [ByteArray.data_extract]
  apply Array.toList_inj.1
  rw [Array.toList_extract]
  simpa [List.extract_eq_take_drop] using h
theorem one_piece {n : Nat} (h : n < 10) (S : ByteArray) (hS : S = Lib.digits36) : S.extract n (n + 1) = ⟨(dec n).toArray⟩ := piece_list _ _ _ _ (by rw [hS, dec_digits]; exact Lib.digits36_piece h)
theorem two_piece {n : Nat} (h : ¬ n < 10) (h2 : n < 100) (S : ByteArray) (hS : S = Lib.smalls) : S.extract (n * 2) (n * 2 + 2) = ⟨(dec n).toArray⟩ := piece_list _ _ _ _ (by rw [hS, dec_digits]; exact Lib.smalls_piece h h2)
set_option maxRecDepth 100000 in
theorem small_any (n : Nat) (hn : n < 100) (w : World) : Calls Tryd.prog 52 #[.int .i64 n] w fun e w' => e = .returned (.string ⟨(dec n).toArray⟩) ∧ w = w' := by
  by_cases h : n < 10
  · go_enter Tryd.func52, Tryd.ntmps52
    go_wp2
    go_ret
    exact ⟨congrArg (fun t => Ending.returned (.string t)) (one_piece h _ (by decide +kernel)), rfl⟩
  · go_enter Tryd.func52, Tryd.ntmps52
    go_wp2
    go_ret
    exact ⟨congrArg (fun t => Ending.returned (.string t)) (two_piece h hn _ (by decide +kernel)), rfl⟩
theorem format_any (n : Nat) (hn : n < 100) (w : World) : Calls Tryd.prog 51 #[.int .i64 n, .int .i64 10] w fun e w' => e = .returned (.string ⟨(dec n).toArray⟩) ∧ w = w' := by
  have hS := Lib.hid (small_any n hn)
  go_enter Tryd.func51, Tryd.ntmps51
  go_wp2_with fail
  refine (hS.out _).mono ?_
  rintro e w' ⟨rfl, rfl⟩
  go_wp2
  go_ret
  exact ⟨rfl, rfl⟩
theorem iitoa_any (n : Nat) (hn : n < 100) (w : World) : Calls Tryd.prog 50 #[.int .i64 n] w fun e w' => e = .returned (.string ⟨(dec n).toArray⟩) ∧ w = w' := by
  have hS := Lib.hid (format_any n hn)
  go_enter Tryd.func50, Tryd.ntmps50
  go_wp2_with fail
  refine (hS.out _).mono ?_
  rintro e w' ⟨rfl, rfl⟩
  go_wp2
  go_ret
  exact ⟨rfl, rfl⟩
theorem itoa_any (n : Nat) (hn : n < 100) (w : World) : Calls Tryd.prog 47 #[.int .i64 n] w fun e w' => e = .returned (.string ⟨(dec n).toArray⟩) ∧ w = w' := by
  have hS := Lib.hid (iitoa_any n hn)
  go_enter Tryd.func47, Tryd.ntmps47
  go_wp2_with fail
  refine (hS.out _).mono ?_
  rintro e w' ⟨rfl, rfl⟩
  go_wp2
  go_ret
  exact ⟨rfl, rfl⟩
end Go.Proofs.YtjbihammbmiieaaDoor
