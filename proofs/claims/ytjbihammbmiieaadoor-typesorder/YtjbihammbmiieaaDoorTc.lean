/- Types: open ones, pairs. -/
import Derived.Test.YtjbihammbmiieaaDoorTa
namespace Go.Proofs.YtjbihammbmiieaaDoor
open Go.RowKit Un

theorem var_any (B bt : Nat) (R : List Nx) (v : Value) (w : World) (h : TabAt B w bt R v) (hl : R.length < 100000) : Calls Tryd.prog 9 #[.pointer (some ⟨bt, 0, none⟩)] w (AddP B bt (R ++ [⟨1, false, 0, 0⟩]) w) := by
  have H := Lib.hid h
  clear h
  go_enter Tryd.func9, Tryd.ntmps9
  go_wp2_with fail
  refine (add_any B bt R v ⟨1, false, 0, 0⟩ w H.out hl).mono ?_
  rintro e w1 ⟨rfl, hT, hF⟩
  have HT := Lib.hid hT; have HF := Lib.hid hF
  clear hT hF
  go_wp2
  go_ret
  exact ⟨ret_int (by simp), HT.out, HF.out⟩
theorem var_nil (w : World) : Calls Tryd.prog 9 #[.pointer none] w fun e w' => e = .returned (.int .i64 0) ∧ w = w' := by
  go_enter Tryd.func9, Tryd.ntmps9
  go_wp2
  go_ret
  exact ⟨rfl, rfl⟩

def PairP (B bt : Nat) (R : List Nx) (x y : Nat) (w : World) (e : Ending) (w' : World) : Prop :=
  e = .returned (.tuple #[.int .i64 (R.length + 3 : Nat), .int .i64 0]) ∧ Tab B w' bt (R ++ [⟨2, false, x, y⟩]) ∧ Fr (FT B) w w'
theorem pair_yes (B bt : Nat) (R : List Nx) (v : Value) (x y : Nat) (w : World) (h : TabAt B w bt R v) (hl : R.length < 100000) (hx : x < R.length + 3) (hy : y < R.length + 3) : Calls Tryd.prog 11 #[.pointer (some ⟨bt, 0, none⟩), .int .i64 x, .int .i64 y] w (PairP B bt R x y w) := by
  have H := Lib.hid h
  clear h
  have D1 := Lib.hid (show 0 ≤ (x : Int) ∧ (x : Int) < (R.length : Int) + 3 by omega); have D2 := Lib.hid (show 0 ≤ (y : Int) ∧ (y : Int) < (R.length : Int) + 3 by omega)
  go_enter Tryd.func11, Tryd.ntmps11
  go_wp2_with fail
  refine (has_any B bt R v x w H.out (by omega) (by omega)).mono ?_
  rintro e w1 ⟨rfl, rfl⟩
  rw [decide_eq_true D1.out]
  go_wp2_with fail
  refine (has_any B bt R v y w H.out (by omega) (by omega)).mono ?_
  rintro e w1 ⟨rfl, rfl⟩
  rw [decide_eq_true D2.out]
  go_wp2_with fail
  refine (add_any B bt R v ⟨2, false, x, y⟩ w H.out hl).mono ?_
  rintro e w1 ⟨rfl, hT, hF⟩
  have HT := Lib.hid hT; have HF := Lib.hid hF
  clear hT hF
  go_wp2
  go_ret2
  exact ⟨by simp; omega, HT.out, HF.out⟩
theorem pair_no (B bt : Nat) (R : List Nx) (v : Value) (x y : Int) (w : World) (h : TabAt B w bt R v) (hx : -1000000 ≤ x ∧ x ≤ 1000000) (hy : -1000000 ≤ y ∧ y ≤ 1000000) (hn : ¬ ((0 ≤ x ∧ x < R.length + 3) ∧ (0 ≤ y ∧ y < R.length + 3))) : Calls Tryd.prog 11 #[.pointer (some ⟨bt, 0, none⟩), .int .i64 x, .int .i64 y] w fun e w' => e = .returned (.tuple #[.int .i64 0, .int .i64 1]) ∧ w = w' := by
  have H := Lib.hid h
  clear h
  by_cases h1 : 0 ≤ x ∧ x < (R.length : Int) + 3
  · have h2 : ¬ (0 ≤ y ∧ y < (R.length : Int) + 3) := fun e => hn ⟨h1, e⟩
    have D1 := Lib.hid h1; have D2 := Lib.hid h2
    clear h1 h2 hn
    go_enter Tryd.func11, Tryd.ntmps11
    go_wp2_with fail
    refine (has_any B bt R v x w H.out (by omega) (by omega)).mono ?_
    rintro e w1 ⟨rfl, rfl⟩
    rw [decide_eq_true D1.out]
    go_wp2_with fail
    refine (has_any B bt R v y w H.out (by omega) (by omega)).mono ?_
    rintro e w1 ⟨rfl, rfl⟩
    rw [decide_eq_false D2.out]
    go_wp2
    go_ret2
    exact ⟨rfl, rfl⟩
  · have D1 := Lib.hid h1
    clear h1 hn
    go_enter Tryd.func11, Tryd.ntmps11
    go_wp2_with fail
    refine (has_any B bt R v x w H.out (by omega) (by omega)).mono ?_
    rintro e w1 ⟨rfl, rfl⟩
    rw [decide_eq_false D1.out]
    go_wp2
    go_ret2
    exact ⟨rfl, rfl⟩
theorem pair_nil (x y : Int) (w : World) : Calls Tryd.prog 11 #[.pointer none, .int .i64 x, .int .i64 y] w fun e w' => e = .returned (.tuple #[.int .i64 0, .int .i64 1]) ∧ w = w' := by
  go_enter Tryd.func11, Tryd.ntmps11
  go_wp2_with fail
  refine (has_nil x w).mono ?_
  rintro e w1 ⟨rfl, rfl⟩
  go_wp2
  go_ret2
  exact ⟨rfl, rfl⟩
end Go.Proofs.YtjbihammbmiieaaDoor
