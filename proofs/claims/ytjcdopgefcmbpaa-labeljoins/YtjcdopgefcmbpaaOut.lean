/- The walk of New where the number of points is none. -/
import Derived.Test.YtjcdopgefcmbpaaNew
namespace Go.Proofs.Ytjcdopgefcmbpaa
open Go.RowKit

theorem new_out (w : World) (n : Int) (ao : Option Addr) (len cap : Nat) (h : n < 1 ∨ 32 < n) :
    Calls Try.prog 17 #[.int .i64 n, .slice ao len cap] w fun e w' => e = .returned (.tuple #[.pointer none, .int .i64 1]) ∧ w = w' := by
  rcases h with h | h
  · go_enter Try.func17, Try.ntmps17
    go_wp2
    go_ret2
    exact ⟨rfl, rfl⟩
  · have t1 : decide (n < 1) = false := by simp; omega
    go_enter Try.func17, Try.ntmps17
    go_wp2
    go_ret2
    exact ⟨rfl, rfl⟩
end Go.Proofs.Ytjcdopgefcmbpaa
