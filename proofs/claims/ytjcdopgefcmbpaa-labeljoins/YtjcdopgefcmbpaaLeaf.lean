/- The walks of the small functions of package order: only, all, contains, find. -/
import Derived.Test.YtjcdopgefcmbpaaRows
import Derived.Test.YtjcdopgefcmbpaaMath
import Derived.WalkKit
import Derived.WalkSpells
import Derived.WalkLawsBesides
import Derived.Laws.BitsAllLaws
import Derived.Lib.Hide
namespace Go.Proofs.Ytjcdopgefcmbpaa
open Go.RowKit

theorem pow_nat (a : Nat) : ((2 : Int) ^ a) = (M.bit a : Int) := by simp [M.bit]
theorem ret_int {k : IntKind} {a b : Int} (h : a = b) : Ending.returned (.int k a) = .returned (.int k b) := by rw [h]
theorem ret_bool {a b : Bool} (h : a = b) : Ending.returned (.bool a) = .returned (.bool b) := by rw [h]

theorem only_any (a : Int) (w : World) (h0 : 0 ≤ a) (h1 : a < 32) :
    Calls Try.prog 26 #[.int .i64 a] w fun e w' => e = .returned (.int .u32 (M.bit a.toNat : Int)) ∧ w = w' := by
  go_enter Try.func26, Try.ntmps26
  go_wp2
  go_ret
  refine ⟨ret_int ?_, rfl⟩
  have := M.bit_lt32 (a := a.toNat) (by omega)
  rw [pow_nat]; omega

theorem all_any (a : Int) (w : World) (h0 : 0 ≤ a) (h1 : a ≤ 32) :
    Calls Try.prog 36 #[.int .i64 a] w fun e w' => e = .returned (.int .u32 (M.full a.toNat : Int)) ∧ w = w' := by
  go_enter Try.func36, Try.ntmps36
  go_wp2
  go_ret
  refine ⟨ret_int ?_, rfl⟩
  have hp : 0 < M.bit a.toNat := Nat.two_pow_pos a.toNat
  have hf : M.full a.toNat = M.bit a.toNat - 1 := rfl
  rw [pow_nat]
  by_cases h : a.toNat < 32
  · have := M.bit_lt32 h; omega
  · have e : a.toNat = 32 := by omega
    rw [e]; rfl

theorem contains_any (s : Nat) (a : Int) (w : World) (hs : s < 4294967296) (h0 : 0 ≤ a) (h1 : a < 32) :
    Calls Try.prog 34 #[.int .u32 (s : Int), .int .i64 a] w fun e w' => e = .returned (.bool (s.testBit a.toNat)) ∧ w = w' := by
  have hl := M.bit_lt32 (a := a.toNat) (by omega)
  go_enter Try.func34, Try.ntmps34
  go_wp2_with fail
  refine (only_any _ _ (by omega) (by omega)).mono ?_
  rintro e w' ⟨rfl, rfl⟩
  go_wp2
  go_ret
  refine ⟨ret_bool ?_, rfl⟩
  rw [u32_and_nat s _ hs hl, ← M.and_bit]
  rw [Bool.eq_iff_iff]; simp

/-- n cells of a block hold these masks -/
def RowAt (w : World) (b n : Nat) (f : Nat → Nat) : Prop := ∀ i, i < n → w.cell? ⟨b, i, none⟩ = some (.int .u32 (f i : Int))

set_option maxHeartbeats 400000 in
theorem find_any (b n x : Nat) (f : Nat → Nat) (w : World) (hn : n ≤ 32) (hr : RowAt w b n f) :
    Calls Try.prog 35 #[.slice (some ⟨b, 0, none⟩) n n, .int .u32 (x : Int)] w fun e w' => e = .returned (.int .i64 (M.findN f x n)) ∧ w = w' := by
  go_enter Try.func35, Try.ntmps35
  go_wp2
  go_loop [9] (fun i => ∃ k : Nat, k ≤ n ∧ i = .int .i64 k ∧ ∀ j, j < k → f j ≠ x) (fun i => n - (intOf i).toNat)
  case atStart => exact ⟨0, Nat.zero_le _, rfl, by intro j hj; omega⟩
  case round =>
    obtain ⟨k, hk, rfl, hno⟩ := hrel
    have HNO := Lib.hid hno; clear hno
    by_cases hlt : k < n
    · have hc := hr k hlt
      by_cases he : f k = x
      · have HE := Lib.hid he; 
        have hb : ((f k : Int) == (x : Int)) = true := by simp [he]
        clear he
        go_wp2
        go_ret
        exact ⟨ret_int (M.findN_hit HNO.out hlt HE.out).symm, rfl⟩
      · have hb : ((f k : Int) == (x : Int)) = false := by simp; omega
        have HE := Lib.hid he; clear he
        go_wp2
        go_round
        case rel => 
          refine ⟨k + 1, by omega, by go_num, ?_⟩
          intro j hj
          by_cases hjk : j = k
          · subst hjk; exact HE.out
          · exact HNO.out j (by omega)
        case measure => simp [intOf]; omega
    · have : k = n := by omega
      subst this
      go_wp2
      go_ret
      exact ⟨ret_int (M.findN_miss HNO.out).symm, rfl⟩
end Go.Proofs.Ytjcdopgefcmbpaa
