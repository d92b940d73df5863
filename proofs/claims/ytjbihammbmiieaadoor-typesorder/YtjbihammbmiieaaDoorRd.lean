/- The document's figures. -/
import Derived.Test.YtjbihammbmiieaaDoorIt
namespace Go.Proofs.YtjbihammbmiieaaDoor
open Go.RowKit Un

theorem figure_at : ∀ d : Fin 10, (⟨#[48, 49, 50, 51, 52, 53, 54, 55, 56, 57]⟩ : ByteArray).extract d.val (d.val + 1) = ⟨#[UInt8.ofNat (48 + d.val)]⟩ := by decide +kernel
theorem figure (n : Nat) : (⟨#[48, 49, 50, 51, 52, 53, 54, 55, 56, 57]⟩ : ByteArray).extract (n % 10) (n % 10 + 1) = ⟨#[UInt8.ofNat (48 + n % 10)]⟩ := figure_at ⟨n % 10, Nat.mod_lt _ (by decide)⟩
theorem snoc_fig (l : List UInt8) (d : Nat) : ((⟨l.toArray⟩ : ByteArray) ++ ⟨#[48 + UInt8.ofNat d]⟩) = ⟨(l ++ [UInt8.ofNat (48 + d)]).toArray⟩ := by
  apply ByteArray.ext; simp
theorem itoa_ge {n : Nat} (h : ¬ n < 10) : Lib.itoa (n : Int) = Lib.itoa ((n / 10 : Nat) : Int) ++ [UInt8.ofNat (48 + n % 10)] := by rw [Lib.itoa_nonneg, Lib.itoa_nonneg, Lib.decDigits.eq_def n, dif_neg h]
set_option maxRecDepth 100000 in
set_option maxHeartbeats 2000000 in
theorem digits_nat (n : Nat) : n ≤ 9223372036854775807 → ∀ w, Calls Tryd.prog 37 #[.int .i64 (n : Int)] w fun e w' => e = .returned (.string ⟨(Lib.itoa n).toArray⟩) ∧ Below w.heap.size w w' := by
  induction n using Nat.strongRecOn with
  | _ n ih =>
    intro hn w
    by_cases h : n < 10
    · go_enter Tryd.func37, Tryd.ntmps37
      go_wp2
      rw [figure, Nat.mod_eq_of_lt h]
      go_ret
      rw [← dec_itoa, dec, if_pos h]
      exact ⟨rfl, Below.refl _ w⟩
    · have hI := ih (n / 10) (by omega) (by omega)
      have e10 : ((n / 10 : Nat) : Int) = (n : Int) / 10 := by omega
      have hG := itoa_ge h
      rw [e10] at hI hG
      have HI := Lib.hid hI
      have HN := Lib.hid hG
      clear hI ih e10 hG
      have hN : (n : Int) ≤ 9223372036854775807 := by omega
      go_enter Tryd.func37, Tryd.ntmps37
      have hl : ¬ 9223372036854775807 < (Lib.itoa ((n : Int) / 10)).length + 1 := by
        have := Lib.itoa_length_le ((n : Int) / 10) (by omega) (by omega)
        omega
      go_wp2_with fail
      refine (HI.out w).mono ?_
      rintro e w1 ⟨rfl, hb⟩
      rw [figure]
      have HB := Lib.hid hb
      clear hb
      go_wp2
      go_ret
      refine ⟨?_, HB.out⟩
      rw [HN.out]
      exact congrArg (fun t => Ending.returned (.string t)) (snoc_fig _ _)
theorem digits_any (n : Nat) (hn : n ≤ 1000000) (w : World) : Calls Tryd.prog 37 #[.int .i64 n] w fun e w' => e = .returned (.string ⟨(dec n).toArray⟩) ∧ Below w.heap.size w w' := by
  rw [dec_itoa]; exact digits_nat n (by omega) w
end Go.Proofs.YtjbihammbmiieaaDoor
