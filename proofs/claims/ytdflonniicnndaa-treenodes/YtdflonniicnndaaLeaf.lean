/- The small functions: Len, has, hasAll, In, the two joins. -/
import Derived.Test.YtdflonniicnndaaMem
namespace Go.Proofs.Ytdflonniicnndaa
open Go.RowKit Tn

theorem len_any (bt : Nat) (ao : Option Addr) (len cap : Nat) (w : World) (hc : w.cell? ⟨bt, 0, none⟩ = some (.slice ao len cap)) :
    Calls Try.prog 18 #[.pointer (some ⟨bt, 0, none⟩)] w fun e w' => e = .returned (.int .i64 len) ∧ w = w' := by
  go_enter Try.func18, Try.ntmps18
  go_wp2
  go_ret
  exact ⟨rfl, rfl⟩

theorem has_any (bt : Nat) (ao : Option Addr) (len cap : Nat) (i : Int) (w : World) (hc : w.cell? ⟨bt, 0, none⟩ = some (.slice ao len cap)) :
    Calls Try.prog 19 #[.pointer (some ⟨bt, 0, none⟩), .int .i64 i] w fun e w' => e = .returned (.bool (decide (0 ≤ i) && decide (i < (len : Int)))) ∧ w = w' := by
  go_enter Try.func19, Try.ntmps19
  go_wp2_with (go_at_call 18; refine (len_any bt ao len cap _ hc).mono ?_; rintro e w' ⟨rfl, rfl⟩)
  all_goals (go_ret; refine ⟨ret_bool ?_, rfl⟩; simp [*] <;> omega)

theorem in_any (ao : Option Addr) (len cap : Nat) (i : Int) (w : World) :
    Calls Try.prog 15 #[.slice ao len cap, .int .i64 i] w fun e w' => e = .returned (.bool (decide (0 ≤ i) && decide (i < (len : Int)))) ∧ w = w' := by
  go_enter Try.func15, Try.ntmps15
  go_wp2
  all_goals (go_ret; refine ⟨ret_bool ?_, rfl⟩; simp [*] <;> omega)

theorem size1_any (a b : Int) (w : World) (h0 : 0 ≤ a) (h1 : a ≤ 1000000) (h2 : 0 ≤ b) (h3 : b ≤ 1000000) :
    Calls Try.prog 24 #[.int .i64 a, .int .i64 b] w fun e w' => e = .returned (.int .i64 (a + b)) ∧ w = w' := by
  go_enter Try.func24, Try.ntmps24
  go_wp2
  go_ret
  exact ⟨rfl, rfl⟩

theorem deep1_any (a b : Int) (w : World) (_h0 : 0 ≤ a) (_h1 : a ≤ 1000000) (_h2 : 0 ≤ b) (_h3 : b ≤ 1000000) :
    Calls Try.prog 25 #[.int .i64 a, .int .i64 b] w fun e w' => e = .returned (.int .i64 (max a b)) ∧ w = w' := by
  go_enter Try.func25, Try.ntmps25
  go_wp2
  all_goals (go_ret; refine ⟨ret_int (by omega), rfl⟩)

/-- as a test: has, where it says yes, and no -/
theorem has_yes (bt : Nat) (ao : Option Addr) (len cap : Nat) (i : Int) (w : World) (hc : w.cell? ⟨bt, 0, none⟩ = some (.slice ao len cap)) (h0 : 0 ≤ i) (h1 : i < (len : Int)) :
    Calls Try.prog 19 #[.pointer (some ⟨bt, 0, none⟩), .int .i64 i] w fun e w' => e = .returned (.bool true) ∧ w = w' :=
  (has_any bt ao len cap i w hc).mono fun _ _ ⟨he, hw⟩ => ⟨by rw [he]; simp [h0, h1], hw⟩
theorem has_no (bt : Nat) (ao : Option Addr) (len cap : Nat) (i : Int) (w : World) (hc : w.cell? ⟨bt, 0, none⟩ = some (.slice ao len cap)) (h : ¬ (0 ≤ i ∧ i < (len : Int))) :
    Calls Try.prog 19 #[.pointer (some ⟨bt, 0, none⟩), .int .i64 i] w fun e w' => e = .returned (.bool false) ∧ w = w' :=
  (has_any bt ao len cap i w hc).mono fun _ _ ⟨he, hw⟩ => ⟨by rw [he]; congr 2; rw [← Bool.not_eq_true]; simpa using h, hw⟩
theorem in_yes (ao : Option Addr) (len cap : Nat) (i : Int) (w : World) (h0 : 0 ≤ i) (h1 : i < (len : Int)) :
    Calls Try.prog 15 #[.slice ao len cap, .int .i64 i] w fun e w' => e = .returned (.bool true) ∧ w = w' :=
  (in_any ao len cap i w).mono fun _ _ ⟨he, hw⟩ => ⟨by rw [he]; simp [h0, h1], hw⟩
theorem in_no (ao : Option Addr) (len cap : Nat) (i : Int) (w : World) (h : ¬ (0 ≤ i ∧ i < (len : Int))) :
    Calls Try.prog 15 #[.slice ao len cap, .int .i64 i] w fun e w' => e = .returned (.bool false) ∧ w = w' :=
  (in_any ao len cap i w).mono fun _ _ ⟨he, hw⟩ => ⟨by rw [he]; congr 2; rw [← Bool.not_eq_true]; simpa using h, hw⟩

/-- every one of these is there -/
theorem hasAll_any (bt : Nat) (ao : Option Addr) (len cap : Nat) (N : Nat) (ka : Option Addr) (n : Nd) (kc : Nat) (w : World) (hc : w.cell? ⟨bt, 0, none⟩ = some (.slice ao len cap)) (hk : IntsAt N w ka n.kids) (hl : n.kids.length ≤ 2000) :
    Calls Try.prog 26 #[.pointer (some ⟨bt, 0, none⟩), .slice ka n.kids.length kc] w fun e w' => e = .returned (.bool (fits len n)) ∧ w = w' := by
  go_enter Try.func26, Try.ntmps26
  go_wp2
  go_loop [9] (fun i => ∃ k : Nat, k ≤ n.kids.length ∧ i = .int .i64 k ∧ ∀ j, j < k → 0 ≤ kid n.kids j ∧ kid n.kids j < (len : Int)) (fun i => n.kids.length - (intOf i).toNat)
  case atStart => exact ⟨0, Nat.zero_le _, rfl, by intro j hj; omega⟩
  case round =>
    obtain ⟨k, hk', rfl, hall⟩ := hrel
    have HA := Lib.hid hall; clear hall
    by_cases hlt : k < n.kids.length
    · obtain ⟨b, o, rfl, hb, hcell⟩ := hk k hlt
      have HK := Lib.hid hk; clear hk
      by_cases hin : 0 ≤ kid n.kids k ∧ kid n.kids k < (len : Int)
      · obtain ⟨h0, h1⟩ := hin
        go_wp2_with (go_at_call 19; refine (has_yes bt ao len cap _ _ hc h0 h1).mono ?_; rintro e w' ⟨rfl, rfl⟩)
        go_round
        case rel =>
          refine ⟨k + 1, by omega, by go_num, ?_⟩
          intro j hj
          by_cases hjk : j = k
          · subst hjk; exact ⟨h0, h1⟩
          · exact HA.out j (by omega)
        case measure => simp [intOf]; omega
      · have HN := Lib.hid hin; clear hin
        go_wp2_with (go_at_call 19; refine (has_no bt ao len cap _ _ hc HN.out).mono ?_; rintro e w' ⟨rfl, rfl⟩)
        go_ret
        refine ⟨ret_bool ?_, rfl⟩
        symm
        rw [← Bool.not_eq_true, fits_at]
        exact fun h => HN.out (h k hlt)
    · have : k = n.kids.length := by omega
      subst this
      have HK := Lib.hid hk; clear hk
      go_wp2
      go_ret
      refine ⟨ret_bool ?_, rfl⟩
      symm
      rw [fits_at]
      exact fun i hi => HA.out i hi
end Go.Proofs.Ytdflonniicnndaa
