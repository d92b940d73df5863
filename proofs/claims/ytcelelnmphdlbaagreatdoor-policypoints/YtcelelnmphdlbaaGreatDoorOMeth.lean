/- The walks of the methods of an order that only read: Len, has, Below, Join, Meet, Bottom, Top. -/
import Derived.Test.YtcelelnmphdlbaaGreatDoorOLeaf
import Derived.Deep.QuietTactic
import Derived.BigQuiet
namespace Go.Proofs.YtcelelnmphdlbaaGreatDoor.Od
open Go.RowKit

/-- an order of n points lies at block o: f the masks above, in block ba, u those under, in block bu -/
structure OrdAt (w : World) (o n ba bu : Nat) (f u : Nat → Nat) : Prop where
  n32 : n ≤ 32
  c0 : w.cell? ⟨o, 0, none⟩ = some (.slice (some ⟨ba, 0, none⟩) n n)
  c1 : w.cell? ⟨o, 1, none⟩ = some (.slice (some ⟨bu, 0, none⟩) n n)
  ra : RowAt w ba n f
  ru : RowAt w bu n u
  fl : ∀ i, i < n → f i < 4294967296
  ul : ∀ i, i < n → u i < 4294967296

theorem RowAt.drewN {w : World} {b n : Nat} {f : Nat → Nat} (h : RowAt w b n f) (k : Nat) : RowAt (w.drewN k) b n f := fun i hi => by
  simpa using h i hi

theorem OrdAt.drewN {w : World} {o n ba bu : Nat} {f u : Nat → Nat} (h : OrdAt w o n ba bu f u) (k : Nat) : OrdAt (w.drewN k) o n ba bu f u :=
  ⟨h.n32, by simpa using h.c0, by simpa using h.c1, h.ra.drewN k, h.ru.drewN k, h.fl, h.ul⟩

theorem len_any (w : World) (o n ba : Nat) (h : w.cell? ⟨o, 0, none⟩ = some (.slice (some ⟨ba, 0, none⟩) n n)) :
    Calls Tryz.prog 10 #[.pointer (some ⟨o, 0, none⟩)] w fun e w' => e = .returned (.int .i64 n) ∧ w = w' := by
  go_enter Tryz.func10, Tryz.ntmps10
  go_wp2
  go_ret
  exact ⟨rfl, rfl⟩

theorem len_nil (w : World) :
    Calls Tryz.prog 10 #[.pointer none] w fun e w' => e = .returned (.int .i64 0) ∧ w = w' := by
  go_enter Tryz.func10, Tryz.ntmps10
  go_wp2
  go_ret
  exact ⟨rfl, rfl⟩

/-- is a number one of the points? -/
def hasB (n : Nat) (a : Int) : Bool := decide (0 ≤ a ∧ a < (n : Int))
theorem hasB_true {n : Nat} {a : Int} (h0 : 0 ≤ a) (h1 : a < (n : Int)) : hasB n a = true := by simp [hasB, h0, h1]
theorem hasB_false {n : Nat} {a : Int} (h : a < 0 ∨ (n : Int) ≤ a) : hasB n a = false := by simp [hasB]; omega
theorem of_hasB {n : Nat} {a : Int} (h : hasB n a = true) : 0 ≤ a ∧ a < (n : Int) := by simpa [hasB] using h
theorem of_hasB_false {n : Nat} {a : Int} (h : hasB n a = false) : a < 0 ∨ (n : Int) ≤ a := by simp [hasB] at h; omega

theorem has_any (w : World) (o n ba : Nat) (a : Int) (h : w.cell? ⟨o, 0, none⟩ = some (.slice (some ⟨ba, 0, none⟩) n n)) :
    Calls Tryz.prog 21 #[.pointer (some ⟨o, 0, none⟩), .int .i64 a] w fun e w' => e = .returned (.bool (hasB n a)) ∧ w = w' := by
  by_cases h0 : 0 ≤ a
  · by_cases h1 : a < (n : Int)
    · rw [hasB_true h0 h1]
      go_enter Tryz.func21, Tryz.ntmps21
      go_wp2_with fail
      refine (len_any _ o n ba h).mono ?_
      rintro e w' ⟨rfl, rfl⟩
      go_wp2
      go_ret
      exact ⟨rfl, rfl⟩
    · rw [hasB_false (Or.inr (by omega))]
      have h1' : decide (a < (n : Int)) = false := by simp; omega
      go_enter Tryz.func21, Tryz.ntmps21
      go_wp2_with fail
      refine (len_any _ o n ba h).mono ?_
      rintro e w' ⟨rfl, rfl⟩
      go_wp2
      go_ret
      exact ⟨rfl, rfl⟩
  · rw [hasB_false (Or.inl (by omega))]
    have h0' : decide (0 ≤ a) = false := by simp; omega
    go_enter Tryz.func21, Tryz.ntmps21
    go_wp2
    go_ret
    exact ⟨rfl, rfl⟩

theorem has_nil (w : World) (a : Int) :
    Calls Tryz.prog 21 #[.pointer none, .int .i64 a] w fun e w' => e = .returned (.bool false) ∧ w = w' := by
  by_cases h0 : 0 ≤ a
  · have h1' : decide (a < 0) = false := by simp; omega
    go_enter Tryz.func21, Tryz.ntmps21
    go_wp2_with fail
    refine (len_nil _).mono ?_
    rintro e w' ⟨rfl, rfl⟩
    go_wp2
    go_ret
    exact ⟨rfl, rfl⟩
  · have h0' : decide (0 ≤ a) = false := by simp; omega
    go_enter Tryz.func21, Tryz.ntmps21
    go_wp2
    go_ret
    exact ⟨rfl, rfl⟩

theorem below_in (w : World) (o n ba bu : Nat) (f u : Nat → Nat) (a b : Int) (h : OrdAt w o n ba bu f u) (ha0 : 0 ≤ a) (ha1 : a < (n : Int)) (hb0 : 0 ≤ b) (hb1 : b < (n : Int)) :
    Calls Tryz.prog 9 #[.pointer (some ⟨o, 0, none⟩), .int .i64 a, .int .i64 b] w fun e w' => e = .returned (.bool ((f a.toNat).testBit b.toNat)) ∧ w = w' := by
  have hn := h.n32
  have hc0 := h.c0
  have hca := h.ra a.toNat (by omega)
  have hfl := h.fl a.toNat (by omega)
  have ea := hasB_true ha0 ha1
  have eb := hasB_true hb0 hb1
  go_enter Tryz.func9, Tryz.ntmps9
  go_wp2_with fail
  refine (has_any _ o n ba a hc0).mono ?_
  rintro e w' ⟨rfl, rfl⟩
  rw [ea]
  go_wp2_with fail
  refine (has_any _ o n ba b hc0).mono ?_
  rintro e w' ⟨rfl, rfl⟩
  rw [eb]
  go_wp2_with fail
  refine (contains_any (f a.toNat) b _ hfl hb0 (by omega)).mono ?_
  rintro e w' ⟨rfl, rfl⟩
  go_wp2
  go_ret
  exact ⟨rfl, rfl⟩

theorem below_out (w : World) (o n ba bu : Nat) (f u : Nat → Nat) (a b : Int) (h : OrdAt w o n ba bu f u) (hb : hasB n a = false ∨ hasB n b = false) :
    Calls Tryz.prog 9 #[.pointer (some ⟨o, 0, none⟩), .int .i64 a, .int .i64 b] w fun e w' => e = .returned (.bool false) ∧ w = w' := by
  have hc0 := h.c0
  go_enter Tryz.func9, Tryz.ntmps9
  go_wp2_with fail
  refine (has_any _ o n ba a hc0).mono ?_
  rintro e w' ⟨rfl, rfl⟩
  cases ea : hasB n a with
  | false =>
    clear ea hb
    go_wp2
    go_ret
    exact ⟨rfl, rfl⟩
  | true =>
    have eb : hasB n b = false := by rcases hb with hb | hb; · rw [ea] at hb; cases hb
                                     · exact hb
    clear ea hb
    go_wp2_with fail
    refine (has_any _ o n ba b hc0).mono ?_
    rintro e w' ⟨rfl, rfl⟩
    rw [eb]
    clear eb
    go_wp2
    go_ret
    exact ⟨rfl, rfl⟩

theorem below_nil (w : World) (a b : Int) :
    Calls Tryz.prog 9 #[.pointer none, .int .i64 a, .int .i64 b] w fun e w' => e = .returned (.bool false) ∧ w = w' := by
  go_enter Tryz.func9, Tryz.ntmps9
  go_wp2_with fail
  refine (has_nil _ a).mono ?_
  rintro e w' ⟨rfl, rfl⟩
  go_wp2
  go_ret
  exact ⟨rfl, rfl⟩

set_option maxHeartbeats 400000 in
theorem join_in (w : World) (o n ba bu : Nat) (f u : Nat → Nat) (a b : Int) (h : OrdAt w o n ba bu f u) (ha0 : 0 ≤ a) (ha1 : a < (n : Int)) (hb0 : 0 ≤ b) (hb1 : b < (n : Int)) :
    Calls Tryz.prog 38 #[.pointer (some ⟨o, 0, none⟩), .int .i64 a, .int .i64 b] w fun e w' => e = .returned (.int .i64 (M.findN f (f a.toNat &&& f b.toNat) n)) ∧ ∃ k, w' = w.drewN k := by
  have hn := h.n32
  have hc0 := h.c0
  have hra := h.ra
  have hca := h.ra a.toNat (by omega)
  have hcb := h.ra b.toNat (by omega)
  have hfa := h.fl a.toNat (by omega)
  have hfb := h.fl b.toNat (by omega)
  have ea := hasB_true ha0 ha1
  have eb := hasB_true hb0 hb1
  have hand := u32_and_nat (f a.toNat) (f b.toNat) hfa hfb
  go_enter Tryz.func38, Tryz.ntmps38
  go_wp2_with fail
  refine (has_any _ o n ba a hc0).mono ?_
  rintro e w' ⟨rfl, rfl⟩
  rw [ea]
  go_wp2_with fail
  refine (has_any _ o n ba b hc0).mono ?_
  rintro e w' ⟨rfl, rfl⟩
  rw [eb]
  go_wp2_with fail
  go_quiet ((go_at_call 26; exact Calls.quiet_of_same ((find_any ba n _ f _ hn (hra.drewN _)).mono fun e w' ⟨he, hw⟩ => ⟨he, hw.symm⟩)))
  go_wp2
  go_ret
  exact ⟨rfl, _, rfl⟩

set_option maxHeartbeats 400000 in
theorem meet_in (w : World) (o n ba bu : Nat) (f u : Nat → Nat) (a b : Int) (h : OrdAt w o n ba bu f u) (ha0 : 0 ≤ a) (ha1 : a < (n : Int)) (hb0 : 0 ≤ b) (hb1 : b < (n : Int)) :
    Calls Tryz.prog 39 #[.pointer (some ⟨o, 0, none⟩), .int .i64 a, .int .i64 b] w fun e w' => e = .returned (.int .i64 (M.findN u (u a.toNat &&& u b.toNat) n)) ∧ ∃ k, w' = w.drewN k := by
  have hn := h.n32
  have hc0 := h.c0
  have hc1 := h.c1
  have hra := h.ru
  have hca := h.ru a.toNat (by omega)
  have hcb := h.ru b.toNat (by omega)
  have hfa := h.ul a.toNat (by omega)
  have hfb := h.ul b.toNat (by omega)
  have ea := hasB_true ha0 ha1
  have eb := hasB_true hb0 hb1
  have hand := u32_and_nat (u a.toNat) (u b.toNat) hfa hfb
  go_enter Tryz.func39, Tryz.ntmps39
  go_wp2_with fail
  refine (has_any _ o n ba a hc0).mono ?_
  rintro e w' ⟨rfl, rfl⟩
  rw [ea]
  go_wp2_with fail
  refine (has_any _ o n ba b hc0).mono ?_
  rintro e w' ⟨rfl, rfl⟩
  rw [eb]
  go_wp2_with fail
  go_quiet ((go_at_call 26; exact Calls.quiet_of_same ((find_any bu n _ u _ hn (hra.drewN _)).mono fun e w' ⟨he, hw⟩ => ⟨he, hw.symm⟩)))
  go_wp2
  go_ret
  exact ⟨rfl, _, rfl⟩

theorem join_out (w : World) (o n ba bu : Nat) (f u : Nat → Nat) (a b : Int) (h : OrdAt w o n ba bu f u) (hb : hasB n a = false ∨ hasB n b = false) :
    Calls Tryz.prog 38 #[.pointer (some ⟨o, 0, none⟩), .int .i64 a, .int .i64 b] w fun e w' => e = .returned (.int .i64 (-1)) ∧ w = w' := by
  have hc0 := h.c0
  go_enter Tryz.func38, Tryz.ntmps38
  go_wp2_with fail
  refine (has_any _ o n ba a hc0).mono ?_
  rintro e w' ⟨rfl, rfl⟩
  cases ea : hasB n a with
  | false =>
    clear ea hb
    go_wp2
    go_ret
    exact ⟨rfl, rfl⟩
  | true =>
    have eb : hasB n b = false := by rcases hb with hb | hb; · rw [ea] at hb; cases hb
                                     · exact hb
    clear ea hb
    go_wp2_with fail
    refine (has_any _ o n ba b hc0).mono ?_
    rintro e w' ⟨rfl, rfl⟩
    rw [eb]
    clear eb
    go_wp2
    go_ret
    exact ⟨rfl, rfl⟩

theorem join_nil (w : World) (a b : Int) :
    Calls Tryz.prog 38 #[.pointer none, .int .i64 a, .int .i64 b] w fun e w' => e = .returned (.int .i64 (-1)) ∧ w = w' := by
  go_enter Tryz.func38, Tryz.ntmps38
  go_wp2_with fail
  refine (has_nil _ a).mono ?_
  rintro e w' ⟨rfl, rfl⟩
  go_wp2
  go_ret
  exact ⟨rfl, rfl⟩

theorem meet_out (w : World) (o n ba bu : Nat) (f u : Nat → Nat) (a b : Int) (h : OrdAt w o n ba bu f u) (hb : hasB n a = false ∨ hasB n b = false) :
    Calls Tryz.prog 39 #[.pointer (some ⟨o, 0, none⟩), .int .i64 a, .int .i64 b] w fun e w' => e = .returned (.int .i64 (-1)) ∧ w = w' := by
  have hc0 := h.c0
  go_enter Tryz.func39, Tryz.ntmps39
  go_wp2_with fail
  refine (has_any _ o n ba a hc0).mono ?_
  rintro e w' ⟨rfl, rfl⟩
  cases ea : hasB n a with
  | false =>
    clear ea hb
    go_wp2
    go_ret
    exact ⟨rfl, rfl⟩
  | true =>
    have eb : hasB n b = false := by rcases hb with hb | hb; · rw [ea] at hb; cases hb
                                     · exact hb
    clear ea hb
    go_wp2_with fail
    refine (has_any _ o n ba b hc0).mono ?_
    rintro e w' ⟨rfl, rfl⟩
    rw [eb]
    clear eb
    go_wp2
    go_ret
    exact ⟨rfl, rfl⟩

theorem meet_nil (w : World) (a b : Int) :
    Calls Tryz.prog 39 #[.pointer none, .int .i64 a, .int .i64 b] w fun e w' => e = .returned (.int .i64 (-1)) ∧ w = w' := by
  go_enter Tryz.func39, Tryz.ntmps39
  go_wp2_with fail
  refine (has_nil _ a).mono ?_
  rintro e w' ⟨rfl, rfl⟩
  go_wp2
  go_ret
  exact ⟨rfl, rfl⟩

theorem bottom_any (w : World) (o n ba bu : Nat) (f u : Nat → Nat) (h : OrdAt w o n ba bu f u) :
    Calls Tryz.prog 11 #[.pointer (some ⟨o, 0, none⟩)] w fun e w' => e = .returned (.int .i64 (M.findN f (M.full n) n)) ∧ ∃ k, w' = w.drewN k := by
  have hn := h.n32
  have hc0 := h.c0
  have hra := h.ra
  go_enter Tryz.func11, Tryz.ntmps11
  go_wp2_with fail
  go_quiet (first | (go_at_call 27; exact Calls.quiet_of_same ((all_any (n : Int) _ (by omega) (by omega)).mono fun e w' ⟨he, hw⟩ => ⟨he, hw.symm⟩)) | (go_at_call 26; exact Calls.quiet_of_same ((find_any ba n _ f _ hn (hra.drewN _)).mono fun e w' ⟨he, hw⟩ => ⟨he, hw.symm⟩)))
  go_wp2
  go_ret
  exact ⟨by simp, _, rfl⟩

theorem bottom_nil (w : World) :
    Calls Tryz.prog 11 #[.pointer none] w fun e w' => e = .returned (.int .i64 (-1)) ∧ w = w' := by
  go_enter Tryz.func11, Tryz.ntmps11
  go_wp2
  go_ret
  exact ⟨rfl, rfl⟩

theorem top_any (w : World) (o n ba bu : Nat) (f u : Nat → Nat) (h : OrdAt w o n ba bu f u) :
    Calls Tryz.prog 12 #[.pointer (some ⟨o, 0, none⟩)] w fun e w' => e = .returned (.int .i64 (M.findN u (M.full n) n)) ∧ ∃ k, w' = w.drewN k := by
  have hn := h.n32
  have hc0 := h.c1
  have hra := h.ru
  go_enter Tryz.func12, Tryz.ntmps12
  go_wp2_with fail
  go_quiet (first | (go_at_call 27; exact Calls.quiet_of_same ((all_any (n : Int) _ (by omega) (by omega)).mono fun e w' ⟨he, hw⟩ => ⟨he, hw.symm⟩)) | (go_at_call 26; exact Calls.quiet_of_same ((find_any bu n _ u _ hn (hra.drewN _)).mono fun e w' ⟨he, hw⟩ => ⟨he, hw.symm⟩)))
  go_wp2
  go_ret
  exact ⟨by simp, _, rfl⟩

theorem top_nil (w : World) :
    Calls Tryz.prog 12 #[.pointer none] w fun e w' => e = .returned (.int .i64 (-1)) ∧ w = w' := by
  go_enter Tryz.func12, Tryz.ntmps12
  go_wp2
  go_ret
  exact ⟨rfl, rfl⟩

end Go.Proofs.YtcelelnmphdlbaaGreatDoor.Od
