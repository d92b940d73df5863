/- The walk of the law's example (lives), and of New where the number of points is none. -/
import Derived.Test.YtlmpmiafjcpgjaaNew
namespace Go.Proofs.Ytlmpmiafjcpgjaa
open Go.RowKit

theorem new_out (w : World) (n : Int) (ao : Option Addr) (len cap : Nat) (h : n < 1 ∨ 32 < n) :
    Calls Try.prog 17 #[.int .i64 n, .slice ao len cap] w fun e w' => e = .returned (.tuple #[.pointer none, .int .i64 1]) ∧ w = w' := by
  rcases h with h | h
  · go_enter Try.func17, Try.ntmps17
    go_wp2
    go_ret2
    exact ⟨rfl, rfl⟩
  · have t1 : decide (n < 1) = false := by simp; omega
    go_enter Try.func17, Try.ntmps17
    go_wp2
    go_ret2
    exact ⟨rfl, rfl⟩

def exP : Nat → Int | 0 => 0 | 1 => 0 | 2 => 1 | _ => 2
def exQ : Nat → Int | 0 => 1 | 1 => 2 | _ => 3

theorem ex_f {f u : Nat → Nat} (h : Built 4 exP exQ 4 f u) : f 0 = 15 ∧ f 1 = 10 ∧ f 2 = 12 ∧ f 3 = 8 ∧ u 0 = 1 ∧ u 1 = 3 ∧ u 2 = 5 ∧ u 3 = 15 := by
  obtain ⟨f0, hp, hc, hr⟩ := h
  have r : ∀ a b, a < 4 → b < 4 → ((f0 a).testBit b = true ↔ (a = b ∨ (a = 0 ∧ b = 1) ∨ (a = 0 ∧ b = 2) ∨ (a = 1 ∧ b = 3) ∨ (a = 2 ∧ b = 3))) := by
    intro a b ha hb
    rw [hp.bits a b ha hb]
    constructor
    · rintro (h | ⟨i, hi, h1, h2⟩)
      · exact Or.inl h
      · match i, hi with
        | 0, _ => simp only [exP, exQ] at h1 h2; omega
        | 1, _ => simp only [exP, exQ] at h1 h2; omega
        | 2, _ => simp only [exP, exQ] at h1 h2; omega
        | 3, _ => simp only [exP, exQ] at h1 h2; omega
    · rintro (h | ⟨rfl, rfl⟩ | ⟨rfl, rfl⟩ | ⟨rfl, rfl⟩ | ⟨rfl, rfl⟩)
      · exact Or.inl h
      · exact Or.inr ⟨0, by omega, rfl, rfl⟩
      · exact Or.inr ⟨1, by omega, rfl, rfl⟩
      · exact Or.inr ⟨2, by omega, rfl, rfl⟩
      · exact Or.inr ⟨3, by omega, rfl, rfl⟩
  have cl := hc.closure
  have bits : ∀ a b, a < 4 → b < 4 → (f a).testBit b = decide (a = b ∨ a = 0 ∨ b = 3) := by
    intro a b ha hb
    rw [Bool.eq_iff_iff, decide_eq_true_iff]
    constructor
    · exact hc.least (fun a b => a = b ∨ a = 0 ∨ b = 3) (fun a b ha hb h => by rw [r a b ha hb] at h; omega) (fun a b c _ _ _ h1 h2 => by omega) a b ha hb
    · have base : ∀ a b, a < 4 → b < 4 → (a = b ∨ (a = 0 ∧ b = 1) ∨ (a = 0 ∧ b = 2) ∨ (a = 1 ∧ b = 3) ∨ (a = 2 ∧ b = 3)) → (f a).testBit b = true := fun a b ha hb h => hc.has a b ha hb ((r a b ha hb).2 h)
      intro h
      by_cases h03 : a = 0 ∧ b = 3
      · obtain ⟨rfl, rfl⟩ := h03
        exact cl.2.1 0 1 3 (by omega) (by omega) (by omega) (base 0 1 (by omega) (by omega) (by omega)) (base 1 3 (by omega) (by omega) (by omega))
      · exact base a b ha hb (by omega)
  have ub : ∀ a b, a < 4 → b < 4 → (u b).testBit a = decide (a = b ∨ a = 0 ∨ b = 3) := fun a b ha hb => by rw [hr.done a b ha hb, bits a b ha hb]
  have mk : ∀ x y, x < 2 ^ 4 → y < 2 ^ 4 → x.testBit 0 = y.testBit 0 → x.testBit 1 = y.testBit 1 → x.testBit 2 = y.testBit 2 → x.testBit 3 = y.testBit 3 → x = y := by
    intro x y hx hy h0 h1 h2 h3
    refine M.mask_ext hx hy fun i hi => ?_
    match i, hi with
    | 0, _ => exact h0
    | 1, _ => exact h1
    | 2, _ => exact h2
    | 3, _ => exact h3
  refine ⟨mk _ _ (hc.lim 0 (by omega)) (by omega) ?_ ?_ ?_ ?_, mk _ _ (hc.lim 1 (by omega)) (by omega) ?_ ?_ ?_ ?_, mk _ _ (hc.lim 2 (by omega)) (by omega) ?_ ?_ ?_ ?_, mk _ _ (hc.lim 3 (by omega)) (by omega) ?_ ?_ ?_ ?_,
    mk _ _ (hr.lim 0 (by omega)) (by omega) ?_ ?_ ?_ ?_, mk _ _ (hr.lim 1 (by omega)) (by omega) ?_ ?_ ?_ ?_, mk _ _ (hr.lim 2 (by omega)) (by omega) ?_ ?_ ?_ ?_, mk _ _ (hr.lim 3 (by omega)) (by omega) ?_ ?_ ?_ ?_⟩
  all_goals first | (rw [bits _ _ (by omega) (by omega)]; decide) | (rw [ub _ _ (by omega) (by omega)]; decide)

theorem ex_find {f u : Nat → Nat} (h : Built 4 exP exQ 4 f u) : M.LatOK 4 f u ∧ M.findN f (f 1 &&& f 2) 4 = 3 ∧ M.findN u (u 1 &&& u 2) 4 = 0 ∧ M.findN f (M.full 4) 4 = 0 := by
  obtain ⟨f0, f1, f2, f3, u0, u1, u2, u3⟩ := ex_f h
  have ff : ∀ x, M.findN f x 4 = if 15 = x then 0 else if 10 = x then 1 else if 12 = x then 2 else if 8 = x then 3 else -1 := by
    intro x
    by_cases h0 : 15 = x
    · rw [if_pos h0]; exact M.findN_hit (k := 0) (fun i hi => by omega) (by omega) (by rw [f0]; exact h0)
    rw [if_neg h0]
    by_cases h1 : 10 = x
    · rw [if_pos h1]; exact M.findN_hit (k := 1) (fun i hi => by obtain rfl : i = 0 := by omega
                                                                 omega) (by omega) (by rw [f1]; exact h1)
    rw [if_neg h1]
    by_cases h2 : 12 = x
    · rw [if_pos h2]; exact M.findN_hit (k := 2) (fun i hi => by rcases (by omega : i = 0 ∨ i = 1) with rfl | rfl <;> omega) (by omega) (by rw [f2]; exact h2)
    rw [if_neg h2]
    by_cases h3 : 8 = x
    · rw [if_pos h3]; exact M.findN_hit (k := 3) (fun i hi => by rcases (by omega : i = 0 ∨ i = 1 ∨ i = 2) with rfl | rfl | rfl <;> omega) (by omega) (by rw [f3]; exact h3)
    rw [if_neg h3]
    exact M.findN_miss (fun i hi => by rcases (by omega : i = 0 ∨ i = 1 ∨ i = 2 ∨ i = 3) with rfl | rfl | rfl | rfl <;> omega)
  have fu : ∀ x, M.findN u x 4 = if 1 = x then 0 else if 3 = x then 1 else if 5 = x then 2 else if 15 = x then 3 else -1 := by
    intro x
    by_cases h0 : 1 = x
    · rw [if_pos h0]; exact M.findN_hit (k := 0) (fun i hi => by omega) (by omega) (by rw [u0]; exact h0)
    rw [if_neg h0]
    by_cases h1 : 3 = x
    · rw [if_pos h1]; exact M.findN_hit (k := 1) (fun i hi => by obtain rfl : i = 0 := by omega
                                                                 omega) (by omega) (by rw [u1]; exact h1)
    rw [if_neg h1]
    by_cases h2 : 5 = x
    · rw [if_pos h2]; exact M.findN_hit (k := 2) (fun i hi => by rcases (by omega : i = 0 ∨ i = 1) with rfl | rfl <;> omega) (by omega) (by rw [u2]; exact h2)
    rw [if_neg h2]
    by_cases h3 : 15 = x
    · rw [if_pos h3]; exact M.findN_hit (k := 3) (fun i hi => by rcases (by omega : i = 0 ∨ i = 1 ∨ i = 2) with rfl | rfl | rfl <;> omega) (by omega) (by rw [u3]; exact h3)
    rw [if_neg h3]
    exact M.findN_miss (fun i hi => by rcases (by omega : i = 0 ∨ i = 1 ∨ i = 2 ∨ i = 3) with rfl | rfl | rfl | rfl <;> omega)
  refine ⟨?_, ?_, ?_, ?_⟩
  · intro b hb a ha
    unfold M.good
    rw [ff, fu]
    rcases (by omega : (a = 0 ∧ b = 1) ∨ (a = 0 ∧ b = 2) ∨ (a = 0 ∧ b = 3) ∨ (a = 1 ∧ b = 2) ∨ (a = 1 ∧ b = 3) ∨ (a = 2 ∧ b = 3)) with ⟨rfl, rfl⟩ | ⟨rfl, rfl⟩ | ⟨rfl, rfl⟩ | ⟨rfl, rfl⟩ | ⟨rfl, rfl⟩ | ⟨rfl, rfl⟩
    all_goals simp only [f0, f1, f2, f3, u0, u1, u2, u3]; decide
  · rw [ff, f1, f2]; decide
  · rw [fu, u1, u2]; decide
  · rw [ff]; decide

theorem ex_new {w w' : World} {e : Ending} (h : NewPost w 4 exP exQ 4 e w') : Below w.heap.size w w' ∧ ∃ o ba bu f u, e = .returned (.tuple #[.pointer (some ⟨o, 0, none⟩), .int .i64 0]) ∧ OrdAt w' o 4 ba bu f u ∧
    M.findN f (f 1 &&& f 2) 4 = 3 ∧ M.findN u (u 1 &&& u 2) 4 = 0 ∧ M.findN f (M.full 4) 4 = 0 := by
  obtain ⟨hb, h | ⟨_, f, u, hbu, h⟩⟩ := h
  · obtain ⟨_, i, hi, hn⟩ := h
    exfalso; apply hn
    match i, hi with
    | 0, _ => exact ⟨by decide, by decide, by decide, by decide⟩
    | 1, _ => exact ⟨by decide, by decide, by decide, by decide⟩
    | 2, _ => exact ⟨by decide, by decide, by decide, by decide⟩
    | 3, _ => exact ⟨by decide, by decide, by decide, by decide⟩
  · have hf := ex_find hbu
    rcases h with ⟨_, hn⟩ | ⟨_, o, ba, bu, he, _, _, ho⟩
    · exact absurd hf.1 hn
    · exact ⟨hb, o, ba, bu, f, u, he, ho, hf.2⟩

def exObj : Obj := .cells #[Value.int .i64 0, Value.int .i64 1, Value.int .i64 0, Value.int .i64 2, Value.int .i64 1, Value.int .i64 3, Value.int .i64 2, Value.int .i64 3] 43
theorem ex_pairs (w : World) : PairsAt (w.alloc exObj) (some ⟨w.heap.size, 0, none⟩) 4 exP exQ := by
  intro i hi
  refine ⟨w.heap.size, 0, rfl, by simp, ?_, ?_⟩
  · unfold exObj
    rw [World.cell?_alloc_new]
    match i, hi with
    | 0, _ => rfl
    | 1, _ => rfl
    | 2, _ => rfl
    | 3, _ => rfl
  · unfold exObj
    rw [World.cell?_alloc_new]
    match i, hi with
    | 0, _ => rfl
    | 1, _ => rfl
    | 2, _ => rfl
    | 3, _ => rfl

set_option maxHeartbeats 1000000 in
theorem lives_any (w : World) : Calls Try.prog 5 #[] w fun e w' => e = .returned (.bool true) ∧ Below w.heap.size w w' := by
  go_enter Try.func5, Try.ntmps5
  go_wp2_with fail
  refine (new_any (w.alloc exObj) 4 _ 4 4 exP exQ (by omega) (by omega) (by omega) (ex_pairs w)).mono ?_
  intro e w1 hN
  obtain ⟨hb, o, ba, bu, f, u, rfl, ho, j1, m1, b1⟩ := ex_new hN
  clear hN
  have HJ := Lib.hid j1; clear j1
  have HM := Lib.hid m1; clear m1
  have HB := Lib.hid b1; clear b1
  go_wp2_with fail
  refine (join_in _ o 4 ba bu f u 1 2 ho (by omega) (by omega) (by omega) (by omega)).mono ?_
  rintro e w' ⟨rfl, k1, rfl⟩
  simp only [show (1 : Int).toNat = 1 from rfl, show (2 : Int).toNat = 2 from rfl]
  rw [HJ.out]
  go_wp2_with fail
  refine (meet_in _ o 4 ba bu f u 1 2 (ho.drewN _) (by omega) (by omega) (by omega) (by omega)).mono ?_
  rintro e w' ⟨rfl, k2, rfl⟩
  simp only [show (1 : Int).toNat = 1 from rfl, show (2 : Int).toNat = 2 from rfl]
  rw [HM.out]
  go_wp2_with fail
  refine (bottom_any _ o 4 ba bu f u (ho.drewN _)).mono ?_
  rintro e w' ⟨rfl, k3, rfl⟩
  rw [HB.out]
  go_wp2
  go_ret
  refine ⟨rfl, ?_⟩
  have h0 : Below w.heap.size w (w.alloc exObj) := (Below.refl _ _).alloc (Nat.le_refl _) _
  exact below_drewN (h0.trans (hb.mono (by simp))) _
end Go.Proofs.Ytlmpmiafjcpgjaa
