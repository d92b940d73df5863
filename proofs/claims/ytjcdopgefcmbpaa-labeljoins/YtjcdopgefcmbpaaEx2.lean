/- The chapter's example of two orders of two points each, walked. -/
import Derived.Test.YtjcdopgefcmbpaaRLab
namespace Go.Proofs.Ytjcdopgefcmbpaa
open Go.RowKit

def twoP : Nat → Int := fun _ => 0
def twoQ : Nat → Int := fun _ => 1

theorem two_f {f u : Nat → Nat} (h : Built 2 twoP twoQ 1 f u) : f 0 = 3 ∧ f 1 = 2 ∧ u 0 = 1 ∧ u 1 = 3 := by
  obtain ⟨f0, hp, hc, hr⟩ := h
  have r : ∀ a b, a < 2 → b < 2 → ((f0 a).testBit b = true ↔ (a = b ∨ (a = 0 ∧ b = 1))) := by
    intro a b ha hb
    rw [hp.bits a b ha hb]
    constructor
    · rintro (h | ⟨i, hi, h1, h2⟩)
      · exact Or.inl h
      · simp only [twoP, twoQ] at h1 h2; omega
    · rintro (h | ⟨rfl, rfl⟩)
      · exact Or.inl h
      · exact Or.inr ⟨0, by omega, rfl, rfl⟩
  have bits : ∀ a b, a < 2 → b < 2 → (f a).testBit b = decide (a = b ∨ (a = 0 ∧ b = 1)) := by
    intro a b ha hb
    rw [Bool.eq_iff_iff, decide_eq_true_iff]
    constructor
    · exact hc.least (fun a b => a = b ∨ (a = 0 ∧ b = 1)) (fun a b ha hb h => (r a b ha hb).1 h) (fun a b c _ _ _ h1 h2 => by omega) a b ha hb
    · intro h; exact hc.has a b ha hb ((r a b ha hb).2 h)
  have ub : ∀ a b, a < 2 → b < 2 → (u b).testBit a = decide (a = b ∨ (a = 0 ∧ b = 1)) := fun a b ha hb => by rw [hr.done a b ha hb, bits a b ha hb]
  have mk : ∀ x y, x < 2 ^ 2 → y < 2 ^ 2 → x.testBit 0 = y.testBit 0 → x.testBit 1 = y.testBit 1 → x = y := by
    intro x y hx hy h0 h1
    refine M.mask_ext hx hy fun i hi => ?_
    match i, hi with
    | 0, _ => exact h0
    | 1, _ => exact h1
  refine ⟨mk _ _ (hc.lim 0 (by omega)) (by omega) ?_ ?_, mk _ _ (hc.lim 1 (by omega)) (by omega) ?_ ?_, mk _ _ (hr.lim 0 (by omega)) (by omega) ?_ ?_, mk _ _ (hr.lim 1 (by omega)) (by omega) ?_ ?_⟩
  all_goals first | (rw [bits _ _ (by omega) (by omega)]; decide) | (rw [ub _ _ (by omega) (by omega)]; decide)

theorem two_find {f u : Nat → Nat} (h : Built 2 twoP twoQ 1 f u) : M.LatOK 2 f u ∧ M.findN f 3 2 = 0 ∧ M.findN f 2 2 = 1 ∧ f 0 = 3 ∧ f 1 = 2 := by
  obtain ⟨f0, f1, u0, u1⟩ := two_f h
  have a0 : M.findN f 3 2 = 0 := M.findN_hit (k := 0) (fun i hi => by omega) (by omega) f0
  have a1 : M.findN f 2 2 = 1 := M.findN_hit (k := 1) (fun i hi => by obtain rfl : i = 0 := by omega
                                                                      omega) (by omega) f1
  have b0 : M.findN u 1 2 = 0 := M.findN_hit (k := 0) (fun i hi => by omega) (by omega) u0
  refine ⟨?_, a0, a1, f0, f1⟩
  intro b hb a ha
  obtain ⟨rfl, rfl⟩ : a = 0 ∧ b = 1 := by omega
  unfold M.good
  rw [f0, f1, u0, u1, show (3 : Nat) &&& 2 = 2 from rfl, show (1 : Nat) &&& 3 = 1 from rfl, a1, b0]
  decide

theorem ex2_new {w w' : World} {e : Ending} (h : NewPost w 2 twoP twoQ 1 e w') : Below w.heap.size w w' ∧ ∃ o ba bu f u, e = .returned (.tuple #[.pointer (some ⟨o, 0, none⟩), .int .i64 0]) ∧ OrdAt w' o 2 ba bu f u ∧
    M.findN f 3 2 = 0 ∧ M.findN f 2 2 = 1 ∧ f 0 = 3 ∧ f 1 = 2 := by
  obtain ⟨hb, h | ⟨_, f, u, hbu, h⟩⟩ := h
  · obtain ⟨_, i, hi, hn⟩ := h
    exact absurd ⟨by simp [twoP], by simp [twoP], by simp [twoQ], by simp [twoQ]⟩ hn
  · have hf := two_find hbu
    rcases h with ⟨_, hn⟩ | ⟨_, o, ba, bu, he, _, _, ho⟩
    · exact absurd hf.1 hn
    · exact ⟨hb, o, ba, bu, f, u, he, ho, hf.2⟩

def twoObj : Obj := .cells #[Value.int .i64 0, Value.int .i64 1] 54
theorem two_pairs (w : World) : PairsAt (w.alloc twoObj) (some ⟨w.heap.size, 0, none⟩) 1 twoP twoQ := by
  intro i hi
  obtain rfl : i = 0 := by omega
  refine ⟨w.heap.size, 0, rfl, by simp, ?_, ?_⟩
  · unfold twoObj; rw [World.cell?_alloc_new]; rfl
  · unfold twoObj; rw [World.cell?_alloc_new]; rfl

def labP : Nat → Int | 0 => 1 | _ => 0
def labQ : Nat → Int | 0 => 0 | _ => 1
def labObj : Obj := .cells #[Value.int .i64 1, Value.int .i64 0, Value.int .i64 0, Value.int .i64 1] 39
theorem lab_pairs (w : World) : PairsAt (w.alloc labObj) (some ⟨w.heap.size, 0, none⟩) 2 labP labQ := by
  intro i hi
  refine ⟨w.heap.size, 0, rfl, by simp, ?_, ?_⟩
  · unfold labObj
    rw [World.cell?_alloc_new]
    match i, hi with
    | 0, _ => rfl
    | 1, _ => rfl
  · unfold labObj
    rw [World.cell?_alloc_new]
    match i, hi with
    | 0, _ => rfl
    | 1, _ => rfl

theorem two_joins {f : Nat → Nat} (a0 : M.findN f 3 2 = 0) (a1 : M.findN f 2 2 = 1) (f0 : f 0 = 3) (f1 : f 1 = 2) : joinsI 2 f labP 2 = 1 ∧ joinsI 2 f labQ 2 = 1 := by
  have z : ∀ x, joinsI 2 f x 0 = 0 := fun _ => a0
  have j01 : joinI 2 f 0 1 = 1 := by show (if _ then M.findN f (f 0 &&& f 1) 2 else (-1 : Int)) = 1; rw [f0, f1, show (3 : Nat) &&& 2 = 2 from rfl, a1]; rfl
  have j10 : joinI 2 f 1 0 = 1 := by show (if _ then M.findN f (f 1 &&& f 0) 2 else (-1 : Int)) = 1; rw [f0, f1, show (2 : Nat) &&& 3 = 2 from rfl, a1]; rfl
  have j00 : joinI 2 f 0 0 = 0 := by show (if _ then M.findN f (f 0 &&& f 0) 2 else (-1 : Int)) = 0; rw [f0, show (3 : Nat) &&& 3 = 3 from rfl, a0]; rfl
  refine ⟨?_, ?_⟩
  · show joinI 2 f (joinI 2 f (joinsI 2 f labP 0) 1) 0 = 1
    rw [z, j01, j10]
  · show joinI 2 f (joinI 2 f (joinsI 2 f labQ 0) 0) 1 = 1
    rw [z, j00, j01]

set_option maxHeartbeats 400000 in
theorem lives2_any (w : World) : Calls Try.prog 4 #[] w fun e w' => e = .returned (.bool true) ∧ Below w.heap.size w w' := by
  go_enter Try.func4, Try.ntmps4
  go_wp2_with fail
  refine (new_any (w.alloc twoObj) 2 _ 1 1 twoP twoQ (by omega) (by omega) (by omega) (two_pairs w)).mono ?_
  intro e w1 hN
  obtain ⟨hb, o1, ba1, bu1, f1, u1, rfl, ho1, x1, x2, x3, x4⟩ := ex2_new hN
  have X1 := Lib.hid (two_joins x1 x2 x3 x4)
  clear hN x1 x2 x3 x4
  have hb1 : Below w.heap.size w w1 := ((Below.refl _ _).alloc (Nat.le_refl _) _).trans (hb.mono (by simp))
  clear hb
  go_wp2_with fail
  refine (new_any (w1.alloc twoObj) 2 _ 1 1 twoP twoQ (by omega) (by omega) (by omega) (two_pairs w1)).mono ?_
  intro e w2 hN
  obtain ⟨hb, o2, ba2, bu2, f2, u2, rfl, ho2, x1, x2, x3, x4⟩ := ex2_new hN
  have X2 := Lib.hid (two_joins x1 x2 x3 x4)
  clear hN x1 x2 x3 x4
  have hb12 : Below w1.heap.size w1 w2 := ((Below.refl _ _).alloc (Nat.le_refl _) _).trans (hb.mono (by simp))
  have ht : TwoAt w2 o1 2 ba1 bu1 f1 u1 o2 2 ba2 bu2 f2 u2 := ⟨ho1.below hb12, ho2⟩
  have hb2 : Below w.heap.size w w2 := hb1.trans (hb12.mono hb1.size)
  clear hb hb12 ho1 ho2 hb1
  go_wp2_with fail
  have hb3 : Below w2.heap.size w2 ((w2.alloc (.cells #[.pointer (some ⟨o1, 0, none⟩), .pointer (some ⟨o2, 0, none⟩)] 30)).alloc labObj) := ((Below.refl _ _).alloc (Nat.le_refl _) _).alloc (by simp) _
  have hp : PairsAt ((w2.alloc (.cells #[.pointer (some ⟨o1, 0, none⟩), .pointer (some ⟨o2, 0, none⟩)] 30)).alloc labObj) (some ⟨w2.heap.size + 1, 0, none⟩) 2 labP labQ := by
    have := lab_pairs (w2.alloc (.cells #[.pointer (some ⟨o1, 0, none⟩), .pointer (some ⟨o2, 0, none⟩)] 30))
    rwa [World.size_alloc] at this
  refine (ljoin_any _ o1 2 ba1 bu1 f1 u1 o2 2 ba2 bu2 f2 u2 _ 2 2 labP labQ (by omega) hp (ht.below hb3)).mono ?_
  rintro e w4 ⟨rfl, hb4⟩
  rw [X1.out.1, X2.out.2]
  have c0 : w4.cell? ⟨w2.heap.size, 0, none⟩ = some (.pointer (some ⟨o1, 0, none⟩)) := by rw [hb4.cell (by simp; omega)]; simp [go_sem, labObj]
  have c1 : w4.cell? ⟨w2.heap.size, 1, none⟩ = some (.pointer (some ⟨o2, 0, none⟩)) := by rw [hb4.cell (by simp; omega)]; simp [go_sem, labObj]
  have hb5 : Below w2.heap.size w2 w4 := hb3.trans (hb4.mono hb3.size)
  have ht4 := ht.below hb5
  have hb6 : Below w.heap.size w w4 := hb2.trans (hb5.mono hb2.size)
  clear hb3 hb4 hb5 hb2 ht
  go_wp2_with fail
  refine (right_any _ o1 2 ba1 bu1 f1 u1 o2 2 ba2 bu2 f2 u2 1 0 ht4).mono ?_
  rintro e w5 ⟨rfl, hb7⟩
  rw [show (hasB 2 1 && hasB 2 0) = true from rfl]
  go_wp2
  go_ret
  exact ⟨rfl, hb6.trans (hb7.mono hb6.size)⟩
end Go.Proofs.Ytjcdopgefcmbpaa
