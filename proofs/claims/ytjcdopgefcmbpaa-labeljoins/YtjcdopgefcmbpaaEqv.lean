/- The document's answers and the program's, of one and the same closure. -/
import Derived.Test.YtjcdopgefcmbpaaRNew
import Derived.Test.YtjcdopgefcmbpaaLat
namespace Go.Proofs.Ytjcdopgefcmbpaa
namespace M

/-- masks and truths say the same; each point is there, and what follows is there -/
structure Same (n : Nat) (g : Nat → Nat) (S : Nat → Nat → Bool) : Prop where
  lim : ∀ i, i < n → g i < 2 ^ n
  eq : ∀ a b, a < n → b < n → S a b = (g a).testBit b
  refl : ∀ i, i < n → S i i = true
  trans : TransR n S

theorem Same.jTo {n : Nat} {g : Nat → Nat} {S : Nat → Nat → Bool} (h : Same n g S) {a b c : Nat} (ha : a < n) (hb : b < n) (hc : c < n) : jTo S a b c n = (g c == (g a &&& g b)) := by
  rw [Bool.eq_iff_iff, beq_iff_eq]
  have key : allB (jOne S a b c) n = true ↔ ∀ d, d < n → S a d = true → S b d = true → S c d = true := by
    rw [allB_true]
    constructor
    · intro hh d hd h1 h2
      have := hh d hd
      simp only [jOne, h1, h2] at this
      simpa using this
    · intro hh d hd
      have := hh d hd
      unfold jOne
      cases h1 : S a d <;> cases h2 : S b d <;> simp_all
  unfold M.jTo
  rw [Bool.and_eq_true, Bool.and_eq_true, key]
  constructor
  · rintro ⟨⟨h1, h2⟩, h3⟩
    refine mask_ext (h.lim c hc) (Nat.lt_of_le_of_lt Nat.and_le_left (h.lim a ha)) fun i hi => ?_
    rw [Nat.testBit_and, ← h.eq c i hc hi, ← h.eq a i ha hi, ← h.eq b i hb hi, Bool.eq_iff_iff, Bool.and_eq_true]
    exact ⟨fun hci => ⟨h.trans a c i ha hc hi h1 hci, h.trans b c i hb hc hi h2 hci⟩, fun hh => h3 i hi hh.1 hh.2⟩
  · intro e
    have bit : ∀ i, i < n → (S c i = true ↔ S a i = true ∧ S b i = true) := fun i hi => by
      rw [h.eq c i hc hi, h.eq a i ha hi, h.eq b i hb hi, e, Nat.testBit_and, Bool.and_eq_true]
    have hcc := (bit c hc).1 (h.refl c hc)
    exact ⟨hcc, fun d hd h1 h2 => (bit d hd).2 ⟨h1, h2⟩⟩

theorem Same.join {n : Nat} {g : Nat → Nat} {S : Nat → Nat → Bool} (h : Same n g S) {a b : Nat} (ha : a < n) (hb : b < n) : joinR n S a b = findN g (g a &&& g b) n := by
  rw [findN_eq]
  exact findP_congr fun c hc => h.jTo ha hb hc

theorem Same.bottom {n : Nat} {g : Nat → Nat} {S : Nat → Nat → Bool} (h : Same n g S) : bottomR n S = findN g (full n) n := by
  rw [findN_eq]
  refine findP_congr fun c hc => ?_
  rw [Bool.eq_iff_iff, beq_iff_eq, allB_true]
  constructor
  · intro hh
    refine mask_ext (h.lim c hc) (by have := Nat.two_pow_pos n; unfold full; omega) fun i hi => ?_
    rw [← h.eq c i hc hi, hh i hi, full, Nat.testBit_two_pow_sub_one]; simp [hi]
  · intro e d hd
    rw [h.eq c d hc hd, e, full, Nat.testBit_two_pow_sub_one]; simp [hd]

theorem Same.flip {n : Nat} {f u : Nat → Nat} {R : Nat → Nat → Bool} (h : Same n f R) (hl : ∀ i, i < n → u i < 2 ^ n) (hr : ∀ a b, a < n → b < n → (u b).testBit a = (f a).testBit b) : Same n u (flipR R) where
  lim := hl
  eq a b ha hb := by unfold flipR; rw [h.eq b a hb ha, hr b a hb ha]
  refl := h.refl
  trans a b c ha hb hc h1 h2 := h.trans c b a hc hb ha h2 h1

theorem findN_nonneg {g : Nat → Nat} {x n : Nat} : 0 ≤ findN g x n ↔ findN g x n ≠ -1 := by
  rcases findN_cases g x n with ⟨p, hp, he, hf, _⟩ | ⟨_, hf⟩
  · rw [hf]; constructor <;> intro _ <;> omega
  · rw [hf]; constructor <;> intro h <;> omega

theorem Same.lat {n : Nat} {f u : Nat → Nat} {R : Nat → Nat → Bool} (h : Same n f R) (hu : Same n u (flipR R)) : LatR n R ↔ LatOK n f u := by
  have anti : ∀ a b, a < n → b < n → (f a = f b ↔ R a b = true ∧ R b a = true) := by
    intro a b ha hb
    constructor
    · intro e
      have h1 : R a b = true := by rw [h.eq a b ha hb, e, ← h.eq b b hb hb]; exact h.refl b hb
      have h2 : R b a = true := by rw [h.eq b a hb ha, ← e, ← h.eq a a ha ha]; exact h.refl a ha
      exact ⟨h1, h2⟩
    · rintro ⟨h1, h2⟩
      refine mask_ext (h.lim a ha) (h.lim b hb) fun i hi => ?_
      rw [← h.eq a i ha hi, ← h.eq b i hb hi, Bool.eq_iff_iff]
      exact ⟨fun h3 => h.trans b a i hb ha hi h2 h3, fun h3 => h.trans a b i ha hb hi h1 h3⟩
  constructor
  · intro hl b hb a hab
    obtain ⟨g1, g2, g3⟩ := hl a (by omega) b hb
    refine ⟨fun e => g1 ⟨by omega, (anti a b (by omega) hb).1 e⟩, ?_, ?_⟩
    · rw [h.join (by omega) hb] at g2; exact findN_nonneg.1 g2
    · unfold meetR at g3; rw [hu.join (by omega) hb] at g3; exact findN_nonneg.1 g3
  · intro hl a ha b hb
    have self : ∀ (g : Nat → Nat), findN g (g a &&& g a) n ≠ -1 := by
      intro g
      rcases findN_cases g (g a &&& g a) n with ⟨p, _, _, hf, _⟩ | ⟨hn, _⟩
      · rw [hf]; omega
      · exact absurd (Nat.and_self (g a)).symm (hn a ha)
    unfold goodR meetR
    rw [h.join ha hb, hu.join ha hb, findN_nonneg, findN_nonneg]
    rcases Nat.lt_trichotomy a b with hab | hab | hab
    · have g := hl b hb a hab
      exact ⟨fun hh => g.1 ((anti a b ha hb).2 hh.2), g.2.1, g.2.2⟩
    · subst hab
      exact ⟨fun hh => hh.1 rfl, self f, self u⟩
    · have g := hl a ha b hab
      refine ⟨fun hh => g.1 ((anti b a hb ha).2 ⟨hh.2.2, hh.2.1⟩), ?_, ?_⟩
      · rw [Nat.and_comm]; exact g.2.1
      · rw [Nat.and_comm]; exact g.2.2
end M

theorem same_of {n len : Nat} {p q : Nat → Int} {f u : Nat → Nat} {R : Nat → Nat → Bool} (hb : Built n p q len f u) (hm : M.Mid n (SaidR p q len) R) (ht : M.TransR n R) : M.Same n f R ∧ M.Same n u (M.flipR R) := by
  obtain ⟨f0, hp, hc, hr⟩ := hb
  have c1 : M.IsClosure n (SaidR p q len) (fun a b => (f a).testBit b = true) := by
    have c0 := hc.closure
    refine ⟨fun a b ha hb h => c0.1 a b ha hb ((hp.bits a b ha hb).2 h), c0.2.1, fun T t1 t2 a b ha hb h => c0.2.2 T (fun a b ha hb h => t1 a b ha hb ((hp.bits a b ha hb).1 h)) t2 a b ha hb h⟩
  have c2 : M.IsClosure n (SaidR p q len) (fun a b => R a b = true) := ⟨hm.has, ht, hm.least⟩
  have s : M.Same n f R := ⟨hc.lim, fun a b ha hb => by rw [Bool.eq_iff_iff]; exact M.closure_unique c2 c1 a b ha hb, fun i hi => hm.has i i hi hi (Or.inl rfl), ht⟩
  exact ⟨s, s.flip hr.lim (fun a b ha hb => hr.done a b ha hb)⟩
end Go.Proofs.Ytjcdopgefcmbpaa
