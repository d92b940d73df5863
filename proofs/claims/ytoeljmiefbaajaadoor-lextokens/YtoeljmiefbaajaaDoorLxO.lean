/- Tokens one by one: what a step of the reading leaves, for the program's way and the document's. -/
import Derived.Test.YtoeljmiefbaajaaDoorFirst
namespace Go.Proofs.YtoeljmiefbaajaaDoor.Lx

theorem letter_ascii {c : UInt8} (h : letter c = true) : c.toNat < 128 := by simp [letter, letterZ] at h; omega
theorem digit_ascii {c : UInt8} (h : digit c = true) : c.toNat < 128 := by simp [digit, digitZ] at h; omega
theorem span_ascii (name : Bool) (l : B) : ∀ c ∈ l.take (span name l), c.toNat < 128 := by
  intro c hc
  have := span_all name l c hc
  rw [Bool.or_eq_true, Bool.and_eq_true] at this
  rcases this with h | h
  · exact digit_ascii h
  · exact letter_ascii h.2
theorem shorts_ascii : ∀ c ∈ shorts, c.toNat < 128 := by decide
theorem mark_cons (c : UInt8) (l : B) : mark (c :: l) = if (c :: l).take 2 == [58, 61] || (c :: l).take 2 == [45, 62] then 2 else if shorts.contains c then 1 else 0 := rfl
theorem one_cons (c : UInt8) (l : B) : one (c :: l) = if digit c then (if span false (c :: l) > 18 then .bad 6 else .tok 3 (span false (c :: l)) (number ((c :: l).take (span false (c :: l)))))
    else if letter c then (if span true (c :: l) > 40 then .bad 6 else if own ((c :: l).take (span true (c :: l))) then .tok 2 (span true (c :: l)) 0 else .tok 1 (span true (c :: l)) 0)
    else if mark (c :: l) = 0 then .bad 4 else .tok 4 (mark (c :: l)) 0 := rfl
theorem mark_le (l : B) : mark l ≤ l.length := by
  cases l with
  | nil => simp [mark]
  | cons c l =>
    rw [mark_cons]
    split
    · rename_i h
      rw [Bool.or_eq_true] at h
      have h2 : ((c :: l).take 2).length = 2 := by rcases h with h | h <;> (rw [eq_of_beq h]; rfl)
      rw [List.length_take] at h2; omega
    · split <;> simp
theorem mark_ascii (l : B) : ∀ c ∈ l.take (mark l), c.toNat < 128 := by
  cases l with
  | nil => simp [mark]
  | cons c l =>
    rw [mark_cons]
    split
    · rename_i h
      rw [Bool.or_eq_true] at h
      rcases h with h | h <;> (rw [eq_of_beq h]; decide)
    · split
      · rename_i h
        intro d hd
        simp at hd
        subst hd
        exact shorts_ascii d (by simpa using h)
      · simp

/-- What a token is: the end, or some ASCII bytes. -/
structure IsTok (l : B) (k : Int) (n : Nat) (v : Int) : Prop where
  k0 : 0 ≤ k
  k4 : k ≤ 4
  pos : k ≠ 0 → 0 < n
  le : n ≤ l.length
  zero : k = 0 → l = [] ∧ n = 0 ∧ v = 0
  ascii : ∀ c ∈ l.take n, c.toNat < 128
theorem span_pos (name : Bool) (c : UInt8) (l : B) (h : (digit c || (name && letter c)) = true) : 0 < span name (c :: l) := by
  rw [span, if_pos h]; omega
theorem one_tok {l : B} {k : Int} {n : Nat} {v : Int} (h : one l = .tok k n v) : IsTok l k n v := by
  cases l with
  | nil =>
    obtain ⟨rfl, rfl, rfl⟩ : 0 = k ∧ 0 = n ∧ 0 = v := by simpa [one] using h
    exact ⟨by omega, by omega, by simp, by simp, fun _ => ⟨rfl, rfl, rfl⟩, by simp⟩
  | cons c l =>
    rw [one_cons] at h
    split at h
    · rename_i hc
      split at h
      · cases h
      · obtain ⟨rfl, rfl, rfl⟩ : 3 = k ∧ span false (c :: l) = n ∧ number ((c :: l).take (span false (c :: l))) = v := by simpa using h
        exact ⟨by omega, by omega, fun _ => span_pos false c l (by simp [hc]), span_le _ _, by simp, span_ascii _ _⟩
    · split at h
      · rename_i hc
        split at h
        · cases h
        · split at h
          · obtain ⟨rfl, rfl, rfl⟩ : 2 = k ∧ span true (c :: l) = n ∧ 0 = v := by simpa using h
            exact ⟨by omega, by omega, fun _ => span_pos true c l (by simp [hc]), span_le _ _, by simp, span_ascii _ _⟩
          · obtain ⟨rfl, rfl, rfl⟩ : 1 = k ∧ span true (c :: l) = n ∧ 0 = v := by simpa using h
            exact ⟨by omega, by omega, fun _ => span_pos true c l (by simp [hc]), span_le _ _, by simp, span_ascii _ _⟩
      · split at h
        · cases h
        · rename_i hm
          obtain ⟨rfl, rfl, rfl⟩ : 4 = k ∧ mark (c :: l) = n ∧ 0 = v := by simpa using h
          exact ⟨by omega, by omega, fun _ => by omega, mark_le _, by simp, mark_ascii _⟩
theorem one_bad {l : B} {e : Int} (h : one l = .bad e) : (e = 6 ∨ e = 4) ∧ l ≠ [] := by
  cases l with
  | nil => simp [one] at h
  | cons c l =>
    refine ⟨?_, by simp⟩
    rw [one_cons] at h
    split at h
    · split at h
      · left; simpa using h.symm
      · cases h
    · split at h
      · split at h
        · left; simpa using h.symm
        · split at h <;> cases h
      · split at h
        · right; simpa using h.symm
        · cases h

theorem valid_ascii (l : B) (h : ∀ c ∈ l, c.toNat < 128) : Valid l := by
  induction l with
  | nil => exact .nil
  | cons c l ih => exact (ih fun d hd => h d (by simp [hd])).ascii (h c (by simp))
theorem valid_drop (n : Nat) : ∀ (l : B), Valid l → (∀ c ∈ l.take n, c.toNat < 128) → Valid (l.drop n) := by
  induction n with
  | zero => intro l h _; simpa using h
  | succ n ih =>
    intro l h ha
    cases l with
    | nil => simpa using h
    | cons c l =>
      rw [List.drop_succ_cons]
      exact ih l (h.tail (ha c (by simp))) (fun d hd => ha d (by rw [List.take_succ_cons]; simp [hd]))

/-- How far a place can be. -/
theorem adv_bound (l : B) : ∀ (p : Pos) (N : Int), 1 ≤ N → 0 ≤ p.line → p.line ≤ N → 0 ≤ p.col → p.col ≤ N → 0 ≤ (adv p l).line ∧ (adv p l).line ≤ N + l.length ∧ 0 ≤ (adv p l).col ∧ (adv p l).col ≤ N + l.length := by
  induction l with
  | nil => intro p N h1 h2 h3 h4 h5; simpa [adv] using ⟨h2, h3, h4, h5⟩
  | cons c l ih =>
    intro p N h1 h2 h3 h4 h5
    rw [adv_cons]
    have hs : 0 ≤ (step p c).line ∧ (step p c).line ≤ N + 1 ∧ 0 ≤ (step p c).col ∧ (step p c).col ≤ N + 1 := by
      unfold step
      split
      · refine ⟨?_, ?_, ?_, ?_⟩ <;> (try simp only) <;> omega
      · split
        · refine ⟨?_, ?_, ?_, ?_⟩ <;> omega
        · refine ⟨?_, ?_, ?_, ?_⟩ <;> (try simp only) <;> omega
    have := ih (step p c) (N + 1) (by omega) hs.1 hs.2.1 hs.2.2.1 hs.2.2.2
    rw [List.length_cons]
    push_cast
    refine ⟨this.1, ?_, this.2.2.1, ?_⟩ <;> omega

/-- The fuel does not matter, so long as there is enough. -/
theorem toks_fuel : ∀ (f g : Nat) (note : Bool) (p : Pos) (l : B), l.length < f → l.length < g → toks f note p l = toks g note p l
  | 0, _, _, _, _, h, _ => by omega
  | _ + 1, 0, _, _, _, _, h => by omega
  | f + 1, g + 1, note, p, l, hf, hg => by
    unfold toks
    split
    · rfl
    · rename_i k n v h
      have T := one_tok h
      split
      · rfl
      · rename_i hk
        have hp := T.pos hk
        have hle := T.le
        have hb := blanks_le note l
        rw [List.length_drop] at hle
        rw [toks_fuel f g false _ _ (by rw [List.length_drop]; omega) (by rw [List.length_drop]; omega)]

theorem toks_bad {r : B} {note : Bool} {p : Pos} {out : List Tok} {R : Res} {e : Int} (hR : R = (toks (r.length + 1) note p r).after out) (h : one (r.drop (blanks note r)) = .bad e) :
    R = .bad e (adv p (r.take (blanks note r))) := by
  rw [hR, toks, h]; rfl
theorem toks_end {r : B} {note : Bool} {p : Pos} {out : List Tok} {R : Res} {m : Nat} {v : Int} (hR : R = (toks (r.length + 1) note p r).after out) (h : one (r.drop (blanks note r)) = .tok 0 m v) :
    R = .ok (out ++ [⟨0, (r.drop (blanks note r)).take m, v, adv p (r.take (blanks note r))⟩]) := by
  obtain ⟨_, h2, h3⟩ := (one_tok h).zero rfl
  rw [hR, toks, h]
  subst h2; subst h3
  simp [Res.after]
theorem toks_more {r : B} {note : Bool} {p : Pos} {out : List Tok} {R : Res} {k : Int} {m : Nat} {v : Int} (hR : R = (toks (r.length + 1) note p r).after out) (h : one (r.drop (blanks note r)) = .tok k m v) (hk : k ≠ 0) :
    R = (toks (((r.drop (blanks note r)).drop m).length + 1) false (adv (adv p (r.take (blanks note r))) ((r.drop (blanks note r)).take m)) ((r.drop (blanks note r)).drop m)).after
      (out ++ [⟨k, (r.drop (blanks note r)).take m, v, adv p (r.take (blanks note r))⟩]) := by
  have T := one_tok h
  have hp := T.pos hk
  have hle := T.le
  rw [List.length_drop] at hle
  rw [hR, toks, h]
  simp only [hk, if_false]
  rw [Res.after_after, ← adv_append, List.drop_drop]
  have e : r.take (blanks note r) ++ (r.drop (blanks note r)).take m = r.take (blanks note r + m) := by rw [List.take_add]
  rw [e, toks_fuel r.length _ false _ _ (by rw [List.length_drop]; omega) (Nat.lt_succ_self _)]
end Go.Proofs.YtoeljmiefbaajaaDoor.Lx
