import Derived.Lib.DecodeN

/- Tokens of a text, as plain functions of its bytes: what is skipped, what a token is, where it begins. -/
namespace Go.Proofs.YtdkhkemllmegfaaGreatDoor.Lx
abbrev B := List UInt8

def blankZ (c : Int) : Bool := c == 32 || c == 9 || c == 13 || c == 10
def digitZ (c : Int) : Bool := decide (48 ≤ c) && decide (c ≤ 57)
def letterZ (c : Int) : Bool := (decide (97 ≤ c) && decide (c ≤ 122)) || (decide (65 ≤ c) && decide (c ≤ 90)) || c == 95
def contZ (c : Int) : Bool := decide (128 ≤ c) && decide (c ≤ 191)
def blank (c : UInt8) : Bool := blankZ c.toNat
def digit (c : UInt8) : Bool := digitZ c.toNat
def letter (c : UInt8) : Bool := letterZ c.toNat
def cont (c : UInt8) : Bool := contZ c.toNat

/-- How many bytes come that are no token's: blanks and comments; 'note': in a comment. -/
def blanks : Bool → B → Nat
  | _, [] => 0
  | note, c :: l => if (c.toNat : Int) == 10 then 1 + blanks false l else if (c.toNat : Int) == 35 then 1 + blanks true l
      else if note || blank c then 1 + blanks note l else 0
/-- How many bytes of a name, or of a number, come. -/
def span (name : Bool) : B → Nat
  | [] => 0
  | c :: l => if digit c || (name && letter c) then 1 + span name l else 0

def keys : List B := [[108, 101, 116], [105, 110], [105, 102], [116, 104, 101, 110], [101, 108, 115, 101], [116, 114, 121], [119, 105, 116, 104], [111, 117, 116], [114, 97, 105, 115, 101], [116, 114, 117, 101], [102, 97, 108, 115, 101], [110, 111, 116], [97, 110, 100], [111, 114], [102, 115, 116], [115, 110, 100], [114, 101, 108, 101, 97, 115, 101], [104, 111, 108, 101], [105, 110, 112, 117, 116], [103, 108, 111, 98, 97, 108], [99, 104, 97, 110, 110, 101, 108], [101, 120, 99, 101, 112, 116, 105, 111, 110], [102, 117, 110], [109, 97, 105, 110], [99, 111, 110, 102], [105, 110, 116, 101, 103], [111, 114, 100, 101, 114], [97, 116, 116, 97, 99, 107, 101, 114], [104, 97, 116, 99, 104], [116, 111]]
def own (l : B) : Bool := keys.contains l
def shorts : B := [40, 41, 123, 125, 44, 59, 58, 33, 43, 45, 42, 61, 60]
def mark : B → Nat
  | [] => 0
  | c :: l => if (c :: l).take 2 == [58, 61] || (c :: l).take 2 == [45, 62] then 2 else if shorts.contains c then 1 else 0
def number (l : B) : Int := l.foldl (fun a c => 10 * a + ((c.toNat : Int) - 48)) 0

/-- The token that comes: its kind, how many bytes it has, its number; or the error. -/
inductive Got where
  | bad (e : Int)
  | tok (kind : Int) (n : Nat) (v : Int)
def one (l : B) : Got := match l with
  | [] => .tok 0 0 0
  | c :: _ =>
    if digit c then (if span false l > 18 then .bad 6 else .tok 3 (span false l) (number (l.take (span false l))))
    else if letter c then (if span true l > 40 then .bad 6 else if own (l.take (span true l)) then .tok 2 (span true l) 0 else .tok 1 (span true l) 0)
    else if mark l = 0 then .bad 4 else .tok 4 (mark l) 0

structure Pos where
  line : Int
  col : Int
def step (p : Pos) (c : UInt8) : Pos := if (c.toNat : Int) == 10 then ⟨p.line + 1, 1⟩ else if cont c then p else ⟨p.line, p.col + 1⟩
def adv (p : Pos) (l : B) : Pos := l.foldl step p
theorem adv_append (p : Pos) (a b : B) : adv p (a ++ b) = adv (adv p a) b := List.foldl_append
theorem adv_nil (p : Pos) : adv p [] = p := rfl
theorem adv_cons (p : Pos) (c : UInt8) (l : B) : adv p (c :: l) = adv (step p c) l := rfl

structure Tok where
  kind : Int
  text : B
  int : Int
  at_ : Pos
inductive Res where
  | bad (e : Int) (p : Pos)
  | ok (l : List Tok)
def Res.after (out : List Tok) : Res → Res
  | .bad e p => .bad e p
  | .ok l => .ok (out ++ l)
theorem Res.after_nil (r : Res) : r.after [] = r := by cases r <;> rfl
theorem Res.after_after (a b : List Tok) (r : Res) : (r.after b).after a = r.after (a ++ b) := by cases r <;> simp [Res.after]

/-- The tokens of what is left, 'f': fuel. -/
def toks : Nat → Bool → Pos → B → Res
  | 0, _, _, _ => .ok []
  | f + 1, note, p, l =>
    match one (l.drop (blanks note l)) with
    | .bad e => .bad e (adv p (l.take (blanks note l)))
    | .tok k n v =>
      if k = 0 then .ok [⟨0, [], 0, adv p (l.take (blanks note l))⟩]
      else (toks f false (adv p (l.take (blanks note l + n))) (l.drop (blanks note l + n))).after [⟨k, (l.drop (blanks note l)).take n, v, adv p (l.take (blanks note l))⟩]

/-! UTF-8 -/
def dec (l : B) : Nat × Nat := Go.Lib.decodeN l.length (l.getD 0 0).toNat (l.getD 1 0).toNat (l.getD 2 0).toNat (l.getD 3 0).toNat
/-- How many bytes the code point has that comes; 0: none does. -/
def point (l : B) : Nat := if dec l = (65533, 1) then 0 else (dec l).2
def vlen : Nat → B → Nat
  | 0, _ => 0
  | f + 1, l => if l = [] ∨ point l = 0 then 0 else point l + vlen f (l.drop (point l))
def whole (l : B) : Res :=
  if l.length > 65536 then .bad 6 ⟨1, 1⟩
  else if vlen (l.length + 1) l < l.length then .bad 3 (adv ⟨1, 1⟩ (l.take (vlen (l.length + 1) l)))
  else toks (l.length + 1) false ⟨1, 1⟩ l
end Go.Proofs.YtdkhkemllmegfaaGreatDoor.Lx


/- Texts that are UTF-8, and where they may be parted. -/
namespace Go.Proofs.YtdkhkemllmegfaaGreatDoor.Lx
open Go.Lib

set_option maxRecDepth 100000 in
set_option maxHeartbeats 4000000 in
theorem decN_facts (n b0 b1 b2 b3 : Nat) (hn : 1 ≤ n) (h0 : b0 < 256) (h1 : b1 < 256) (h2 : b2 < 256) (h3 : b3 < 256) (hne : ¬ decodeN n b0 b1 b2 b3 = (65533, 1)) :
    1 ≤ (decodeN n b0 b1 b2 b3).2 ∧ (decodeN n b0 b1 b2 b3).2 ≤ 4 ∧ (decodeN n b0 b1 b2 b3).2 ≤ n ∧ ¬ (128 ≤ b0 ∧ b0 ≤ 191) ∧ (2 ≤ (decodeN n b0 b1 b2 b3).2 → 128 ≤ b0 ∧ 128 ≤ b1 ∧ b1 ≤ 191)
      ∧ (3 ≤ (decodeN n b0 b1 b2 b3).2 → 128 ≤ b2 ∧ b2 ≤ 191) ∧ (4 ≤ (decodeN n b0 b1 b2 b3).2 → 128 ≤ b3 ∧ b3 ≤ 191) ∧ ((decodeN n b0 b1 b2 b3).1 = 10 ↔ b0 = 10) := by
  revert hne
  unfold decodeN
  repeat' split
  all_goals (intro hne; first | (exact absurd rfl hne) | (refine ⟨?_, ?_, ?_, ?_, ?_, ?_, ?_, ?_⟩ <;> (try simp only) <;> omega))

set_option maxRecDepth 100000 in
set_option maxHeartbeats 4000000 in
theorem decN_part (n m b0 b1 b2 b3 c1 c2 c3 : Nat) (hne : ¬ decodeN n b0 b1 b2 b3 = (65533, 1)) (hm : (decodeN n b0 b1 b2 b3).2 ≤ m)
    (e1 : 2 ≤ (decodeN n b0 b1 b2 b3).2 → c1 = b1) (e2 : 3 ≤ (decodeN n b0 b1 b2 b3).2 → c2 = b2) (e3 : 4 ≤ (decodeN n b0 b1 b2 b3).2 → c3 = b3) :
    decodeN m b0 c1 c2 c3 = decodeN n b0 b1 b2 b3 := by
  revert hne hm e1 e2 e3
  unfold decodeN
  by_cases a0 : b0 < 128
  · simp only [a0, if_true]; intros; trivial
  simp only [a0, if_false]
  by_cases a1 : b0 / 32 = 6
  · have a2 : ¬ b0 / 16 = 14 := by omega
    have a3 : ¬ b0 / 8 = 30 := by omega
    simp only [a1, a2, a3, true_and, false_and, if_false]
    split
    · split
      · intro _ hm e1 _ _
        have g1 := e1 (by simp); clear e1
        subst g1
        have : 1 < m := by simp at hm; omega
        rw [if_pos (by omega), if_pos (by omega)]
      · intro h; exact absurd rfl h
    · intro h; exact absurd rfl h
  by_cases a2 : b0 / 16 = 14
  · have a3 : ¬ b0 / 8 = 30 := by omega
    simp only [a1, a2, a3, true_and, false_and, if_false]
    split
    · split
      · intro _ hm e1 e2 _
        have g1 := e1 (by simp); clear e1
        have g2 := e2 (by simp); clear e2
        subst g1; subst g2
        have : 2 < m := by simp at hm; omega
        rw [if_pos (by omega), if_pos (by assumption)]
      · intro h; exact absurd rfl h
    · intro h; exact absurd rfl h
  by_cases a3 : b0 / 8 = 30
  · simp only [a1, a2, a3, true_and, false_and, if_false]
    split
    · split
      · intro _ hm e1 e2 e3
        have g1 := e1 (by simp); clear e1
        have g2 := e2 (by simp); clear e2
        have g3 := e3 (by simp); clear e3
        subst g1; subst g2; subst g3
        have : 3 < m := by simp at hm; omega
        rw [if_pos (by omega), if_pos (by assumption)]
      · intro h; exact absurd rfl h
    · intro h; exact absurd rfl h
  simp only [a1, a2, a3, false_and, if_false]
  intro h; exact absurd trivial h

theorem getD_lt (l : B) (i : Nat) : (l.getD i 0).toNat < 256 := (l.getD i 0).toNat_lt
theorem cont_iff (c : UInt8) : cont c = true ↔ 128 ≤ c.toNat ∧ c.toNat ≤ 191 := by
  simp only [cont, contZ, Bool.and_eq_true, decide_eq_true_eq]; omega
theorem cont_false {c : UInt8} (h : ¬ (128 ≤ c.toNat ∧ c.toNat ≤ 191)) : cont c = false := by
  cases hc : cont c
  · rfl
  · exact absurd ((cont_iff c).1 hc) h

theorem getD_take (l : B) (m i : Nat) (h : i < m) : (l.take m).getD i 0 = l.getD i 0 := by
  simp only [List.getD_eq_getElem?_getD, List.getElem?_take, h, if_true]

structure PointFacts (l : B) : Prop where
  le4 : point l ≤ 4
  le : point l ≤ l.length
  head : cont (l.getD 0 0) = false
  tail : ∀ i, 1 ≤ i → i < point l → cont (l.getD i 0) = true
  big : 2 ≤ point l → 128 ≤ (l.getD 0 0).toNat
  ten : (dec l).1 = 10 ↔ (l.getD 0 0).toNat = 10
  two : point l = (dec l).2
  part : ∀ m, point l ≤ m → point (l.take m) = point l
theorem point_facts (l : B) (hl : l ≠ []) (hp : 0 < point l) : PointFacts l := by
  have hne : ¬ dec l = (65533, 1) := by intro h; simp [point, h] at hp
  have hn : 1 ≤ l.length := by cases l; exact absurd rfl hl; simp
  have h2 : point l = (dec l).2 := by simp [point, hne]
  have F := decN_facts l.length _ _ _ _ hn (getD_lt l 0) (getD_lt l 1) (getD_lt l 2) (getD_lt l 3) hne
  obtain ⟨f1, f2, f3, f4, f5, f6, f7, f8⟩ := F
  have hd : (dec l).2 = (decodeN l.length (l.getD 0 0).toNat (l.getD 1 0).toNat (l.getD 2 0).toNat (l.getD 3 0).toNat).2 := rfl
  rw [← hd] at f1 f2 f3 f5 f6 f7
  refine ⟨by omega, by omega, cont_false f4, ?_, fun h => (f5 (by omega)).1, f8, h2, ?_⟩
  · intro i i1 i2
    rw [h2] at i2
    refine (cont_iff _).2 ?_
    have : i = 1 ∨ i = 2 ∨ i = 3 := by omega
    rcases this with rfl | rfl | rfl
    · exact (f5 (by omega)).2
    · exact f6 (by omega)
    · exact f7 (by omega)
  · intro m hm
    by_cases hml : l.length ≤ m
    · rw [List.take_of_length_le hml]
    have hlen : (l.take m).length = m := by rw [List.length_take]; omega
    have hE : dec (l.take m) = dec l := by
      show decodeN (l.take m).length _ _ _ _ = decodeN _ _ _ _ _
      rw [hlen, getD_take l m 0 (by omega)]
      refine decN_part _ _ _ _ _ _ _ _ _ hne (by rw [← hd]; omega) (fun h => ?_) (fun h => ?_) (fun h => ?_)
      · rw [← hd] at h; rw [getD_take l m 1 (by omega)]
      · rw [← hd] at h; rw [getD_take l m 2 (by omega)]
      · rw [← hd] at h; rw [getD_take l m 3 (by omega)]
    simp [point, hE]

theorem point_ascii (c : UInt8) (l : B) (h : c.toNat < 128) : point (c :: l) = 1 := by
  have : dec (c :: l) = (c.toNat, 1) := by simp [dec, decodeN, h]
  simp only [point, this]
  rw [if_neg (by simp; omega)]

inductive Valid : B → Prop
  | nil : Valid []
  | step (l : B) (h : l ≠ []) (hp : 0 < point l) (hv : Valid (l.drop (point l))) : Valid l

theorem Valid.pos {l : B} (h : Valid l) (hl : l ≠ []) : 0 < point l := by
  cases h with
  | nil => exact absurd rfl hl
  | step _ _ hp _ => exact hp
theorem Valid.rest {l : B} (h : Valid l) (hl : l ≠ []) : Valid (l.drop (point l)) := by
  cases h with
  | nil => exact absurd rfl hl
  | step _ _ _ hv => exact hv
theorem Valid.tail {c : UInt8} {l : B} (h : Valid (c :: l)) (hc : c.toNat < 128) : Valid l := by
  have := h.rest (by simp)
  rw [point_ascii c l hc] at this
  simpa using this
theorem Valid.ascii {c : UInt8} {l : B} (h : Valid l) (hc : c.toNat < 128) : Valid (c :: l) := by
  refine .step _ (by simp) (by rw [point_ascii c l hc]; omega) ?_
  rw [point_ascii c l hc]; simpa using h
theorem Valid.head {c : UInt8} {l : B} (h : Valid (c :: l)) : cont c = false := by
  simpa using (point_facts _ (by simp) (h.pos (by simp))).head

/-- What is read of a text is UTF-8. -/
theorem vlen_le (f : Nat) (l : B) : vlen f l ≤ l.length := by
  induction f generalizing l with
  | zero => exact Nat.zero_le _
  | succ f ih =>
    unfold vlen
    split
    · exact Nat.zero_le _
    · rename_i h
      simp only [not_or] at h
      have F := point_facts l h.1 (by omega)
      have := ih (l.drop (point l))
      rw [List.length_drop] at this
      have := F.le
      omega
theorem vlen_valid (f : Nat) (l : B) : Valid (l.take (vlen f l)) := by
  induction f generalizing l with
  | zero => exact .nil
  | succ f ih =>
    unfold vlen
    split
    · exact .nil
    · rename_i h
      simp only [not_or] at h
      have F := point_facts l h.1 (by omega)
      have hp := F.part (point l + vlen f (l.drop (point l))) (by omega)
      refine .step _ ?_ (by rw [hp]; omega) ?_
      · intro e
        have hh := congrArg List.length e
        have hle := F.le
        rw [List.length_take, List.length_nil] at hh
        omega
      · rw [hp, List.drop_take]
        simpa using ih (l.drop (point l))
theorem vlen_all {f : Nat} {l : B} (h : ¬ vlen f l < l.length) : Valid l := by
  have := vlen_valid f l
  rwa [List.take_of_length_le (by omega)] at this
/-- Where reading has ended, no code point comes. -/
theorem vlen_end (f : Nat) (l : B) (hf : l.length ≤ f) : l.drop (vlen f l) = [] ∨ point (l.drop (vlen f l)) = 0 := by
  induction f generalizing l with
  | zero => left; have : l = [] := List.eq_nil_of_length_eq_zero (by omega); subst this; rfl
  | succ f ih =>
    unfold vlen
    split
    · rename_i h; simpa using h
    · rename_i h
      simp only [not_or] at h
      have F := point_facts l h.1 (by omega)
      rw [← List.drop_drop]
      exact ih _ (by rw [List.length_drop]; omega)

/-- Behind the blanks a text may be parted. -/
theorem blanks_le (note : Bool) (l : B) : blanks note l ≤ l.length := by
  induction l generalizing note with
  | nil => simp [blanks]
  | cons c l ih =>
    unfold blanks
    have h1 := ih false; have h2 := ih true; have h3 := ih note
    rw [List.length_cons]
    repeat' split
    all_goals omega

theorem blanks_cont (l : B) (k : Nat) (hk : k ≤ l.length) (h : ∀ i, i < k → 128 ≤ (l.getD i 0).toNat) : blanks true l = k + blanks true (l.drop k) := by
  induction k generalizing l with
  | zero => simp
  | succ k ih =>
    cases l with
    | nil => simp at hk
    | cons c l =>
      have h0 : 128 ≤ c.toNat := by simpa using h 0 (by omega)
      have e := ih l (by simpa using hk) (fun i hi => by simpa using h (i + 1) (by omega))
      rw [blanks]
      rw [if_neg (by simp; omega), if_neg (by simp; omega), if_pos (by simp), e]
      simp; omega

theorem Valid.blanks : ∀ (n : Nat) (l : B), l.length ≤ n → Valid l → ∀ note, Valid (l.take (Lx.blanks note l)) ∧ Valid (l.drop (Lx.blanks note l))
  | 0, l, hn, h, note => by
    have : l = [] := List.eq_nil_of_length_eq_zero (by omega)
    subst this; simpa [Lx.blanks] using And.intro Valid.nil Valid.nil
  | n + 1, [], _, _, note => by simpa [Lx.blanks] using And.intro Valid.nil Valid.nil
  | n + 1, c :: l, hn, h, note => by
    have hn' : l.length ≤ n := by simpa using hn
    by_cases hc : c.toNat < 128
    · have ht := h.tail hc
      have go : ∀ b, Valid ((c :: l).take (1 + Lx.blanks b l)) ∧ Valid ((c :: l).drop (1 + Lx.blanks b l)) := fun b => by
        have := Valid.blanks n l hn' ht b
        rw [Nat.add_comm 1, List.take_succ_cons, List.drop_succ_cons]
        exact ⟨this.1.ascii hc, this.2⟩
      unfold Lx.blanks
      split
      · exact go false
      · split
        · exact go true
        · split
          · exact go note
          · simpa using And.intro Valid.nil h
    · have e1 : ((c.toNat : Int) == 10) = false := by simp; omega
      have e2 : ((c.toNat : Int) == 35) = false := by simp; omega
      have e3 : blank c = false := by simp [blank, blankZ]; omega
      cases note with
      | false =>
        have : Lx.blanks false (c :: l) = 0 := by rw [Lx.blanks]; simp [e1, e2, e3]
        rw [this]; exact ⟨.nil, h⟩
      | true =>
        have F := point_facts (c :: l) (by simp) (h.pos (by simp))
        have hk := h.pos (by simp)
        have hb := blanks_cont (c :: l) (point (c :: l)) F.le (fun i hi => by
          rcases Nat.eq_zero_or_pos i with rfl | hi0
          · simp; omega
          · exact ((cont_iff _).1 (F.tail i hi0 hi)).1)
        rw [hb]
        have hr := Valid.blanks n ((c :: l).drop (point (c :: l))) (by rw [List.length_drop]; simp; omega) (h.rest (by simp)) true
        have hp := F.part (point (c :: l) + Lx.blanks true ((c :: l).drop (point (c :: l)))) (by omega)
        refine ⟨.step _ ?_ (by rw [hp]; exact hk) ?_, by rw [← List.drop_drop]; exact hr.2⟩
        · obtain ⟨k, hk'⟩ : ∃ k, point (c :: l) = k + 1 := ⟨point (c :: l) - 1, by omega⟩
          rw [hk', Nat.add_right_comm, List.take_succ_cons]; simp
        · rw [hp, List.drop_take]; simpa using hr.1

/-- The range's way over a text: as many code points as there are. -/
def advR : Nat → Pos → B → Pos
  | 0, p, _ => p
  | f + 1, p, l => if l = [] then p else advR f (if ((dec l).1 : Int) == 10 then ⟨p.line + 1, 1⟩ else ⟨p.line, p.col + 1⟩) (l.drop (dec l).2)

theorem adv_conts (p : Pos) (l : B) (k : Nat) (h : ∀ i, i < k → i < l.length → cont (l.getD i 0) = true) : adv p (l.take k) = p := by
  induction k generalizing l with
  | zero => rfl
  | succ k ih =>
    cases l with
    | nil => rfl
    | cons c l =>
      have h0 : cont c = true := by simpa using h 0 (by omega) (by simp)
      rw [List.take_succ_cons, adv_cons]
      have hs : step p c = p := by
        have := (cont_iff c).1 h0
        rw [step, if_neg (by simp; omega), if_pos h0]
      rw [hs]
      exact ih l (fun i hi hl => by simpa using h (i + 1) (by omega) (by simpa using hl))

theorem adv_point (p : Pos) (l : B) (hl : l ≠ []) (hp : 0 < point l) : adv p (l.take (point l)) = (if ((dec l).1 : Int) == 10 then ⟨p.line + 1, 1⟩ else ⟨p.line, p.col + 1⟩) := by
  have F := point_facts l hl hp
  cases l with
  | nil => exact absurd rfl hl
  | cons c l =>
    obtain ⟨k, hk⟩ : ∃ k, point (c :: l) = k + 1 := ⟨point (c :: l) - 1, by omega⟩
    rw [hk, List.take_succ_cons, adv_cons, adv_conts _ l k (fun i hi _ => by simpa using F.tail (i + 1) (by omega) (by omega))]
    have hh : cont c = false := by simpa using F.head
    have ht := F.ten
    simp only [List.getD_cons_zero] at ht
    unfold step
    by_cases e : c.toNat = 10
    · rw [if_pos (by simp; omega), if_pos (by have := ht.2 e; simp; omega)]
    · rw [if_neg (by simp; omega), if_neg (by simp [hh]), if_neg (by have : ¬ (dec (c :: l)).1 = 10 := fun h => e (ht.1 h); simp; omega)]

theorem advR_eq (f : Nat) (p : Pos) (l : B) (h : Valid l) (hf : l.length ≤ f) : advR f p l = adv p l := by
  induction f generalizing p l with
  | zero => have : l = [] := List.eq_nil_of_length_eq_zero (by omega); subst this; rfl
  | succ f ih =>
    unfold advR
    split
    · rename_i e; subst e; rfl
    · rename_i e
      have hp := h.pos e
      have F := point_facts l e hp
      rw [← F.two, ih _ _ (h.rest e) (by rw [List.length_drop]; omega), ← adv_point p l e hp, ← adv_append, List.take_append_drop]

/-- Behind an ASCII byte a text may be parted. -/
theorem Valid.behind : ∀ (n : Nat) (l : B), l.length ≤ n → Valid l → ∀ i, i < l.length → (l.getD i 0).toNat < 128 → Valid (l.drop (i + 1))
  | 0, l, hn, _, i, hi, _ => by omega
  | n + 1, [], _, _, i, hi, _ => by simp at hi
  | n + 1, c :: l, hn, h, i, hi, ha => by
    have hp := h.pos (by simp)
    have F := point_facts _ (by simp) hp
    by_cases hik : i < point (c :: l)
    · rcases Nat.eq_zero_or_pos i with rfl | hi0
      · simp only [List.getD_cons_zero] at ha
        simpa using h.tail ha
      · have := (cont_iff _).1 (F.tail i hi0 hik); omega
    · have hv := Valid.behind n ((c :: l).drop (point (c :: l))) (by rw [List.length_drop]; omega) (h.rest (by simp)) (i - point (c :: l)) (by rw [List.length_drop]; omega)
        (by simpa [List.getD_eq_getElem?_getD, List.getElem?_drop, Nat.add_sub_of_le (Nat.le_of_not_lt hik)] using ha)
      rw [List.drop_drop] at hv
      have : point (c :: l) + (i - point (c :: l) + 1) = i + 1 := by omega
      rwa [this] at hv
end Go.Proofs.YtdkhkemllmegfaaGreatDoor.Lx
