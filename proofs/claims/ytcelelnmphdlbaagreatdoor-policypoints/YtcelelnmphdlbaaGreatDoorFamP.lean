import Derived.Test.YtcelelnmphdlbaaGreatDoorEx
import Derived.Test.YtcelelnmphdlbaaGreatDoorLLxV
import Derived.WalkKit

/- Policies of tokens, as plain functions: points, orders and attackers; of all else nothing is said. -/
namespace Go.Proofs.YtcelelnmphdlbaaGreatDoor.Py
open Lx (Tok Pos B)
open Ex (S tk at_)

/-- a name, and where it stands -/
structure Nm where
  text : B
  at_ : Pos
def zn : Nm := ⟨[], ⟨0, 0⟩⟩
/-- the policy so far: its points of both kinds, its orders, the attacker's point -/
structure St where
  conf : List Nm
  integ : List Nm
  ord : List (Nm × Nm)
  att : Nm
def st0 : St := ⟨[], [], [], zn⟩
def tx (l : List Nm) : List B := l.map (·.text)
def txx (l : List (Nm × Nm)) : List (B × B) := l.map fun p => (p.1.text, p.2.text)
abbrev wConf : B := [99, 111, 110, 102]
abbrev wInteg : B := [105, 110, 116, 101, 103]
abbrev wOrder : B := [111, 114, 100, 101, 114]
abbrev wAtt : B := [97, 116, 116, 97, 99, 107, 101, 114]

section
variable (ts : List Tok)
def takeO (m : B) (s : S) : Option S := if Ex.is ts s m = true then some s.skip else none
def nameO (s : S) : Option (Nm × S) := if ((tk ts s.p).kind == 1) = true then some (⟨(tk ts s.p).text, at_ ts s⟩, s.skip) else none
/-- one name or more, with commas between them -/
def listO : Nat → List Nm → S → Option (List Nm × S)
  | 0, _, _ => none
  | f + 1, l, s => (nameO ts s).bind fun r => if Ex.is ts r.2 [44] = true then listO f (l ++ [r.1]) r.2.skip else some (l ++ [r.1], r.2)
def pairO (s : S) : Option ((Nm × Nm) × S) := (nameO ts s).bind fun a => (takeO ts [60] a.2).bind fun s1 => (nameO ts s1).bind fun b => some ((a.1, b.1), b.2)
/-- what stands behind an item's first word -/
def restO (n : Nat) (word : B) (g : St) (s : S) : Option (St × S) :=
  if (word == wConf) = true then (listO ts n g.conf s).bind fun r => some (⟨r.1, g.integ, g.ord, g.att⟩, r.2)
  else if (word == wInteg) = true then (listO ts n g.integ s).bind fun r => some (⟨g.conf, r.1, g.ord, g.att⟩, r.2)
  else if (word == wOrder) = true then (pairO ts s).bind fun r => some (⟨g.conf, g.integ, g.ord ++ [r.1], g.att⟩, r.2)
  else if (word == wAtt) = true then (nameO ts s).bind fun r => if (g.att.text == []) = true then some (⟨g.conf, g.integ, g.ord, r.1⟩, r.2) else none
  else none
def itemO (n : Nat) (g : St) (s : S) : Option (St × S) := (takeO ts (tk ts s.p).text s).bind fun s1 => (restO ts n (tk ts s.p).text g s1).bind fun r => (takeO ts [59] r.2).bind fun s3 => some (r.1, s3)
/-- all of them; k: how many there are by now -/
def allO (n : Nat) : Nat → Nat → St → S → Option St
  | 0, _, _, _ => none
  | f + 1, k, g, s =>
    if ((tk ts s.p).kind == 0) = true then (if (g.att.text == []) = true then none else some g)
    else if k = 100 then none
    else (itemO ts n g s).bind fun r => allO n f (k + 1) r.1 r.2
end
end Go.Proofs.YtcelelnmphdlbaaGreatDoor.Py


/- Texts of points, pairs and an attacker, in one line: their tokens, where they begin; read by the plain functions. -/
namespace Go.Proofs.YtcelelnmphdlbaaGreatDoor
open Lx

namespace Lx
/-- its tokens, if it begins there -/
def LexesP (l : B) (p : Pos) (ts : List Tok) : Prop := ∀ f, l.length < f → toks f false p l = .ok ts

theorem lexesP_nil (p : Pos) : LexesP [] p [⟨0, [], 0, p⟩] := fun f hf => by
  cases f with
  | zero => simp at hf
  | succ f => rfl
theorem lexesP_step {l : B} {p q : Pos} {b : Nat} {k : Int} {n : Nat} {v : Int} {x : B} {pb : Pos} {ts : List Tok} (hb : blanks false l = b) (ho : one (l.drop b) = .tok k n v) (hx : (l.drop b).take n = x) (hp : adv p (l.take b) = pb) (hq : adv p (l.take (b + n)) = q) (hk : k ≠ 0) (hn : 0 < n) (hl : n ≤ (l.drop b).length) (hr : LexesP (l.drop (b + n)) q ts) : LexesP l p (⟨k, x, v, pb⟩ :: ts) := fun f hf => by
  cases f with
  | zero => omega
  | succ f =>
    have hl' : (l.drop (b + n)).length < f := by simp at hl ⊢; omega
    have e1 := hr f hl'
    rw [toks, hb, ho]
    simp only [if_neg hk, hx, hp, hq, e1, Res.after, List.singleton_append]
/-- a blank -/
theorem lexesP_sp {l : B} {p : Pos} {ts : List Tok} (h : LexesP l ⟨p.line, p.col + 1⟩ ts) : LexesP (32 :: l) p ts := fun f hf => by
  cases f with
  | zero => omega
  | succ f =>
    have e := h (f + 1) (by simp at hf; omega)
    have hb : blanks false (32 :: l) = blanks false l + 1 := by
      have h1 : blank 32 = true := by kernel_rfl
      rw [blanks, h1]; simp; omega
    rw [toks] at e
    rw [toks, hb]
    have ha : ∀ j, adv p ((32 :: l).take (j + 1)) = adv ⟨p.line, p.col + 1⟩ (l.take j) := fun j => rfl
    simp only [List.drop_succ_cons]
    cases ho : one (l.drop (blanks false l)) with
    | bad c => rw [ho] at e; cases e
    | tok k n v =>
      rw [ho] at e
      simp only at e ⊢
      rw [show blanks false l + 1 + n = (blanks false l + n) + 1 by omega, ha, ha, List.drop_succ_cons]
      exact e
/-- a token, at once -/
theorem lexesP_tok {x r : B} {p q : Pos} {k v : Int} {ts : List Tok} (hb : blanks false (x ++ r) = 0) (ho : one (x ++ r) = .tok k x.length v) (hq : adv p x = q) (hk : k ≠ 0) (hn : 0 < x.length) (hr : LexesP r q ts) : LexesP (x ++ r) p (⟨k, x, v, p⟩ :: ts) :=
  lexesP_step (b := 0) (n := x.length) (q := q) hb ho (by simp) rfl (by simp [hq]) hk hn (by simp) (by simpa using hr)
/-- a text of plain bytes, not too long -/
theorem whole_ofP {l : B} {ts : List Tok} (h : LexesP l ⟨1, 1⟩ ts) (ha : ∀ c ∈ l, c.toNat < 128) (hl : l.length ≤ 65536) : whole l = .ok ts := by
  have e1 := h (l.length + 1) (by omega)
  have hv : ¬ vlen (l.length + 1) l < l.length := fun hlt => by
    rcases vlen_end (l.length + 1) l (by omega) with e | e
    · have := congrArg List.length e; simp at this; omega
    · cases hd : l.drop (vlen (l.length + 1) l) with
      | nil => have := congrArg List.length hd; simp at this; omega
      | cons c r =>
        rw [hd, point_ascii c r (ha c (List.mem_of_mem_drop (by rw [hd]; simp)))] at e
        cases e
  rw [whole, if_neg (by omega), if_neg hv, e1]

/-- a point's name: its kind's letter, and its own -/
def nm (kd : UInt8) (i : Nat) : B := [kd, 95, UInt8.ofNat (97 + i)]
theorem nm_step {kd : UInt8} {i : Nat} (hk : kd = 99 ∨ kd = 105) (hi : i < 9) (p : Pos) : adv p (nm kd i) = ⟨p.line, p.col + 3⟩ := by
  have e : adv p (nm kd i) = ⟨p.line, p.col + 1 + 1 + 1⟩ := by
    obtain rfl | rfl | rfl | rfl | rfl | rfl | rfl | rfl | rfl : i = 0 ∨ i = 1 ∨ i = 2 ∨ i = 3 ∨ i = 4 ∨ i = 5 ∨ i = 6 ∨ i = 7 ∨ i = 8 := by omega
    all_goals rcases hk with rfl | rfl <;> kernel_rfl
  rw [e, show p.col + 1 + 1 + 1 = p.col + 3 by omega]
theorem nm_tok {kd y : UInt8} {i : Nat} (hk : kd = 99 ∨ kd = 105) (hy : y = 59 ∨ y = 32) (hi : i < 9) (r : B) : blanks false (nm kd i ++ y :: r) = 0 ∧ one (nm kd i ++ y :: r) = .tok 1 3 0 := by
  obtain rfl | rfl | rfl | rfl | rfl | rfl | rfl | rfl | rfl : i = 0 ∨ i = 1 ∨ i = 2 ∨ i = 3 ∨ i = 4 ∨ i = 5 ∨ i = 6 ∨ i = 7 ∨ i = 8 := by omega
  all_goals rcases hk with rfl | rfl <;> rcases hy with rfl | rfl <;> exact ⟨by kernel_rfl, by kernel_rfl⟩
theorem nm_ascii {kd : UInt8} {i : Nat} (hk : kd = 99 ∨ kd = 105) (hi : i < 9) : ∀ c ∈ nm kd i, c.toNat < 128 := by
  obtain rfl | rfl | rfl | rfl | rfl | rfl | rfl | rfl | rfl : i = 0 ∨ i = 1 ∨ i = 2 ∨ i = 3 ∨ i = 4 ∨ i = 5 ∨ i = 6 ∨ i = 7 ∨ i = 8 := by omega
  all_goals rcases hk with rfl | rfl <;> decide
theorem lexesP_nm {kd y : UInt8} {i : Nat} {r : B} {p : Pos} {ts : List Tok} (hk : kd = 99 ∨ kd = 105) (hy : y = 59 ∨ y = 32) (hi : i < 9) (hr : LexesP (y :: r) ⟨p.line, p.col + 3⟩ ts) : LexesP (nm kd i ++ y :: r) p (⟨1, nm kd i, 0, p⟩ :: ts) :=
  lexesP_tok (nm_tok hk hy hi r).1 (nm_tok hk hy hi r).2 (nm_step hk hi p) (by decide) (by simp [nm]) hr
theorem lexesP_semi {r : B} {p : Pos} {ts : List Tok} (hr : LexesP r ⟨p.line, p.col + 1⟩ ts) : LexesP (59 :: r) p (⟨4, [59], 0, p⟩ :: ts) :=
  lexesP_tok (x := [59]) rfl rfl rfl (by decide) (by decide) hr

/-- an item -/
inductive It where
  | cf (i : Nat)
  | ig (i : Nat)
  | od (kd : UInt8) (i j : Nat)
def It.ok : It → Prop
  | .cf i => i < 9
  | .ig i => i < 9
  | .od kd i j => (kd = 99 ∨ kd = 105) ∧ i < 9 ∧ j < 9
def It.text : It → B
  | .cf i => [99, 111, 110, 102, 32] ++ nm 99 i ++ [59]
  | .ig i => [105, 110, 116, 101, 103, 32] ++ nm 105 i ++ [59]
  | .od kd i j => [111, 114, 100, 101, 114, 32] ++ nm kd i ++ [32, 60, 32] ++ nm kd j ++ [59]
def It.toks (k : Int) : It → List Tok
  | .cf i => [⟨2, Py.wConf, 0, ⟨1, k⟩⟩, ⟨1, nm 99 i, 0, ⟨1, k + 5⟩⟩, ⟨4, [59], 0, ⟨1, k + 8⟩⟩]
  | .ig i => [⟨2, Py.wInteg, 0, ⟨1, k⟩⟩, ⟨1, nm 105 i, 0, ⟨1, k + 6⟩⟩, ⟨4, [59], 0, ⟨1, k + 9⟩⟩]
  | .od kd i j => [⟨2, Py.wOrder, 0, ⟨1, k⟩⟩, ⟨1, nm kd i, 0, ⟨1, k + 6⟩⟩, ⟨4, [60], 0, ⟨1, k + 10⟩⟩, ⟨1, nm kd j, 0, ⟨1, k + 12⟩⟩, ⟨4, [59], 0, ⟨1, k + 15⟩⟩]
def It.len : It → Int
  | .cf _ => 9
  | .ig _ => 10
  | .od _ _ _ => 16
theorem w_cf (r : B) : one (Py.wConf ++ 32 :: r) = .tok 2 4 0 := by kernel_rfl
theorem w_ig (r : B) : one (Py.wInteg ++ 32 :: r) = .tok 2 5 0 := by kernel_rfl
theorem w_od (r : B) : one (Py.wOrder ++ 32 :: r) = .tok 2 5 0 := by kernel_rfl
theorem w_at (r : B) : one (Py.wAtt ++ 32 :: r) = .tok 2 8 0 := by kernel_rfl
theorem w_lt (r : B) : one ([60] ++ 32 :: r) = .tok 4 1 0 := by kernel_rfl
theorem adv1 (k : Int) {a b : Int} (h : a = b) : (⟨1, a⟩ : Pos) = ⟨1, b⟩ := by rw [h]
theorem lexesP_at {l : B} {p q : Pos} {ts : List Tok} (e : p = q) (h : LexesP l q ts) : LexesP l p ts := e ▸ h
theorem It.lexes (it : It) (h : it.ok) {r : B} {k : Int} {ts : List Tok} (hr : LexesP r ⟨1, k + it.len⟩ ts) : LexesP (it.text ++ r) ⟨1, k⟩ (it.toks k ++ ts) := by
  cases it with
  | cf i =>
    have e : (It.cf i).text ++ r = Py.wConf ++ 32 :: (nm 99 i ++ 59 :: r) := by simp [It.text, nm]
    rw [e]
    refine lexesP_tok rfl (w_cf _) (q := ⟨1, k + 4⟩) (by show (⟨1, k + 1 + 1 + 1 + 1⟩ : Pos) = _; exact adv1 k (by omega)) (by decide) (by decide) ?_
    refine lexesP_sp (lexesP_at (q := ⟨1, k + 5⟩) (adv1 k (by simp only; omega)) (lexesP_nm (.inl rfl) (.inl rfl) h (lexesP_at (q := ⟨1, k + 8⟩) (adv1 k (by simp only; omega)) (lexesP_semi (lexesP_at (adv1 k (by simp only [It.len]; omega)) hr)))))
  | ig i =>
    have e : (It.ig i).text ++ r = Py.wInteg ++ 32 :: (nm 105 i ++ 59 :: r) := by simp [It.text, nm]
    rw [e]
    refine lexesP_tok rfl (w_ig _) (q := ⟨1, k + 5⟩) (by show (⟨1, k + 1 + 1 + 1 + 1 + 1⟩ : Pos) = _; exact adv1 k (by omega)) (by decide) (by decide) ?_
    refine lexesP_sp (lexesP_at (q := ⟨1, k + 6⟩) (adv1 k (by simp only; omega)) (lexesP_nm (.inr rfl) (.inl rfl) h (lexesP_at (q := ⟨1, k + 9⟩) (adv1 k (by simp only; omega)) (lexesP_semi (lexesP_at (adv1 k (by simp only [It.len]; omega)) hr)))))
  | od kd i j =>
    have e : (It.od kd i j).text ++ r = Py.wOrder ++ 32 :: (nm kd i ++ 32 :: ([60] ++ 32 :: (nm kd j ++ 59 :: r))) := by simp [It.text, nm]
    rw [e]
    refine lexesP_tok rfl (w_od _) (q := ⟨1, k + 5⟩) (by show (⟨1, k + 1 + 1 + 1 + 1 + 1⟩ : Pos) = _; exact adv1 k (by omega)) (by decide) (by decide) ?_
    refine lexesP_sp (lexesP_at (q := ⟨1, k + 6⟩) (adv1 k (by simp only; omega)) (lexesP_nm h.1 (.inr rfl) h.2.1 (lexesP_sp (lexesP_at (q := ⟨1, k + 10⟩) (adv1 k (by simp only; omega)) ?_))))
    refine lexesP_tok rfl (w_lt _) (q := ⟨1, k + 11⟩) (by show (⟨1, k + 10 + 1⟩ : Pos) = _; exact adv1 k (by omega)) (by decide) (by decide) ?_
    refine lexesP_sp (lexesP_at (q := ⟨1, k + 12⟩) (adv1 k (by simp only; omega)) (lexesP_nm h.1 (.inl rfl) h.2.2 (lexesP_at (q := ⟨1, k + 15⟩) (adv1 k (by simp only; omega)) (lexesP_semi (lexesP_at (adv1 k (by simp only [It.len]; omega)) hr)))))

/-- the items' text, and the attacker behind them -/
def attText : B := Py.wAtt ++ 32 :: (nm 105 0 ++ [59])
def textOf (l : List It) : B := l.flatMap It.text
def toksOf (k : Int) : List It → List Tok
  | [] => [⟨2, Py.wAtt, 0, ⟨1, k⟩⟩, ⟨1, nm 105 0, 0, ⟨1, k + 9⟩⟩, ⟨4, [59], 0, ⟨1, k + 12⟩⟩, ⟨0, [], 0, ⟨1, k + 13⟩⟩]
  | it :: l => it.toks k ++ toksOf (k + it.len) l
theorem textOf_cons (it : It) (l : List It) : textOf (it :: l) = it.text ++ textOf l := rfl
theorem textOf_append (a b : List It) : textOf (a ++ b) = textOf a ++ textOf b := by simp [textOf]
theorem lexes_its : ∀ (l : List It) (k : Int), (∀ it ∈ l, it.ok) → LexesP (textOf l ++ attText) ⟨1, k⟩ (toksOf k l)
  | [], k, _ => by
    show LexesP (Py.wAtt ++ 32 :: (nm 105 0 ++ [59])) _ _
    refine lexesP_tok rfl (w_at _) (q := ⟨1, k + 8⟩) (by show (⟨1, k + 1 + 1 + 1 + 1 + 1 + 1 + 1 + 1⟩ : Pos) = _; exact adv1 k (by omega)) (by decide) (by decide) ?_
    refine lexesP_sp (lexesP_at (q := ⟨1, k + 9⟩) (adv1 k (by simp only; omega)) (lexesP_nm (.inr rfl) (.inl rfl) (by omega) (lexesP_at (q := ⟨1, k + 12⟩) (adv1 k (by simp only; omega)) (lexesP_semi (lexesP_at (q := ⟨1, k + 13⟩) (adv1 k (by simp only; omega)) (lexesP_nil _))))))
  | it :: l, k, h => by
    rw [textOf_cons, List.append_assoc]
    exact it.lexes (h it (by simp)) (lexes_its l (k + it.len) (fun i hi => h i (by simp [hi])))
theorem It.ascii (it : It) (h : it.ok) : ∀ c ∈ it.text, c.toNat < 128 := by
  have a1 : ∀ c ∈ ([99, 111, 110, 102, 32] : B), c.toNat < 128 := by decide
  have a2 : ∀ c ∈ ([105, 110, 116, 101, 103, 32] : B), c.toNat < 128 := by decide
  have a3 : ∀ c ∈ ([111, 114, 100, 101, 114, 32] : B), c.toNat < 128 := by decide
  have a4 : ∀ c ∈ ([59] : B), c.toNat < 128 := by decide
  have a5 : ∀ c ∈ ([32, 60, 32] : B), c.toNat < 128 := by decide
  intro c hc
  cases it with
  | cf i =>
    rcases List.mem_append.1 hc with hc | hc
    · rcases List.mem_append.1 hc with hc | hc
      · exact a1 c hc
      · exact nm_ascii (.inl rfl) h c hc
    · exact a4 c hc
  | ig i =>
    rcases List.mem_append.1 hc with hc | hc
    · rcases List.mem_append.1 hc with hc | hc
      · exact a2 c hc
      · exact nm_ascii (.inr rfl) h c hc
    · exact a4 c hc
  | od kd i j =>
    rcases List.mem_append.1 hc with hc | hc
    · rcases List.mem_append.1 hc with hc | hc
      · rcases List.mem_append.1 hc with hc | hc
        · rcases List.mem_append.1 hc with hc | hc
          · exact a3 c hc
          · exact nm_ascii h.1 h.2.1 c hc
        · exact a5 c hc
      · exact nm_ascii h.1 h.2.2 c hc
    · exact a4 c hc
theorem It.size (it : It) : it.text.length ≤ 16 := by cases it <;> simp [It.text, nm]
theorem textOf_size : ∀ l : List It, (textOf l).length ≤ 16 * l.length
  | [] => by simp [textOf]
  | it :: l => by
    have := textOf_size l; have := it.size
    rw [textOf_cons, List.length_append, List.length_cons]; omega
theorem whole_its (l : List It) (h : ∀ it ∈ l, it.ok) (hl : l.length ≤ 200) : whole (textOf l ++ attText) = .ok (toksOf 1 l) := by
  refine whole_ofP (lexes_its l 1 h) ?_ ?_
  · intro c hc
    rcases List.mem_append.1 hc with hc | hc
    · obtain ⟨it, hi, hc⟩ := List.mem_flatMap.1 hc
      exact it.ascii (h it hi) c hc
    · have a : ∀ c ∈ attText, c.toNat < 128 := by decide
      exact a c hc
  · have := textOf_size l
    rw [List.length_append, show attText.length = 13 from rfl]; omega
end Lx
end Go.Proofs.YtcelelnmphdlbaaGreatDoor


/- What the plain functions read of such texts. -/
namespace Go.Proofs.YtcelelnmphdlbaaGreatDoor.Py
open Lx (Tok Pos B It toksOf nm)
open Ex (S tk at_)

theorem getD_drop {α : Type} (l : List α) (p i : Nat) (z : α) : (l.drop p).getD i z = l.getD (p + i) z := by
  rw [List.getD_eq_getElem?_getD, List.getD_eq_getElem?_getD, List.getElem?_drop]
section
variable {ts : List Tok}
/-- these tokens come from p on -/
def At (ts : List Tok) (p : Nat) (us : List Tok) : Prop := ts.drop p = us
theorem At.tk {p : Nat} {us : List Tok} (h : At ts p us) (i : Nat) : tk ts (p + i) = us.getD i Ex.zt := by
  unfold At at h; subst h; exact (getD_drop ts p i Ex.zt).symm
theorem At.app {p : Nat} {a us : List Tok} (h : At ts p (a ++ us)) : At ts (p + a.length) us := by
  unfold At at *
  rw [← List.drop_drop, h]; simp
theorem is_of {s : S} {t : Tok} (h : tk ts s.p = t) (m : B) : Ex.is ts s m = Ex.isT t m := by rw [Ex.is, h]
theorem name_of {s : S} {x : B} {v : Int} {p : Pos} (h : tk ts s.p = ⟨1, x, v, p⟩) : nameO ts s = some (⟨x, p⟩, s.skip) := by
  rw [nameO, h, at_, h]; rfl
theorem take_of {s : S} {k v : Int} {x : B} {p : Pos} (h : tk ts s.p = ⟨k, x, v, p⟩) (hk : k = 2 ∨ k = 4) : takeO ts x s = some s.skip := by
  rw [takeO, is_of h, if_pos]
  rcases hk with rfl | rfl <;> simp [Ex.isT]
/-- the policy with an item -/
def put (k : Int) (g : St) : It → St
  | .cf i => ⟨g.conf ++ [⟨nm 99 i, ⟨1, k + 5⟩⟩], g.integ, g.ord, g.att⟩
  | .ig i => ⟨g.conf, g.integ ++ [⟨nm 105 i, ⟨1, k + 6⟩⟩], g.ord, g.att⟩
  | .od kd i j => ⟨g.conf, g.integ, g.ord ++ [(⟨nm kd i, ⟨1, k + 6⟩⟩, ⟨nm kd j, ⟨1, k + 12⟩⟩)], g.att⟩
def cnt : It → Nat
  | .od _ _ _ => 5
  | _ => 3
theorem toks_len (it : It) (k : Int) : (it.toks k).length = cnt it := by cases it <;> rfl
theorem item_of {p : Nat} {ns : List Tn.Nd} {us : List Tok} {k : Int} {n : Nat} (it : It) (g : St) (h : At ts p (it.toks k ++ us)) : itemO ts (n + 1) g ⟨p, ns⟩ = some (put k g it, ⟨p + cnt it, ns⟩) := by
  cases it with
  | cf i =>
    have h0 : tk ts p = ⟨2, wConf, 0, ⟨1, k⟩⟩ := h.tk 0
    have h1 : tk ts (p + 1) = ⟨1, nm 99 i, 0, ⟨1, k + 5⟩⟩ := h.tk 1
    have h2 : tk ts (p + 2) = ⟨4, [59], 0, ⟨1, k + 8⟩⟩ := h.tk 2
    have e1 : listO ts (n + 1) g.conf ⟨p + 1, ns⟩ = some (g.conf ++ [⟨nm 99 i, ⟨1, k + 5⟩⟩], ⟨p + 2, ns⟩) := by
      rw [listO, name_of (s := ⟨p + 1, ns⟩) h1, Option.bind_some]
      show (if Ex.is ts ⟨p + 2, ns⟩ [44] = true then _ else some (_, (⟨p + 2, ns⟩ : S))) = _
      rw [is_of (s := ⟨p + 2, ns⟩) h2, if_neg (by simp [Ex.isT])]
    rw [itemO, show (⟨p, ns⟩ : S).p = p from rfl, h0, take_of (s := ⟨p, ns⟩) h0 (.inl rfl), Option.bind_some, restO, if_pos (by rfl), show S.skip ⟨p, ns⟩ = ⟨p + 1, ns⟩ from rfl, e1, Option.bind_some, Option.bind_some, take_of (s := ⟨p + 2, ns⟩) h2 (.inr rfl)]
    rfl
  | ig i =>
    have h0 : tk ts p = ⟨2, wInteg, 0, ⟨1, k⟩⟩ := h.tk 0
    have h1 : tk ts (p + 1) = ⟨1, nm 105 i, 0, ⟨1, k + 6⟩⟩ := h.tk 1
    have h2 : tk ts (p + 2) = ⟨4, [59], 0, ⟨1, k + 9⟩⟩ := h.tk 2
    have e1 : listO ts (n + 1) g.integ ⟨p + 1, ns⟩ = some (g.integ ++ [⟨nm 105 i, ⟨1, k + 6⟩⟩], ⟨p + 2, ns⟩) := by
      rw [listO, name_of (s := ⟨p + 1, ns⟩) h1, Option.bind_some]
      show (if Ex.is ts ⟨p + 2, ns⟩ [44] = true then _ else some (_, (⟨p + 2, ns⟩ : S))) = _
      rw [is_of (s := ⟨p + 2, ns⟩) h2, if_neg (by simp [Ex.isT])]
    rw [itemO, show (⟨p, ns⟩ : S).p = p from rfl, h0, take_of (s := ⟨p, ns⟩) h0 (.inl rfl), Option.bind_some, restO, if_neg (by show ¬ (wInteg == wConf) = true; decide), if_pos (by rfl), show S.skip ⟨p, ns⟩ = ⟨p + 1, ns⟩ from rfl, e1, Option.bind_some, Option.bind_some, take_of (s := ⟨p + 2, ns⟩) h2 (.inr rfl)]
    rfl
  | od kd i j =>
    have h0 : tk ts p = ⟨2, wOrder, 0, ⟨1, k⟩⟩ := h.tk 0
    have h1 : tk ts (p + 1) = ⟨1, nm kd i, 0, ⟨1, k + 6⟩⟩ := h.tk 1
    have h2 : tk ts (p + 2) = ⟨4, [60], 0, ⟨1, k + 10⟩⟩ := h.tk 2
    have h3 : tk ts (p + 3) = ⟨1, nm kd j, 0, ⟨1, k + 12⟩⟩ := h.tk 3
    have h4 : tk ts (p + 4) = ⟨4, [59], 0, ⟨1, k + 15⟩⟩ := h.tk 4
    have e1 : pairO ts ⟨p + 1, ns⟩ = some ((⟨nm kd i, ⟨1, k + 6⟩⟩, ⟨nm kd j, ⟨1, k + 12⟩⟩), ⟨p + 4, ns⟩) := by
      rw [pairO, name_of (s := ⟨p + 1, ns⟩) h1, Option.bind_some, show (S.skip ⟨p + 1, ns⟩) = ⟨p + 2, ns⟩ from rfl, take_of (s := ⟨p + 2, ns⟩) h2 (.inr rfl), Option.bind_some, show (S.skip ⟨p + 2, ns⟩) = ⟨p + 3, ns⟩ from rfl, name_of (s := ⟨p + 3, ns⟩) h3]
      rfl
    rw [itemO, show (⟨p, ns⟩ : S).p = p from rfl, h0, take_of (s := ⟨p, ns⟩) h0 (.inl rfl), Option.bind_some, restO, if_neg (by show ¬ (wOrder == wConf) = true; decide), if_neg (by show ¬ (wOrder == wInteg) = true; decide), if_pos (by rfl), show S.skip ⟨p, ns⟩ = ⟨p + 1, ns⟩ from rfl, e1, Option.bind_some, Option.bind_some, take_of (s := ⟨p + 4, ns⟩) h4 (.inr rfl)]
    rfl
theorem item_att {p : Nat} {ns : List Tn.Nd} {k : Int} {n : Nat} {g : St} (hg : g.att.text = []) (h : At ts p (toksOf k [])) : itemO ts n g ⟨p, ns⟩ = some (⟨g.conf, g.integ, g.ord, ⟨nm 105 0, ⟨1, k + 9⟩⟩⟩, ⟨p + 3, ns⟩) := by
  have h0 : tk ts p = ⟨2, wAtt, 0, ⟨1, k⟩⟩ := h.tk 0
  have h1 : tk ts (p + 1) = ⟨1, nm 105 0, 0, ⟨1, k + 9⟩⟩ := h.tk 1
  have h2 : tk ts (p + 2) = ⟨4, [59], 0, ⟨1, k + 12⟩⟩ := h.tk 2
  rw [itemO, show (⟨p, ns⟩ : S).p = p from rfl, h0, take_of (s := ⟨p, ns⟩) h0 (.inl rfl), Option.bind_some, restO, if_neg (by show ¬ (wAtt == wConf) = true; decide), if_neg (by show ¬ (wAtt == wInteg) = true; decide), if_neg (by show ¬ (wAtt == wOrder) = true; decide), if_pos (by rfl), show S.skip ⟨p, ns⟩ = ⟨p + 1, ns⟩ from rfl, name_of (s := ⟨p + 1, ns⟩) h1, Option.bind_some, if_pos (by rw [hg]; rfl), Option.bind_some, show (S.skip ⟨p + 1, ns⟩) = ⟨p + 2, ns⟩ from rfl, take_of (s := ⟨p + 2, ns⟩) h2 (.inr rfl)]
  rfl
/-- all items, and the attacker -/
def run (k : Int) (g : St) : List It → St
  | [] => ⟨g.conf, g.integ, g.ord, ⟨nm 105 0, ⟨1, k + 9⟩⟩⟩
  | it :: l => run (k + it.len) (put k g it) l
theorem put_att (k : Int) (g : St) (it : It) : (put k g it).att = g.att := by cases it <;> rfl
theorem it_kind (it : It) (k : Int) (us : List Tok) : (((it.toks k ++ us).getD 0 Ex.zt).kind == 0) = false := by cases it <;> rfl
theorem all_of {n : Nat} {ns : List Tn.Nd} : ∀ (l : List It) (f c p : Nat) (k : Int) (g : St), At ts p (toksOf k l) → c + l.length < 100 → l.length + 1 < f → g.att.text = [] → allO ts (n + 1) f c g ⟨p, ns⟩ = some (run k g l)
  | [], f + 2, c, p, k, g, h, hc, hf, hg => by
    have h0 : tk ts p = ⟨2, wAtt, 0, ⟨1, k⟩⟩ := h.tk 0
    have h3 : tk ts (p + 3) = ⟨0, [], 0, ⟨1, k + 13⟩⟩ := h.tk 3
    rw [allO, show (⟨p, ns⟩ : S).p = p from rfl, h0, if_neg (by show ¬ ((2 : Int) == 0) = true; decide), if_neg (by simp at hc; omega), item_att hg h, Option.bind_some, allO]
    show (if ((tk ts (p + 3)).kind == 0) = true then _ else _) = _
    rw [h3, if_pos (by rfl), if_neg (by show ¬ (nm 105 0 == []) = true; decide)]
    rfl
  | it :: l, f + 1, c, p, k, g, h, hc, hf, hg => by
    have h0 := h.tk 0
    have hl : c + (l.length + 1) < 100 := hc
    have ha := At.app (a := it.toks k) h
    rw [toks_len] at ha
    rw [allO, show (⟨p, ns⟩ : S).p = p + 0 from rfl, h0, if_neg (by rw [toksOf, it_kind]; decide), if_neg (by omega), item_of it g h, Option.bind_some]
    exact all_of l f (c + 1) (p + cnt it) (k + it.len) (put k g it) ha (by omega) (by simp at hf; omega) (by rw [put_att]; exact hg)
  | [], 0, _, _, _, _, _, _, hf, _ => by simp at hf
  | [], 1, _, _, _, _, _, _, hf, _ => by simp at hf
  | _ :: _, 0, _, _, _, _, _, _, hf, _ => by simp at hf

/-- the points and pairs among some items -/
def confs : List It → List B
  | [] => []
  | .cf i :: l => nm 99 i :: confs l
  | _ :: l => confs l
def integs : List It → List B
  | [] => []
  | .ig i :: l => nm 105 i :: integs l
  | _ :: l => integs l
def pairs : List It → List (B × B)
  | [] => []
  | .od kd i j :: l => (nm kd i, nm kd j) :: pairs l
  | _ :: l => pairs l
theorem run_conf : ∀ (l : List It) (k : Int) (g : St), tx (run k g l).conf = tx g.conf ++ confs l
  | [], k, g => by simp [run, confs]
  | it :: l, k, g => by rw [run, run_conf l]; cases it <;> simp [put, confs, tx]
theorem run_integ : ∀ (l : List It) (k : Int) (g : St), tx (run k g l).integ = tx g.integ ++ integs l
  | [], k, g => by simp [run, integs]
  | it :: l, k, g => by rw [run, run_integ l]; cases it <;> simp [put, integs, tx]
theorem run_ord : ∀ (l : List It) (k : Int) (g : St), txx (run k g l).ord = txx g.ord ++ pairs l
  | [], k, g => by simp [run, pairs]
  | it :: l, k, g => by rw [run, run_ord l]; cases it <;> simp [put, pairs, txx]
theorem run_att : ∀ (l : List It) (k : Int) (g : St), (run k g l).att.text = nm 105 0
  | [], k, g => rfl
  | it :: l, k, g => by rw [run, run_att l]
end
end Go.Proofs.YtcelelnmphdlbaaGreatDoor.Py
