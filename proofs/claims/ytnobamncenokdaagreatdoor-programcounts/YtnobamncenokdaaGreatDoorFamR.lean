import Derived.Test.YtnobamncenokdaaGreatDoorEx
import Derived.Test.YtnobamncenokdaaGreatDoorLFloat
import Derived.Test.YtnobamncenokdaaGreatDoorLLxV

/- Programs of tokens, as plain functions: inputs, exceptions and mains; of the other declarations nothing is said. -/
namespace Go.Proofs.YtnobamncenokdaaGreatDoor.Pg
open Lx (Tok Pos B)
open Ex (S Res tk at_ take wrong rec_)

/-- a name, and where it stands -/
structure Nm where
  text : B
  at_ : Pos
def zn : Nm := ⟨[], ⟨0, 0⟩⟩
/-- a declaration: its name, its points, its number -/
structure Dc where
  name : Nm
  conf : Nm
  integ : Nm
  int : Int
/-- the program so far: its inputs, its exceptions; the main's name, where it stands, its expression -/
structure St where
  ins : List Dc
  exns : List Dc
  mt : B
  mp : Pos
  mb : Nat
def st0 : St := ⟨[], [], [], ⟨0, 0⟩, 0⟩
abbrev wMain : B := [109, 97, 105, 110]
abbrev wInput : B := [105, 110, 112, 117, 116]
abbrev wExn : B := [101, 120, 99, 101, 112, 116, 105, 111, 110]

/-- it went well, with this; or that is wrong, there, with that name; or nothing is said -/
inductive R (α : Type) where
  | ok (a : α) (s : S)
  | bad (c : Int) (p : Pos) (n : B)
  | out
def R.bind {α β : Type} (r : R α) (f : α → S → R β) : R β := match r with
  | .ok a s => f a s
  | .bad c p n => .bad c p n
  | .out => .out
def lift {α : Type} : Res α → R α
  | .ok a s => .ok a s
  | .bad c p => .bad c p []
  | .out => .out

section
variable (ts : List Tok)
def takes : List B → S → Res Unit
  | [], s => .ok () s
  | m :: l, s => (take ts m s).bind fun _ s1 => takes l s1
def nameAt (before : List B) (s : S) : Res Nm := (takes ts before s).bind fun _ s1 => if ((tk ts s1.p).kind == 1) = true then .ok ⟨(tk ts s1.p).text, at_ ts s1⟩ s1.skip else wrong ts 5 s1
def points (n : Nm) (s : S) : Res Dc := (nameAt ts [[58], [123]] s).bind fun c s1 => (nameAt ts [] s1).bind fun i s2 => (take ts [125] s2).bind fun _ s3 => .ok ⟨n, c, i, 0⟩ s3
def decl0 (word : B) (s : S) : Res Dc := (nameAt ts [word] s).bind fun n s1 => .ok ⟨n, zn, zn, 0⟩ s1
def declP (word : B) (s : S) : Res Dc := (nameAt ts [word] s).bind (points ts)
def bodyF (n : Nat) (s : S) : Res Nat := (take ts [61] s).bind fun _ s1 => rec_ ts n .all 0 s1
def mainF (n : Nat) (s : S) : Res Nat := (take ts wMain s).bind fun _ s1 => bodyF ts n s1
/-- one declaration -/
def one (n : Nat) (g : St) (s : S) : R St :=
  if ((tk ts s.p).text == wExn) = true then (lift (decl0 ts wExn s)).bind fun d s1 => .ok ⟨g.ins, g.exns ++ [d], g.mt, g.mp, g.mb⟩ s1
  else if ((tk ts s.p).text == wInput) = true then (lift (declP ts wInput s)).bind fun d s1 => .ok ⟨g.ins ++ [d], g.exns, g.mt, g.mp, g.mb⟩ s1
  else if ((tk ts s.p).text == wMain) = true then (if (g.mt == wMain) = true then .bad 8 (at_ ts s) wMain else (lift (mainF ts n s)).bind fun i s1 => .ok ⟨g.ins, g.exns, wMain, at_ ts s, i⟩ s1)
  else .out
/-- all of them; k: how many there are by now -/
def all (n : Nat) : Nat → Nat → St → S → R St
  | 0, _, _, _ => .out
  | f + 1, k, g, s =>
    if ((tk ts s.p).kind == 0) = true then (if (g.mt == wMain) = true then .ok g s else .bad 16 (at_ ts s) wMain)
    else if k = 100 then .bad 6 (at_ ts s) []
    else (one ts n g s).bind fun g1 s1 => (lift (take ts [59] s1)).bind fun _ s2 => all n f (k + 1) g1 s2
end
end Go.Proofs.YtnobamncenokdaaGreatDoor.Pg


/- A text of so many exceptions, and so many mains, line by line: its tokens, where they begin; read by the plain functions. -/
namespace Go.Proofs.YtnobamncenokdaaGreatDoor
open Lx

namespace Lx
/-- its tokens, if it begins there -/
def LexesP (l : B) (p : Pos) (ts : List Tok) : Prop := ∀ f, l.length < f → toks f false p l = .ok ts

theorem lexesP_nil (p : Pos) : LexesP [] p [⟨0, [], 0, p⟩] := fun f hf => by
  cases f with
  | zero => simp at hf
  | succ f => rfl
theorem lexesP_step {l : B} {p q : Pos} {b : Nat} {k : Int} {n : Nat} {v : Int} {x : B} {pb : Pos} {ts : List Tok} (hb : blanks false l = b) (ho : one (l.drop b) = .tok k n v) (hx : (l.drop b).take n = x) (hp : adv p (l.take b) = pb) (hq : adv p (l.take (b + n)) = q) (hk : k ≠ 0) (hn : 0 < n) (hl : n ≤ (l.drop b).length) (hr : LexesP (l.drop (b + n)) q ts) : LexesP l p (⟨k, x, v, pb⟩ :: ts) := fun f hf => by
  cases f with
  | zero => omega
  | succ f =>
    have hl' : (l.drop (b + n)).length < f := by simp at hl ⊢; omega
    have e1 := hr f hl'
    rw [toks, hb, ho]
    simp only [if_neg hk, hx, hp, hq, e1, Res.after, List.singleton_append]
/-- a line's end -/
theorem lexesP_nl {l : B} {p : Pos} {ts : List Tok} (h : LexesP l ⟨p.line + 1, 1⟩ ts) : LexesP (10 :: l) p ts := fun f hf => by
  cases f with
  | zero => omega
  | succ f =>
    have e := h (f + 1) (by simp at hf; omega)
    have hb : blanks false (10 :: l) = blanks false l + 1 := by rw [blanks]; simp; omega
    rw [toks] at e
    rw [toks, hb]
    have ha : ∀ j, adv p ((10 :: l).take (j + 1)) = adv ⟨p.line + 1, 1⟩ (l.take j) := fun j => rfl
    simp only [List.drop_succ_cons]
    cases ho : one (l.drop (blanks false l)) with
    | bad c => rw [ho] at e; cases e
    | tok k n v =>
      rw [ho] at e
      simp only at e ⊢
      rw [show blanks false l + 1 + n = (blanks false l + n) + 1 by omega, ha, ha, List.drop_succ_cons]
      exact e

abbrev lEx : B := [101, 120, 99, 101, 112, 116, 105, 111, 110, 32, 69, 59, 10]
abbrev lMn : B := [109, 97, 105, 110, 32, 61, 32, 49, 59, 10]
def tEx (k : Int) : List Tok := [⟨2, [101, 120, 99, 101, 112, 116, 105, 111, 110], 0, ⟨k, 1⟩⟩, ⟨1, [69], 0, ⟨k, 11⟩⟩, ⟨4, [59], 0, ⟨k, 12⟩⟩]
def tMn (k : Int) : List Tok := [⟨2, [109, 97, 105, 110], 0, ⟨k, 1⟩⟩, ⟨4, [61], 0, ⟨k, 6⟩⟩, ⟨3, [49], 1, ⟨k, 8⟩⟩, ⟨4, [59], 0, ⟨k, 9⟩⟩]

theorem o_ex (r : B) : one (lEx ++ r) = .tok 2 9 0 := by kernel_rfl
theorem o_mn (r : B) : one (lMn ++ r) = .tok 2 4 0 := by kernel_rfl
theorem lexesP_ex {r : B} {k : Int} {ts : List Tok} (h : LexesP r ⟨k + 1, 1⟩ ts) : LexesP (lEx ++ r) ⟨k, 1⟩ (tEx k ++ ts) :=
  lexesP_step (b := 0) (n := 9) (v := 0) rfl (o_ex r) rfl rfl rfl (by decide) (by decide) (by simp) <|
  lexesP_step (b := 1) (n := 1) (v := 0) rfl rfl rfl rfl rfl (by decide) (by decide) (by simp) <|
  lexesP_step (b := 0) (n := 1) (v := 0) rfl rfl rfl rfl rfl (by decide) (by decide) (by simp) <|
  lexesP_nl (p := ⟨k, 13⟩) h
theorem lexesP_mn {r : B} {k : Int} {ts : List Tok} (h : LexesP r ⟨k + 1, 1⟩ ts) : LexesP (lMn ++ r) ⟨k, 1⟩ (tMn k ++ ts) :=
  lexesP_step (b := 0) (n := 4) (v := 0) rfl (o_mn r) rfl rfl rfl (by decide) (by decide) (by simp) <|
  lexesP_step (b := 1) (n := 1) (v := 0) rfl rfl rfl rfl rfl (by decide) (by decide) (by simp) <|
  lexesP_step (b := 1) (n := 1) (v := 1) rfl rfl rfl rfl rfl (by decide) (by decide) (by simp) <|
  lexesP_step (b := 0) (n := 1) (v := 0) rfl rfl rfl rfl rfl (by decide) (by decide) (by simp) <|
  lexesP_nl (p := ⟨k, 10⟩) h

/-- so many lines of mains -/
def xMn : Nat → B
  | 0 => []
  | m + 1 => lMn ++ xMn m
def xEx (m : Nat) : Nat → B
  | 0 => xMn m
  | n + 1 => lEx ++ xEx m n
def yMn (k : Int) : Nat → List Tok
  | 0 => [⟨0, [], 0, ⟨k, 1⟩⟩]
  | m + 1 => tMn k ++ yMn (k + 1) m
def yEx (m : Nat) (k : Int) : Nat → List Tok
  | 0 => yMn k m
  | n + 1 => tEx k ++ yEx m (k + 1) n
theorem lexes_mn : ∀ (m : Nat) (k : Int), LexesP (xMn m) ⟨k, 1⟩ (yMn k m)
  | 0, k => lexesP_nil _
  | m + 1, k => lexesP_mn (lexes_mn m (k + 1))
theorem lexes_ex (m : Nat) : ∀ (n : Nat) (k : Int), LexesP (xEx m n) ⟨k, 1⟩ (yEx m k n)
  | 0, k => lexes_mn m k
  | n + 1, k => lexesP_ex (lexes_ex m n (k + 1))
theorem lMn_ascii : ∀ c ∈ lMn, c.toNat < 128 := by decide
theorem lEx_ascii : ∀ c ∈ lEx, c.toNat < 128 := by decide
theorem xMn_ascii : ∀ m, ∀ c ∈ xMn m, c.toNat < 128
  | 0 => by simp [xMn]
  | m + 1 => by
    intro c hc
    rcases List.mem_append.1 hc with h | h
    · exact lMn_ascii c h
    · exact xMn_ascii m c h
theorem xEx_ascii (m : Nat) : ∀ n, ∀ c ∈ xEx m n, c.toNat < 128
  | 0 => xMn_ascii m
  | n + 1 => by
    intro c hc
    rcases List.mem_append.1 hc with h | h
    · exact lEx_ascii c h
    · exact xEx_ascii m n c h
theorem xMn_len : ∀ m, (xMn m).length = 10 * m
  | 0 => rfl
  | m + 1 => by rw [xMn, List.length_append, xMn_len m]; simp; omega
theorem xEx_len (m : Nat) : ∀ n, (xEx m n).length = 13 * n + 10 * m
  | 0 => by rw [xEx, xMn_len]; omega
  | n + 1 => by rw [xEx, List.length_append, xEx_len m n]; simp; omega
/-- a text of plain bytes, not too long -/
theorem whole_ofP {l : B} {ts : List Tok} (h : LexesP l ⟨1, 1⟩ ts) (ha : ∀ c ∈ l, c.toNat < 128) (hl : l.length ≤ 65536) : whole l = .ok ts := by
  have e1 := h (l.length + 1) (by omega)
  have hv : ¬ vlen (l.length + 1) l < l.length := fun hlt => by
    rcases vlen_end (l.length + 1) l (by omega) with e | e
    · have := congrArg List.length e; simp at this; omega
    · cases hd : l.drop (vlen (l.length + 1) l) with
      | nil => have := congrArg List.length hd; simp at this; omega
      | cons c r =>
        rw [hd, point_ascii c r (ha c (List.mem_of_mem_drop (by rw [hd]; simp)))] at e
        cases e
  rw [whole, if_neg (by omega), if_neg hv, e1]
theorem whole_fam (n m : Nat) (hn : n ≤ 255) (hm : m ≤ 3) : whole (xEx m n) = .ok (yEx m 1 n) :=
  whole_ofP (lexes_ex m n 1) (xEx_ascii m n) (by rw [xEx_len]; omega)
end Lx
end Go.Proofs.YtnobamncenokdaaGreatDoor


/- So many exceptions, and so many mains, as the plain functions read them. -/
namespace Go.Proofs.YtnobamncenokdaaGreatDoor.Pg
open Lx (Tok Pos B tEx tMn yEx yMn)
open Ex (S Res tk at_ take wrong rec_ is isT begins chain chainLoop allF itemsLoop seqs zt)

section
variable {ts : List Tok}
theorem chain_one {m : Nat} {part : Ex.Part} {ms : List B} {s s' : S} {i : Nat} (h : part s = .ok i s') (hm : ∀ x ∈ ms, is ts s' x = false) : chain ts (m + 1) part ms s = .ok i s' := by
  rw [chain, h, Res.bind, chainLoop, if_neg]
  rw [Bool.not_eq_true, List.any_eq_false]
  intro x hx; rw [hm x hx]; simp
theorem is_tok {s : S} {t : Tok} (h : tk ts s.p = t) (m : B) : is ts s m = isT t m := by rw [is, h]
theorem unary_step (n d : Nat) (s : S) : rec_ ts (n + 1) .unary d s = (Ex.enter ts d s).bind fun d1 s1 => Ex.unaryF ts n (rec_ ts n) d1 s1 := rfl
theorem item_step (n d : Nat) (s : S) : rec_ ts (n + 1) .item d s = (Ex.enter ts d s).bind fun d1 s1 => Ex.itemF ts (rec_ ts n) d1 s1 := rfl
/-- a number, and a mark behind it that ends the expression -/
theorem rec_num {n : Nat} {s : S} {v : Int} {x : B} {p q : Pos} (h0 : tk ts s.p = ⟨3, x, v, p⟩) (h1 : tk ts (s.p + 1) = ⟨4, [59], 0, q⟩) (hb : begins (tk ts (s.p + 2)) = false) (hl : s.ns.length < 4000) :
    ∃ d, rec_ ts (n + 8) .all 0 s = .ok s.ns.length ⟨s.p + 1, s.ns ++ [d]⟩ := by
  obtain ⟨d, hd⟩ : ∃ d : Tn.Nd, d = ⟨Ex.bt [105, 110, 116], p.line, p.col, Ex.bt [], v, []⟩ := ⟨_, rfl⟩
  refine ⟨d, ?_⟩
  have his : ∀ m, is ts ⟨s.p + 1, s.ns ++ [d]⟩ m = isT ⟨4, [59], 0, q⟩ m := fun m => is_tok h1 m
  have e1 : rec_ ts (n + 1) .unary 1 s = .ok s.ns.length ⟨s.p + 1, s.ns ++ [d]⟩ := by
    rw [unary_step, Ex.enter, if_neg (by omega), Res.bind, Ex.unaryF, if_pos (by rw [h0]; rfl), Ex.addN, if_pos (by rfl), if_neg (by simp [S.skip]; omega), hd]
    simp [S.skip, at_, h0]
  have e2 : rec_ ts (n + 2) .times 1 s = .ok s.ns.length ⟨s.p + 1, s.ns ++ [d]⟩ := chain_one e1 (by simp only [List.mem_singleton]; rintro x rfl; rw [his]; rfl)
  have e3 : rec_ ts (n + 3) .sum 1 s = .ok s.ns.length ⟨s.p + 1, s.ns ++ [d]⟩ := chain_one e2 (by
    simp only [List.mem_cons, List.not_mem_nil, or_false]
    rintro x (rfl | rfl) <;> (rw [his]; rfl))
  have e4 : rec_ ts (n + 4) .test 1 s = .ok s.ns.length ⟨s.p + 1, s.ns ++ [d]⟩ := by
    show Ex.testF ts (rec_ ts (n + 3)) 1 s = _
    rw [Ex.testF, e3, Res.bind, his, his]; rfl
  have e5 : rec_ ts (n + 5) .and 1 s = .ok s.ns.length ⟨s.p + 1, s.ns ++ [d]⟩ := chain_one e4 (by simp only [List.mem_singleton]; rintro x rfl; rw [his]; rfl)
  have e6 : rec_ ts (n + 6) .or 1 s = .ok s.ns.length ⟨s.p + 1, s.ns ++ [d]⟩ := chain_one e5 (by simp only [List.mem_singleton]; rintro x rfl; rw [his]; rfl)
  have e7 : rec_ ts (n + 7) .item 0 s = .ok s.ns.length ⟨s.p + 1, s.ns ++ [d]⟩ := by
    rw [item_step, Ex.enter, if_neg (by omega), Res.bind, Ex.itemF]
    have hi : ∀ m, is ts s m = false := fun m => by rw [is_tok h0]; rfl
    simp only [hi, h0, show ((3 : Int) == 1) = false from rfl, Bool.false_eq_true, Bool.false_and, if_false]
    exact e6
  show allF ts (n + 7) (rec_ ts (n + 7) .item 0) s = _
  rw [allF, e7, Res.bind, itemsLoop, if_neg (by rw [his]; show ¬ (isT ⟨4, [59], 0, q⟩ [59] && begins (tk ts (s.p + 2))) = true; rw [hb]; simp)]
  rfl
end

theorem getD_app_left {α : Type} (a b : List α) (i : Nat) (z : α) (h : i < a.length) : (a ++ b).getD i z = a.getD i z := by
  rw [List.getD_eq_getElem?_getD, List.getD_eq_getElem?_getD, List.getElem?_append_left h]
theorem getD_app_right {α : Type} (a b : List α) (i : Nat) (z : α) : (a ++ b).getD (a.length + i) z = b.getD i z := by
  rw [List.getD_eq_getElem?_getD, List.getD_eq_getElem?_getD, List.getElem?_append_right (by omega)]
  congr 2; omega
theorem tk_mn : ∀ (m : Nat) (k : Int) (i j : Nat), i < m → j < 4 → (yMn k m).getD (4 * i + j) zt = (tMn (k + i)).getD j zt
  | 0, _, _, _, h, _ => by omega
  | m + 1, k, 0, j, _, hj => by
    rw [yMn, show 4 * 0 + j = j by omega, getD_app_left _ _ _ _ (by simp [tMn]; omega)]; simp
  | m + 1, k, i + 1, j, h, hj => by
    rw [yMn, show 4 * (i + 1) + j = (tMn k).length + (4 * i + j) by simp [tMn]; omega, getD_app_right, tk_mn m (k + 1) i j (by omega) hj]
    congr 2; omega
theorem tk_end : ∀ (m : Nat) (k : Int), (yMn k m).getD (4 * m) zt = ⟨0, [], 0, ⟨k + m, 1⟩⟩
  | 0, k => by simp [yMn]
  | m + 1, k => by
    rw [yMn, show 4 * (m + 1) = (tMn k).length + 4 * m by simp [tMn]; omega, getD_app_right, tk_end m (k + 1)]
    congr 2; omega
theorem tk_ex (m : Nat) : ∀ (n : Nat) (k : Int) (i j : Nat), i < n → j < 3 → (yEx m k n).getD (3 * i + j) zt = (tEx (k + i)).getD j zt
  | 0, _, _, _, h, _ => by omega
  | n + 1, k, 0, j, _, hj => by
    rw [yEx, show 3 * 0 + j = j by omega, getD_app_left _ _ _ _ (by simp [tEx]; omega)]; simp
  | n + 1, k, i + 1, j, h, hj => by
    rw [yEx, show 3 * (i + 1) + j = (tEx k).length + (3 * i + j) by simp [tEx]; omega, getD_app_right, tk_ex m n (k + 1) i j (by omega) hj]
    congr 2; omega
theorem tk_behind (m : Nat) : ∀ (n : Nat) (k : Int) (j : Nat), (yEx m k n).getD (3 * n + j) zt = (yMn (k + n) m).getD j zt
  | 0, k, j => by rw [yEx]; simp
  | n + 1, k, j => by
    rw [yEx, show 3 * (n + 1) + j = (tEx k).length + (3 * n + j) by simp [tEx]; omega, getD_app_right, tk_behind m n (k + 1) j]
    congr 2; omega

section
variable {n m N : Nat}
theorem t_ex {i : Nat} (hi : i < n) : tk (yEx m 1 n) (3 * i) = ⟨2, wExn, 0, ⟨1 + i, 1⟩⟩ ∧ tk (yEx m 1 n) (3 * i + 1) = ⟨1, [69], 0, ⟨1 + i, 11⟩⟩ ∧ tk (yEx m 1 n) (3 * i + 2) = ⟨4, [59], 0, ⟨1 + i, 12⟩⟩ :=
  ⟨tk_ex m n 1 i 0 hi (by omega), tk_ex m n 1 i 1 hi (by omega), tk_ex m n 1 i 2 hi (by omega)⟩
theorem t_mn {i : Nat} (hi : i < m) : tk (yEx m 1 n) (3 * n + 4 * i) = ⟨2, wMain, 0, ⟨1 + n + i, 1⟩⟩ ∧ tk (yEx m 1 n) (3 * n + 4 * i + 1) = ⟨4, [61], 0, ⟨1 + n + i, 6⟩⟩ ∧ tk (yEx m 1 n) (3 * n + 4 * i + 2) = ⟨3, [49], 1, ⟨1 + n + i, 8⟩⟩ ∧ tk (yEx m 1 n) (3 * n + 4 * i + 3) = ⟨4, [59], 0, ⟨1 + n + i, 9⟩⟩ := by
  have h := fun j (hj : j < 4) => (tk_behind m n 1 (4 * i + j)).trans (tk_mn m (1 + n) i j hi hj)
  refine ⟨h 0 (by omega), ?_, ?_, ?_⟩
  · rw [Nat.add_assoc]; exact h 1 (by omega)
  · rw [Nat.add_assoc]; exact h 2 (by omega)
  · rw [Nat.add_assoc]; exact h 3 (by omega)
theorem t_end : tk (yEx m 1 n) (3 * n + 4 * m) = ⟨0, [], 0, ⟨1 + n + m, 1⟩⟩ := (tk_behind m n 1 (4 * m)).trans (tk_end m (1 + n))

theorem take_tok {ts : List Tok} {s : S} {k : Int} {x : B} {v : Int} {p : Pos} (h : tk ts s.p = ⟨k, x, v, p⟩) (hk : (k == 4 || k == 2) = true) : take ts x s = .ok () s.skip := by
  rw [take, if_pos]
  rw [is_tok h, isT]
  simp only [hk, Bool.true_and]
  exact beq_self_eq_true x

/-- an exception -/
theorem step_ex {i f : Nat} (hi : i < n) (h100 : i ≠ 100) (g : St) (ns : List Tn.Nd) : all (yEx m 1 n) N (f + 1) i g ⟨3 * i, ns⟩ = all (yEx m 1 n) N f (i + 1) ⟨g.ins, g.exns ++ [⟨⟨[69], ⟨1 + i, 11⟩⟩, zn, zn, 0⟩], g.mt, g.mp, g.mb⟩ ⟨3 * (i + 1), ns⟩ := by
  obtain ⟨t0, t1, t2⟩ := t_ex (m := m) hi
  have e1 : take (yEx m 1 n) wExn ⟨3 * i, ns⟩ = .ok () ⟨3 * i + 1, ns⟩ := take_tok (s := ⟨3 * i, ns⟩) t0 rfl
  have e2 : take (yEx m 1 n) [59] ⟨3 * i + 2, ns⟩ = .ok () ⟨3 * i + 3, ns⟩ := take_tok (s := ⟨3 * i + 2, ns⟩) t2 rfl
  have eo : one (yEx m 1 n) N g ⟨3 * i, ns⟩ = .ok ⟨g.ins, g.exns ++ [⟨⟨[69], ⟨1 + i, 11⟩⟩, zn, zn, 0⟩], g.mt, g.mp, g.mb⟩ ⟨3 * i + 2, ns⟩ := by
    rw [one, if_pos (by show ((tk (yEx m 1 n) (3 * i)).text == wExn) = true; rw [t0]; rfl), decl0, nameAt, takes, e1]
    simp only [Res.bind, takes, t1, at_]
    rfl
  rw [all, if_neg (by show ¬ ((tk (yEx m 1 n) (3 * i)).kind == 0) = true; rw [t0]; show ¬ ((2 : Int) == 0) = true; decide), if_neg h100, eo]
  simp only [R.bind, e2, lift]
  rfl
/-- a first main -/
theorem step_mn {i f k : Nat} (hi : i < m) (h100 : k ≠ 100) (g : St) (ns : List Tn.Nd) (hg : g.mt = []) (hl : ns.length < 4000) : ∃ d, all (yEx m 1 n) (N + 8) (f + 1) k g ⟨3 * n + 4 * i, ns⟩ = all (yEx m 1 n) (N + 8) f (k + 1) ⟨g.ins, g.exns, wMain, ⟨1 + n + i, 1⟩, ns.length⟩ ⟨3 * n + 4 * (i + 1), ns ++ [d]⟩ := by
  obtain ⟨t0, t1, t2, t3⟩ := t_mn (n := n) hi
  have t4 : begins (tk (yEx m 1 n) (3 * n + 4 * i + 4)) = false := by
    rw [show 3 * n + 4 * i + 4 = 3 * n + 4 * (i + 1) by omega]
    rcases Nat.lt_or_ge (i + 1) m with h | h
    · rw [(t_mn (n := n) h).1]; rfl
    · rw [show i + 1 = m by omega, t_end]; rfl
  have e1 : take (yEx m 1 n) wMain ⟨3 * n + 4 * i, ns⟩ = .ok () ⟨3 * n + 4 * i + 1, ns⟩ := take_tok (s := ⟨3 * n + 4 * i, ns⟩) t0 rfl
  have e2 : take (yEx m 1 n) [61] ⟨3 * n + 4 * i + 1, ns⟩ = .ok () ⟨3 * n + 4 * i + 2, ns⟩ := take_tok (s := ⟨3 * n + 4 * i + 1, ns⟩) t1 rfl
  obtain ⟨d, e3⟩ := rec_num (n := N) (s := ⟨3 * n + 4 * i + 2, ns⟩) t2 t3 t4 hl
  have e4 : take (yEx m 1 n) [59] ⟨3 * n + 4 * i + 3, ns ++ [d]⟩ = .ok () ⟨3 * n + 4 * i + 4, ns ++ [d]⟩ := take_tok (s := ⟨3 * n + 4 * i + 3, ns ++ [d]⟩) t3 rfl
  refine ⟨d, ?_⟩
  have eo : one (yEx m 1 n) (N + 8) g ⟨3 * n + 4 * i, ns⟩ = .ok ⟨g.ins, g.exns, wMain, ⟨1 + n + i, 1⟩, ns.length⟩ ⟨3 * n + 4 * i + 3, ns ++ [d]⟩ := by
    rw [one]
    simp only [t0, hg]
    rw [if_neg (by decide), if_neg (by decide), if_pos (by decide), if_neg (by decide), mainF, e1]
    simp only [Res.bind, bodyF, e2, e3, lift, R.bind, at_, t0]
  rw [all]
  simp only [t0]
  rw [if_neg (by decide), if_neg h100, eo]
  simp only [R.bind, e4, lift]
  rfl

theorem all_ex {f : Nat} : ∀ j, j ≤ n → j ≤ 100 → ∃ E : List Dc, E.length = j ∧ all (yEx m 1 n) N (f + j) 0 st0 ⟨0, []⟩ = all (yEx m 1 n) N f j ⟨[], E, [], ⟨0, 0⟩, 0⟩ ⟨3 * j, []⟩
  | 0, _, _ => ⟨[], rfl, rfl⟩
  | j + 1, hn, h => by
    obtain ⟨E, hE, e⟩ := all_ex (f := f + 1) j (by omega) (by omega)
    refine ⟨E ++ [⟨⟨[69], ⟨1 + j, 11⟩⟩, zn, zn, 0⟩], by simp [hE], ?_⟩
    rw [show f + (j + 1) = f + 1 + j by omega, e, step_ex (by omega) (by omega)]

/-- at most a hundred, and just one main -/
theorem fam_limit (hn : 100 < n) : all (yEx m 1 n) N 300 0 st0 ⟨0, []⟩ = .bad 6 ⟨101, 1⟩ [] := by
  obtain ⟨E, _, e⟩ := all_ex (m := m) (N := N) (f := 200) 100 (Nat.le_of_lt hn) (Nat.le_refl _)
  obtain ⟨t0, _, _⟩ := t_ex (m := m) hn
  rw [show 300 = 200 + 100 from rfl, e, all]
  simp only [at_, t0]
  rw [if_neg (by decide), if_pos trivial]
  rfl
theorem fam_missing (hn : n ≤ 100) (hm : m = 0) : all (yEx m 1 n) N 300 0 st0 ⟨0, []⟩ = .bad 16 ⟨(n : Int) + 1, 1⟩ wMain := by
  subst hm
  obtain ⟨E, _, e⟩ := all_ex (m := 0) (N := N) (f := 300 - n) n (Nat.le_refl _) hn
  have t0 := t_end (n := n) (m := 0)
  obtain ⟨q, hq⟩ : ∃ q, 300 - n = q + 1 := ⟨299 - n, by omega⟩
  rw [show 300 = 300 - n + n by omega, e, hq, all]
  simp only [at_]
  rw [show 3 * n = 3 * n + 4 * 0 from rfl, t0, if_pos (by rfl), if_neg (by decide)]
  show R.bad 16 (⟨1 + n + (0 : Nat), 1⟩ : Pos) wMain = _
  congr 2; omega
theorem fam_full (hn : n = 100) (hm : 0 < m) : all (yEx m 1 n) N 300 0 st0 ⟨0, []⟩ = .bad 6 ⟨101, 1⟩ [] := by
  subst hn
  obtain ⟨E, _, e⟩ := all_ex (m := m) (n := 100) (N := N) (f := 200) 100 (Nat.le_refl _) (Nat.le_refl _)
  obtain ⟨t0, _⟩ := t_mn (n := 100) hm
  rw [show 300 = 200 + 100 from rfl, e, all]
  simp only [at_]
  rw [show 3 * 100 = 3 * 100 + 4 * 0 from rfl, t0, if_neg (by decide), if_pos trivial]
  rfl
theorem fam_one (hn : n ≤ 99) (hm : 0 < m) : ∃ (E : List Dc) (d : Tn.Nd), E.length = n ∧ all (yEx m 1 n) (N + 8) 300 0 st0 ⟨0, []⟩ = all (yEx m 1 n) (N + 8) (299 - n) (n + 1) ⟨[], E, wMain, ⟨1 + n, 1⟩, 0⟩ ⟨3 * n + 4, [d]⟩ := by
  obtain ⟨E, hE, e⟩ := all_ex (m := m) (N := N + 8) (f := 300 - n) n (Nat.le_refl _) (by omega)
  obtain ⟨d, e1⟩ := step_mn (n := n) (m := m) (N := N) (i := 0) (f := 299 - n) (k := n) hm (by omega) ⟨[], E, [], ⟨0, 0⟩, 0⟩ [] rfl (by simp)
  refine ⟨E, d, hE, ?_⟩
  rw [show 300 = 300 - n + n by omega, e, show 300 - n = 299 - n + 1 by omega]
  refine (show _ = _ from e1).trans ?_
  simp
theorem fam_ok (hn : n ≤ 99) (hm : m = 1) : ∃ (E : List Dc) (s : S), E.length = n ∧ all (yEx m 1 n) (N + 8) 300 0 st0 ⟨0, []⟩ = .ok ⟨[], E, wMain, ⟨1 + n, 1⟩, 0⟩ s := by
  subst hm
  obtain ⟨E, d, hE, e⟩ := fam_one (n := n) (m := 1) (N := N) hn (by omega)
  have t0 := t_end (n := n) (m := 1)
  refine ⟨E, ⟨3 * n + 4, [d]⟩, hE, ?_⟩
  rw [e, show 299 - n = 298 - n + 1 by omega, all]
  simp only [show 3 * n + 4 = 3 * n + 4 * 1 from rfl, t0]
  rw [if_pos (by rfl), if_pos (by rfl)]
theorem fam_full2 (hn : n = 99) (hm : 1 < m) : all (yEx m 1 n) (N + 8) 300 0 st0 ⟨0, []⟩ = .bad 6 ⟨101, 1⟩ [] := by
  subst hn
  obtain ⟨E, d, hE, e⟩ := fam_one (n := 99) (m := m) (N := N) (by omega) (by omega)
  obtain ⟨t0, _⟩ := t_mn (n := 99) hm
  rw [e, show 299 - 99 = 199 + 1 from rfl, all]
  simp only [at_, show 3 * 99 + 4 = 3 * 99 + 4 * 1 from rfl, t0]
  rw [if_neg (by decide), if_pos trivial]
  rfl
theorem fam_twice (hn : n ≤ 98) (hm : 1 < m) : all (yEx m 1 n) (N + 8) 300 0 st0 ⟨0, []⟩ = .bad 8 ⟨(n : Int) + 2, 1⟩ wMain := by
  obtain ⟨E, d, hE, e⟩ := fam_one (n := n) (m := m) (N := N) (by omega) (by omega)
  obtain ⟨t0, _⟩ := t_mn (n := n) hm
  rw [e, show 299 - n = 298 - n + 1 by omega, all]
  simp only [show 3 * n + 4 = 3 * n + 4 * 1 from rfl, t0, at_]
  rw [if_neg (by decide), if_neg (by omega), one]
  simp only [t0, at_]
  rw [if_neg (by decide), if_neg (by decide), if_pos (by decide), if_pos (by decide), R.bind]
  congr 2; omega
end
end Go.Proofs.YtnobamncenokdaaGreatDoor.Pg
