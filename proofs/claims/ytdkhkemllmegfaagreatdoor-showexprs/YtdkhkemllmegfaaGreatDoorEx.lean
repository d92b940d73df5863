/- Expressions of tokens, as plain functions: what comes, what is passed over, which nodes are added, what is wrong first. -/
import Derived.Test.YtdkhkemllmegfaaGreatDoorLLxV
import Derived.Test.YtdkhkemllmegfaaGreatDoorTTn
namespace Go.Proofs.YtdkhkemllmegfaaGreatDoor.Ex
open Lx (Tok Pos B)
open Tn (Nd fits)

def zt : Tok := ⟨0, [], 0, ⟨0, 0⟩⟩
/-- the token at a place -/
def tk (ts : List Tok) (p : Nat) : Tok := ts.getD p zt
/-- is it this mark, or word? -/
def isT (t : Tok) (m : B) : Bool := (t.kind == 4 || t.kind == 2) && t.text == m
def bt (l : B) : ByteArray := ⟨l.toArray⟩

/-- where a reader is, and the nodes of its tree -/
structure S where
  p : Nat
  ns : List Nd
/-- it went well, with this; or that is wrong, there; or the fuel is used up -/
inductive Res (α : Type) where
  | ok (a : α) (s : S)
  | bad (c : Int) (p : Pos)
  | out
def Res.bind {α β : Type} (r : Res α) (f : α → S → Res β) : Res β := match r with
  | .ok a s => f a s
  | .bad c p => .bad c p
  | .out => .out

/-- where it went well -/
def Res.noBad {α : Type} : Res α → Res α
  | .ok a s => .ok a s
  | _ => .out

def begins (t : Tok) : Bool := t.kind == 1 || t.kind == 3 ||
  [[108, 101, 116], [105, 102], [116, 114, 121], [114, 97, 105, 115, 101], [111, 117, 116], [45], [110, 111, 116], [102, 115, 116], [115, 110, 100], [33], [116, 114, 117, 101], [102, 97, 108, 115, 101], [104, 111, 108, 101], [114, 101, 108, 101, 97, 115, 101], [40]].contains t.text

section
variable (ts : List Tok)
def is (s : S) (m : B) : Bool := isT (tk ts s.p) m
def S.skip (s : S) : S := ⟨s.p + 1, s.ns⟩
def at_ (s : S) : Pos := (tk ts s.p).at_
def wrong {α : Type} (c : Int) (s : S) : Res α := .bad c (at_ ts s)
def enter (d : Nat) (s : S) : Res Nat := if 64 ≤ d then wrong ts 6 s else .ok (d + 1) s
def take (m : B) (s : S) : Res Unit := if is ts s m = true then .ok () s.skip else wrong ts 5 s
def name (s : S) : Res B := if ((tk ts s.p).kind == 1) = true then .ok (tk ts s.p).text s.skip else wrong ts 5 s
def addN (n : Nd) (s : S) : Res Nat :=
  if fits s.ns.length n = true then (if 4000 ≤ s.ns.length then wrong ts 6 s else .ok s.ns.length ⟨s.p, s.ns ++ [n]⟩) else wrong ts 1 s
def add (op : B) (at_ : Pos) (name : B) (kids : List Nat) (s : S) : Res Nat := addN ts ⟨bt op, at_.line, at_.col, bt name, 0, kids.map fun (k : Nat) => (k : Int)⟩ s
/-- a mark, or a word, and the name that it is about -/
def named (op : B) (s : S) : Res Nat := (name ts s.skip).bind fun x s1 => add ts op (at_ ts s) x [] s1

abbrev Part := S → Res Nat
def between (part : Part) (l : Nat) (s : S) : Res Nat := (part s.skip).bind fun r s1 => add ts (tk ts s.p).text (at_ ts s) [] [l, r] s1
def chainLoop (part : Part) (ms : List B) : Nat → Nat → S → Res Nat
  | 0, _, _ => .out
  | n + 1, l, s => if (ms.any fun m => is ts s m) = true then (between ts part l s).bind (chainLoop part ms n) else .ok l s
def chain (n : Nat) (part : Part) (ms : List B) (s : S) : Res Nat := (part s).bind (chainLoop ts part ms n)

/-- items and the marks between them -/
def itemsLoop (item : Part) : Nat → List Nat → List Pos → S → Res (List Nat × List Pos)
  | 0, _, _, _ => .out
  | n + 1, is_, ps, s => if (is ts s [59] && begins (tk ts (s.p + 1))) = true then (item s.skip).bind fun i s1 => itemsLoop item n (is_ ++ [i]) (ps ++ [at_ ts s]) s1 else .ok (is_, ps) s
/-- sequences, from the last k marks on -/
def seqs (is_ : List Nat) (ps : List Pos) : Nat → Nat → S → Res Nat
  | 0, rest, s => .ok rest s
  | k + 1, rest, s => (add ts [115, 101, 113] (ps.getD k ⟨0, 0⟩) [] [is_.getD k 0, rest] s).bind (seqs is_ ps k)
/-- items, and the marks between them -/
def allF (n : Nat) (item : Part) (s : S) : Res Nat := (item s).bind fun i s1 => (itemsLoop ts item n [i] [] s1).bind fun x s2 => seqs ts x.1 x.2 x.2.length (x.1.getD (x.1.length - 1) 0) s2

def argsLoop (all : Part) : Nat → List Nat → S → Res (List Nat)
  | 0, _, _ => .out
  | n + 1, l, s => if is ts s [44] = true then (all s.skip).bind fun i s1 => argsLoop all n (l ++ [i]) s1 else (take ts [41] s).bind fun _ s1 => .ok l s1
def args (n : Nat) (all : Part) (s : S) : Res (List Nat) := if is ts s [41] = true then argsLoop ts all n [] s else (all s).bind fun i s1 => argsLoop ts all n [i] s1

inductive Tag where
  | all | item | or | and | test | sum | times | unary
abbrev Rec := Tag → Nat → S → Res Nat

def letF (f : Rec) (d : Nat) (s : S) : Res Nat :=
  (name ts s.skip).bind fun x s1 => (take ts [61] s1).bind fun _ s2 => (f .all d s2).bind fun a s3 => (take ts [105, 110] s3).bind fun _ s4 => (f .all d s4).bind fun b s5 => add ts [108, 101, 116] (at_ ts s) x [a, b] s5
def choiceF (f : Rec) (d : Nat) (s : S) : Res Nat :=
  (f .all d s.skip).bind fun c s1 => (take ts [116, 104, 101, 110] s1).bind fun _ s2 => (f .item d s2).bind fun a s3 => (take ts [101, 108, 115, 101] s3).bind fun _ s4 => (f .item d s4).bind fun b s5 => add ts [105, 102] (at_ ts s) [] [c, a, b] s5
def guardF (f : Rec) (d : Nat) (s : S) : Res Nat :=
  (f .all d s.skip).bind fun a s1 => (take ts [119, 105, 116, 104] s1).bind fun _ s2 => (name ts s2).bind fun x s3 => (take ts [45, 62] s3).bind fun _ s4 => (f .item d s4).bind fun b s5 => add ts [116, 114, 121] (at_ ts s) x [a, b] s5
def outF (f : Rec) (d : Nat) (s : S) : Res Nat := (name ts s.skip).bind fun x s1 => (f .or d s1).bind fun a s2 => add ts [111, 117, 116] (at_ ts s) x [a] s2
def setF (f : Rec) (d : Nat) (s : S) : Res Nat := (take ts [58, 61] s.skip).bind fun _ s1 => (f .or d s1).bind fun a s2 => add ts [115, 101, 116] (at_ ts s) (tk ts s.p).text [a] s2
def itemF (f : Rec) (d : Nat) (s : S) : Res Nat :=
  if is ts s [108, 101, 116] = true then letF ts f d s
  else if is ts s [105, 102] = true then choiceF ts f d s
  else if is ts s [116, 114, 121] = true then guardF ts f d s
  else if is ts s [114, 97, 105, 115, 101] = true then named ts [114, 97, 105, 115, 101] s
  else if is ts s [111, 117, 116] = true then outF ts f d s
  else if ((tk ts s.p).kind == 1 && isT (tk ts (s.p + 1)) [58, 61]) = true then setF ts f d s
  else f .or d s
def testF (f : Rec) (d : Nat) (s : S) : Res Nat := (f .sum d s).bind fun l s1 => if (is ts s1 [61] || is ts s1 [60]) = true then between ts (f .sum d) l s1 else .ok l s1
def prefixF (f : Rec) (op : B) (d : Nat) (s : S) : Res Nat := (f .unary d s.skip).bind fun a s1 => add ts op (at_ ts s) [] [a] s1
def releaseF (f : Rec) (d : Nat) (s : S) : Res Nat :=
  (name ts s.skip).bind fun x s1 => (take ts [40] s1).bind fun _ s2 => (f .all d s2).bind fun a s3 => (take ts [41] s3).bind fun _ s4 => add ts [114, 101, 108, 101, 97, 115, 101] (at_ ts s) x [a] s4
def bracketsF (f : Rec) (d : Nat) (s : S) : Res Nat :=
  if is ts s.skip [41] = true then add ts [117, 110, 105, 116] (at_ ts s) [] [] s.skip.skip
  else (f .all d s.skip).bind fun a s1 => if is ts s1 [44] = true then ((f .all d s1.skip).bind fun b s2 => (take ts [41] s2).bind fun _ s3 => add ts [112, 97, 105, 114] (at_ ts s) [] [a, b] s3)
    else (take ts [41] s1).bind fun _ s2 => .ok a s2
def varF (n : Nat) (f : Rec) (d : Nat) (s : S) : Res Nat :=
  if is ts s.skip [40] = true then (args ts n (f .all d) s.skip.skip).bind fun l s1 => add ts [99, 97, 108, 108] (at_ ts s) (tk ts s.p).text l s1
  else add ts [118, 97, 114] (at_ ts s) (tk ts s.p).text [] s.skip
def unaryF (n : Nat) (f : Rec) (d : Nat) (s : S) : Res Nat :=
  if ((tk ts s.p).kind == 3) = true then addN ts ⟨bt [105, 110, 116], (at_ ts s).line, (at_ ts s).col, bt [], (tk ts s.p).int, []⟩ s.skip
  else if ((tk ts s.p).kind == 1) = true then varF ts n f d s
  else if ((tk ts s.p).text == [45]) = true then prefixF ts f [110, 101, 103] d s
  else if ((tk ts s.p).text == [110, 111, 116] || (tk ts s.p).text == [102, 115, 116] || (tk ts s.p).text == [115, 110, 100]) = true then prefixF ts f (tk ts s.p).text d s
  else if ((tk ts s.p).text == [33]) = true then named ts [103, 101, 116] s
  else if ((tk ts s.p).text == [104, 111, 108, 101]) = true then named ts [104, 111, 108, 101] s
  else if ((tk ts s.p).text == [116, 114, 117, 101] || (tk ts s.p).text == [102, 97, 108, 115, 101]) = true then add ts (tk ts s.p).text (at_ ts s) [] [] s.skip
  else if ((tk ts s.p).text == [114, 101, 108, 101, 97, 115, 101]) = true then releaseF ts f d s
  else if ((tk ts s.p).text == [40]) = true then bracketsF ts f d s
  else wrong ts 5 s
/-- one step of the whole -/
def stepF (n : Nat) (f : Rec) (t : Tag) (d : Nat) (s : S) : Res Nat := match t with
  | .all => allF ts n (f .item d) s
  | .item => (enter ts d s).bind fun d1 s1 => itemF ts f d1 s1
  | .or => chain ts n (f .and d) [[111, 114]] s
  | .and => chain ts n (f .test d) [[97, 110, 100]] s
  | .test => testF ts f d s
  | .sum => chain ts n (f .times d) [[43], [45]] s
  | .times => chain ts n (f .unary d) [[42]] s
  | .unary => (enter ts d s).bind fun d1 s1 => unaryF ts n f d1 s1
def rec_ : Nat → Rec
  | 0 => fun _ _ _ => .out
  | n + 1 => stepF ts n (rec_ n)
end

theorem is_lt {ts : List Tok} {s : S} {m : B} (h : is ts s m = true) : s.p < ts.length := by
  rcases Nat.lt_or_ge s.p ts.length with h1 | h1
  · exact h1
  · rw [is, tk, List.getD_eq_getElem?_getD, List.getElem?_eq_none h1] at h
    simp [isT, zt] at h
theorem kind_lt {ts : List Tok} {p : Nat} (h : (tk ts p).kind ≠ 0) : p < ts.length := by
  rcases Nat.lt_or_ge p ts.length with h1 | h1
  · exact h1
  · rw [tk, List.getD_eq_getElem?_getD, List.getElem?_eq_none h1] at h
    simp [zt] at h
theorem text_lt {ts : List Tok} {p : Nat} (h : (tk ts p).text ≠ []) : p < ts.length := by
  rcases Nat.lt_or_ge p ts.length with h1 | h1
  · exact h1
  · rw [tk, List.getD_eq_getElem?_getD, List.getElem?_eq_none h1] at h
    simp [zt] at h
theorem tk_get {ts : List Tok} {p : Nat} (h : p < ts.length) : ts[p]? = some (tk ts p) := by
  rw [tk, List.getD_eq_getElem?_getD, List.getElem?_eq_getElem h]; rfl
end Go.Proofs.YtdkhkemllmegfaaGreatDoor.Ex
