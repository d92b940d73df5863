/- Tokens of a text, as plain functions of its bytes: what is skipped, what a token is, where it begins. -/
import Derived.Lib.DecodeN
namespace Go.Proofs.YtoeljmiefbaajaaDoor.Lx
abbrev B := List UInt8

def blankZ (c : Int) : Bool := c == 32 || c == 9 || c == 13 || c == 10
def digitZ (c : Int) : Bool := decide (48 ≤ c) && decide (c ≤ 57)
def letterZ (c : Int) : Bool := (decide (97 ≤ c) && decide (c ≤ 122)) || (decide (65 ≤ c) && decide (c ≤ 90)) || c == 95
def contZ (c : Int) : Bool := decide (128 ≤ c) && decide (c ≤ 191)
def blank (c : UInt8) : Bool := blankZ c.toNat
def digit (c : UInt8) : Bool := digitZ c.toNat
def letter (c : UInt8) : Bool := letterZ c.toNat
def cont (c : UInt8) : Bool := contZ c.toNat

/-- How many bytes come that are no token's: blanks and comments; 'note': in a comment. -/
def blanks : Bool → B → Nat
  | _, [] => 0
  | note, c :: l => if (c.toNat : Int) == 10 then 1 + blanks false l else if (c.toNat : Int) == 35 then 1 + blanks true l
      else if note || blank c then 1 + blanks note l else 0
/-- How many bytes of a name, or of a number, come. -/
def span (name : Bool) : B → Nat
  | [] => 0
  | c :: l => if digit c || (name && letter c) then 1 + span name l else 0

def keys : List B := [[108, 101, 116], [105, 110], [105, 102], [116, 104, 101, 110], [101, 108, 115, 101], [116, 114, 121], [119, 105, 116, 104], [111, 117, 116], [114, 97, 105, 115, 101], [116, 114, 117, 101], [102, 97, 108, 115, 101], [110, 111, 116], [97, 110, 100], [111, 114], [102, 115, 116], [115, 110, 100], [114, 101, 108, 101, 97, 115, 101], [104, 111, 108, 101], [105, 110, 112, 117, 116], [103, 108, 111, 98, 97, 108], [99, 104, 97, 110, 110, 101, 108], [101, 120, 99, 101, 112, 116, 105, 111, 110], [102, 117, 110], [109, 97, 105, 110], [99, 111, 110, 102], [105, 110, 116, 101, 103], [111, 114, 100, 101, 114], [97, 116, 116, 97, 99, 107, 101, 114], [104, 97, 116, 99, 104], [116, 111]]
def own (l : B) : Bool := keys.contains l
def shorts : B := [40, 41, 123, 125, 44, 59, 58, 33, 43, 45, 42, 61, 60]
def mark : B → Nat
  | [] => 0
  | c :: l => if (c :: l).take 2 == [58, 61] || (c :: l).take 2 == [45, 62] then 2 else if shorts.contains c then 1 else 0
def number (l : B) : Int := l.foldl (fun a c => 10 * a + ((c.toNat : Int) - 48)) 0

/-- The token that comes: its kind, how many bytes it has, its number; or the error. -/
inductive Got where
  | bad (e : Int)
  | tok (kind : Int) (n : Nat) (v : Int)
def one (l : B) : Got := match l with
  | [] => .tok 0 0 0
  | c :: _ =>
    if digit c then (if span false l > 18 then .bad 6 else .tok 3 (span false l) (number (l.take (span false l))))
    else if letter c then (if span true l > 40 then .bad 6 else if own (l.take (span true l)) then .tok 2 (span true l) 0 else .tok 1 (span true l) 0)
    else if mark l = 0 then .bad 4 else .tok 4 (mark l) 0

structure Pos where
  line : Int
  col : Int
def step (p : Pos) (c : UInt8) : Pos := if (c.toNat : Int) == 10 then ⟨p.line + 1, 1⟩ else if cont c then p else ⟨p.line, p.col + 1⟩
def adv (p : Pos) (l : B) : Pos := l.foldl step p
theorem adv_append (p : Pos) (a b : B) : adv p (a ++ b) = adv (adv p a) b := List.foldl_append
theorem adv_nil (p : Pos) : adv p [] = p := rfl
theorem adv_cons (p : Pos) (c : UInt8) (l : B) : adv p (c :: l) = adv (step p c) l := rfl

structure Tok where
  kind : Int
  text : B
  int : Int
  at_ : Pos
inductive Res where
  | bad (e : Int) (p : Pos)
  | ok (l : List Tok)
def Res.after (out : List Tok) : Res → Res
  | .bad e p => .bad e p
  | .ok l => .ok (out ++ l)
theorem Res.after_nil (r : Res) : r.after [] = r := by cases r <;> rfl
theorem Res.after_after (a b : List Tok) (r : Res) : (r.after b).after a = r.after (a ++ b) := by cases r <;> simp [Res.after]

/-- The tokens of what is left, 'f': fuel. -/
def toks : Nat → Bool → Pos → B → Res
  | 0, _, _, _ => .ok []
  | f + 1, note, p, l =>
    match one (l.drop (blanks note l)) with
    | .bad e => .bad e (adv p (l.take (blanks note l)))
    | .tok k n v =>
      if k = 0 then .ok [⟨0, [], 0, adv p (l.take (blanks note l))⟩]
      else (toks f false (adv p (l.take (blanks note l + n))) (l.drop (blanks note l + n))).after [⟨k, (l.drop (blanks note l)).take n, v, adv p (l.take (blanks note l))⟩]

/-! UTF-8 -/
def dec (l : B) : Nat × Nat := Go.Lib.decodeN l.length (l.getD 0 0).toNat (l.getD 1 0).toNat (l.getD 2 0).toNat (l.getD 3 0).toNat
/-- How many bytes the code point has that comes; 0: none does. -/
def point (l : B) : Nat := if dec l = (65533, 1) then 0 else (dec l).2
def vlen : Nat → B → Nat
  | 0, _ => 0
  | f + 1, l => if l = [] ∨ point l = 0 then 0 else point l + vlen f (l.drop (point l))
def whole (l : B) : Res :=
  if l.length > 65536 then .bad 6 ⟨1, 1⟩
  else if vlen (l.length + 1) l < l.length then .bad 3 (adv ⟨1, 1⟩ (l.take (vlen (l.length + 1) l)))
  else toks (l.length + 1) false ⟨1, 1⟩ l
end Go.Proofs.YtoeljmiefbaajaaDoor.Lx
