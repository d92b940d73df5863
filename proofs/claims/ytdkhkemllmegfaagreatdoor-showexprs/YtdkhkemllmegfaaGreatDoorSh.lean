/- Texts of expressions, as plain functions: tokens with blanks between them, parts in brackets where they are weaker than their place allows. -/
import Derived.Test.YtdkhkemllmegfaaGreatDoorLLxV
import Derived.Test.YtdkhkemllmegfaaGreatDoorTTn
namespace Go.Proofs.YtdkhkemllmegfaaGreatDoor.Sh
open Lx (B)
open Tn (Nd nd)

/-- what is written, and whether the next token comes without a blank -/
structure St where
  bs : B
  tg : Bool

def ba (l : B) : ByteArray := ⟨l.toArray⟩
def closes (x : ByteArray) : Bool := decide (x = ⟨#[41]⟩) || decide (x = ⟨#[44]⟩) || decide (x = ⟨#[59]⟩)
def tightens (x : ByteArray) : Bool := decide (x = ⟨#[40]⟩) || decide (x = ⟨#[33]⟩)
def tok (s : St) (x : ByteArray) : St := ⟨s.bs ++ (if (!s.tg && !closes x) = true then [32] else []) ++ x.data.toList, tightens x⟩
def tokens (s : St) (l : List ByteArray) : St := l.foldl tok s

/-- level, parts, whether it is one -/
structure Form where
  level : Int
  kids : Int
  known : Bool
def formOf (op : ByteArray) : Form :=
  if op = ⟨#[115, 101, 113]⟩ then ⟨0, 2, true⟩
  else if op = ⟨#[105, 102]⟩ then ⟨1, 3, true⟩
  else if op = ⟨#[108, 101, 116]⟩ ∨ op = ⟨#[116, 114, 121]⟩ then ⟨1, 2, true⟩
  else if op = ⟨#[111, 117, 116]⟩ ∨ op = ⟨#[115, 101, 116]⟩ then ⟨1, 1, true⟩
  else if op = ⟨#[114, 97, 105, 115, 101]⟩ then ⟨1, 0, true⟩
  else if op = ⟨#[111, 114]⟩ then ⟨2, 2, true⟩
  else if op = ⟨#[97, 110, 100]⟩ then ⟨3, 2, true⟩
  else if op = ⟨#[61]⟩ ∨ op = ⟨#[60]⟩ then ⟨4, 2, true⟩
  else if op = ⟨#[43]⟩ ∨ op = ⟨#[45]⟩ then ⟨5, 2, true⟩
  else if op = ⟨#[42]⟩ then ⟨6, 2, true⟩
  else if op = ⟨#[112, 97, 105, 114]⟩ then ⟨7, 2, true⟩
  else if op = ⟨#[110, 101, 103]⟩ ∨ op = ⟨#[110, 111, 116]⟩ ∨ op = ⟨#[102, 115, 116]⟩ ∨ op = ⟨#[115, 110, 100]⟩ ∨ op = ⟨#[114, 101, 108, 101, 97, 115, 101]⟩ then ⟨7, 1, true⟩
  else if op = ⟨#[103, 101, 116]⟩ ∨ op = ⟨#[116, 114, 117, 101]⟩ ∨ op = ⟨#[102, 97, 108, 115, 101]⟩ ∨ op = ⟨#[104, 111, 108, 101]⟩ ∨ op = ⟨#[117, 110, 105, 116]⟩ ∨ op = ⟨#[105, 110, 116]⟩ ∨ op = ⟨#[118, 97, 114]⟩ then ⟨7, 0, true⟩
  else if op = ⟨#[99, 97, 108, 108]⟩ then ⟨7, -1, true⟩
  else ⟨0, 0, false⟩
def well (n : Nd) : Bool := (formOf n.op).known && ((formOf n.op).kids == -1 || (formOf n.op).kids == (n.kids.length : Int))

/-- ( and ) -/
def opn : ByteArray := ⟨#[40]⟩
def cls : ByteArray := ⟨#[41]⟩
def brk (f : St → St) (b : Bool) (s : St) : St := if b = true then tok (f (tok s opn)) cls else f s
section
variable (ms : List Nd)
/-- does it end in a let? -/
def ends : Nat → Nd → Bool
  | 0, _ => false
  | u + 1, n => if n.op = ⟨#[108, 101, 116]⟩ then true else if n.op = ⟨#[105, 102]⟩ ∨ n.op = ⟨#[116, 114, 121]⟩ then ends u (nd ms (Tn.kid n.kids (n.kids.length - 1)).toNat) else false
variable (f : Nd → St → St)
def part (k : Int) (least : Int) (s : St) : St := brk (f (nd ms k.toNat)) (decide ((formOf (nd ms k.toNat).op).level < least)) s
def semi (e : Nd → Bool) (k : Int) (s : St) : St := brk (f (nd ms k.toNat)) (decide ((formOf (nd ms k.toNat).op).level < 1) || e (nd ms k.toNat)) s
def between (n : Nd) (l r : Int) (s : St) : St := part ms f (Tn.kid n.kids 1) r (tok (part ms f (Tn.kid n.kids 0) l s) n.op)
/-- parts behind one another, commas between them -/
def listGo : Bool → List Int → St → St
  | _, [], s => s
  | first, k :: l, s => listGo false l (part ms f k 0 (if first = true then s else tok s ⟨#[44]⟩))
def list (kids : List Int) (s : St) : St := tok (listGo ms f true kids (tok s opn)) cls
def item (n : Nd) (s : St) : St :=
  if n.op = ⟨#[108, 101, 116]⟩ then part ms f (Tn.kid n.kids 1) 0 (tok (part ms f (Tn.kid n.kids 0) 0 (tokens s [⟨#[108, 101, 116]⟩, n.name, ⟨#[61]⟩])) ⟨#[105, 110]⟩)
  else if n.op = ⟨#[105, 102]⟩ then part ms f (Tn.kid n.kids 2) 1 (tok (part ms f (Tn.kid n.kids 1) 1 (tok (part ms f (Tn.kid n.kids 0) 0 (tok s ⟨#[105, 102]⟩)) ⟨#[116, 104, 101, 110]⟩)) ⟨#[101, 108, 115, 101]⟩)
  else if n.op = ⟨#[116, 114, 121]⟩ then part ms f (Tn.kid n.kids 1) 1 (tokens (part ms f (Tn.kid n.kids 0) 0 (tok s ⟨#[116, 114, 121]⟩)) [⟨#[119, 105, 116, 104]⟩, n.name, ⟨#[45, 62]⟩])
  else if n.op = ⟨#[114, 97, 105, 115, 101]⟩ then tokens s [⟨#[114, 97, 105, 115, 101]⟩, n.name]
  else if n.op = ⟨#[111, 117, 116]⟩ then part ms f (Tn.kid n.kids 0) 2 (tokens s [⟨#[111, 117, 116]⟩, n.name])
  else if n.op = ⟨#[115, 101, 116]⟩ then part ms f (Tn.kid n.kids 0) 2 (tokens s [n.name, ⟨#[58, 61]⟩])
  else s
def unary (digits : Int → ByteArray) (n : Nd) (s : St) : St :=
  if n.op = ⟨#[110, 101, 103]⟩ then part ms f (Tn.kid n.kids 0) 7 (tok s ⟨#[45]⟩)
  else if n.op = ⟨#[110, 111, 116]⟩ ∨ n.op = ⟨#[102, 115, 116]⟩ ∨ n.op = ⟨#[115, 110, 100]⟩ then part ms f (Tn.kid n.kids 0) 7 (tok s n.op)
  else if n.op = ⟨#[103, 101, 116]⟩ then tokens s [⟨#[33]⟩, n.name]
  else if n.op = ⟨#[116, 114, 117, 101]⟩ ∨ n.op = ⟨#[102, 97, 108, 115, 101]⟩ then tok s n.op
  else if n.op = ⟨#[104, 111, 108, 101]⟩ then tokens s [⟨#[104, 111, 108, 101]⟩, n.name]
  else if n.op = ⟨#[114, 101, 108, 101, 97, 115, 101]⟩ then list ms f n.kids (tokens s [⟨#[114, 101, 108, 101, 97, 115, 101]⟩, n.name])
  else if n.op = ⟨#[117, 110, 105, 116]⟩ ∨ n.op = ⟨#[112, 97, 105, 114]⟩ then list ms f n.kids s
  else if n.op = ⟨#[105, 110, 116]⟩ then tok s (digits n.num)
  else if n.op = ⟨#[118, 97, 114]⟩ then tok s n.name
  else if n.op = ⟨#[99, 97, 108, 108]⟩ then list ms f n.kids ⟨(tok s n.name).bs, true⟩
  else s
/-- an expression's tokens, by the level of its form -/
def nodeF (e : Nd → Bool) (digits : Int → ByteArray) (n : Nd) (s : St) : St :=
  let l := (formOf n.op).level
  if l = 0 then part ms f (Tn.kid n.kids 1) 0 (tok (semi ms f e (Tn.kid n.kids 0) s) ⟨#[59]⟩)
  else if l = 1 then item ms f n s
  else if l = 4 then between ms f n (l + 1) (l + 1) s
  else if l = 7 then unary ms f digits n s
  else between ms f n l (l + 1) s
end
def node (ms : List Nd) (digits : Int → ByteArray) : Nat → Nd → St → St
  | 0, _, s => s
  | u + 1, n, s => nodeF ms (node ms digits u) (ends ms (u + 1)) digits n s
end Go.Proofs.YtdkhkemllmegfaaGreatDoor.Sh
