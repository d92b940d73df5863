/- A part of the proof: A part of the proof. -/
import Derived.Lib.DecodeN
set_option linter.unusedSimpArgs false
set_option linter.unusedVariables false
namespace Go.Proofs.YtdfpkmfeldoamaaGreatDoor.Lx
abbrev B:=List UInt8
def blankZ (c:Int):Bool:=c==32 || c==9 || c==13 || c==10
def digitZ (c:Int):Bool:=decide (48<=c) && decide (c<=57)
def letterZ (c:Int):Bool:=(decide (97<=c) && decide (c<=122)) || (decide (65<=c) && decide (c<=90)) || c==95
def contZ (c:Int):Bool:=decide (128<=c) && decide (c<=191)
def blank (c:UInt8):Bool:=blankZ c.toNat
def digit (c:UInt8):Bool:=digitZ c.toNat
def letter (c:UInt8):Bool:=letterZ c.toNat
def cont (c:UInt8):Bool:=contZ c.toNat
def blanks:Bool->B->Nat
 | _,[]=>0
 | note,c :: l=>if (c.toNat:Int)==10 then 1+blanks false l else if (c.toNat:Int)==35 then 1+blanks true l
   else if note || blank c then 1+blanks note l else 0
def span (name:Bool):B->Nat
 | []=>0
 | c :: l=>if digit c || (name && letter c) then 1+span name l else 0
def keys:List B:=[[108,101,116],[105,110],[105,102],[116,104,101,110],[101,108,115,101],[116,114,121],[119,105,116,104],[111,117,116],[114,97,105,115,101],[116,114,117,101],[102,97,108,115,101],[110,111,116],[97,110,100],[111,114],[102,115,116],[115,110,100],[114,101,108,101,97,115,101],[104,111,108,101],[105,110,112,117,116],[103,108,111,98,97,108],[99,104,97,110,110,101,108],[101,120,99,101,112,116,105,111,110],[102,117,110],[109,97,105,110],[99,111,110,102],[105,110,116,101,103],[111,114,100,101,114],[97,116,116,97,99,107,101,114],[104,97,116,99,104],[116,111]]
def own (l:B):Bool:=keys.contains l
def shorts:B:=[40,41,123,125,44,59,58,33,43,45,42,61,60]
def mark:B->Nat
 | []=>0
 | c :: l=>if (c :: l).take 2==[58,61] || (c :: l).take 2==[45,62] then 2 else if shorts.contains c then 1 else 0
def number (l:B):Int:=l.foldl (fun a c=>10*a+((c.toNat:Int)-48)) 0
inductive Got where
 | bad (e:Int)
 | tok (kind:Int) (n:Nat) (v:Int)
def one (l:B):Got:=match l with
 | [] => .tok 0 0 0
 | c :: _ =>
  if digit c then (if span false l>18 then .bad 6 else .tok 3 (span false l) (number (l.take (span false l))))
  else if letter c then (if span true l>40 then .bad 6 else if own (l.take (span true l)) then .tok 2 (span true l) 0 else .tok 1 (span true l) 0)
  else if mark l=0 then .bad 4 else .tok 4 (mark l) 0
structure Pos where
 line:Int
 col:Int
def step (p:Pos)(c:UInt8):Pos:=if (c.toNat:Int)==10 then ⟨p.line+1,1⟩ else if cont c then p else ⟨p.line,p.col+1⟩
def adv (p:Pos)(l:B):Pos:=l.foldl step p
theorem adv_append (p:Pos)(a b:B):adv p (a++b)=adv (adv p a) b:=List.foldl_append
theorem adv_nil (p:Pos):adv p []=p:=rfl
theorem adv_cons (p:Pos)(c:UInt8)(l:B):adv p (c :: l)=adv (step p c) l:=rfl
structure Tok where
 kind:Int
 text:B
 int:Int
 at_:Pos
inductive Res where
 | bad (e:Int) (p:Pos)
 | ok (l:List Tok)
def Res.after (out:List Tok):Res->Res
 | .bad e p => .bad e p
 | .ok l => .ok (out++l)
theorem Res.after_nil (r:Res):r.after []=r:=by cases r <;> rfl
theorem Res.after_after (a b:List Tok)(r:Res):(r.after b).after a=r.after (a++b):=by cases r <;> simp [Res.after]
def toks:Nat->Bool->Pos->B->Res
 | 0,_,_,_ => .ok []
 | f+1,note,p,l =>
  match one (l.drop (blanks note l)) with
  | .bad e => .bad e (adv p (l.take (blanks note l)))
  | .tok k n v =>
   if k=0 then .ok [⟨0,[],0,adv p (l.take (blanks note l))⟩]
   else (toks f false (adv p (l.take (blanks note l+n))) (l.drop (blanks note l+n))).after [⟨k,(l.drop (blanks note l)).take n,v,adv p (l.take (blanks note l))⟩]
def dec (l:B):Nat × Nat:=Go.Lib.decodeN l.length (l.getD 0 0).toNat (l.getD 1 0).toNat (l.getD 2 0).toNat (l.getD 3 0).toNat
def point (l:B):Nat:=if dec l=(65533,1) then 0 else (dec l).2
def vlen:Nat->B->Nat
 | 0,_=>0
 | f+1,l=>if l=[]\/point l=0 then 0 else point l+vlen f (l.drop (point l))
def whole (l:B):Res :=
 if l.length>65536 then .bad 6 ⟨1,1⟩
 else if vlen (l.length+1) l<l.length then .bad 3 (adv ⟨1,1⟩ (l.take (vlen (l.length+1) l)))
 else toks (l.length+1) false ⟨1,1⟩ l
end Go.Proofs.YtdfpkmfeldoamaaGreatDoor.Lx
namespace Go.Proofs.YtdfpkmfeldoamaaGreatDoor.Tn
structure Nd where
 op:ByteArray
 line:Int
 col:Int
 name:ByteArray
 num:Int
 kids:List Int
instance:Inhabited Nd:=⟨⟨ByteArray.mk #[],0,0,ByteArray.mk #[],0,[]⟩⟩
def nd (ms:List Nd)(i:Nat):Nd:=ms.getD i default
def kid (ks:List Int)(i:Nat):Int:=ks.getD i 0
def fits (len:Nat)(n:Nd):Bool:=n.kids.all fun k=>decide (0<=k) && decide (k<(len:Int))
def add (ms:List Nd)(n:Nd):List Nd:=if fits ms.length n=true then ms++[n] else ms
def build (l:List Nd):List Nd:=l.foldl add []
def WF (ms:List Nd):Prop:=∀ i,i<ms.length->∀ k∈(nd ms i).kids,0<=k/\k<(i:Int)
theorem nd_lt (ms:List Nd)(n:Nd){i:Nat}(h:i<ms.length):nd (ms++[n]) i=nd ms i:=by
 simp [nd,List.getElem?_append_left h]
theorem nd_last (ms:List Nd)(n:Nd):nd (ms++[n]) ms.length=n:=by simp [nd]
theorem kid_mem {ks:List Int}{i:Nat}(h:i<ks.length):kid ks i∈ks:=by
 simp only [kid,List.getD_eq_getElem?_getD,List.getElem?_eq_getElem h,Option.getD_some];exact List.getElem_mem h
theorem mem_kid {ks:List Int}{k:Int}(h:k∈ks):∃ i,i<ks.length/\kid ks i=k:=by
 obtain ⟨i,hi,e⟩:=List.mem_iff_getElem.1 h;exact ⟨i,hi,by rw [kid,List.getD_eq_getElem?_getD,List.getElem?_eq_getElem hi];exact e⟩
theorem fits_iff {len:Nat}{n:Nd} : fits len n=true↔∀ k∈n.kids,0<=k/\k<(len:Int):=by simp [fits]
theorem fits_at {len:Nat}{n:Nd} : fits len n=true↔∀ i,i<n.kids.length->0<=kid n.kids i/\kid n.kids i<(len:Int):=by
 rw [fits_iff]
 constructor
 ·intro h i hi;exact h _ (kid_mem hi)
 ·intro h k hk;obtain ⟨i,hi,rfl⟩:=mem_kid hk;exact h i hi
theorem WF.nil:WF []:=fun i h=>by simp at h
theorem WF.snoc {ms:List Nd}{n:Nd}(h:WF ms)(hf:fits ms.length n=true):WF (ms++[n]):=by
 intro i hi k hk
 by_cases e:i<ms.length
 ·rw [nd_lt ms n e] at hk;exact h i e k hk
 ·obtain rfl:i=ms.length:=by simp at hi;omega
  rw [nd_last] at hk;exact fits_iff.1 hf k hk
theorem WF.add {ms:List Nd}{n:Nd}(h:WF ms):WF (add ms n):=by
 unfold Tn.add;split
 ·exact h.snoc ‹_›
 ·exact h
def meas (f:Int->Int->Int)(ms:List Nd):Nat->Nat->Int
 | 0,_=>0
 | u+1,i=>(nd ms i).kids.foldl (fun a k=>f a (meas f ms u k.toNat)) 0+1
def M (f:Int->Int->Int)(ms:List Nd)(i:Nat):Int:=meas f ms (i+1) i
def places (ms:List Nd):Nat->Nat->List Nat
 | 0,_=>[]
 | u+1,i=>i :: (nd ms i).kids.flatMap fun k=>places ms u k.toNat
def Pl (ms:List Nd)(i:Nat):List Nat:=places ms (i+1) i
def Good (ms:List Nd):Prop:=ms.length<=999000/\∀ i,i<ms.length->(Pl ms i).length<=999000
theorem Good.nil:Good []:=⟨by simp,fun i h=>by simp at h⟩
end Go.Proofs.YtdfpkmfeldoamaaGreatDoor.Tn
namespace Go.Proofs.YtdfpkmfeldoamaaGreatDoor.Ex
open Lx (Tok Pos B)
open Tn (Nd fits)
def zt:Tok:=⟨0,[],0,⟨0,0⟩⟩
def tk (ts:List Tok)(p:Nat):Tok:=ts.getD p zt
def isT (t:Tok)(m:B):Bool:=(t.kind==4 || t.kind==2) && t.text==m
def bt (l:B):ByteArray:=⟨l.toArray⟩
structure S where
 p:Nat
 ns:List Nd
inductive Res (α:Type) where
 | ok (a:α) (s:S)
 | bad (c:Int) (p:Pos)
 | out
def Res.bind {α β:Type}(r:Res α)(f:α->S->Res β):Res β:=match r with
 | .ok a s=>f a s
 | .bad c p => .bad c p
 | .out => .out
def begins (t:Tok):Bool:=t.kind==1 || t.kind==3 ||
 [[108,101,116],[105,102],[116,114,121],[114,97,105,115,101],[111,117,116],[45],[110,111,116],[102,115,116],[115,110,100],[33],[116,114,117,101],[102,97,108,115,101],[104,111,108,101],[114,101,108,101,97,115,101],[40]].contains t.text
section
variable (ts:List Tok)
def is (s:S)(m:B):Bool:=isT (tk ts s.p) m
def S.skip (s:S):S:=⟨s.p+1,s.ns⟩
def at_ (s:S):Pos:=(tk ts s.p).at_
def wrong {α:Type}(c:Int)(s:S):Res α := .bad c (at_ ts s)
def enter (d:Nat)(s:S):Res Nat:=if 64<=d then wrong ts 6 s else .ok (d+1) s
def take (m:B)(s:S):Res Unit:=if is ts s m=true then .ok () s.skip else wrong ts 5 s
def name (s:S):Res B:=if ((tk ts s.p).kind==1)=true then .ok (tk ts s.p).text s.skip else wrong ts 5 s
def addN (n:Nd)(s:S):Res Nat :=
 if fits s.ns.length n=true then (if 4000<=s.ns.length then wrong ts 6 s else .ok s.ns.length ⟨s.p,s.ns++[n]⟩) else wrong ts 1 s
def add (op:B)(at_:Pos)(name:B)(kids:List Nat)(s:S):Res Nat:=addN ts ⟨bt op,at_.line,at_.col,bt name,0,kids.map fun (k:Nat)=>(k:Int)⟩ s
def named (op:B)(s:S):Res Nat:=(name ts s.skip).bind fun x s1=>add ts op (at_ ts s) x [] s1
abbrev Part:=S->Res Nat
def between (part:Part)(l:Nat)(s:S):Res Nat:=(part s.skip).bind fun r s1=>add ts (tk ts s.p).text (at_ ts s) [] [l,r] s1
def chainLoop (part:Part)(ms:List B):Nat->Nat->S->Res Nat
 | 0,_,_ => .out
 | n+1,l,s=>if (ms.any fun m=>is ts s m)=true then (between ts part l s).bind (chainLoop part ms n) else .ok l s
def chain (n:Nat)(part:Part)(ms:List B)(s:S):Res Nat:=(part s).bind (chainLoop ts part ms n)
def itemsLoop (item:Part):Nat->List Nat->List Pos->S->Res (List Nat × List Pos)
 | 0,_,_,_ => .out
 | n+1,is_,ps,s=>if (is ts s [59] && begins (tk ts (s.p+1)))=true then (item s.skip).bind fun i s1=>itemsLoop item n (is_++[i]) (ps++[at_ ts s]) s1 else .ok (is_,ps) s
def seqs (is_:List Nat)(ps:List Pos):Nat->Nat->S->Res Nat
 | 0,rest,s => .ok rest s
 | k+1,rest,s=>(add ts [115,101,113] (ps.getD k ⟨0,0⟩) [] [is_.getD k 0,rest] s).bind (seqs is_ ps k)
def allF (n:Nat)(item:Part)(s:S):Res Nat:=(item s).bind fun i s1=>(itemsLoop ts item n [i] [] s1).bind fun x s2=>seqs ts x.1 x.2 x.2.length (x.1.getD (x.1.length-1) 0) s2
def argsLoop (all:Part):Nat->List Nat->S->Res (List Nat)
 | 0,_,_ => .out
 | n+1,l,s=>if is ts s [44]=true then (all s.skip).bind fun i s1=>argsLoop all n (l++[i]) s1 else (take ts [41] s).bind fun _ s1 => .ok l s1
def args (n:Nat)(all:Part)(s:S):Res (List Nat):=if is ts s [41]=true then argsLoop ts all n [] s else (all s).bind fun i s1=>argsLoop ts all n [i] s1
inductive Tag where
 | all | item | or | and | test | sum | times | unary
abbrev Rec:=Tag->Nat->S->Res Nat
def letF (f:Rec)(d:Nat)(s:S):Res Nat :=
 (name ts s.skip).bind fun x s1=>(take ts [61] s1).bind fun _ s2=>(f .all d s2).bind fun a s3=>(take ts [105,110] s3).bind fun _ s4=>(f .all d s4).bind fun b s5=>add ts [108,101,116] (at_ ts s) x [a,b] s5
def choiceF (f:Rec)(d:Nat)(s:S):Res Nat :=
 (f .all d s.skip).bind fun c s1=>(take ts [116,104,101,110] s1).bind fun _ s2=>(f .item d s2).bind fun a s3=>(take ts [101,108,115,101] s3).bind fun _ s4=>(f .item d s4).bind fun b s5=>add ts [105,102] (at_ ts s) [] [c,a,b] s5
def guardF (f:Rec)(d:Nat)(s:S):Res Nat :=
 (f .all d s.skip).bind fun a s1=>(take ts [119,105,116,104] s1).bind fun _ s2=>(name ts s2).bind fun x s3=>(take ts [45,62] s3).bind fun _ s4=>(f .item d s4).bind fun b s5=>add ts [116,114,121] (at_ ts s) x [a,b] s5
def outF (f:Rec)(d:Nat)(s:S):Res Nat:=(name ts s.skip).bind fun x s1=>(f .or d s1).bind fun a s2=>add ts [111,117,116] (at_ ts s) x [a] s2
def setF (f:Rec)(d:Nat)(s:S):Res Nat:=(take ts [58,61] s.skip).bind fun _ s1=>(f .or d s1).bind fun a s2=>add ts [115,101,116] (at_ ts s) (tk ts s.p).text [a] s2
def itemF (f:Rec)(d:Nat)(s:S):Res Nat :=
 if is ts s [108,101,116]=true then letF ts f d s
 else if is ts s [105,102]=true then choiceF ts f d s
 else if is ts s [116,114,121]=true then guardF ts f d s
 else if is ts s [114,97,105,115,101]=true then named ts [114,97,105,115,101] s
 else if is ts s [111,117,116]=true then outF ts f d s
 else if ((tk ts s.p).kind==1 && isT (tk ts (s.p+1)) [58,61])=true then setF ts f d s
 else f .or d s
def testF (f:Rec)(d:Nat)(s:S):Res Nat:=(f .sum d s).bind fun l s1=>if (is ts s1 [61] || is ts s1 [60])=true then between ts (f .sum d) l s1 else .ok l s1
def prefixF (f:Rec)(op:B)(d:Nat)(s:S):Res Nat:=(f .unary d s.skip).bind fun a s1=>add ts op (at_ ts s) [] [a] s1
def releaseF (f:Rec)(d:Nat)(s:S):Res Nat :=
 (name ts s.skip).bind fun x s1=>(take ts [40] s1).bind fun _ s2=>(f .all d s2).bind fun a s3=>(take ts [41] s3).bind fun _ s4=>add ts [114,101,108,101,97,115,101] (at_ ts s) x [a] s4
def bracketsF (f:Rec)(d:Nat)(s:S):Res Nat :=
 if is ts s.skip [41]=true then add ts [117,110,105,116] (at_ ts s) [] [] s.skip.skip
 else (f .all d s.skip).bind fun a s1=>if is ts s1 [44]=true then ((f .all d s1.skip).bind fun b s2=>(take ts [41] s2).bind fun _ s3=>add ts [112,97,105,114] (at_ ts s) [] [a,b] s3)
  else (take ts [41] s1).bind fun _ s2 => .ok a s2
def varF (n:Nat)(f:Rec)(d:Nat)(s:S):Res Nat :=
 if is ts s.skip [40]=true then (args ts n (f .all d) s.skip.skip).bind fun l s1=>add ts [99,97,108,108] (at_ ts s) (tk ts s.p).text l s1
 else add ts [118,97,114] (at_ ts s) (tk ts s.p).text [] s.skip
def unaryF (n:Nat)(f:Rec)(d:Nat)(s:S):Res Nat :=
 if ((tk ts s.p).kind==3)=true then addN ts ⟨bt [105,110,116],(at_ ts s).line,(at_ ts s).col,bt [],(tk ts s.p).int,[]⟩ s.skip
 else if ((tk ts s.p).kind==1)=true then varF ts n f d s
 else if ((tk ts s.p).text==[45])=true then prefixF ts f [110,101,103] d s
 else if ((tk ts s.p).text==[110,111,116] || (tk ts s.p).text==[102,115,116] || (tk ts s.p).text==[115,110,100])=true then prefixF ts f (tk ts s.p).text d s
 else if ((tk ts s.p).text==[33])=true then named ts [103,101,116] s
 else if ((tk ts s.p).text==[104,111,108,101])=true then named ts [104,111,108,101] s
 else if ((tk ts s.p).text==[116,114,117,101] || (tk ts s.p).text==[102,97,108,115,101])=true then add ts (tk ts s.p).text (at_ ts s) [] [] s.skip
 else if ((tk ts s.p).text==[114,101,108,101,97,115,101])=true then releaseF ts f d s
 else if ((tk ts s.p).text==[40])=true then bracketsF ts f d s
 else wrong ts 5 s
def stepF (n:Nat)(f:Rec)(t:Tag)(d:Nat)(s:S):Res Nat:=match t with
 | .all=>allF ts n (f .item d) s
 | .item=>(enter ts d s).bind fun d1 s1=>itemF ts f d1 s1
 | .or=>chain ts n (f .and d) [[111,114]] s
 | .and=>chain ts n (f .test d) [[97,110,100]] s
 | .test=>testF ts f d s
 | .sum=>chain ts n (f .times d) [[43],[45]] s
 | .times=>chain ts n (f .unary d) [[42]] s
 | .unary=>(enter ts d s).bind fun d1 s1=>unaryF ts n f d1 s1
def rec_:Nat->Rec
 | 0=>fun _ _ _ => .out
 | n+1=>stepF ts n (rec_ n)
end
theorem is_lt {ts:List Tok}{s:S}{m:B}(h:is ts s m=true):s.p<ts.length:=by
 rcases Nat.lt_or_ge s.p ts.length with h1 | h1
 ·exact h1
 ·rw [is,tk,List.getD_eq_getElem?_getD,List.getElem?_eq_none h1] at h;simp [isT,zt] at h
theorem kind_lt {ts:List Tok}{p:Nat}(h:(tk ts p).kind≠0):p<ts.length:=by
 rcases Nat.lt_or_ge p ts.length with h1 | h1
 ·exact h1
 ·rw [tk,List.getD_eq_getElem?_getD,List.getElem?_eq_none h1] at h;simp [zt] at h
theorem text_lt {ts:List Tok}{p:Nat}(h:(tk ts p).text≠[]):p<ts.length:=by
 rcases Nat.lt_or_ge p ts.length with h1 | h1
 ·exact h1
 ·rw [tk,List.getD_eq_getElem?_getD,List.getElem?_eq_none h1] at h;simp [zt] at h
theorem tk_get {ts:List Tok}{p:Nat}(h:p<ts.length):ts[p]? = some (tk ts p):=by
 rw [tk,List.getD_eq_getElem?_getD,List.getElem?_eq_getElem h];rfl
end Go.Proofs.YtdfpkmfeldoamaaGreatDoor.Ex
namespace Go.Proofs.YtdfpkmfeldoamaaGreatDoor.Pg
open Lx (Tok Pos B)
open Ex (S Res tk at_ take wrong rec_)
structure Nm where
 text:B
 at_:Pos
def zn:Nm:=⟨[],⟨0,0⟩⟩
structure Dc where
 name:Nm
 conf:Nm
 integ:Nm
 int:Int
structure St where
 ins:List Dc
 exns:List Dc
 mt:B
 mp:Pos
 mb:Nat
def st0:St:=⟨[],[],[],⟨0,0⟩,0⟩
abbrev wMain:B:=[109,97,105,110]
abbrev wInput:B:=[105,110,112,117,116]
abbrev wExn:B:=[101,120,99,101,112,116,105,111,110]
inductive R (α:Type) where
 | ok (a:α) (s:S)
 | bad (c:Int) (p:Pos) (n:B)
 | out
def R.bind {α β:Type}(r:R α)(f:α->S->R β):R β:=match r with
 | .ok a s=>f a s
 | .bad c p n => .bad c p n
 | .out => .out
def lift {α:Type} : Res α->R α
 | .ok a s => .ok a s
 | .bad c p => .bad c p []
 | .out => .out
section
variable (ts:List Tok)
def takes:List B->S->Res Unit
 | [],s => .ok () s
 | m :: l,s=>(take ts m s).bind fun _ s1=>takes l s1
def nameAt (before:List B)(s:S):Res Nm:=(takes ts before s).bind fun _ s1=>if ((tk ts s1.p).kind==1)=true then .ok ⟨(tk ts s1.p).text,at_ ts s1⟩ s1.skip else wrong ts 5 s1
def points (n:Nm)(s:S):Res Dc:=(nameAt ts [[58],[123]] s).bind fun c s1=>(nameAt ts [] s1).bind fun i s2=>(take ts [125] s2).bind fun _ s3 => .ok ⟨n,c,i,0⟩ s3
def decl0 (word:B)(s:S):Res Dc:=(nameAt ts [word] s).bind fun n s1 => .ok ⟨n,zn,zn,0⟩ s1
def declP (word:B)(s:S):Res Dc:=(nameAt ts [word] s).bind (points ts)
def bodyF (n:Nat)(s:S):Res Nat:=(take ts [61] s).bind fun _ s1=>rec_ ts n .all 0 s1
def mainF (n:Nat)(s:S):Res Nat:=(take ts wMain s).bind fun _ s1=>bodyF ts n s1
def one (n:Nat)(g:St)(s:S):R St :=
 if ((tk ts s.p).text==wExn)=true then (lift (decl0 ts wExn s)).bind fun d s1 => .ok ⟨g.ins,g.exns++[d],g.mt,g.mp,g.mb⟩ s1
 else if ((tk ts s.p).text==wInput)=true then (lift (declP ts wInput s)).bind fun d s1 => .ok ⟨g.ins++[d],g.exns,g.mt,g.mp,g.mb⟩ s1
 else if ((tk ts s.p).text==wMain)=true then (if (g.mt==wMain)=true then .bad 8 (at_ ts s) wMain else (lift (mainF ts n s)).bind fun i s1 => .ok ⟨g.ins,g.exns,wMain,at_ ts s,i⟩ s1)
 else .out
def all (n:Nat):Nat->Nat->St->S->R St
 | 0,_,_,_ => .out
 | f+1,k,g,s =>
  if ((tk ts s.p).kind==0)=true then (if (g.mt==wMain)=true then .ok g s else .bad 16 (at_ ts s) wMain)
  else if k=100 then .bad 6 (at_ ts s) []
  else (one ts n g s).bind fun g1 s1=>(lift (take ts [59] s1)).bind fun _ s2=>all n f (k+1) g1 s2
end
end Go.Proofs.YtdfpkmfeldoamaaGreatDoor.Pg
namespace Go.Proofs.YtdfpkmfeldoamaaGreatDoor.Pf
open Lx (Tok Pos B)
open Ex (S Res tk at_ is take wrong rec_)
open Pg (Nm zn Dc R lift nameAt decl0 declP bodyF mainF wMain wInput wExn)
structure Fn where
 name:Nm
 params:List Nm
 body:Nat
structure St where
 ins:List Dc
 glo:List Dc
 cha:List Dc
 exns:List Dc
 funs:List Fn
 mt:B
 mp:Pos
 mb:Nat
def st0:St:=⟨[],[],[],[],[],[],⟨0,0⟩,0⟩
abbrev wGlo:B:=[103,108,111,98,97,108]
abbrev wCha:B:=[99,104,97,110,110,101,108]
abbrev wFun:B:=[102,117,110]
section
variable (ts:List Tok)
def past (m:Bool)(s:S):S:=if m=true then s.skip else s
def number (d:Dc)(s:S):Res Dc:=(take ts [61] s).bind fun _ s1 =>
 if ((tk ts (past (is ts s1 [45]) s1).p).kind==3)=true then .ok ⟨d.name,d.conf,d.integ,if is ts s1 [45]=true then -(tk ts (past (is ts s1 [45]) s1).p).int else (tk ts (past (is ts s1 [45]) s1).p).int⟩ (past (is ts s1 [45]) s1).skip
 else wrong ts 5 (past (is ts s1 [45]) s1)
def declG (s:S):Res Dc:=(declP ts wGlo s).bind (number ts)
def paramsLoop:Nat->List Nm->S->Res (List Nm)
 | 0,_,_ => .out
 | f+1,l,s=>(nameAt ts [] s).bind fun n s1=>if is ts s1 [44]=true then paramsLoop f (l++[n]) s1.skip else (take ts [41] s1).bind fun _ s2 => .ok (l++[n]) s2
def params (n:Nat)(s:S):Res (List Nm):=(take ts [40] s).bind fun _ s1=>if is ts s1 [41]=true then .ok [] s1.skip else paramsLoop ts n [] s1
def funF (n:Nat)(s:S):Res Fn:=(nameAt ts [wFun] s).bind fun nm s1=>(params ts n s1).bind fun ps s2=>(bodyF ts n s2).bind fun b s3 => .ok ⟨nm,ps,b⟩ s3
def one (n:Nat)(g:St)(s:S):R St :=
 if ((tk ts s.p).text==wInput)=true then (lift (declP ts wInput s)).bind fun d s1 => .ok { g with ins:=g.ins++[d] } s1
 else if ((tk ts s.p).text==wGlo)=true then (lift (declG ts s)).bind fun d s1 => .ok { g with glo:=g.glo++[d] } s1
 else if ((tk ts s.p).text==wCha)=true then (lift (declP ts wCha s)).bind fun d s1 => .ok { g with cha:=g.cha++[d] } s1
 else if ((tk ts s.p).text==wExn)=true then (lift (decl0 ts wExn s)).bind fun d s1 => .ok { g with exns:=g.exns++[d] } s1
 else if ((tk ts s.p).text==wFun)=true then (lift (funF ts n s)).bind fun d s1 => .ok { g with funs:=g.funs++[d] } s1
 else if ((tk ts s.p).text==wMain)=true then (if (g.mt==wMain)=true then .bad 8 (at_ ts s) wMain else (lift (mainF ts n s)).bind fun i s1 => .ok { g with mt:=wMain,mp:=at_ ts s,mb:=i } s1)
 else .bad 5 (at_ ts s) []
def all (n:Nat):Nat->Nat->St->S->R St
 | 0,_,_,_ => .out
 | f+1,k,g,s =>
  if ((tk ts s.p).kind==0)=true then (if (g.mt==wMain)=true then .ok g s else .bad 16 (at_ ts s) wMain)
  else if k=100 then .bad 6 (at_ ts s) []
  else (one ts n g s).bind fun g1 s1=>(lift (take ts [59] s1)).bind fun _ s2=>all n f (k+1) g1 s2
end
end Go.Proofs.YtdfpkmfeldoamaaGreatDoor.Pf
