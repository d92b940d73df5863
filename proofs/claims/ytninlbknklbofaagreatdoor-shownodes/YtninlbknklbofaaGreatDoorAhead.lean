/- A part of the proof: A part of the proof. -/
import Derived.Test.YtninlbknklbofaaGreatDoorLScan
import Derived.Test.YtninlbknklbofaaGreatDoorTLeaf
import Derived.Test.YtninlbknklbofaaGreatDoorLToks
import Derived.Test.YtninlbknklbofaaGreatDoorSameT
import Derived.Deep.RegionHeld3
import Derived.BigRegion
import Derived.BigQuiet
import Derived.StillTailTactics
import Derived.IntWalk
set_option linter.unusedSimpArgs false
set_option linter.unusedVariables false
set_option maxRecDepth 100000
set_option maxHeartbeats 2000000
namespace Go.Proofs.YtninlbknklbofaaGreatDoor.Ex
open Lx (Tok Pos B)
open Tn (Nd fits)
def zt:Tok:=⟨0,[],0,⟨0,0⟩⟩
def tk (ts:List Tok)(p:Nat):Tok:=ts.getD p zt
def isT (t:Tok)(m:B):Bool:=(t.kind==4 || t.kind==2) && t.text==m
def bt (l:B):ByteArray:=⟨l.toArray⟩
structure S where
 p:Nat
 ns:List Nd
inductive Res (α:Type) where
 | ok (a:α) (s:S)
 | bad (c:Int) (p:Pos)
 | out
def Res.bind {α β:Type}(r:Res α)(f:α->S->Res β):Res β:=match r with
 | .ok a s=>f a s
 | .bad c p => .bad c p
 | .out => .out
def begins (t:Tok):Bool:=t.kind==1 || t.kind==3 ||
 [[108,101,116],[105,102],[116,114,121],[114,97,105,115,101],[111,117,116],[45],[110,111,116],[102,115,116],[115,110,100],[33],[116,114,117,101],[102,97,108,115,101],[104,111,108,101],[114,101,108,101,97,115,101],[40]].contains t.text
section
variable (ts:List Tok)
def is (s:S)(m:B):Bool:=isT (tk ts s.p) m
def S.skip (s:S):S:=⟨s.p+1,s.ns⟩
def at_ (s:S):Pos:=(tk ts s.p).at_
def wrong {α:Type}(c:Int)(s:S):Res α := .bad c (at_ ts s)
def enter (d:Nat)(s:S):Res Nat:=if 64<=d then wrong ts 6 s else .ok (d+1) s
def take (m:B)(s:S):Res Unit:=if is ts s m=true then .ok () s.skip else wrong ts 5 s
def name (s:S):Res B:=if ((tk ts s.p).kind==1)=true then .ok (tk ts s.p).text s.skip else wrong ts 5 s
def addN (n:Nd)(s:S):Res Nat :=
 if fits s.ns.length n=true then (if 4000<=s.ns.length then wrong ts 6 s else .ok s.ns.length ⟨s.p,s.ns++[n]⟩) else wrong ts 1 s
def add (op:B)(at_:Pos)(name:B)(kids:List Nat)(s:S):Res Nat:=addN ts ⟨bt op,at_.line,at_.col,bt name,0,kids.map fun (k:Nat)=>(k:Int)⟩ s
def named (op:B)(s:S):Res Nat:=(name ts s.skip).bind fun x s1=>add ts op (at_ ts s) x [] s1
abbrev Part:=S->Res Nat
def between (part:Part)(l:Nat)(s:S):Res Nat:=(part s.skip).bind fun r s1=>add ts (tk ts s.p).text (at_ ts s) [] [l,r] s1
def chainLoop (part:Part)(ms:List B):Nat->Nat->S->Res Nat
 | 0,_,_ => .out
 | n+1,l,s=>if (ms.any fun m=>is ts s m)=true then (between ts part l s).bind (chainLoop part ms n) else .ok l s
def chain (n:Nat)(part:Part)(ms:List B)(s:S):Res Nat:=(part s).bind (chainLoop ts part ms n)
def itemsLoop (item:Part):Nat->List Nat->List Pos->S->Res (List Nat × List Pos)
 | 0,_,_,_ => .out
 | n+1,is_,ps,s=>if (is ts s [59] && begins (tk ts (s.p+1)))=true then (item s.skip).bind fun i s1=>itemsLoop item n (is_++[i]) (ps++[at_ ts s]) s1 else .ok (is_,ps) s
def seqs (is_:List Nat)(ps:List Pos):Nat->Nat->S->Res Nat
 | 0,rest,s => .ok rest s
 | k+1,rest,s=>(add ts [115,101,113] (ps.getD k ⟨0,0⟩) [] [is_.getD k 0,rest] s).bind (seqs is_ ps k)
def allF (n:Nat)(item:Part)(s:S):Res Nat:=(item s).bind fun i s1=>(itemsLoop ts item n [i] [] s1).bind fun x s2=>seqs ts x.1 x.2 x.2.length (x.1.getD (x.1.length-1) 0) s2
def argsLoop (all:Part):Nat->List Nat->S->Res (List Nat)
 | 0,_,_ => .out
 | n+1,l,s=>if is ts s [44]=true then (all s.skip).bind fun i s1=>argsLoop all n (l++[i]) s1 else (take ts [41] s).bind fun _ s1 => .ok l s1
def args (n:Nat)(all:Part)(s:S):Res (List Nat):=if is ts s [41]=true then argsLoop ts all n [] s else (all s).bind fun i s1=>argsLoop ts all n [i] s1
inductive Tag where
 | all | item | or | and | test | sum | times | unary
abbrev Rec:=Tag->Nat->S->Res Nat
def letF (f:Rec)(d:Nat)(s:S):Res Nat :=
 (name ts s.skip).bind fun x s1=>(take ts [61] s1).bind fun _ s2=>(f .all d s2).bind fun a s3=>(take ts [105,110] s3).bind fun _ s4=>(f .all d s4).bind fun b s5=>add ts [108,101,116] (at_ ts s) x [a,b] s5
def choiceF (f:Rec)(d:Nat)(s:S):Res Nat :=
 (f .all d s.skip).bind fun c s1=>(take ts [116,104,101,110] s1).bind fun _ s2=>(f .item d s2).bind fun a s3=>(take ts [101,108,115,101] s3).bind fun _ s4=>(f .item d s4).bind fun b s5=>add ts [105,102] (at_ ts s) [] [c,a,b] s5
def guardF (f:Rec)(d:Nat)(s:S):Res Nat :=
 (f .all d s.skip).bind fun a s1=>(take ts [119,105,116,104] s1).bind fun _ s2=>(name ts s2).bind fun x s3=>(take ts [45,62] s3).bind fun _ s4=>(f .item d s4).bind fun b s5=>add ts [116,114,121] (at_ ts s) x [a,b] s5
def outF (f:Rec)(d:Nat)(s:S):Res Nat:=(name ts s.skip).bind fun x s1=>(f .or d s1).bind fun a s2=>add ts [111,117,116] (at_ ts s) x [a] s2
def setF (f:Rec)(d:Nat)(s:S):Res Nat:=(take ts [58,61] s.skip).bind fun _ s1=>(f .or d s1).bind fun a s2=>add ts [115,101,116] (at_ ts s) (tk ts s.p).text [a] s2
def itemF (f:Rec)(d:Nat)(s:S):Res Nat :=
 if is ts s [108,101,116]=true then letF ts f d s
 else if is ts s [105,102]=true then choiceF ts f d s
 else if is ts s [116,114,121]=true then guardF ts f d s
 else if is ts s [114,97,105,115,101]=true then named ts [114,97,105,115,101] s
 else if is ts s [111,117,116]=true then outF ts f d s
 else if ((tk ts s.p).kind==1 && isT (tk ts (s.p+1)) [58,61])=true then setF ts f d s
 else f .or d s
def testF (f:Rec)(d:Nat)(s:S):Res Nat:=(f .sum d s).bind fun l s1=>if (is ts s1 [61] || is ts s1 [60])=true then between ts (f .sum d) l s1 else .ok l s1
def prefixF (f:Rec)(op:B)(d:Nat)(s:S):Res Nat:=(f .unary d s.skip).bind fun a s1=>add ts op (at_ ts s) [] [a] s1
def releaseF (f:Rec)(d:Nat)(s:S):Res Nat :=
 (name ts s.skip).bind fun x s1=>(take ts [40] s1).bind fun _ s2=>(f .all d s2).bind fun a s3=>(take ts [41] s3).bind fun _ s4=>add ts [114,101,108,101,97,115,101] (at_ ts s) x [a] s4
def bracketsF (f:Rec)(d:Nat)(s:S):Res Nat :=
 if is ts s.skip [41]=true then add ts [117,110,105,116] (at_ ts s) [] [] s.skip.skip
 else (f .all d s.skip).bind fun a s1=>if is ts s1 [44]=true then ((f .all d s1.skip).bind fun b s2=>(take ts [41] s2).bind fun _ s3=>add ts [112,97,105,114] (at_ ts s) [] [a,b] s3)
  else (take ts [41] s1).bind fun _ s2 => .ok a s2
def varF (n:Nat)(f:Rec)(d:Nat)(s:S):Res Nat :=
 if is ts s.skip [40]=true then (args ts n (f .all d) s.skip.skip).bind fun l s1=>add ts [99,97,108,108] (at_ ts s) (tk ts s.p).text l s1
 else add ts [118,97,114] (at_ ts s) (tk ts s.p).text [] s.skip
def unaryF (n:Nat)(f:Rec)(d:Nat)(s:S):Res Nat :=
 if ((tk ts s.p).kind==3)=true then addN ts ⟨bt [105,110,116],(at_ ts s).line,(at_ ts s).col,bt [],(tk ts s.p).int,[]⟩ s.skip
 else if ((tk ts s.p).kind==1)=true then varF ts n f d s
 else if ((tk ts s.p).text==[45])=true then prefixF ts f [110,101,103] d s
 else if ((tk ts s.p).text==[110,111,116] || (tk ts s.p).text==[102,115,116] || (tk ts s.p).text==[115,110,100])=true then prefixF ts f (tk ts s.p).text d s
 else if ((tk ts s.p).text==[33])=true then named ts [103,101,116] s
 else if ((tk ts s.p).text==[104,111,108,101])=true then named ts [104,111,108,101] s
 else if ((tk ts s.p).text==[116,114,117,101] || (tk ts s.p).text==[102,97,108,115,101])=true then add ts (tk ts s.p).text (at_ ts s) [] [] s.skip
 else if ((tk ts s.p).text==[114,101,108,101,97,115,101])=true then releaseF ts f d s
 else if ((tk ts s.p).text==[40])=true then bracketsF ts f d s
 else wrong ts 5 s
def stepF (n:Nat)(f:Rec)(t:Tag)(d:Nat)(s:S):Res Nat:=match t with
 | .all=>allF ts n (f .item d) s
 | .item=>(enter ts d s).bind fun d1 s1=>itemF ts f d1 s1
 | .or=>chain ts n (f .and d) [[111,114]] s
 | .and=>chain ts n (f .test d) [[97,110,100]] s
 | .test=>testF ts f d s
 | .sum=>chain ts n (f .times d) [[43],[45]] s
 | .times=>chain ts n (f .unary d) [[42]] s
 | .unary=>(enter ts d s).bind fun d1 s1=>unaryF ts n f d1 s1
def rec_:Nat->Rec
 | 0=>fun _ _ _ => .out
 | n+1=>stepF ts n (rec_ n)
end
theorem is_lt {ts:List Tok}{s:S}{m:B}(h:is ts s m=true):s.p<ts.length:=by
 rcases Nat.lt_or_ge s.p ts.length with h1 | h1
 ·exact h1
 ·rw [is,tk,List.getD_eq_getElem?_getD,List.getElem?_eq_none h1] at h;simp [isT,zt] at h
theorem kind_lt {ts:List Tok}{p:Nat}(h:(tk ts p).kind≠0):p<ts.length:=by
 rcases Nat.lt_or_ge p ts.length with h1 | h1
 ·exact h1
 ·rw [tk,List.getD_eq_getElem?_getD,List.getElem?_eq_none h1] at h;simp [zt] at h
theorem text_lt {ts:List Tok}{p:Nat}(h:(tk ts p).text≠[]):p<ts.length:=by
 rcases Nat.lt_or_ge p ts.length with h1 | h1
 ·exact h1
 ·rw [tk,List.getD_eq_getElem?_getD,List.getElem?_eq_none h1] at h;simp [zt] at h
theorem tk_get {ts:List Tok}{p:Nat}(h:p<ts.length):ts[p]? = some (tk ts p):=by
 rw [tk,List.getD_eq_getElem?_getD,List.getElem?_eq_getElem h];rfl
end Go.Proofs.YtninlbknklbofaaGreatDoor.Ex
namespace Go.Proofs.YtninlbknklbofaaGreatDoor
section
open Go.RowKit Tn Lx
theorem tokCells_get {ts:List Lx.Tok}{k:Nat}{t:Lx.Tok}(h:ts[k]? = some t)(j:Nat)(hj:j<5):(tokCells ts)[k*5+j]? = (tokCell t)[j]? := by
 induction ts generalizing k with
 | nil=>simp at h
 | cons q r ih =>
  have e:tokCells (q :: r)=tokCell q++tokCells r:=rfl;have hl:(tokCell q).length=5:=rfl
  cases k with
  | zero =>
   simp at h;subst h;rw [e,Nat.zero_mul,Nat.zero_add,List.getElem?_append_left (by omega)]
  | succ k =>
   rw [e,List.getElem?_append_right (by rw [hl];omega),hl];have:(k+1)*5+j-5=k*5+j:=by omega
   rw [this];exact ih (by simpa using h)
def tval (t:Tok):Value := .agg #[.int .i64 t.kind,.string ⟨t.text.toArray⟩,.int .i64 t.int,.int .i64 t.at_.line,.int .i64 t.at_.col]
structure Cx where
 B:Nat
 r:Nat
 bt:Nat
 g:Nat
 cap:Nat
 ts:List Tok
def Off (X:Nat->Prop)(v:Value)(l:List SN):Prop:=(∀ g,v.ownBlock=some g->¬ X g)/\∀ q∈l,∀ g,(Value.slice q.ka q.n.kids.length q.kc).ownBlock=some g->¬ X g
structure Rd (c:Cx)(X:Nat->Prop)(w:World)(s:Ex.S):Prop where
 blk:w.heap[c.r]? = some (.cells #[.pointer (some ⟨c.bt,0,none⟩),.slice (some ⟨c.g,0,none⟩) c.ts.length c.cap,.int .i64 s.p] 83 (0,0))
 tok:∀ i u,(tokCells c.ts)[i]? = some u->w.cell? ⟨c.g,i,none⟩=some u
 tree:∃ v l,nds l=s.ns/\TreeOwn c.B w c.bt v l/\Off X v l
 p:s.p<=c.ts.length
 few:c.ts.length<=900000
 room:c.ts.length<=c.cap
 len:s.ns.length<=4000
 rlt:c.r<c.B
 blt:c.bt<c.B
 glt:c.g<c.B
 rb:c.r≠c.bt
 gr:c.g≠c.r
 gb:c.g≠c.bt
 size:c.B<=w.heap.size
 xlt:∀ k,X k->k<w.heap.size
def Free (c:Cx)(w:World)(k:Nat):Prop:=k=c.r\/k=c.bt\/(c.B<=k/\∃ cs fr,w.heap[k]? = some (.cells cs 30 fr))
def Kp (c:Cx)(w w':World):Prop:=But (Free c w) w w'
theorem Kp.refl (c:Cx)(w:World):Kp c w w:=But.refl _ _
theorem Kp.trans {c:Cx}{a b d:World}(h:Kp c a b)(k:Kp c b d):Kp c a d :=
 ⟨k.os.trans h.os,k.tape.trans h.tape,k.output.trans h.output,Nat.le_trans h.size k.size,fun i hi hp=>by
  have e:=h.block i hi hp;refine (k.block i (Nat.lt_of_lt_of_le hi h.size) ?_).trans e;intro hf
  rcases hf with e1 | e1 | ⟨e1,cs,fr,e2⟩
  ·exact hp (.inl e1)
  ·exact hp (.inr (.inl e1))
  ·exact hp (.inr (.inr ⟨e1,cs,fr,e ▸ e2⟩))⟩
theorem Kp.of_below {c:Cx}{a b:World}(h:Below a.heap.size a b):Kp c a b:=But.of_below h
theorem Kp.size {c:Cx}{a b:World}(h:Kp c a b):a.heap.size<=b.heap.size:=But.size h
theorem Kp.drew {c:Cx}{a b:World}(h:Kp c a b):Kp c a b.drew:=⟨h.os,h.tape,h.output,h.size,h.block⟩
theorem Kp.undrew {c:Cx}{a b:World}(h:Kp c a.drew b):Kp c a b:=⟨h.os,h.tape,h.output,h.size,h.block⟩
theorem Kp.then_below {c:Cx}{a b d:World}(h:Kp c a b)(k:Below b.heap.size b d):Kp c a d:=h.trans (Kp.of_below k)
theorem Below.then_kp {c:Cx}{a b d:World}(h:Below a.heap.size a b)(k:Kp c b d):Kp c a d:=(Kp.of_below h).trans k
theorem Kp.heap {c:Cx}{a b:World}(h:Kp c a b){k:Nat}{cs:Array Value}{t:TypeId}{fr:Nat × Nat}(hk:a.heap[k]? = some (.cells cs t fr))(h1:k≠c.r)(h2:k≠c.bt)(ht:t≠30):b.heap[k]? = some (.cells cs t fr) :=
 (h.block k (lt_of_heap hk) (by
  rintro (e | e | ⟨_,cs',fr',e⟩)
  ·exact h1 e
  ·exact h2 e
  ·rw [hk] at e;injection e with e;injection e with _ e;exact ht e)).trans hk
theorem Kp.old {c:Cx}{a b:World}(h:Kp c a b){k:Nat}(hk:k<a.heap.size)(hB:k<c.B)(h1:k≠c.r)(h2:k≠c.bt):b.heap[k]? = a.heap[k]? :=
 h.block k hk (by
  rintro (e | e | ⟨e,_⟩)
  ·exact h1 e
  ·exact h2 e
  ·omega)
theorem Rd.c0 {c:Cx}{X:Nat->Prop}{w:World}{s:Ex.S}(h:Rd c X w s):w.cell? ⟨c.r,0,none⟩=some (.pointer (some ⟨c.bt,0,none⟩)):=(blk_cell h.blk 0).trans rfl
theorem Rd.c1 {c:Cx}{X:Nat->Prop}{w:World}{s:Ex.S}(h:Rd c X w s):w.cell? ⟨c.r,1,none⟩=some (.slice (some ⟨c.g,0,none⟩) c.ts.length c.cap):=(blk_cell h.blk 1).trans rfl
theorem Rd.c2 {c:Cx}{X:Nat->Prop}{w:World}{s:Ex.S}(h:Rd c X w s):w.cell? ⟨c.r,2,none⟩=some (.int .i64 s.p):=(blk_cell h.blk 2).trans rfl
theorem Rd.fz {c:Cx}{X:Nat->Prop}{w:World}{s:Ex.S}(h:Rd c X w s)(i:Nat):w.frozen? ⟨c.r,i,none⟩=false:=blk_frozen h.blk i
theorem Rd.lt {c:Cx}{X:Nat->Prop}{w:World}{s:Ex.S}(h:Rd c X w s):c.r<w.heap.size:=lt_of_heap h.blk
theorem Rd.tk {c:Cx}{X:Nat->Prop}{w:World}{s:Ex.S}(h:Rd c X w s){q:Nat}(hq:q<c.ts.length)(j:Nat)(hj:j<5){u:Value}(hu:(tokCell (Ex.tk c.ts q))[j]? = some u):w.cell? ⟨c.g,q*5+j,none⟩=some u :=
 h.tok _ _ (by rw [tokCells_get (Ex.tk_get hq) j hj];exact hu)
theorem Rd.but {c:Cx}{X:Nat->Prop}{w w':World}{s:Ex.S}(h:Rd c X w s){q:Nat->Prop}(hb:But q w w')(h1:¬ q c.r)(h2:¬ q c.bt)(h3:¬ q c.g)(h4:∀ k,q k->X k\/∃ cs t fr,w.heap[k]? = some (.cells cs t fr)/\t≠30/\t≠3):Rd c X w' s:=by
 obtain ⟨v,l,e,ht,ho⟩:=h.tree;have no:∀ {t:TypeId} {z:Nat} {v:Value} {n:Nat} {xs:List Value},w.ownsRow c.B t z v n xs->(∀ g,v.ownBlock=some g->¬ X g)->(t=30\/t=3)->∀ g,v.ownBlock=some g->¬ q g:=fun ho hx hne g hg e=>by
  obtain ⟨_,cur,e1⟩:=own_tag ho hg
  rcases h4 g e with e2 | ⟨cs,t',fr,e2,e3,e4⟩
  ·exact hx g hg e2
  ·rw [e1] at e2;injection e2 with e2;injection e2 with _ e2
   rcases hne with e5 | e5
   ·exact e3 (e2.symm.trans e5)
   ·exact e4 (e2.symm.trans e5)
 exact ⟨hb.heap h.blk h1,fun i u hu=>(World.cell?_of_block (hb.block c.g (World.block_lt_of_cell? _ _ (h.tok i u hu)) h3)).trans (h.tok i u hu),
  ⟨v,l,e,⟨hb.heap ht.blk h2,hb.own ht.own (no ht.own ho.1 (.inl rfl)),fun q hq=>hb.own (ht.kids q hq) (no (ht.kids q hq) (ho.2 q hq) (.inr rfl)),ht.lt⟩,ho⟩,h.p,h.few,h.room,h.len,h.rlt,h.blt,h.glt,h.rb,h.gr,h.gb,Nat.le_trans h.size hb.size,fun k hk=>Nat.lt_of_lt_of_le (h.xlt k hk) hb.size⟩
theorem Rd.below {c:Cx}{X:Nat->Prop}{w w':World}{s:Ex.S}(h:Rd c X w s)(hb:Below w.heap.size w w'):Rd c X w' s :=
 h.but (q:=fun _=>False) (But.of_below hb) (fun e=>e) (fun e=>e) (fun e=>e) (fun _ e=>e.elim)
theorem Rd.drew {c:Cx}{X:Nat->Prop}{w:World}{s:Ex.S}(h:Rd c X w s):Rd c X w.drew s:=h.below (Below.refl _ _).drew
theorem Rd.less {c:Cx}{X Y:Nat->Prop}{w:World}{s:Ex.S}(h:Rd c Y w s)(hX:∀ k,X k->Y k):Rd c X w s:=by
 obtain ⟨v,l,e,ht,ho⟩:=h.tree;exact ⟨h.blk,h.tok,⟨v,l,e,ht,fun g hg e=>ho.1 g hg (hX g e),fun q hq g hg e=>ho.2 q hq g hg (hX g e)⟩,h.p,h.few,h.room,h.len,h.rlt,h.blt,h.glt,h.rb,h.gr,h.gb,h.size,fun k hk=>h.xlt k (hX k hk)⟩
theorem Rd.more {c:Cx}{X:Nat->Prop}{w w':World}{s:Ex.S}(h:Rd c X w s)(hb:Below w.heap.size w w')(Y:Nat->Prop)(hY:∀ k,Y k->X k\/(w.heap.size<=k/\k<w'.heap.size)):Rd c Y w' s:=by
 obtain ⟨v,l,e,ht,ho⟩:=h.tree;have h':=h.below hb;have no:∀ {t:TypeId} {z:Nat} {v:Value} {n:Nat} {xs:List Value},w.ownsRow c.B t z v n xs->(∀ g,v.ownBlock=some g->¬ X g)->∀ g,v.ownBlock=some g->¬ Y g:=fun ho hx g hg e=>by
  obtain ⟨_,cur,e1⟩:=own_tag ho hg;have:=lt_of_heap e1
  rcases hY g e with e2 | e2
  ·exact hx g hg e2
  ·omega
 exact ⟨h'.blk,h'.tok,⟨v,l,e,ht.below hb,no ht.own ho.1,fun q hq=>no (ht.kids q hq) (ho.2 q hq)⟩,h.p,h.few,h.room,h.len,h.rlt,h.blt,h.glt,h.rb,h.gr,h.gb,h'.size,fun k hk=>by
  rcases hY k hk with e | e
  ·exact h'.xlt k e
  ·exact e.2⟩
theorem Rd.skip {c:Cx}{X:Nat->Prop}{w:World}{s:Ex.S}(h:Rd c X w s)(hp:s.p<c.ts.length):Rd c X (w.setCell ⟨c.r,2,none⟩ (.int .i64 ((s.p:Int)+1))) s.skip/\Kp c w (w.setCell ⟨c.r,2,none⟩ (.int .i64 ((s.p:Int)+1))):=by
 obtain ⟨v,l,e,ht,ho⟩:=h.tree;have hb:But (fun k=>k=c.r) w (w.setCell ⟨c.r,2,none⟩ (.int .i64 ((s.p:Int)+1))):=But.setCell (p:=fun k=>k=c.r) w rfl 2 _;refine ⟨⟨by rw [blk_set h.blk];simp [Ex.S.skip],fun i u hu=>?_,⟨v,l,e,ht.but hb (fun e=>h.rb e.symm) (fun k hk e=>by have:=h.rlt;omega),ho⟩,by simp [Ex.S.skip];omega,h.few,h.room,h.len,h.rlt,h.blt,h.glt,h.rb,h.gr,h.gb,by simpa using h.size,fun k hk=>by simpa using h.xlt k hk⟩,hb.mono fun k _ e => .inl e⟩;have:=h.tok i u hu;rw [<- this];exact World.cell?_of_block (blk_other h.gr _ _)
theorem Kp.new {c:Cx}{a b d:World}(h:Kp c a b){q:Nat->Prop}(k:But q b d)(hq:∀ k,q k->a.heap.size<=k):Kp c a d :=
 ⟨k.os.trans h.os,k.tape.trans h.tape,k.output.trans h.output,Nat.le_trans h.size k.size,fun i hi hp=>(k.block i (Nat.lt_of_lt_of_le hi h.size) (fun e=>by have:=hq i e;omega)).trans (h.block i hi hp)⟩
end
section
open Go.RowKit Tn Lx
def AheadP (w:World)(t:Tok)(e:Ending)(w':World):Prop:=e = .returned (tval t)/\Below w.heap.size w w'
structure Five (w:World)(b:Nat)(v0 v1 v2 v3 v4:Value):Prop where
 blk:w.heap[b]? = some (.cells #[v0,v1,v2,v3,v4] 78 (0,0))
theorem Five.c0 {w:World}{b:Nat}{v0 v1 v2 v3 v4:Value}(h:Five w b v0 v1 v2 v3 v4):w.cell? ⟨b,0,none⟩=some v0:=(blk_cell h.blk 0).trans rfl
theorem Five.c1 {w:World}{b:Nat}{v0 v1 v2 v3 v4:Value}(h:Five w b v0 v1 v2 v3 v4):w.cell? ⟨b,1,none⟩=some v1:=(blk_cell h.blk 1).trans rfl
theorem Five.c2 {w:World}{b:Nat}{v0 v1 v2 v3 v4:Value}(h:Five w b v0 v1 v2 v3 v4):w.cell? ⟨b,2,none⟩=some v2:=(blk_cell h.blk 2).trans rfl
theorem Five.c3 {w:World}{b:Nat}{v0 v1 v2 v3 v4:Value}(h:Five w b v0 v1 v2 v3 v4):w.cell? ⟨b,3,none⟩=some v3:=(blk_cell h.blk 3).trans rfl
theorem Five.c4 {w:World}{b:Nat}{v0 v1 v2 v3 v4:Value}(h:Five w b v0 v1 v2 v3 v4):w.cell? ⟨b,4,none⟩=some v4:=(blk_cell h.blk 4).trans rfl
theorem Five.fz {w:World}{b:Nat}{v0 v1 v2 v3 v4:Value}(h:Five w b v0 v1 v2 v3 v4)(i:Nat):w.frozen? ⟨b,i,none⟩=false:=blk_frozen h.blk i
theorem Five.below {w w':World}{b:Nat}{v0 v1 v2 v3 v4:Value}(h:Five w b v0 v1 v2 v3 v4)(hb:Below w.heap.size w w'):Five w' b v0 v1 v2 v3 v4:=⟨(hb.block b (lt_of_heap h.blk)).trans h.blk⟩
theorem Five.store {w:World}{b:Nat}{v0 v1 v2 v3 v4:Value}(h:Five w b v0 v1 v2 v3 v4)(u0 u1 u2 u3 u4:Value):
  Five (((((w.setCell ⟨b,0,none⟩ u0).setCell ⟨b,1,none⟩ u1).setCell ⟨b,2,none⟩ u2).setCell ⟨b,3,none⟩ u3).setCell ⟨b,4,none⟩ u4) b u0 u1 u2 u3 u4 :=
 ⟨(blk_set (blk_set (blk_set (blk_set (blk_set h.blk 0 u0) 1 u1) 2 u2) 3 u3) 4 u4).trans rfl⟩
theorem below_five {N:Nat}{w w':World}{b:Nat}(h:Below N w w')(hb:N<=b)(u0 u1 u2 u3 u4:Value):
  Below N w (((((w'.setCell ⟨b,0,none⟩ u0).setCell ⟨b,1,none⟩ u1).setCell ⟨b,2,none⟩ u2).setCell ⟨b,3,none⟩ u3).setCell ⟨b,4,none⟩ u4) :=
 ((((h.setCell hb _).setCell hb _).setCell hb _).setCell hb _).setCell hb _
theorem Rd.drewN {c:Cx}{X:Nat->Prop}{w:World}{s:Ex.S}(h:Rd c X w s)(n:Nat):Rd c X (w.drewN n) s:=h.below (below_drewN (Below.refl _ _) n)
theorem ahead0_in (c:Cx)(X:Nat->Prop)(w:World)(s:Ex.S)(h:Rd c X w s)(hp:s.p<c.ts.length):Calls Tryz.prog 48 #[.pointer (some ⟨c.r,0,none⟩),.int .i64 0] w (AheadP w (Ex.tk c.ts s.p)):=by
 obtain ⟨W,hW⟩:∃ W,w.alloc (.cells #[.int .i64 0,.string ⟨#[]⟩,.int .i64 0,.int .i64 0,.int .i64 0] 78)=W:=⟨_,rfl⟩;have hb:Below w.heap.size w W:=by rw [<- hW];exact (Below.refl _ w).alloc (Nat.le_refl _) _
 have hz:Five W w.heap.size (.int .i64 0) (.string ⟨#[]⟩) (.int .i64 0) (.int .i64 0) (.int .i64 0):=⟨by rw [<- hW];exact blk_new w _⟩;have hR:=h.below hb;have few:=h.few;have room:=h.room;have c1:=hR.c1;have c2:=hR.c2;have HW:=Lib.hid hW;have HB:=Lib.hid hb;have HZ:=Lib.hid hz;have HR:=Lib.hid hR;clear hW hb hz h hR
 go_enter Tryz.func48,Tryz.ntmps48
 go_upto_region 1 with fail
 rw [HW.out]
 go_quiet (fail)
 go_wp2
 clear c1 c2;have hbV:Below W.heap.size W (W.drewN nq):=below_drewN (Below.refl _ _) nq;have HV:=Lib.hid hbV;clear hbV;generalize W.drewN nq=V at *;have hR:=HR.out.below HV.out;have hF:=HZ.out.below HV.out;have hB:=HB.out.trans (HV.out.mono HB.out.size);have c1:=hR.c1;have c2:=hR.c2;have k0:=hR.tk hp 0 (by omega) rfl;have k1:=hR.tk hp 1 (by omega) rfl;have k2:=hR.tk hp 2 (by omega) rfl;have k3:=hR.tk hp 3 (by omega) rfl;have k4:=hR.tk hp 4 (by omega) rfl;rw [Nat.add_zero] at k0;have HP:=Lib.hid hp;generalize hk:Ex.tk c.ts s.p=t at *;have HF:=Lib.hid hF;have HB1:=Lib.hid hB;have wr:IntKind.i64.wrap (s.p:Int)=(s.p:Int):=IntWalk.i64_in _ (by omega);clear hk hR hF hB HR HZ HB HV
 go_still_tail 12,(by kernel_rfl)
 change wpList _ _ _ _ _ V.drew
 have hF1:Five V.drew w.heap.size _ _ _ _ _:=⟨HF.out.blk⟩;have hB1:Below w.heap.size w V.drew:=HB1.out.drew;have HF1:=Lib.hid hF1;have HB2:=Lib.hid hB1;clear hF1 hB1;generalize V.drew=V1 at *;have z0:=HF1.out.c0;have z1:=HF1.out.c1;have z2:=HF1.out.c2;have z3:=HF1.out.c3;have z4:=HF1.out.c4;have zf:=HF1.out.fz;clear k0 k1 k2 k3 k4 c1 c2
 go_wp2
 have T:=HF1.out.store (.int .i64 t.kind) (.string ⟨t.text.toArray⟩) (.int .i64 t.int) (.int .i64 t.at_.line) (.int .i64 t.at_.col);exact bodyPost_ret (v:=tval t) (by simp [results,Tryz.results48,go_sem,T.c0,T.c1,T.c2,T.c3,T.c4,tval]) rfl ⟨rfl,below_five HB2.out (Nat.le_refl _) _ _ _ _ _⟩
theorem ahead1_in (c:Cx)(X:Nat->Prop)(w:World)(s:Ex.S)(h:Rd c X w s)(hp:s.p+1<c.ts.length):Calls Tryz.prog 48 #[.pointer (some ⟨c.r,0,none⟩),.int .i64 1] w (AheadP w (Ex.tk c.ts (s.p+1))):=by
 obtain ⟨W,hW⟩:∃ W,w.alloc (.cells #[.int .i64 0,.string ⟨#[]⟩,.int .i64 0,.int .i64 0,.int .i64 0] 78)=W:=⟨_,rfl⟩;have hb:Below w.heap.size w W:=by rw [<- hW];exact (Below.refl _ w).alloc (Nat.le_refl _) _
 have hz:Five W w.heap.size (.int .i64 0) (.string ⟨#[]⟩) (.int .i64 0) (.int .i64 0) (.int .i64 0):=⟨by rw [<- hW];exact blk_new w _⟩;have hR:=h.below hb;have few:=h.few;have room:=h.room;have c1:=hR.c1;have c2:=hR.c2;have HW:=Lib.hid hW;have HB:=Lib.hid hb;have HZ:=Lib.hid hz;have HR:=Lib.hid hR;clear hW hb hz h hR
 go_enter Tryz.func48,Tryz.ntmps48
 go_upto_region 1 with fail
 rw [HW.out]
 go_quiet (fail)
 go_wp2
 clear c1 c2;have hbV:Below W.heap.size W (W.drewN nq):=below_drewN (Below.refl _ _) nq;have HV:=Lib.hid hbV;clear hbV;generalize W.drewN nq=V at *;have hR:=HR.out.below HV.out;have hF:=HZ.out.below HV.out;have hB:=HB.out.trans (HV.out.mono HB.out.size);have c1:=hR.c1;have c2:=hR.c2;have k0:=hR.tk hp 0 (by omega) rfl;have k1:=hR.tk hp 1 (by omega) rfl;have k2:=hR.tk hp 2 (by omega) rfl;have k3:=hR.tk hp 3 (by omega) rfl;have k4:=hR.tk hp 4 (by omega) rfl;rw [Nat.add_zero] at k0;have HP:=Lib.hid hp;generalize hk:Ex.tk c.ts (s.p+1)=t at *;have HF:=Lib.hid hF;have HB1:=Lib.hid hB;have wr:IntKind.i64.wrap ((s.p:Int)+1)=(s.p:Int)+1:=IntWalk.i64_in _ (by omega);have wn:((s.p:Int)+1).toNat=s.p+1:=by omega
 have w0:(0:Int)<=(s.p:Int)+1:=by omega
 have w1:(s.p:Int)+1<(c.ts.length:Int):=by omega
 clear hk hR hF hB HR HZ HB HV
 go_still_tail 12,(by kernel_rfl)
 change wpList _ _ _ _ _ V.drew
 have hF1:Five V.drew w.heap.size _ _ _ _ _:=⟨HF.out.blk⟩;have hB1:Below w.heap.size w V.drew:=HB1.out.drew;have HF1:=Lib.hid hF1;have HB2:=Lib.hid hB1;clear hF1 hB1;generalize V.drew=V1 at *;have z0:=HF1.out.c0;have z1:=HF1.out.c1;have z2:=HF1.out.c2;have z3:=HF1.out.c3;have z4:=HF1.out.c4;have zf:=HF1.out.fz;clear k0 k1 k2 k3 k4 c1 c2
 go_wp2
 have T:=HF1.out.store (.int .i64 t.kind) (.string ⟨t.text.toArray⟩) (.int .i64 t.int) (.int .i64 t.at_.line) (.int .i64 t.at_.col);exact bodyPost_ret (v:=tval t) (by simp [results,Tryz.results48,go_sem,T.c0,T.c1,T.c2,T.c3,T.c4,tval]) rfl ⟨rfl,below_five HB2.out (Nat.le_refl _) _ _ _ _ _⟩
theorem ahead0_out (c:Cx)(X:Nat->Prop)(w:World)(s:Ex.S)(h:Rd c X w s)(hp:c.ts.length<=s.p):Calls Tryz.prog 48 #[.pointer (some ⟨c.r,0,none⟩),.int .i64 0] w (AheadP w (Ex.tk c.ts s.p)):=by
 have ht:Ex.tk c.ts s.p=Ex.zt:=by rw [Ex.tk,List.getD_eq_getElem?_getD,List.getElem?_eq_none hp];rfl
 rw [ht];obtain ⟨W,hW⟩:∃ W,w.alloc (.cells #[.int .i64 0,.string ⟨#[]⟩,.int .i64 0,.int .i64 0,.int .i64 0] 78)=W:=⟨_,rfl⟩;have hb:Below w.heap.size w W:=by rw [<- hW];exact (Below.refl _ w).alloc (Nat.le_refl _) _
 have hz:Five W w.heap.size (.int .i64 0) (.string ⟨#[]⟩) (.int .i64 0) (.int .i64 0) (.int .i64 0):=⟨by rw [<- hW];exact blk_new w _⟩;have hR:=h.below hb;have few:=h.few;have room:=h.room;have hp0:=h.p;have c1:=hR.c1;have c2:=hR.c2;have HW:=Lib.hid hW;have HB:=Lib.hid hb;have HZ:=Lib.hid hz;clear hW hb hz h hR ht
 go_enter Tryz.func48,Tryz.ntmps48
 go_upto_region 1 with fail
 rw [HW.out]
 go_quiet (fail)
 clear c1 c2;have hbV:Below W.heap.size W (W.drewN nq):=below_drewN (Below.refl _ _) nq;have HV:=Lib.hid hbV;clear hbV;generalize W.drewN nq=V at *;have HF1:=Lib.hid (HZ.out.below HV.out);have HB2:=Lib.hid (HB.out.trans (HV.out.mono HB.out.size));have z0:=HF1.out.c0;have z1:=HF1.out.c1;have z2:=HF1.out.c2;have z3:=HF1.out.c3;have z4:=HF1.out.c4;have zf:=HF1.out.fz
 go_wp2
 have T:=HF1.out.store (.int .i64 0) (.string ⟨#[]⟩) (.int .i64 0) (.int .i64 0) (.int .i64 0);exact bodyPost_ret (v:=tval Ex.zt) (by simp [results,Tryz.results48,go_sem,T.c0,T.c1,T.c2,T.c3,T.c4,tval,Ex.zt]) rfl ⟨rfl,below_five HB2.out (Nat.le_refl _) _ _ _ _ _⟩
theorem ahead1_out (c:Cx)(X:Nat->Prop)(w:World)(s:Ex.S)(h:Rd c X w s)(hp:c.ts.length<=(s.p+1)):Calls Tryz.prog 48 #[.pointer (some ⟨c.r,0,none⟩),.int .i64 1] w (AheadP w (Ex.tk c.ts (s.p+1))):=by
 have ht:Ex.tk c.ts (s.p+1)=Ex.zt:=by rw [Ex.tk,List.getD_eq_getElem?_getD,List.getElem?_eq_none hp];rfl
 rw [ht];obtain ⟨W,hW⟩:∃ W,w.alloc (.cells #[.int .i64 0,.string ⟨#[]⟩,.int .i64 0,.int .i64 0,.int .i64 0] 78)=W:=⟨_,rfl⟩;have hb:Below w.heap.size w W:=by rw [<- hW];exact (Below.refl _ w).alloc (Nat.le_refl _) _
 have hz:Five W w.heap.size (.int .i64 0) (.string ⟨#[]⟩) (.int .i64 0) (.int .i64 0) (.int .i64 0):=⟨by rw [<- hW];exact blk_new w _⟩;have hR:=h.below hb;have few:=h.few;have room:=h.room;have hp0:=h.p;have c1:=hR.c1;have c2:=hR.c2;have HW:=Lib.hid hW;have HB:=Lib.hid hb;have HZ:=Lib.hid hz;clear hW hb hz h hR ht
 go_enter Tryz.func48,Tryz.ntmps48
 go_upto_region 1 with fail
 rw [HW.out]
 go_quiet (fail)
 clear c1 c2;have hbV:Below W.heap.size W (W.drewN nq):=below_drewN (Below.refl _ _) nq;have HV:=Lib.hid hbV;clear hbV;generalize W.drewN nq=V at *;have HF1:=Lib.hid (HZ.out.below HV.out);have HB2:=Lib.hid (HB.out.trans (HV.out.mono HB.out.size));have z0:=HF1.out.c0;have z1:=HF1.out.c1;have z2:=HF1.out.c2;have z3:=HF1.out.c3;have z4:=HF1.out.c4;have zf:=HF1.out.fz
 go_wp2
 have T:=HF1.out.store (.int .i64 0) (.string ⟨#[]⟩) (.int .i64 0) (.int .i64 0) (.int .i64 0);exact bodyPost_ret (v:=tval Ex.zt) (by simp [results,Tryz.results48,go_sem,T.c0,T.c1,T.c2,T.c3,T.c4,tval,Ex.zt]) rfl ⟨rfl,below_five HB2.out (Nat.le_refl _) _ _ _ _ _⟩
theorem ahead0_any (c:Cx)(X:Nat->Prop)(w:World)(s:Ex.S)(h:Rd c X w s):Calls Tryz.prog 48 #[.pointer (some ⟨c.r,0,none⟩),.int .i64 0] w (AheadP w (Ex.tk c.ts s.p)):=by
 rcases Nat.lt_or_ge s.p c.ts.length with hp | hp
 ·exact ahead0_in c X w s h hp
 ·exact ahead0_out c X w s h hp
theorem ahead1_any (c:Cx)(X:Nat->Prop)(w:World)(s:Ex.S)(h:Rd c X w s):Calls Tryz.prog 48 #[.pointer (some ⟨c.r,0,none⟩),.int .i64 1] w (AheadP w (Ex.tk c.ts (s.p+1))):=by
 rcases Nat.lt_or_ge (s.p+1) c.ts.length with hp | hp
 ·exact ahead1_in c X w s h hp
 ·exact ahead1_out c X w s h hp
end
end Go.Proofs.YtninlbknklbofaaGreatDoor
