/- A part of the proof: A part of the proof. -/
import Derived.Test.YtdfpkmfeldoamaaGreatDoorFin
import Derived.Test.YtdfpkmfeldoamaaGreatDoorPf
set_option linter.unusedSimpArgs false
set_option linter.unusedVariables false
namespace Go.Proofs.YtdfpkmfeldoamaaGreatDoor.Ex
open Lx (Tok Pos B)
open Tn (Nd fits WF)
section
variable (ts:List Tok)
def goes (s:S):Bool:=is ts s [59] && begins (tk ts (s.p+1))
def tailR (item:Part):Nat->Nat->S->Res Nat
 | 0,_,_ => .out
 | n+1,i,s=>if goes ts s=true then ((item s.skip).bind (tailR item n)).bind fun b s1=>add ts [115,101,113] (at_ ts s) [] [i,b] s1 else .ok i s
def allR (n:Nat)(item:Part)(s:S):Res Nat:=(item s).bind (tailR ts item n)
end
theorem Res.bind_assoc {α β γ:Type}(r:Res α)(f:α->S->Res β)(g:β->S->Res γ):(r.bind f).bind g=r.bind fun a s=>(f a s).bind g:=by cases r <;> rfl
theorem Res.bind_congr {α β:Type}{r:Res α}{f g:α->S->Res β}(h:∀ a s,f a s=g a s):r.bind f=r.bind g:=by cases r <;> simp [Res.bind,h]
theorem getD_app_lt {α:Type}(l:List α)(x d:α){k:Nat}(h:k<l.length):(l++[x]).getD k d=l.getD k d:=by
 simp [List.getD_eq_getElem?_getD,List.getElem?_append_left h]
theorem getD_app_last {α:Type}(l:List α)(x d:α):(l++[x]).getD l.length d=x:=by
 simp [List.getD_eq_getElem?_getD]
theorem seqs_app (ts:List Tok)(is_:List Nat)(ps:List Pos)(i:Nat)(p:Pos):∀ (k rest:Nat) (s:S),k<=ps.length->k<=is_.length->seqs ts (is_++[i]) (ps++[p]) k rest s=seqs ts is_ ps k rest s
 | 0,_,_,_,_=>rfl
 | k+1,rest,s,h1,h2=>by
  rw [seqs,seqs,getD_app_lt _ _ _ (by omega),getD_app_lt _ _ _ (by omega)];exact Res.bind_congr fun a s1=>seqs_app ts is_ ps i p k a s1 (by omega) (by omega)
theorem items_tail (ts:List Tok)(item:Part):∀ (n:Nat) (is_:List Nat) (ps:List Pos) (s:S),is_.length=ps.length+1 ->
  ((itemsLoop ts item n is_ ps s).bind fun x s2=>seqs ts x.1 x.2 x.2.length (x.1.getD (x.1.length-1) 0) s2)=(tailR ts item n (is_.getD ps.length 0) s).bind fun b s2=>seqs ts is_ ps ps.length b s2
 | 0,_,_,_,_=>rfl
 | n+1,is_,ps,s,h=>by
  rw [itemsLoop,tailR]
  show Res.bind (if goes ts s=true then _ else _) _=_
  by_cases hg:goes ts s=true
  ·rw [if_pos hg,if_pos hg,Res.bind_assoc,Res.bind_assoc,Res.bind_assoc];refine Res.bind_congr fun i s1=>?_;rw [items_tail ts item n (is_++[i]) (ps++[at_ ts s]) s1 (by simp [h])];have e:(is_++[i]).getD (ps++[at_ ts s]).length 0=i:=by
    rw [show (ps++[at_ ts s]).length=is_.length by simp [h]];exact getD_app_last _ _ _
   rw [e];refine Res.bind_congr fun b s2=>?_;rw [show (ps++[at_ ts s]).length=ps.length+1 by simp,seqs,getD_app_last,getD_app_lt _ _ _ (by omega)];exact Res.bind_congr fun a s3=>seqs_app ts is_ ps i _ ps.length a s3 (Nat.le_refl _) (by omega)
  ·rw [if_neg hg,if_neg hg]
   show seqs ts is_ ps ps.length (is_.getD (is_.length-1) 0) s=seqs ts is_ ps ps.length (is_.getD ps.length 0) s
   rw [show is_.length-1=ps.length by omega]
theorem allF_eq (ts:List Tok)(n:Nat)(item:Part)(s:S):allF ts n item s=allR ts n item s:=by
 unfold allF allR;refine Res.bind_congr fun i s1=>?_;rw [items_tail ts item n [i] [] s1 rfl]
 show (tailR ts item n i s1).bind (fun b s2=>Res.ok b s2)=_
 cases tailR ts item n i s1 <;> rfl
end Go.Proofs.YtdfpkmfeldoamaaGreatDoor.Ex
namespace Go.Proofs.YtdfpkmfeldoamaaGreatDoor.Lx
structure TokIs (t:Tok):Prop where
 num:t.kind≠3->t.int=0
 word:t.kind=2->keys.contains t.text=true
 mark:t.kind=4->∀ c r,t.text=c :: r->shorts.contains c=true
 zero:t.kind=0->t.text=[]
 name:t.kind=1->t.text.length<=40/\∀ c r,t.text=c :: r->letter c=true
def Ended (ts:List Tok):Prop:=∃ us t,ts=us++[t]/\t.kind=0
end Go.Proofs.YtdfpkmfeldoamaaGreatDoor.Lx
namespace Go.Proofs.YtdfpkmfeldoamaaGreatDoor.Ex
open Lx (Tok Pos B TokIs Ended)
structure TsOk (ts:List Tok):Prop where
 all:∀ t∈ts,TokIs t
 ended:Ended ts
variable {ts:List Tok}
theorem TsOk.pos (h:TsOk ts):0<ts.length:=by obtain ⟨us,t,rfl,_⟩:=h.ended;simp
theorem TsOk.next (h:TsOk ts){p:Nat}(hk:(tk ts p).kind≠0):p+1<ts.length:=by
 have hl:=kind_lt hk;obtain ⟨us,t,rfl,ht⟩:=h.ended
 rcases Nat.lt_or_ge p us.length with h1 | h1
 ·simp;omega
 ·have:p=us.length:=by simp at hl;omega
  subst this;rw [tk,getD_app_last] at hk;exact absurd ht hk
theorem TsOk.tok (h:TsOk ts){p:Nat}(hp:p<ts.length):TokIs (tk ts p):=h.all _ (by have:=tk_get hp;exact List.mem_of_getElem? this)
theorem TsOk.num (h:TsOk ts){p:Nat}(hk:(tk ts p).kind≠3):(tk ts p).int=0:=by
 rcases Nat.lt_or_ge p ts.length with h1 | h1
 ·exact (h.tok h1).num hk
 ·rw [tk,List.getD_eq_getElem?_getD,List.getElem?_eq_none h1];rfl
theorem TsOk.word (h:TsOk ts){p:Nat}{m:B}(hm:∀ c r,m=c :: r->Lx.shorts.contains c=false)(hne:m≠[]):isT (tk ts p) m=((tk ts p).kind==2 && (tk ts p).text==m):=by
 unfold isT
 cases ht:(tk ts p).text==m with
 | false=>simp
 | true =>
  have ht:=eq_of_beq ht;have h4:(tk ts p).kind≠4:=fun e=>by
   have hl:p<ts.length:=kind_lt (by rw [e];decide)
   cases m with
   | nil=>exact hne rfl
   | cons c r =>
    have:=(h.tok hl).mark e c r ht;rw [hm c r rfl] at this;cases this
  simp [h4]
theorem TsOk.set (h:TsOk ts){p:Nat}{m:B}(hm:Lx.keys.contains m=false):isT (tk ts p) m=((tk ts p).kind==4 && (tk ts p).text==m):=by
 unfold isT
 cases ht:(tk ts p).text==m with
 | false=>simp
 | true =>
  have ht:=eq_of_beq ht;have h2:(tk ts p).kind≠2:=fun e=>by
   have hl:p<ts.length:=kind_lt (by rw [e];decide);have:=(h.tok hl).word e;rw [ht,hm] at this;cases this
  simp [h2]
end Go.Proofs.YtdfpkmfeldoamaaGreatDoor.Ex
namespace Go.Proofs.YtdfpkmfeldoamaaGreatDoor.Ex
open Lx (Tok Pos B)
open Tn (Nd fits WF)
def Up {α:Type}(L:Nat)(R:Res α):Prop:=∀ a s,R = .ok a s->L<=s.ns.length
def Gr (L:Nat)(R:Res Nat):Prop:=∀ i s,R = .ok i s->L<=s.ns.length/\i<s.ns.length
theorem Gr.up {L:Nat}{R:Res Nat}(h:Gr L R):Up L R:=fun a s e=>(h a s e).1
theorem Up.bind {α β:Type}{L:Nat}{R:Res α}{f:α->S->Res β}(h:Up L R)(k:∀ a s,L<=s.ns.length->Up L (f a s)):Up L (R.bind f):=by
 cases R with
 | ok a s=>exact k a s (h a s rfl)
 | bad c p=>exact fun a s e=>by cases e
 | out=>exact fun a s e=>by cases e
theorem Gr.bind {α:Type}{L:Nat}{R:Res α}{f:α->S->Res Nat}(h:Up L R)(k:∀ a s,L<=s.ns.length->Gr L (f a s)):Gr L (R.bind f):=by
 cases R with
 | ok a s=>exact k a s (h a s rfl)
 | bad c p=>exact fun a s e=>by cases e
 | out=>exact fun a s e=>by cases e
theorem Gr.bind2 {L:Nat}{R:Res Nat}{f:Nat->S->Res Nat}(h:Gr L R)(k:∀ a s,L<=s.ns.length->a<s.ns.length->Gr L (f a s)):Gr L (R.bind f):=by
 cases R with
 | ok a s=>exact k a s (h a s rfl).1 (h a s rfl).2
 | bad c p=>exact fun a s e=>by cases e
 | out=>exact fun a s e=>by cases e
theorem Gr.ite {L:Nat}{c:Prop}[Decidable c]{a b:Res Nat}(h:Gr L a)(k:Gr L b):Gr L (if c then a else b):=by split <;> assumption
theorem Up.ite {α:Type}{L:Nat}{c:Prop}[Decidable c]{a b:Res α}(h:Up L a)(k:Up L b):Up L (if c then a else b):=by split <;> assumption
theorem Gr.bad {L:Nat}{c:Int}{p:Pos} : Gr L (.bad c p):=fun a s e=>by cases e
theorem Gr.out {L:Nat} : Gr L .out:=fun a s e=>by cases e
theorem Up.bad {α:Type}{L:Nat}{c:Int}{p:Pos} : Up L (.bad c p:Res α):=fun a s e=>by cases e
theorem Up.out {α:Type}{L:Nat} : Up L (.out:Res α):=fun a s e=>by cases e
theorem Gr.ok {L i:Nat}{s:S}(h:L<=s.ns.length)(k:i<s.ns.length):Gr L (.ok i s):=fun a t e=>by cases e;exact ⟨h,k⟩
theorem Up.ok {α:Type}{L:Nat}{a:α}{s:S}(h:L<=s.ns.length):Up L (.ok a s):=fun b t e=>by cases e;exact h
section
variable {ts:List Tok} {L:Nat}
theorem take_up (m:B){s:S}(h:L<=s.ns.length):Up L (take ts m s):=by unfold take;exact Up.ite (Up.ok h) Up.bad
theorem name_up {s:S}(h:L<=s.ns.length):Up L (name ts s):=by unfold name;exact Up.ite (Up.ok h) Up.bad
theorem enter_up (d:Nat){s:S}(h:L<=s.ns.length):Up L (enter ts d s):=by unfold enter;exact Up.ite Up.bad (Up.ok h)
theorem addN_gr (n:Nd){s:S}(h:L<=s.ns.length):Gr L (addN ts n s):=by
 unfold addN;exact Gr.ite (Gr.ite Gr.bad (Gr.ok (by simp;omega) (by simp))) Gr.bad
theorem add_gr (op:B)(a:Pos)(x:B)(ks:List Nat){s:S}(h:L<=s.ns.length):Gr L (add ts op a x ks s):=addN_gr _ h
theorem named_gr (op:B){s:S}(h:L<=s.ns.length):Gr L (named ts op s):=by unfold named;exact Gr.bind (name_up h) fun x s1 h1=>add_gr _ _ _ _ h1
def PartGr (part:Part):Prop:=∀ s,Gr s.ns.length (part s)
theorem PartGr.le {part:Part}(hp:PartGr part){s:S}(h:L<=s.ns.length):Gr L (part s):=fun i s1 e=>⟨Nat.le_trans h (hp s i s1 e).1,(hp s i s1 e).2⟩
theorem between_gr {part:Part}(hp:PartGr part)(l:Nat){s:S}(h:L<=s.ns.length):Gr L (between ts part l s):=by
 unfold between;exact Gr.bind (hp.le (s:=s.skip) h).up fun r s1 h1=>add_gr _ _ _ _ h1
theorem chainLoop_gr {part:Part}(hp:PartGr part)(ms:List B):∀ (k l:Nat) (s:S),L<=s.ns.length->l<s.ns.length->Gr L (chainLoop ts part ms k l s)
 | 0,_,_,_,_=>Gr.out
 | k+1,l,s,h,hl=>by
  rw [chainLoop];exact Gr.ite (Gr.bind2 (between_gr hp l h) fun i s1 h1 h2=>chainLoop_gr hp ms k i s1 h1 h2) (Gr.ok h hl)
theorem chain_gr {part:Part}(hp:PartGr part)(n:Nat)(ms:List B){s:S}(h:L<=s.ns.length):Gr L (chain ts n part ms s):=by
 unfold chain;exact Gr.bind2 (hp.le h) fun i s1 h1 h2=>chainLoop_gr hp ms n i s1 h1 h2
theorem tailR_gr {item:Part}(hp:PartGr item):∀ (k i:Nat) (s:S),L<=s.ns.length->i<s.ns.length->Gr L (tailR ts item k i s)
 | 0,_,_,_,_=>Gr.out
 | k+1,i,s,h,hi=>by
  rw [tailR];exact Gr.ite (Gr.bind (Gr.bind2 (hp.le (s:=s.skip) h) fun j s1 h1 h2=>tailR_gr hp k j s1 h1 h2).up fun b s2 h2=>add_gr _ _ _ _ h2) (Gr.ok h hi)
theorem allR_gr {item:Part}(hp:PartGr item)(n:Nat){s:S}(h:L<=s.ns.length):Gr L (allR ts n item s):=by
 unfold allR;exact Gr.bind2 (hp.le h) fun i s1 h1 h2=>tailR_gr hp n i s1 h1 h2
theorem argsLoop_up {all:Part}(hp:PartGr all):∀ (k:Nat) (l:List Nat) (s:S),L<=s.ns.length->Up L (argsLoop ts all k l s)
 | 0,_,_,_=>Up.out
 | k+1,l,s,h=>by
  rw [argsLoop];exact Up.ite (Up.bind (hp.le (s:=s.skip) h).up fun i s1 h1=>argsLoop_up hp k _ s1 h1) (Up.bind (take_up _ h) fun _ s1 h1=>Up.ok h1)
theorem args_up {all:Part}(hp:PartGr all)(n:Nat){s:S}(h:L<=s.ns.length):Up L (args ts n all s):=by
 unfold args;exact Up.ite (argsLoop_up hp n [] s h) (Up.bind (hp.le h).up fun i s1 h1=>argsLoop_up hp n [i] s1 h1)
def AllGr (f:Rec):Prop:=∀ t d,PartGr (f t d)
theorem itemF_gr {f:Rec}(hf:AllGr f)(d:Nat){s:S}(h:L<=s.ns.length):Gr L (itemF ts f d s):=by
 unfold itemF letF choiceF guardF outF setF;refine Gr.ite ?_ (Gr.ite ?_ (Gr.ite ?_ (Gr.ite (named_gr _ h) (Gr.ite ?_ (Gr.ite ?_ ((hf .or d).le h))))))
 ·exact Gr.bind (name_up (s:=s.skip) h) fun x s1 h1=>Gr.bind (take_up _ h1) fun _ s2 h2=>Gr.bind ((hf .all d).le h2).up fun a s3 h3=>Gr.bind (take_up _ h3) fun _ s4 h4=>Gr.bind ((hf .all d).le h4).up fun b s5 h5=>add_gr _ _ _ _ h5
 ·exact Gr.bind ((hf .all d).le (s:=s.skip) h).up fun c s1 h1=>Gr.bind (take_up _ h1) fun _ s2 h2=>Gr.bind ((hf .item d).le h2).up fun a s3 h3=>Gr.bind (take_up _ h3) fun _ s4 h4=>Gr.bind ((hf .item d).le h4).up fun b s5 h5=>add_gr _ _ _ _ h5
 ·exact Gr.bind ((hf .all d).le (s:=s.skip) h).up fun a s1 h1=>Gr.bind (take_up _ h1) fun _ s2 h2=>Gr.bind (name_up h2) fun x s3 h3=>Gr.bind (take_up _ h3) fun _ s4 h4=>Gr.bind ((hf .item d).le h4).up fun b s5 h5=>add_gr _ _ _ _ h5
 ·exact Gr.bind (name_up (s:=s.skip) h) fun x s1 h1=>Gr.bind ((hf .or d).le h1).up fun a s2 h2=>add_gr _ _ _ _ h2
 ·exact Gr.bind (take_up _ (s:=s.skip) h) fun _ s1 h1=>Gr.bind ((hf .or d).le h1).up fun a s2 h2=>add_gr _ _ _ _ h2
theorem unaryF_gr {f:Rec}(hf:AllGr f)(n d:Nat){s:S}(h:L<=s.ns.length):Gr L (unaryF ts n f d s):=by
 have hpre:∀ op,Gr L (prefixF ts f op d s):=fun op=>by
  unfold prefixF;exact Gr.bind ((hf .unary d).le (s:=s.skip) h).up fun a s1 h1=>add_gr _ _ _ _ h1
 unfold unaryF varF releaseF bracketsF;refine Gr.ite (addN_gr _ (s:=s.skip) h) (Gr.ite (Gr.ite ?_ (add_gr _ _ _ _ (s:=s.skip) h)) (Gr.ite (hpre _) (Gr.ite (hpre _) (Gr.ite (named_gr _ h) (Gr.ite (named_gr _ h) (Gr.ite (add_gr _ _ _ _ (s:=s.skip) h) (Gr.ite ?_ (Gr.ite (Gr.ite (add_gr _ _ _ _ (s:=s.skip.skip) h) ?_) Gr.bad))))))))
 ·exact Gr.bind (args_up (hf .all d) n (s:=s.skip.skip) h) fun l s1 h1=>add_gr _ _ _ _ h1
 ·exact Gr.bind (name_up (s:=s.skip) h) fun x s1 h1=>Gr.bind (take_up _ h1) fun _ s2 h2=>Gr.bind ((hf .all d).le h2).up fun a s3 h3=>Gr.bind (take_up _ h3) fun _ s4 h4=>add_gr _ _ _ _ h4
 ·exact Gr.bind2 ((hf .all d).le (s:=s.skip) h) fun a s1 h1 k1=>Gr.ite (Gr.bind ((hf .all d).le (s:=s1.skip) h1).up fun b s2 h2=>Gr.bind (take_up _ h2) fun _ s3 h3=>add_gr _ _ _ _ h3) (by
   unfold take
   split
   ·exact Gr.ok (s:=s1.skip) h1 k1
   ·exact Gr.bad)
theorem rec_gr:∀ n,AllGr (rec_ ts n)
 | 0=>fun _ _ _=>Gr.out
 | n+1=>by
  have ih:=rec_gr n;intro t d s;rw [rec_];have h:s.ns.length<=s.ns.length:=Nat.le_refl _
  cases t with
  | all=>simp only [stepF];rw [allF_eq];exact allR_gr (ih .item d) n h
  | item=>simp only [stepF];exact Gr.bind (enter_up d h) fun d1 s1 h1=>itemF_gr ih d1 h1
  | or=>simp only [stepF];exact chain_gr (ih .and d) n _ h
  | and=>simp only [stepF];exact chain_gr (ih .test d) n _ h
  | test=>simp only [stepF,testF];exact Gr.bind2 ((ih .sum d).le h) fun l s1 h1 k1=>Gr.ite (between_gr (ih .sum d) l h1) (Gr.ok h1 k1)
  | sum=>simp only [stepF];exact chain_gr (ih .times d) n _ h
  | times=>simp only [stepF];exact chain_gr (ih .unary d) n _ h
  | unary=>simp only [stepF];exact Gr.bind (enter_up d h) fun d1 s1 h1=>unaryF_gr ih n d1 h1
end
end Go.Proofs.YtdfpkmfeldoamaaGreatDoor.Ex
namespace Go.Proofs.YtdfpkmfeldoamaaGreatDoor.Pf
open Lx (Tok Pos B)
open Ex (S Res tk at_ is take wrong rec_ GoodS)
open Pg (Nm zn Dc R lift takes nameAt points decl0 declP bodyF mainF wMain wInput wExn)
def RPost {α:Type}(r:R α)(Q:α->S->Prop):Prop:=match r with
 | .ok a s=>Q a s
 | .bad _ _ _=>True
 | .out=>False
theorem RPost.bind {α β:Type}{r:R α}{f:α->S->R β}{Q:α->S->Prop}{T:β->S->Prop}(h:RPost r Q)(k:∀ a s,Q a s->RPost (f a s) T):RPost (r.bind f) T:=by
 cases r with
 | ok a s=>exact k a s h
 | bad c p n=>exact h
 | out=>exact h.elim
theorem RPost.mono {α:Type}{r:R α}{Q T:α->S->Prop}(h:RPost r Q)(k:∀ a s,Q a s->T a s):RPost r T:=by
 cases r with
 | ok a s=>exact k a s h
 | bad c p n=>exact h
 | out=>exact h.elim
theorem RPost.not_out {α:Type}{r:R α}{Q:α->S->Prop}(h:RPost r Q):r ≠ .out:=by rintro rfl;exact h
theorem lift_post {α:Type}{r:Res α}{Q:α->S->Prop}(h:r.Post Q):RPost (lift r) Q:=by
 cases r with
 | ok a s=>exact h
 | bad c p=>exact h
 | out=>exact h.elim
theorem rpost_ite {α:Type}{c:Prop}[Decidable c]{a b:R α}{Q:α->S->Prop}(h:c->RPost a Q)(k:¬ c->RPost b Q):RPost (if c then a else b) Q:=by
 split
 ·exact h ‹_›
 ·exact k ‹_›
section
variable (ts:List Tok)
def NmOk (n:Nm):Prop:=∃ p,(tk ts p).kind=1/\n.text=(tk ts p).text/\n.at_=(tk ts p).at_
structure On (p L:Nat)(s:S):Prop where
 far:p<=s.p
 good:GoodS ts s
 up:L<=s.ns.length
structure DcOk (d:Dc):Prop where
 name:NmOk ts d.name
 conf:d.conf=zn\/NmOk ts d.conf
 integ:d.integ=zn\/NmOk ts d.integ
 int:d.int=0\/∃ p,d.int=(tk ts p).int\/d.int = -(tk ts p).int
structure DcPt (d:Dc):Prop where
 ok:DcOk ts d
 conf:NmOk ts d.conf
 integ:NmOk ts d.integ
structure FnOk (L:Nat)(f:Fn):Prop where
 name:NmOk ts f.name
 params:∀ n∈f.params,NmOk ts n
 few:f.params.length<=ts.length
 body:f.body<L
structure StOk (k L:Nat)(g:St):Prop where
 ins:∀ d∈g.ins,DcPt ts d
 glo:∀ d∈g.glo,DcPt ts d
 cha:∀ d∈g.cha,DcPt ts d
 exns:∀ d∈g.exns,DcOk ts d
 funs:∀ f∈g.funs,FnOk ts L f
 main:g.mt=wMain->g.mb<L
 mt:g.mt=[]\/g.mt=wMain
 few:g.ins.length+g.glo.length+g.cha.length+g.exns.length+g.funs.length<=k
variable {ts}
theorem On.skip {p L:Nat}{s:S}(h:On ts p L s)(hl:s.p<ts.length):On ts p L s.skip:=⟨Nat.le_succ_of_le h.far,h.good.skip hl,h.up⟩
theorem On.refl {s:S}(h:GoodS ts s):On ts s.p s.ns.length s:=⟨Nat.le_refl _,h,Nat.le_refl _⟩
theorem On.less {p q L M:Nat}{s:S}(h:On ts p L s)(hq:q<=p)(hM:M<=L):On ts q M s:=⟨Nat.le_trans hq h.far,h.good,Nat.le_trans hM h.up⟩
theorem take_on {p L:Nat}(m:B){s:S}(h:On ts p L s):(take ts m s).Post fun _ s1=>On ts p L s1/\s.p<s1.p:=by
 refine (Ex.take_post m s).mono ?_;rintro _ s1 ⟨rfl,hl⟩;exact ⟨h.skip hl,Nat.lt_succ_self _⟩
theorem takes_on {p L:Nat} : ∀ (l:List B) (s:S),On ts p L s->(takes ts l s).Post fun _ s1=>On ts p L s1/\s.p<=s1.p
 | [],s,h=>⟨h,Nat.le_refl _⟩
 | m :: l,s,h=>by
  rw [takes];refine (take_on m h).bind ?_;rintro _ s1 ⟨h1,l1⟩;exact (takes_on l s1 h1).mono fun _ s2 ⟨h2,l2⟩=>⟨h2,by omega⟩
theorem kind1_lt {p:Nat}(h:((tk ts p).kind==1)=true):p<ts.length:=Ex.kind_lt (by
 have:(tk ts p).kind=1:=by simpa using h
 rw [this];decide)
theorem nameAt_on {p L:Nat}(l:List B){s:S}(h:On ts p L s):(nameAt ts l s).Post fun n s1=>On ts p L s1/\s.p<s1.p/\NmOk ts n:=by
 unfold nameAt;refine (takes_on l s h).bind ?_;rintro _ s1 ⟨h1,l1⟩;refine Res.post_ite (fun hk=>?_) (fun _=>trivial);exact ⟨h1.skip (kind1_lt hk),Nat.lt_succ_of_le l1,s1.p,by simpa using hk,rfl,rfl⟩
theorem points_on {p L:Nat}{n:Nm}(hn:NmOk ts n){s:S}(h:On ts p L s):(points ts n s).Post fun d s1=>On ts p L s1/\s.p<s1.p/\DcPt ts d:=by
 unfold points;refine (nameAt_on _ h).bind ?_;rintro c s1 ⟨h1,l1,hc⟩;refine (nameAt_on _ h1).bind ?_;rintro i s2 ⟨h2,l2,hi⟩;refine (take_on _ h2).bind ?_;rintro _ s3 ⟨h3,l3⟩;exact ⟨h3,by omega,⟨hn,.inr hc,.inr hi,.inl rfl⟩,hc,hi⟩
theorem decl0_on {p L:Nat}(w:B){s:S}(h:On ts p L s):(decl0 ts w s).Post fun d s1=>On ts p L s1/\s.p<s1.p/\DcOk ts d:=by
 unfold decl0;refine (nameAt_on _ h).bind ?_;rintro n s1 ⟨h1,l1,hn⟩;exact ⟨h1,l1,hn,.inl rfl,.inl rfl,.inl rfl⟩
theorem declP_on {p L:Nat}(w:B){s:S}(h:On ts p L s):(declP ts w s).Post fun d s1=>On ts p L s1/\s.p<s1.p/\DcPt ts d:=by
 unfold declP;refine (nameAt_on _ h).bind ?_;rintro n s1 ⟨h1,l1,hn⟩;exact (points_on hn h1).mono fun d s2 ⟨h2,l2,hd⟩=>⟨h2,by omega,hd⟩
theorem number_on {p L:Nat}{d:Dc}(hd:DcPt ts d){s:S}(h:On ts p L s):(number ts d s).Post fun d s1=>On ts p L s1/\s.p<s1.p/\DcPt ts d:=by
 unfold number;refine (take_on _ h).bind ?_;rintro _ s1 ⟨h1,l1⟩;obtain ⟨m,hm⟩:∃ m,is ts s1 [45]=m:=⟨_,rfl⟩;have h2:On ts p L (past m s1)/\s1.p<=(past m s1).p:=by
  cases m with
  | true=>exact ⟨h1.skip (Ex.is_lt hm),Nat.le_succ _⟩
  | false=>exact ⟨h1,Nat.le_refl _⟩
 rw [hm];refine Res.post_ite (fun hk=>?_) (fun _=>trivial);have hl:(past m s1).p<ts.length:=Ex.kind_lt (by
  have:(tk ts (past m s1).p).kind=3:=by simpa using hk
  rw [this];decide)
 refine ⟨h2.1.skip hl,Nat.lt_succ_of_le (Nat.le_trans (Nat.le_of_lt l1) h2.2),⟨hd.ok.name,hd.ok.conf,hd.ok.integ,.inr ⟨(past m s1).p, ?_⟩⟩,hd.conf,hd.integ⟩
 cases m with
 | true=>exact .inr rfl
 | false=>exact .inl rfl
theorem declG_on {p L:Nat}{s:S}(h:On ts p L s):(declG ts s).Post fun d s1=>On ts p L s1/\s.p<s1.p/\DcPt ts d:=by
 unfold declG;refine (declP_on _ h).bind ?_;rintro d s1 ⟨h1,l1,hd⟩;exact (number_on hd h1).mono fun d s2 ⟨h2,l2,hd⟩=>⟨h2,by omega,hd⟩
theorem paramsLoop_on {p L:Nat} : ∀ (f:Nat) (l:List Nm) (s:S),On ts p L s->(∀ n∈l,NmOk ts n)->l.length<=s.p->ts.length-s.p<f ->
  (paramsLoop ts f l s).Post fun x s1=>On ts p L s1/\s.p<s1.p/\(∀ n∈x,NmOk ts n)/\x.length<=s1.p
 | 0,_,_,_,_,_,hf=>absurd hf (Nat.not_lt_zero _)
 | f+1,l,s,h,hl,hs,hf=>by
  rw [paramsLoop];refine (nameAt_on [] h).bind ?_;rintro n s1 ⟨h1,l1,hn⟩;have hl':∀ m∈l++[n],NmOk ts m:=fun m hm=>by
   rcases List.mem_append.1 hm with hm | hm
   ·exact hl m hm
   ·rw [List.mem_singleton.1 hm];exact hn
  refine Res.post_ite (fun hc=>?_) (fun _=>?_)
  ·have hlt:=Ex.is_lt hc;refine (paramsLoop_on f (l++[n]) s1.skip (h1.skip hlt) hl' (by simp [S.skip];omega) (by simp only [S.skip];omega)).mono ?_;rintro x s2 ⟨h2,l2,hx,hlen⟩;exact ⟨h2,by simp only [S.skip] at l2;omega,hx,hlen⟩
  ·refine (take_on _ h1).bind ?_;rintro _ s2 ⟨h2,l2⟩;exact ⟨h2,by omega,hl',by simp;omega⟩
theorem params_on {p L n:Nat}{s:S}(h:On ts p L s)(hn:ts.length-s.p<n):(params ts n s).Post fun x s1=>On ts p L s1/\s.p<s1.p/\(∀ n∈x,NmOk ts n)/\x.length<=ts.length:=by
 unfold params;refine (take_on _ h).bind ?_;rintro _ s1 ⟨h1,l1⟩;refine Res.post_ite (fun hc=>?_) (fun _=>?_)
 ·exact ⟨h1.skip (Ex.is_lt hc),Nat.lt_succ_of_lt l1,fun n hn=>by simp at hn,by simp⟩
 ·refine (paramsLoop_on n [] s1 h1 (fun n hn=>by simp at hn) (by simp) (by omega)).mono ?_;rintro x s2 ⟨h2,l2,hx,hlen⟩;exact ⟨h2,by omega,hx,Nat.le_trans hlen h2.good.here⟩
theorem bodyF_on {p L n:Nat}{s:S}(h:On ts p L s)(hn:10*(ts.length-s.p)+8<n):(bodyF ts n s).Post fun b s1=>On ts p L s1/\s.p<s1.p/\b<s1.ns.length/\s.ns.length<=s1.ns.length:=by
 unfold bodyF;have hT:=Ex.take_post (ts:=ts) [61] s;refine hT.bind ?_;rintro _ s1 ⟨rfl,hl⟩;have h1:=h.skip hl;have hg:=Ex.rec_gr (ts:=ts) n .all 0 s.skip;have hp:=Ex.rec_post (ts:=ts) n .all 0 s.skip h1.good (by simp only [Ex.rank,S.skip];omega)
 cases hr:rec_ ts n .all 0 s.skip with
 | ok i s2 =>
  rw [hr] at hp;have hu:=(hg i s2 hr).1;exact ⟨⟨Nat.le_trans h1.far (Nat.le_of_succ_le hp.far),hp.good,Nat.le_trans h1.up hu⟩,by have:=hp.far;simp only [S.skip] at this;omega,hp.lt,hu⟩
 | bad c q=>trivial
 | out=>rw [hr] at hp;exact hp.elim
theorem funF_on {p L n:Nat}{s:S}(h:On ts p L s)(hn:10*(ts.length-s.p)+8<n):(funF ts n s).Post fun f s1=>On ts p L s1/\s.p<s1.p/\FnOk ts s1.ns.length f:=by
 unfold funF;refine (nameAt_on _ h).bind ?_;rintro nm s1 ⟨h1,l1,hnm⟩;refine (params_on h1 (by omega)).bind ?_;rintro ps s2 ⟨h2,l2,hps,hlen⟩;refine (bodyF_on h2 (by omega)).bind ?_;rintro b s3 ⟨h3,l3,hb,_⟩;exact ⟨h3,by omega,hnm,hps,hlen,hb⟩
theorem mainF_on {p L n:Nat}{s:S}(h:On ts p L s)(hn:10*(ts.length-s.p)+8<n):(mainF ts n s).Post fun b s1=>On ts p L s1/\s.p<s1.p/\b<s1.ns.length:=by
 unfold mainF;refine (take_on _ h).bind ?_;rintro _ s1 ⟨h1,l1⟩;exact (bodyF_on h1 (by omega)).mono fun b s2 ⟨h2,l2,hb,_⟩=>⟨h2,by omega,hb⟩
theorem FnOk.up {L M:Nat}{f:Fn}(h:FnOk ts L f)(hM:L<=M):FnOk ts M f:=⟨h.name,h.params,h.few,Nat.lt_of_lt_of_le h.body hM⟩
theorem StOk.up {k l L M:Nat}{g:St}(h:StOk ts k L g)(hk:k<=l)(hM:L<=M):StOk ts l M g :=
 ⟨h.ins,h.glo,h.cha,h.exns,fun f hf=>(h.funs f hf).up hM,fun e=>Nat.lt_of_lt_of_le (h.main e) hM,h.mt,Nat.le_trans h.few hk⟩
theorem mem_snoc {α:Type}{P:α->Prop}{l:List α}{x:α}(h:∀ y∈l,P y)(hx:P x):∀ y∈l++[x],P y:=fun y hy=>by
 rcases List.mem_append.1 hy with hy | hy
 ·exact h y hy
 ·rw [List.mem_singleton.1 hy];exact hx
theorem one_on {n k:Nat}{g:St}{s:S}(h:GoodS ts s)(hg:StOk ts k s.ns.length g)(hn:10*(ts.length-s.p)+8<n):
  RPost (one ts n g s) fun g1 s1=>On ts s.p s.ns.length s1/\s.p<s1.p/\StOk ts (k+1) s1.ns.length g1:=by
 have h0:=On.refl h;have few:=hg.few;unfold one;refine rpost_ite (fun _=>?_) fun _=>rpost_ite (fun _=>?_) fun _=>rpost_ite (fun _=>?_) fun _=>rpost_ite (fun _=>?_) fun _=>rpost_ite (fun _=>?_) fun _=>rpost_ite (fun _=>rpost_ite (fun _=>trivial) fun _=>?_) fun _=>trivial
 ·refine (lift_post (declP_on _ h0)).bind ?_;rintro d s1 ⟨h1,l1,hd⟩;have u:=hg.up (Nat.le_refl _) h1.up;exact ⟨h1,l1,mem_snoc u.ins hd,u.glo,u.cha,u.exns,u.funs,u.main,u.mt,by simp;omega⟩
 ·refine (lift_post (declG_on h0)).bind ?_;rintro d s1 ⟨h1,l1,hd⟩;have u:=hg.up (Nat.le_refl _) h1.up;exact ⟨h1,l1,u.ins,mem_snoc u.glo hd,u.cha,u.exns,u.funs,u.main,u.mt,by simp;omega⟩
 ·refine (lift_post (declP_on _ h0)).bind ?_;rintro d s1 ⟨h1,l1,hd⟩;have u:=hg.up (Nat.le_refl _) h1.up;exact ⟨h1,l1,u.ins,u.glo,mem_snoc u.cha hd,u.exns,u.funs,u.main,u.mt,by simp;omega⟩
 ·refine (lift_post (decl0_on _ h0)).bind ?_;rintro d s1 ⟨h1,l1,hd⟩;have u:=hg.up (Nat.le_refl _) h1.up;exact ⟨h1,l1,u.ins,u.glo,u.cha,mem_snoc u.exns hd,u.funs,u.main,u.mt,by simp;omega⟩
 ·refine (lift_post (funF_on h0 hn)).bind ?_;rintro d s1 ⟨h1,l1,hd⟩;have u:=hg.up (Nat.le_refl _) h1.up;exact ⟨h1,l1,u.ins,u.glo,u.cha,u.exns,mem_snoc u.funs hd,u.main,u.mt,by simp;omega⟩
 ·refine (lift_post (mainF_on h0 hn)).bind ?_;rintro b s1 ⟨h1,l1,hb⟩;have u:=hg.up (Nat.le_refl _) h1.up;exact ⟨h1,l1,u.ins,u.glo,u.cha,u.exns,u.funs,fun _=>hb,.inr rfl,by simp only;omega⟩
theorem all_on {n:Nat} : ∀ (f k:Nat) (g:St) (s:S),GoodS ts s->StOk ts k s.ns.length g->k<=100->ts.length-s.p<f->10*(ts.length-s.p)+8<n ->
  RPost (all ts n f k g s) fun g1 s1=>GoodS ts s1/\StOk ts 100 s1.ns.length g1/\g1.mt=wMain
 | 0,_,_,_,_,_,_,hf,_=>absurd hf (Nat.not_lt_zero _)
 | f+1,k,g,s,h,hg,hk,hf,hn=>by
  rw [all];refine rpost_ite (fun _=>rpost_ite (fun hm=>?_) fun _=>trivial) fun hk0=>rpost_ite (fun _=>trivial) fun hk1=>?_
  ·exact ⟨h,hg.up hk (Nat.le_refl _),by simpa using hm⟩
  ·refine (one_on h hg hn).bind ?_;rintro g1 s1 ⟨h1,l1,hg1⟩;refine (lift_post (take_on _ (On.refl h1.good))).bind ?_;rintro _ s2 ⟨h2,l2⟩;have hh:=h.here;have hh2:=h2.good.here;exact all_on f (k+1) g1 s2 h2.good (hg1.up (Nat.le_refl _) h2.up) (by omega) (by omega) (by omega)
end
end Go.Proofs.YtdfpkmfeldoamaaGreatDoor.Pf
