/- A part of the proof: A part of the proof. -/
import Derived.Test.YtdfpkmfeldoamaaGreatDoorExpr
set_option linter.unusedSimpArgs false
set_option linter.unusedVariables false
set_option maxRecDepth 100000
set_option maxHeartbeats 4000000
namespace Go.Proofs.YtdfpkmfeldoamaaGreatDoor
open Go.RowKit Tn Lx
attribute [local go_sem] tok_field0 tok_field1 tok_field3
namespace Lx
theorem toks_len:∀ (f:Nat)(note:Bool)(p:Pos)(l:B)(ts:List Tok),toks f note p l = .ok ts->ts.length<=f
 | 0,_,_,_,_,h=>by simp [toks] at h;subst h;simp
 | f+1,note,p,l,ts,h=>by
  rw [toks] at h
  cases ho:one (l.drop (blanks note l)) with
  | bad e=>rw [ho] at h;cases h
  | tok k n v =>
   rw [ho] at h;simp only at h
   by_cases hk:k=0
   ·rw [if_pos hk] at h;cases h;simp
   ·rw [if_neg hk] at h
    cases hr:toks f false (adv p (l.take (blanks note l+n))) (l.drop (blanks note l+n)) with
    | bad c' q'=>rw [hr] at h;simp [Res.after] at h
    | ok us =>
     have:=toks_len f _ _ _ _ hr;rw [hr] at h;simp only [Res.after,Res.ok.injEq] at h;subst h;simp;omega
theorem whole_len {l:B}{ts:List Tok}(h:whole l = .ok ts):ts.length<=65537:=by
 unfold whole at h
 split at h
 ·cases h
 ·rename_i hl
  split at h
  ·cases h
  ·have:=toks_len _ _ _ _ _ h;omega
end Lx
def NewP (w:World)(ts:List Tok)(e:Ending)(w':World):Prop :=
 ∃ c:Cx,c.ts=ts/\e = .returned (.tuple #[.pointer (some ⟨c.r,0,none⟩),.nilIface])/\Rd c (fun _=>False) w' ⟨0,[]⟩/\Below w.heap.size w w'/\w.heap.size<=c.r/\w.heap.size<=c.bt/\w.heap.size<=c.B
theorem new_ok (s:ByteArray)(ts:List Tok)(w:World)(hs:s.size<=1000000000000)(hT:Lib.Utf8Tabs 2 3 w)(hw:Lx.whole s.data.toList = .ok ts):Calls Tryz.prog 17 #[.string s] w (NewP w ts):=by
 have hA:=tokens_any s w hs hT;rw [hw] at hA;have hp:=Lx.whole_some hw;have hl:=Lx.whole_len hw;have HA:=Lib.hid hA;clear hA hT hw
 go_enter Tryz.func17,Tryz.ntmps17
 go_wp2_with fail
 refine HA.out.mono ?_;rintro e w1 ⟨hb1,v,rfl,hown⟩;obtain ⟨g,cap,rfl,hc1,hm1,hx⟩:=own_slice2 hown hp;obtain ⟨hg0,cur,hgb⟩:=own_tag hown rfl;have hgl:g<w1.heap.size:=lt_of_heap hgb;obtain ⟨V,hV⟩:∃ V,(w1.alloc (.cells #[.slice none 0 0] 64)).alloc (.cells #[.pointer (some ⟨w1.heap.size,0,none⟩),.slice (some ⟨g,0,none⟩) ts.length cap,.int .i64 0] 72)=V:=⟨_,rfl⟩;have hbV:Below w1.heap.size w1 V:=by rw [<- hV];exact ((Below.refl _ w1).alloc (Nat.le_refl _) _).alloc (by simp) _
 have hVs:V.heap.size=w1.heap.size+2:=by rw [<- hV];simp
 have kt:V.heap[w1.heap.size]? = some (.cells #[.slice none 0 0] 64 (0,0)):=by rw [<- hV];exact blk_alloc (blk_new w1 _) _
 have kr:V.heap[w1.heap.size+1]? = some (.cells #[.pointer (some ⟨w1.heap.size,0,none⟩),.slice (some ⟨g,0,none⟩) ts.length cap,.int .i64 0] 72 (0,0)):=by
  rw [<- hV];have:=blk_new (w1.alloc (.cells #[.slice none 0 0] 64)) (.cells #[.pointer (some ⟨w1.heap.size,0,none⟩),.slice (some ⟨g,0,none⟩) ts.length cap,.int .i64 0] 72);rwa [World.size_alloc] at this
 have hw1:=hb1.size;have hRd:Rd ⟨V.heap.size,w1.heap.size+1,w1.heap.size,g,cap,ts⟩ (fun _=>False) V ⟨0,[]⟩ :=
  ⟨kr,fun i u hu=>(hbV.cell (p:=⟨g,i,none⟩) hgl).trans (hx i u hu),⟨.slice none 0 0,[],rfl,⟨kt,⟨rfl,.inl ⟨rfl,rfl⟩⟩,fun q hq=>by simp at hq,by simp only;omega⟩,fun _ _ e=>e,fun _ _ _ _ e=>e⟩,Nat.zero_le _,by simp only;omega,hc1,by simp,by simp only;omega,by simp only;omega,by simp only;omega,by simp only;omega,by simp only;omega,by simp only;omega,Nat.le_refl _,fun _ e=>e.elim⟩
 have HRD:=Lib.hid hRd;have HV:=Lib.hid hV;have HB:=Lib.hid (hb1.trans (hbV.mono hb1.size));have HVS:=Lib.hid hVs;clear hRd hV hbV hVs kt kr hx hown hgb hb1 HA
 go_wp2
 rw [HV.out]
 go_ret2
 exact ⟨_,rfl,rfl,HRD.out,HB.out,by simp only;omega,by simp only;omega,by simp only;have:=HVS.out;omega⟩
theorem new_bad (s:ByteArray)(cd:Int)(p:Pos)(w:World)(hs:s.size<=1000000000000)(hT:Lib.Utf8Tabs 2 3 w)(hw:Lx.whole s.data.toList = .bad cd p):Calls Tryz.prog 17 #[.string s] w fun e w'=>e = .returned (.tuple #[.pointer none,dval cd p])/\Below w.heap.size w w':=by
 have hA:=tokens_any s w hs hT;rw [hw] at hA;have HA:=Lib.hid hA;clear hA hT hw
 go_enter Tryz.func17,Tryz.ntmps17
 go_wp2_with fail
 refine HA.out.mono ?_;rintro e w1 ⟨hb1,rfl⟩
 go_wp2
 go_ret2
 exact ⟨rfl,hb1⟩
namespace Ex
inductive PRes where
 | ok (i:Nat) (ns:List Nd)
 | bad (c:Int) (p:Pos)
 | out
def parseT (n:Nat)(ts:List Tok):PRes:=match rec_ ts n .all 0 ⟨0,[]⟩ with
 | .ok i s=>if ((tk ts s.p).kind==0)=true then .ok i s.ns else .bad 5 (at_ ts s)
 | .bad c p => .bad c p
 | .out => .out
def parse (n:Nat)(l:B):PRes:=match Lx.whole l with
 | .bad c p => .bad c p
 | .ok ts=>parseT n ts
end Ex
theorem Kp.below {c:Cx}{a b:World}(h:Kp c a b){N:Nat}(hN:N<=a.heap.size)(h1:N<=c.r)(h2:N<=c.bt)(h3:N<=c.B):Below N a b :=
 But.below h hN (fun k hk=>by
  rcases hk with e | e | ⟨e,_⟩ <;> omega)
end Go.Proofs.YtdfpkmfeldoamaaGreatDoor
namespace Go.Proofs.YtdfpkmfeldoamaaGreatDoor.Ex
open Lx (Tok Pos B)
open Tn (Nd fits WF)
def Res.Post {α:Type}(r:Res α)(Q:α->S->Prop):Prop:=match r with
 | .ok a s=>Q a s
 | .bad _ _=>True
 | .out=>False
theorem Res.Post.bind {α β:Type}{r:Res α}{f:α->S->Res β}{Q:α->S->Prop}{R:β->S->Prop}(h:r.Post Q)(k:∀ a s,Q a s->(f a s).Post R):(r.bind f).Post R:=by
 cases r with
 | ok a s=>exact k a s h
 | bad c p=>exact h
 | out=>exact h.elim
theorem Res.Post.mono {α:Type}{r:Res α}{Q R:α->S->Prop}(h:r.Post Q)(k:∀ a s,Q a s->R a s):r.Post R:=by
 cases r with
 | ok a s=>exact k a s h
 | bad c p=>exact h
 | out=>exact h.elim
theorem Res.Post.not_out {α:Type}{r:Res α}{Q:α->S->Prop}(h:r.Post Q):r ≠ .out:=by
 rintro rfl;exact h
theorem Res.post_ite {α:Type}{c:Prop}[Decidable c]{a b:Res α}{Q:α->S->Prop}(h:c->a.Post Q)(k:¬ c->b.Post Q):(if c then a else b).Post Q:=by
 split
 ·exact h ‹_›
 ·exact k ‹_›
section
variable (ts:List Tok)
def NameOk (x:ByteArray):Prop:=x=bt []\/∃ p,(tk ts p).kind=1/\x=bt (tk ts p).text
def NumOk (x:Int):Prop:=x=0\/∃ p,x=(tk ts p).int
structure GoodS (s:S):Prop where
 wf:WF s.ns
 few:s.ns.length<=4000
 names:∀ n∈s.ns,NameOk ts n.name
 kids:∀ n∈s.ns,n.kids.length<=ts.length+3
 here:s.p<=ts.length
 nums:∀ n∈s.ns,NumOk ts n.num
structure Ends (p:Nat)(i:Nat)(s:S):Prop where
 far:p<=s.p
 good:GoodS ts s
 lt:i<s.ns.length
variable {ts}
theorem GoodS.skip {s:S}(h:GoodS ts s)(hl:s.p<ts.length):GoodS ts s.skip:=⟨h.wf,h.few,h.names,h.kids,hl,h.nums⟩
theorem Ends.mono {p q i:Nat}{s:S}(h:Ends ts p i s)(hq:q<=p):Ends ts q i s:=⟨Nat.le_trans hq h.far,h.good,h.lt⟩
theorem wrong_post {α:Type}(c:Int)(s:S)(Q:α->S->Prop):(wrong ts c s:Res α).Post Q:=trivial
theorem addN_post {n:Nd}{s:S}(h:GoodS ts s)(hn:NameOk ts n.name)(hk:n.kids.length<=ts.length+3)(hm:NumOk ts n.num):(addN ts n s).Post (Ends ts s.p):=by
 unfold addN;refine Res.post_ite (fun hf=>Res.post_ite (fun _=>trivial) (fun hl=>?_)) (fun _=>trivial);refine ⟨Nat.le_refl _,⟨h.wf.snoc hf,by simp only [List.length_append,List.length_cons,List.length_nil];omega, ?_, ?_,h.here, ?_⟩,by simp⟩
 ·intro m hm
  rcases List.mem_append.1 hm with hm | hm
  ·exact h.names m hm
  ·rw [List.mem_singleton.1 hm];exact hn
 ·intro m hm
  rcases List.mem_append.1 hm with hm | hm
  ·exact h.kids m hm
  ·rw [List.mem_singleton.1 hm];exact hk
 ·intro m hq
  rcases List.mem_append.1 hq with hq | hq
  ·exact h.nums m hq
  ·rw [List.mem_singleton.1 hq];exact hm
theorem add_post (op:B)(a:Pos){name:B}(kids:List Nat){s:S}(h:GoodS ts s)(hn:NameOk ts (bt name))(hk:kids.length<=ts.length+3:=by simp):(add ts op a name kids s).Post (Ends ts s.p):=addN_post h hn (by simpa using hk) (.inl rfl)
theorem nameOk_nil:NameOk ts (bt []) := .inl rfl
theorem nameOk_tk {p:Nat}(h:(tk ts p).kind=1):NameOk ts (bt (tk ts p).text) := .inr ⟨p,h,rfl⟩
theorem name_post (s:S):(name ts s).Post fun x s1=>s1=s.skip/\s.p<ts.length/\NameOk ts (bt x):=by
 unfold name;refine Res.post_ite (fun hk=>?_) (fun _=>trivial);have hk:(tk ts s.p).kind=1:=by simpa using hk
 exact ⟨rfl,kind_lt (by rw [hk];decide),nameOk_tk hk⟩
theorem take_post (m:B)(s:S):(take ts m s).Post fun _ s1=>s1=s.skip/\s.p<ts.length:=by
 unfold take;exact Res.post_ite (fun h=>⟨rfl,is_lt h⟩) (fun _=>trivial)
theorem enter_post (d:Nat)(s:S):(enter ts d s).Post fun _ s1=>s1=s:=by
 unfold enter;exact Res.post_ite (fun _=>trivial) (fun _=>rfl)
theorem named_post (op:B){s:S}(h:GoodS ts s)(hl:s.p<ts.length):(named ts op s).Post (Ends ts (s.p+1)):=by
 unfold named;refine (name_post s.skip).bind ?_;rintro x s1 ⟨rfl,hl1,hn⟩;exact (add_post op _ [] ((h.skip hl).skip hl1) hn).mono fun _ _ k=>k.mono (by simp [S.skip])
def Parts (ts:List Tok)(n:Nat)(part:Part):Prop:=∀ s,GoodS ts s->10*(ts.length-s.p)<n->(part s).Post (Ends ts (s.p+1))
theorem between_post {part:Part}{n l:Nat}{s:S}(hp:Parts ts n part)(h:GoodS ts s)(hl:s.p<ts.length)(hn:10*(ts.length-(s.p+1))<n):(between ts part l s).Post (Ends ts (s.p+1)):=by
 unfold between;refine (hp s.skip (h.skip hl) hn).bind fun r s1 k=>?_;exact (add_post _ _ _ k.good nameOk_nil).mono fun _ _ k2=>k2.mono (by have:=k.far;simp [S.skip] at this;omega)
theorem chainLoop_post {part:Part}{ms:List B}{n:Nat}(hp:Parts ts n part):∀ (k l:Nat) (s:S),GoodS ts s->l<s.ns.length->ts.length-s.p<k->10*(ts.length-s.p)<n+10->(chainLoop ts part ms k l s).Post (Ends ts s.p)
 | 0,_,_,_,_,hk,_=>absurd hk (Nat.not_lt_zero _)
 | k+1,l,s,h,hl,hk,hn=>by
  rw [chainLoop];refine Res.post_ite (fun hm=>?_) (fun _=>⟨Nat.le_refl _,h,hl⟩);obtain ⟨m,_,hm⟩:=List.any_eq_true.1 hm;have hlt:=is_lt hm;refine (between_post (l:=l) hp h hlt (by omega)).bind fun i s1 k1=>?_;have:=k1.far;exact (chainLoop_post hp k i s1 k1.good k1.lt (by omega) (by omega)).mono fun _ _ k2=>k2.mono (by omega)
theorem chain_post {part:Part}{ms:List B}{n m:Nat}{s:S}(hp:Parts ts n part)(h:GoodS ts s)(hn:10*(ts.length-s.p)<n)(hm:10*(ts.length-s.p)<m):(chain ts m part ms s).Post (Ends ts (s.p+1)):=by
 unfold chain;refine (hp s h hn).bind fun i s1 k=>?_;have:=k.far;exact (chainLoop_post hp m i s1 k.good k.lt (by omega) (by omega)).mono fun _ _ k2=>k2.mono this
theorem itemsLoop_post {item:Part}{n:Nat}(hp:Parts ts n item):∀ (k:Nat) (is_:List Nat) (ps:List Pos) (s:S),GoodS ts s->is_.getD (is_.length-1) 0<s.ns.length->ts.length-s.p<k->10*(ts.length-s.p)<n+10 ->
  (itemsLoop ts item k is_ ps s).Post fun x s1=>s.p<=s1.p/\GoodS ts s1/\x.1.getD (x.1.length-1) 0<s1.ns.length
 | 0,_,_,_,_,_,hk,_=>absurd hk (Nat.not_lt_zero _)
 | k+1,is_,ps,s,h,hl,hk,hn=>by
  rw [itemsLoop];refine Res.post_ite (fun hm=>?_) (fun _=>⟨Nat.le_refl _,h,hl⟩);have hlt:s.p<ts.length:=is_lt (m:=[59]) (by simp only [Bool.and_eq_true] at hm;exact hm.1);refine (hp s.skip (h.skip hlt) (by show 10*(ts.length-(s.p+1))<n;omega)).bind fun i s1 k1=>?_;have h1:s.p+1+1<=s1.p:=k1.far;exact (itemsLoop_post hp k _ _ s1 k1.good (by simp [k1.lt]) (by omega) (by omega)).mono fun x s2 k2=>⟨by omega,k2.2⟩
theorem seqs_post (is_:List Nat)(ps:List Pos):∀ (k rest:Nat) (s:S),GoodS ts s->rest<s.ns.length->(seqs ts is_ ps k rest s).Post (Ends ts s.p)
 | 0,_,_,h,hl=>⟨Nat.le_refl _,h,hl⟩
 | k+1,rest,s,h,hl=>by
  rw [seqs];refine (add_post _ _ _ h nameOk_nil).bind fun i s1 k1=>?_;exact (seqs_post is_ ps k i s1 k1.good k1.lt).mono fun _ _ k2=>k2.mono k1.far
theorem allF_post {item:Part}{n m:Nat}{s:S}(hp:Parts ts n item)(h:GoodS ts s)(hn:10*(ts.length-s.p)<n)(hm:10*(ts.length-s.p)<m):(allF ts m item s).Post (Ends ts (s.p+1)):=by
 unfold allF;refine (hp s h hn).bind fun i s1 k=>?_;have h1:=k.far;refine (itemsLoop_post hp m [i] [] s1 k.good (by simp [k.lt]) (by omega) (by omega)).bind fun x s2 k2=>?_;exact (seqs_post x.1 x.2 _ _ s2 k2.2.1 k2.2.2).mono fun _ _ k3=>k3.mono (by omega)
theorem argsLoop_post {all:Part}{n:Nat}(hp:Parts ts n all):∀ (k:Nat) (l:List Nat) (s:S),GoodS ts s->l.length<=s.p->ts.length-s.p<k->10*(ts.length-s.p)<n+10->(argsLoop ts all k l s).Post fun x s1=>s.p<=s1.p/\GoodS ts s1/\x.length<=s1.p
 | 0,_,_,_,_,hk,_=>absurd hk (Nat.not_lt_zero _)
 | k+1,l,s,h,hlp,hk,hn=>by
  rw [argsLoop];refine Res.post_ite (fun hm=>?_) (fun _=>?_)
  ·have hlt:=is_lt hm;refine (hp s.skip (h.skip hlt) (by show 10*(ts.length-(s.p+1))<n;omega)).bind fun i s1 k1=>?_;have h1:s.p+1+1<=s1.p:=k1.far;exact (argsLoop_post hp k _ s1 k1.good (by simp;omega) (by omega) (by omega)).mono fun x s2 k2=>⟨by omega,k2.2⟩
  ·refine (take_post [41] s).bind ?_;rintro _ s1 ⟨rfl,hl1⟩;exact ⟨Nat.le_succ _,h.skip hl1,Nat.le_trans hlp (Nat.le_succ _)⟩
theorem args_post {all:Part}{n m:Nat}{s:S}(hp:Parts ts n all)(h:GoodS ts s)(hn:10*(ts.length-s.p)<n)(hm:10*(ts.length-s.p)<m):(args ts m all s).Post fun x s1=>s.p<=s1.p/\GoodS ts s1/\x.length<=s1.p:=by
 unfold args;refine Res.post_ite (fun _=>argsLoop_post hp m [] s h (by simp) (by omega) (by omega)) (fun _=>?_);refine (hp s h hn).bind fun i s1 k=>?_;have h1:=k.far;exact (argsLoop_post hp m [i] s1 k.good (by simp;omega) (by omega) (by omega)).mono fun x s2 k2=>⟨by omega,k2.2⟩
def rank:Tag->Nat
 | .all=>8 | .item=>7 | .or=>6 | .and=>5 | .test=>4 | .sum=>3 | .times=>2 | .unary=>1
def AllEnd (ts:List Tok)(n:Nat)(f:Rec):Prop:=∀ t d s,GoodS ts s->10*(ts.length-s.p)+rank t<n->(f t d s).Post (Ends ts (s.p+1))
theorem AllEnd.part {n:Nat}{f:Rec}(h:AllEnd ts n f)(t:Tag)(d:Nat):Parts ts (n-rank t) (f t d):=fun s hs hn=>h t d s hs (by omega)
theorem testF_post {n d:Nat}{f:Rec}{s:S}(hf:AllEnd ts n f)(h:GoodS ts s)(hn:10*(ts.length-s.p)+3<n):(testF ts f d s).Post (Ends ts (s.p+1)):=by
 unfold testF;refine (hf .sum d s h hn).bind fun l s1 k=>?_;have h1:=k.far;refine Res.post_ite (fun hm=>?_) (fun _=>k);have hlt:s1.p<ts.length:=by
  rcases Bool.or_eq_true _ _ ▸ hm with hm | hm <;> exact is_lt hm
 exact (between_post (hf.part .sum d) k.good hlt (by simp only [rank];omega)).mono fun _ _ k2=>k2.mono (by omega)
theorem letF_post {n d:Nat}{f:Rec}{s:S}(hf:AllEnd ts n f)(h:GoodS ts s)(hl:s.p<ts.length)(hn:10*(ts.length-s.p)<n):(letF ts f d s).Post (Ends ts (s.p+1)):=by
 unfold letF;refine (name_post s.skip).bind ?_;rintro x s1 ⟨rfl,l1,hx⟩;refine (take_post [61] _).bind ?_;rintro _ s2 ⟨rfl,l2⟩;refine (hf .all d _ (((h.skip hl).skip l1).skip l2) (by simp only [rank,S.skip];omega)).bind fun a s3 k3=>?_;have h3:=k3.far;simp only [S.skip] at h3;refine (take_post [105,110] s3).bind ?_;rintro _ s4 ⟨rfl,l4⟩;refine (hf .all d _ (k3.good.skip l4) (by simp only [rank,S.skip];omega)).bind fun b s5 k5=>?_;have h5:=k5.far;simp only [S.skip] at h5;exact (add_post _ _ _ k5.good hx).mono fun _ _ k6=>k6.mono (by omega)
theorem choiceF_post {n d:Nat}{f:Rec}{s:S}(hf:AllEnd ts n f)(h:GoodS ts s)(hl:s.p<ts.length)(hn:10*(ts.length-s.p)<n):(choiceF ts f d s).Post (Ends ts (s.p+1)):=by
 unfold choiceF;refine (hf .all d _ (h.skip hl) (by simp only [rank,S.skip];omega)).bind fun c s1 k1=>?_;have h1:=k1.far;simp only [S.skip] at h1;refine (take_post [116,104,101,110] s1).bind ?_;rintro _ s2 ⟨rfl,l2⟩;refine (hf .item d _ (k1.good.skip l2) (by simp only [rank,S.skip];omega)).bind fun a s3 k3=>?_;have h3:=k3.far;simp only [S.skip] at h3;refine (take_post [101,108,115,101] s3).bind ?_;rintro _ s4 ⟨rfl,l4⟩;refine (hf .item d _ (k3.good.skip l4) (by simp only [rank,S.skip];omega)).bind fun b s5 k5=>?_;have h5:=k5.far;simp only [S.skip] at h5;exact (add_post _ _ _ k5.good nameOk_nil).mono fun _ _ k6=>k6.mono (by omega)
theorem guardF_post {n d:Nat}{f:Rec}{s:S}(hf:AllEnd ts n f)(h:GoodS ts s)(hl:s.p<ts.length)(hn:10*(ts.length-s.p)<n):(guardF ts f d s).Post (Ends ts (s.p+1)):=by
 unfold guardF;refine (hf .all d _ (h.skip hl) (by simp only [rank,S.skip];omega)).bind fun c s1 k1=>?_;have h1:=k1.far;simp only [S.skip] at h1;refine (take_post [119,105,116,104] s1).bind ?_;rintro _ s2 ⟨rfl,l2⟩;refine (name_post _).bind ?_;rintro x s3 ⟨rfl,l3,hx⟩;refine (take_post [45,62] _).bind ?_;rintro _ s4 ⟨rfl,l4⟩;refine (hf .item d _ (((k1.good.skip l2).skip l3).skip l4) (by simp only [rank,S.skip];omega)).bind fun b s5 k5=>?_;have h5:=k5.far;simp only [S.skip] at h5;exact (add_post _ _ _ k5.good hx).mono fun _ _ k6=>k6.mono (by omega)
theorem outF_post {n d:Nat}{f:Rec}{s:S}(hf:AllEnd ts n f)(h:GoodS ts s)(hl:s.p<ts.length)(hn:10*(ts.length-s.p)<n):(outF ts f d s).Post (Ends ts (s.p+1)):=by
 unfold outF;refine (name_post s.skip).bind ?_;rintro x s1 ⟨rfl,l1,hx⟩;refine (hf .or d _ ((h.skip hl).skip l1) (by simp only [rank,S.skip];omega)).bind fun a s2 k2=>?_;have h2:=k2.far;simp only [S.skip] at h2;exact (add_post _ _ _ k2.good hx).mono fun _ _ k6=>k6.mono (by omega)
theorem setF_post {n d:Nat}{f:Rec}{s:S}(hf:AllEnd ts n f)(h:GoodS ts s)(hl:s.p<ts.length)(hk:(tk ts s.p).kind=1)(hn:10*(ts.length-s.p)<n):(setF ts f d s).Post (Ends ts (s.p+1)):=by
 unfold setF;refine (take_post [58,61] s.skip).bind ?_;rintro _ s1 ⟨rfl,l1⟩;refine (hf .or d _ ((h.skip hl).skip l1) (by simp only [rank,S.skip];omega)).bind fun a s2 k2=>?_;have h2:=k2.far;simp only [S.skip] at h2;exact (add_post _ _ _ k2.good (nameOk_tk hk)).mono fun _ _ k6=>k6.mono (by omega)
theorem itemF_post {n d:Nat}{f:Rec}{s:S}(hf:AllEnd ts n f)(h:GoodS ts s)(hn:10*(ts.length-s.p)+6<n):(itemF ts f d s).Post (Ends ts (s.p+1)):=by
 unfold itemF;refine Res.post_ite (fun hm=>letF_post hf h (is_lt hm) (by omega)) fun _=>?_;refine Res.post_ite (fun hm=>choiceF_post hf h (is_lt hm) (by omega)) fun _=>?_;refine Res.post_ite (fun hm=>guardF_post hf h (is_lt hm) (by omega)) fun _=>?_;refine Res.post_ite (fun hm=>named_post _ h (is_lt hm)) fun _=>?_;refine Res.post_ite (fun hm=>outF_post hf h (is_lt hm) (by omega)) fun _=>?_;refine Res.post_ite (fun hm=>?_) fun _=>hf .or d s h hn;have hk:(tk ts s.p).kind=1:=by simp only [Bool.and_eq_true,beq_iff_eq] at hm;exact hm.1
 exact setF_post hf h (kind_lt (by rw [hk];decide)) hk (by omega)
theorem prefixF_post {n d:Nat}{f:Rec}{s:S}(op:B)(hf:AllEnd ts n f)(h:GoodS ts s)(hl:s.p<ts.length)(hn:10*(ts.length-s.p)<n):(prefixF ts f op d s).Post (Ends ts (s.p+1)):=by
 unfold prefixF;refine (hf .unary d _ (h.skip hl) (by simp only [rank,S.skip];omega)).bind fun a s1 k1=>?_;have h1:=k1.far;simp only [S.skip] at h1;exact (add_post _ _ _ k1.good nameOk_nil).mono fun _ _ k6=>k6.mono (by omega)
theorem releaseF_post {n d:Nat}{f:Rec}{s:S}(hf:AllEnd ts n f)(h:GoodS ts s)(hl:s.p<ts.length)(hn:10*(ts.length-s.p)<n):(releaseF ts f d s).Post (Ends ts (s.p+1)):=by
 unfold releaseF;refine (name_post s.skip).bind ?_;rintro x s1 ⟨rfl,l1,hx⟩;refine (take_post [40] _).bind ?_;rintro _ s2 ⟨rfl,l2⟩;refine (hf .all d _ (((h.skip hl).skip l1).skip l2) (by simp only [rank,S.skip];omega)).bind fun a s3 k3=>?_;have h3:=k3.far;simp only [S.skip] at h3;refine (take_post [41] s3).bind ?_;rintro _ s4 ⟨rfl,l4⟩;exact (add_post _ _ _ (k3.good.skip l4) hx).mono fun _ _ k6=>k6.mono (by simp only [S.skip];omega)
theorem bracketsF_post {n d:Nat}{f:Rec}{s:S}(hf:AllEnd ts n f)(h:GoodS ts s)(hl:s.p<ts.length)(hn:10*(ts.length-s.p)<n):(bracketsF ts f d s).Post (Ends ts (s.p+1)):=by
 unfold bracketsF;refine Res.post_ite (fun hm=>(add_post _ _ _ ((h.skip hl).skip (is_lt hm)) nameOk_nil).mono fun _ _ k=>k.mono (by simp only [S.skip];omega)) fun _=>?_;refine (hf .all d _ (h.skip hl) (by simp only [rank,S.skip];omega)).bind fun a s1 k1=>?_;have h1:=k1.far;simp only [S.skip] at h1;refine Res.post_ite (fun hm=>?_) fun _=>?_
 ·have l1:=is_lt hm;refine (hf .all d _ (k1.good.skip l1) (by simp only [rank,S.skip];omega)).bind fun b s2 k2=>?_;have h2:=k2.far;simp only [S.skip] at h2;refine (take_post [41] s2).bind ?_;rintro _ s4 ⟨rfl,l4⟩;exact (add_post _ _ _ (k2.good.skip l4) nameOk_nil).mono fun _ _ k6=>k6.mono (by simp only [S.skip];omega)
 ·refine (take_post [41] s1).bind ?_;rintro _ s4 ⟨rfl,l4⟩;exact ⟨by simp only [S.skip];omega,k1.good.skip l4,k1.lt⟩
theorem varF_post {n m d:Nat}{f:Rec}{s:S}(hf:AllEnd ts n f)(h:GoodS ts s)(hk:(tk ts s.p).kind=1)(hn:10*(ts.length-s.p)<n)(hm:10*(ts.length-s.p)<m):(varF ts m f d s).Post (Ends ts (s.p+1)):=by
 have hl:s.p<ts.length:=kind_lt (by rw [hk];decide);unfold varF;refine Res.post_ite (fun ho=>?_) fun _=>(add_post _ _ _ (h.skip hl) (nameOk_tk hk)).mono fun _ _ k=>k;have hl2:s.p+1<ts.length:=is_lt ho;refine (args_post (hf.part .all d) ((h.skip hl).skip hl2) (by simp only [rank,S.skip];omega) (by simp only [S.skip];omega)).bind fun l s1 k1=>?_;have h1:=k1.1;simp only [S.skip] at h1;exact (add_post _ _ _ k1.2.1 (nameOk_tk hk) (by have:=k1.2.2;have:=k1.2.1.here;omega)).mono fun _ _ k=>k.mono (by omega)
theorem unaryF_post {n m d:Nat}{f:Rec}{s:S}(hf:AllEnd ts n f)(h:GoodS ts s)(hn:10*(ts.length-s.p)<n)(hm:10*(ts.length-s.p)<m):(unaryF ts m f d s).Post (Ends ts (s.p+1)):=by
 have tl:∀ {m:B},((tk ts s.p).text==m)=true->m≠[]->s.p<ts.length:=fun hm hne=>text_lt (by rw [eq_of_beq hm];exact hne);unfold unaryF;refine Res.post_ite (fun hk=>(addN_post (h.skip (kind_lt (by rw [show (tk ts s.p).kind=3 by simpa using hk];decide))) nameOk_nil (by simp) (.inr ⟨s.p,rfl⟩)).mono fun _ _ k=>k) fun _=>?_;refine Res.post_ite (fun hk=>varF_post hf h (by simpa using hk) hn hm) fun _=>?_;refine Res.post_ite (fun ht=>prefixF_post _ hf h (tl ht (by simp)) hn) fun _=>?_;refine Res.post_ite (fun ht=>prefixF_post _ hf h ?_ hn) fun _=>?_
 ·simp only [Bool.or_eq_true] at ht
  rcases ht with (ht | ht) | ht <;> exact tl ht (by simp)
 refine Res.post_ite (fun ht=>named_post _ h (tl ht (by simp))) fun _=>?_;refine Res.post_ite (fun ht=>named_post _ h (tl ht (by simp))) fun _=>?_;refine Res.post_ite (fun ht=>(add_post _ _ _ (h.skip ?_) nameOk_nil).mono fun _ _ k=>k) fun _=>?_
 ·simp only [Bool.or_eq_true] at ht
  rcases ht with ht | ht <;> exact tl ht (by simp)
 refine Res.post_ite (fun ht=>releaseF_post hf h (tl ht (by simp)) hn) fun _=>?_;refine Res.post_ite (fun ht=>bracketsF_post hf h (tl ht (by simp)) hn) fun _=>?_;exact wrong_post _ _ _
theorem rec_post:∀ n,AllEnd ts n (rec_ ts n)
 | 0=>fun _ _ _ _ h=>absurd h (Nat.not_lt_zero _)
 | n+1=>by
  have ih:=rec_post n;intro t d s h hn;rw [rec_]
  cases t with
  | all=>simp only [stepF];simp only [rank] at hn;exact allF_post (ih.part .item d) h (by simp only [rank];omega) (by omega)
  | item=>simp only [stepF];simp only [rank] at hn;refine (enter_post d s).bind ?_;rintro d1 s1 rfl;exact itemF_post ih h (by omega)
  | or=>simp only [stepF];simp only [rank] at hn;exact chain_post (ih.part .and d) h (by simp only [rank];omega) (by omega)
  | and=>simp only [stepF];simp only [rank] at hn;exact chain_post (ih.part .test d) h (by simp only [rank];omega) (by omega)
  | test=>simp only [stepF];simp only [rank] at hn;exact testF_post ih h (by omega)
  | sum=>simp only [stepF];simp only [rank] at hn;exact chain_post (ih.part .times d) h (by simp only [rank];omega) (by omega)
  | times=>simp only [stepF];simp only [rank] at hn;exact chain_post (ih.part .unary d) h (by simp only [rank];omega) (by omega)
  | unary=>simp only [stepF];simp only [rank] at hn;refine (enter_post d s).bind ?_;rintro d1 s1 rfl;exact unaryF_post ih h (by omega) (by omega)
end
theorem goodS_nil (ts:List Tok):GoodS ts ⟨0,[]⟩:=⟨WF.nil,by simp,fun n h=>by simp at h,fun n h=>by simp at h,Nat.zero_le _,fun n h=>by simp at h⟩
end Go.Proofs.YtdfpkmfeldoamaaGreatDoor.Ex
namespace Go.Proofs.YtdfpkmfeldoamaaGreatDoor.Lx
theorem number_snoc (l:B)(c:UInt8):number (l++[c])=10*number l+((c.toNat:Int)-48):=by simp [number]
theorem number_bd:∀ (n:Nat)(l:B),l.length=n->(∀ c∈l,digit c=true)->0<=number l/\number l<10 ^ n
 | 0,l,h,_=>by have:=List.eq_nil_of_length_eq_zero h;subst this;simp [number]
 | n+1,l,h,hd=>by
  have hne:l≠[]:=by rintro rfl;simp at h
  obtain ⟨m,c,rfl⟩:∃ m c,l=m++[c]:=⟨l.dropLast,l.getLast hne,(List.dropLast_concat_getLast hne).symm⟩;have ih:=number_bd n m (by simpa using h) (fun c hc=>hd c (by simp [hc]));have hc:=hd c (by simp);simp only [digit,digitZ,Bool.and_eq_true,decide_eq_true_eq] at hc;rw [number_snoc,Int.pow_succ];omega
theorem span_digits:∀ (l:B),∀ c∈l.take (span false l),digit c=true
 | [],c,h=>by simp [span] at h
 | a :: l,c,h=>by
  unfold span at h
  by_cases hd:digit a=true
  ·rw [if_pos (by simp [hd]),Nat.add_comm,List.take_succ_cons,List.mem_cons] at h
   rcases h with rfl | h
   ·exact hd
   ·exact span_digits l c h
  ·rw [if_neg (by simpa using hd)] at h;simp at h
theorem one_int {l:B}{k:Int}{n:Nat}{v:Int}(h:one l = .tok k n v):0<=v/\v<1000000000000000000:=by
 unfold one at h
 split at h
 ·injection h with _ _ h;subst h;exact ⟨Int.le_refl _,by decide⟩
 ·rename_i c m
  by_cases hd:digit c=true
  ·rw [if_pos hd] at h
   by_cases h18:span false (c :: m)>18
   ·rw [if_pos h18] at h;cases h
   ·rw [if_neg h18] at h
    injection h with _ _ h
    have hb:=number_bd _ _ rfl (span_digits (c :: m));have hle:(List.take (span false (c :: m)) (c :: m)).length<=18:=Nat.le_trans (List.length_take_le _ _) (by omega);have hp:(10:Int) ^ (List.take (span false (c :: m)) (c :: m)).length<=10 ^ 18:=by exact_mod_cast Nat.pow_le_pow_right (by decide) hle
    have e18:(10:Int) ^ 18=1000000000000000000:=by decide
    rw [h] at hb;omega
  ·rw [if_neg hd] at h
   by_cases hl:letter c=true
   ·rw [if_pos hl] at h
    split at h
    ·cases h
    ·split at h <;> (injection h with _ _ h;subst h;exact ⟨Int.le_refl _,by decide⟩)
   ·rw [if_neg hl] at h
    split at h
    ·cases h
    ·injection h with _ _ h;subst h;exact ⟨Int.le_refl _,by decide⟩
theorem toks_int:∀ (f:Nat)(note:Bool)(p:Pos)(l:B)(ts:List Tok),toks f note p l = .ok ts->∀ t∈ts,0<=t.int/\t.int<1000000000000000000
 | 0,_,_,_,_,h,t,ht=>by simp [toks] at h;subst h;simp at ht
 | f+1,note,p,l,ts,h,t,ht=>by
  rw [toks] at h
  cases ho:one (l.drop (blanks note l)) with
  | bad e=>rw [ho] at h;cases h
  | tok k n v =>
   rw [ho] at h;simp only at h
   by_cases hk:k=0
   ·rw [if_pos hk] at h;cases h;rw [List.mem_singleton.1 ht];exact ⟨Int.le_refl _,(by decide:(0:Int)<1000000000000000000)⟩
   ·rw [if_neg hk] at h
    cases hr:toks f false (adv p (l.take (blanks note l+n))) (l.drop (blanks note l+n)) with
    | bad c' q'=>rw [hr] at h;simp [Res.after] at h
    | ok us =>
     rw [hr] at h;simp only [Res.after,Res.ok.injEq] at h;subst h
     rcases List.mem_cons.1 ht with rfl | ht
     ·exact one_int ho
     ·exact toks_int f _ _ _ _ hr t ht
theorem whole_int {l:B}{ts:List Tok}(h:whole l = .ok ts):∀ t∈ts,0<=t.int/\t.int<1000000000000000000:=by
 unfold whole at h
 split at h
 ·cases h
 ·split at h
  ·cases h
  ·exact toks_int _ _ _ _ _ h
end Go.Proofs.YtdfpkmfeldoamaaGreatDoor.Lx
namespace Go.Proofs.YtdfpkmfeldoamaaGreatDoor.Ex
open Lx (Tok Pos B)
open Tn (Nd fits WF)
abbrev FU:Nat:=700000
end Go.Proofs.YtdfpkmfeldoamaaGreatDoor.Ex
