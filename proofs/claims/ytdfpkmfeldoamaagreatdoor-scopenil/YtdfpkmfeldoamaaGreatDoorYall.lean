/- A part of the proof: A part of the proof. -/
import Derived.Test.YtdfpkmfeldoamaaGreatDoorYf
import Derived.Test.YtdfpkmfeldoamaaGreatDoorPe
import Derived.Test.YtdfpkmfeldoamaaGreatDoorYh
import Derived.Test.YtdfpkmfeldoamaaGreatDoorTab2
import Derived.Test.YtdfpkmfeldoamaaGreatDoorMains2
set_option linter.unusedSimpArgs false
set_option linter.unusedVariables false
set_option maxRecDepth 100000
set_option maxHeartbeats 8000000
namespace Go.Proofs.YtdfpkmfeldoamaaGreatDoor.Yf
open Lx (Tok Pos B)
open Ex (S Res tk at_ is take wrong rec_ GoodS)
open Pg (Nm zn R lift takes nameAt bodyF wMain)
open Pf (RPost lift_post rpost_ite NmOk On take_on nameAt_on bodyF_on mem_snoc)
section
variable (ts:List Tok)
def FnmOk (n:Nm):Prop:=NmOk ts n\/∃ p,n=⟨wMain,(tk ts p).at_⟩
structure HtOk (L:Nat)(h:Ht):Prop where
 name:NmOk ts h.name
 body:h.body<L
 dst:NmOk ts h.dst
 inn:∀ n∈h.inn,FnmOk ts n
 few:h.inn.length<=ts.length
structure StOk (k p L:Nat)(g:St):Prop where
 conf:∀ n∈g.conf,NmOk ts n
 integ:∀ n∈g.integ,NmOk ts n
 ord:∀ a∈g.ord,NmOk ts a.1/\NmOk ts a.2
 att:g.att=zn\/NmOk ts g.att
 hat:∀ h∈g.hat,HtOk ts L h
 few:g.ord.length+g.hat.length<=k
 lenC:g.conf.length<=p
 lenI:g.integ.length<=p
variable {ts}
theorem HtOk.up {L M:Nat}{h:Ht}(k:HtOk ts L h)(hM:L<=M):HtOk ts M h:=⟨k.name,Nat.lt_of_lt_of_le k.body hM,k.dst,k.inn,k.few⟩
theorem StOk.up {k l p q L M:Nat}{g:St}(h:StOk ts k p L g)(hk:k<=l)(hp:p<=q)(hM:L<=M):StOk ts l q M g :=
 ⟨h.conf,h.integ,h.ord,h.att,fun x hx=>(h.hat x hx).up hM,Nat.le_trans h.few hk,Nat.le_trans h.lenC hp,Nat.le_trans h.lenI hp⟩
theorem list_on {part:S->Res Nm}{P:Nm->Prop}{p L:Nat}(hp:∀ s,On ts p L s->(part s).Post fun n s1=>On ts p L s1/\s.p<s1.p/\P n):∀ (f:Nat) (l:List Nm) (s:S),On ts p L s->(∀ n∈l,P n)->l.length<=s.p->ts.length-s.p<f ->
  (list ts part f l s).Post fun x s1=>On ts p L s1/\s.p<s1.p/\(∀ n∈x,P n)/\x.length<=s1.p
 | 0,_,_,_,_,_,hf=>absurd hf (Nat.not_lt_zero _)
 | f+1,l,s,h,hl,hs,hf=>by
  rw [list];refine (hp s h).bind ?_;rintro n s1 ⟨h1,l1,hn⟩;have hl':=mem_snoc hl hn;refine Res.post_ite (fun hc=>?_) (fun _=>?_)
  ·have hlt:=Ex.is_lt hc;refine (list_on hp f (l++[n]) s1.skip (h1.skip hlt) hl' (by simp [S.skip];omega) (by simp only [S.skip];omega)).mono ?_;rintro x s2 ⟨h2,l2,hx,hlen⟩;exact ⟨h2,by simp only [S.skip] at l2;omega,hx,hlen⟩
  ·exact ⟨h1,l1,hl',by simp;omega⟩
theorem funN_on {p L:Nat}{s:S}(h:On ts p L s):(funN ts s).Post fun n s1=>On ts p L s1/\s.p<s1.p/\FnmOk ts n:=by
 unfold funN;refine Res.post_ite (fun hc=>?_) (fun _=>?_)
 ·exact ⟨h.skip (Ex.is_lt hc),Nat.lt_succ_self _,.inr ⟨s.p,rfl⟩⟩
 ·exact (nameAt_on [] h).mono fun n s1 ⟨h1,l1,hn⟩=>⟨h1,l1,.inl hn⟩
theorem order_on {p L:Nat}{s:S}(h:On ts p L s):(order ts s).Post fun x s1=>On ts p L s1/\s.p<s1.p/\NmOk ts x.1/\NmOk ts x.2:=by
 unfold order;refine (nameAt_on _ h).bind ?_;rintro a s1 ⟨h1,l1,ha⟩;refine (nameAt_on _ h1).bind ?_;rintro b s2 ⟨h2,l2,hb⟩;exact ⟨h2,by omega,ha,hb⟩
theorem hatch_on {p L n:Nat}{s:S}(h:On ts p L s)(hn:10*(ts.length-s.p)+8<n):(hatch ts n s).Post fun x s1=>On ts p L s1/\s.p<s1.p/\HtOk ts s1.ns.length x:=by
 unfold hatch;refine (nameAt_on _ h).bind ?_;rintro nm s1 ⟨h1,l1,hnm⟩;refine (bodyF_on h1 (by omega)).bind ?_;rintro b s2 ⟨h2,l2,hb,_⟩;have h2':On ts p s2.ns.length s2:=⟨h2.far,h2.good,Nat.le_refl _⟩;refine (nameAt_on [wTo] h2').bind ?_;rintro t s3 ⟨h3,l3,ht⟩;refine (take_on wIn h3).bind ?_;rintro _ s4 ⟨h4,l4⟩;refine (list_on (fun s h=>funN_on h) n [] s4 h4 (fun n hn=>by simp at hn) (by simp) (by omega)).bind ?_;rintro l s5 ⟨h5,l5,hl,hlen⟩;exact ⟨h5.less (Nat.le_refl _) h2.up,by omega,hnm,Nat.lt_of_lt_of_le hb h5.up,ht,hl,Nat.le_trans hlen h5.good.here⟩
theorem rest_on {p L n k:Nat}(word:B){g:St}{s:S}(h:On ts p L s)(hg:StOk ts k s.p s.ns.length g)(hn:10*(ts.length-s.p)+8<n):
  RPost (rest ts n word g s) fun g1 s1=>On ts p L s1/\s.p<s1.p/\s.ns.length<=s1.ns.length/\StOk ts (k+1) s1.p s1.ns.length g1:=by
 have h0:On ts p s.ns.length s:=⟨h.far,h.good,Nat.le_refl _⟩;have few:=hg.few;unfold rest;refine rpost_ite (fun _=>?_) fun _=>rpost_ite (fun _=>?_) fun _=>rpost_ite (fun _=>?_) fun _=>rpost_ite (fun _=>?_) fun _=>?_
 ·refine (lift_post (list_on (fun s h=>nameAt_on [] h) n g.conf s h0 hg.conf hg.lenC (by omega))).bind ?_;rintro l s1 ⟨h1,l1,hl,hlen⟩;have u:=hg.up (Nat.le_succ k) (Nat.le_of_lt l1) h1.up;exact ⟨h1.less (Nat.le_refl _) h.up,l1,h1.up,hl,u.integ,u.ord,u.att,u.hat,u.few,hlen,u.lenI⟩
 ·refine (lift_post (list_on (fun s h=>nameAt_on [] h) n g.integ s h0 hg.integ hg.lenI (by omega))).bind ?_;rintro l s1 ⟨h1,l1,hl,hlen⟩;have u:=hg.up (Nat.le_succ k) (Nat.le_of_lt l1) h1.up;exact ⟨h1.less (Nat.le_refl _) h.up,l1,h1.up,u.conf,hl,u.ord,u.att,u.hat,u.few,u.lenC,hlen⟩
 ·refine (lift_post (order_on h0)).bind ?_;rintro x s1 ⟨h1,l1,hx⟩;have u:=hg.up (Nat.le_succ k) (Nat.le_of_lt l1) h1.up;exact ⟨h1.less (Nat.le_refl _) h.up,l1,h1.up,u.conf,u.integ,mem_snoc u.ord hx,u.att,u.hat,by simp;omega,u.lenC,u.lenI⟩
 ·refine (lift_post (nameAt_on [] h0)).bind ?_;rintro a s1 ⟨h1,l1,ha⟩;have u:=hg.up (Nat.le_succ k) (Nat.le_of_lt l1) h1.up;exact rpost_ite (fun _=>⟨h1.less (Nat.le_refl _) h.up,l1,h1.up,u.conf,u.integ,u.ord,.inr ha,u.hat,u.few,u.lenC,u.lenI⟩) fun _=>trivial
 ·refine (lift_post (hatch_on h0 hn)).bind ?_;rintro x s1 ⟨h1,l1,hx⟩;have u:=hg.up (Nat.le_succ k) (Nat.le_of_lt l1) h1.up;exact ⟨h1.less (Nat.le_refl _) h.up,l1,h1.up,u.conf,u.integ,u.ord,u.att,mem_snoc u.hat hx,by simp;omega,u.lenC,u.lenI⟩
theorem item_on {n k:Nat}{g:St}{s:S}(h:GoodS ts s)(hg:StOk ts k s.p s.ns.length g)(hn:10*(ts.length-s.p)+8<n):
  RPost (item ts n g s) fun g1 s1=>On ts s.p s.ns.length s1/\s.p<s1.p/\StOk ts (k+1) s1.p s1.ns.length g1:=by
 unfold item;refine rpost_ite (fun _=>?_) fun _=>trivial;refine (lift_post (take_on _ (On.refl h))).bind ?_;rintro _ s1 ⟨h1,l1⟩;refine (rest_on _ h1 (hg.up (Nat.le_refl _) (Nat.le_of_lt l1) h1.up) (by omega)).bind ?_;rintro g1 s2 ⟨h2,l2,u2,hg2⟩;refine (lift_post (take_on _ (⟨h2.far,h2.good,Nat.le_refl _⟩:On ts s.p s2.ns.length s2))).bind ?_;rintro _ s3 ⟨h3,l3⟩;exact ⟨h3.less (Nat.le_refl _) h2.up,by omega,hg2.up (Nat.le_refl _) (Nat.le_of_lt l3) h3.up⟩
theorem all_on {n:Nat} : ∀ (f k:Nat) (g:St) (s:S),GoodS ts s->StOk ts k s.p s.ns.length g->k<=100->ts.length-s.p<f->10*(ts.length-s.p)+8<n ->
  RPost (all ts n f k g s) fun g1 s1=>GoodS ts s1/\StOk ts 100 s1.p s1.ns.length g1/\g1.att.text≠[]
 | 0,_,_,_,_,_,_,hf,_=>absurd hf (Nat.not_lt_zero _)
 | f+1,k,g,s,h,hg,hk,hf,hn=>by
  rw [all];refine rpost_ite (fun _=>rpost_ite (fun _=>trivial) fun ha=>?_) fun _=>rpost_ite (fun _=>trivial) fun hk1=>?_
  ·exact ⟨h,hg.up hk (Nat.le_refl _) (Nat.le_refl _),by simpa using ha⟩
  ·refine (item_on h hg hn).bind ?_;rintro g1 s1 ⟨h1,l1,hg1⟩;have hh:=h.here;have hh1:=h1.good.here;exact all_on f (k+1) g1 s1 h1.good hg1 (by omega) (by omega) (by omega)
end
end Go.Proofs.YtdfpkmfeldoamaaGreatDoor.Yf
namespace Go.Proofs.YtdfpkmfeldoamaaGreatDoor
section
open Go.RowKit Tn Lx
section
variable (w:World)
theorem ymap_make:(Instr.makeMap 124 none).run Tryz.prog w = .ok (.map (some w.heap.size)) (w.alloc (.map #[] 0)):=rfl
theorem ymap_up (es:Array MapEntry)(cl:Nat)(k:ByteArray)(v:Value)(h:Instr.findNow .string (.string k) es.toList 0=some none):(Instr.mapUpdate 124 (.map (some w.heap.size)) (.string k) v).run Tryz.prog (w.alloc (.map es cl)) = .ok () (w.alloc (.map (es.push ⟨.string k,v,cl⟩) (cl+1))):=by
 have hb:(w.alloc (.map es cl)).heap[w.heap.size]? = some (.map es cl):=by unfold World.alloc;simp
 rw [Instr.mapUpdate];simp only [Sem.run_bind,run_underlying Tryz.underlying124,Result.andThen,obj_get hb,key_check,key_find k es.toList none _ h,obj_set _ hb,alloc_set]
theorem ymap_look {r:Nat}{es:Array MapEntry}{cl i:Nat}{v:Value}{k:ByteArray}{W:World}(hb:W.heap[r]? = some (.map es cl))(h:Instr.findNow .string (.string k) es.toList 0=some (some (i,v))):(Instr.lookup 124 (.map (some r)) (.string k) true).run Tryz.prog W = .ok (.tuple #[v,.bool true]) W:=by
 rw [Instr.lookup];simp only [Sem.run_bind,run_underlying Tryz.underlying124,Result.andThen,obj_get hb,key_check,key_find k es.toList _ _ h,Sem.run_pure,if_true]
end
abbrev ye0:MapEntry:=⟨.string ⟨#[99,111,110,102]⟩,.func (.func 88) #[] #[],0⟩
abbrev ye1:MapEntry:=⟨.string ⟨#[105,110,116,101,103]⟩,.func (.func 91) #[] #[],1⟩
abbrev ye2:MapEntry:=⟨.string ⟨#[111,114,100,101,114]⟩,.func (.func 92) #[] #[],2⟩
abbrev ye3:MapEntry:=⟨.string ⟨#[97,116,116,97,99,107,101,114]⟩,.func (.func 93) #[] #[],3⟩
abbrev ye4:MapEntry:=⟨.string ⟨#[104,97,116,99,104]⟩,.func (.func 94) #[] #[],4⟩
def ytabE:Array MapEntry:=#[ye0,ye1,ye2,ye3,ye4]
theorem items5_any (w:World):Calls Tryz.prog 41 #[] w fun e w'=>e = .returned (.map (some w.heap.size))/\w'=w.alloc (.map ytabE 5):=by
 have h0:=ymap_make w;have h1:=ymap_up w #[] 0 ⟨#[99,111,110,102]⟩ (.func (.func 88) #[] #[]) (by rfl);have h2:=ymap_up w #[ye0] 1 ⟨#[105,110,116,101,103]⟩ (.func (.func 91) #[] #[]) (by kernel_rfl);have h3:=ymap_up w #[ye0,ye1] 2 ⟨#[111,114,100,101,114]⟩ (.func (.func 92) #[] #[]) (by kernel_rfl);have h4:=ymap_up w #[ye0,ye1,ye2] 3 ⟨#[97,116,116,97,99,107,101,114]⟩ (.func (.func 93) #[] #[]) (by kernel_rfl);have h5:=ymap_up w #[ye0,ye1,ye2,ye3] 4 ⟨#[104,97,116,99,104]⟩ (.func (.func 94) #[] #[]) (by kernel_rfl);simp only [List.push_toArray,List.nil_append,List.cons_append,Nat.reduceAdd] at h1 h2 h3 h4 h5
 go_enter Tryz.func41,Tryz.ntmps41
 go_wp2
 go_ret
 exact ⟨rfl,rfl⟩
theorem ylook0 {r:Nat}{W:World}(hb:W.heap[r]? = some (.map ytabE 5)):(Instr.lookup 124 (.map (some r)) (.string ⟨Yf.wConf.toArray⟩) true).run Tryz.prog W = .ok (.tuple #[.func (.func 88) #[] #[],.bool true]) W:=ymap_look hb (i:=0) (by kernel_rfl)
theorem ylook1 {r:Nat}{W:World}(hb:W.heap[r]? = some (.map ytabE 5)):(Instr.lookup 124 (.map (some r)) (.string ⟨Yf.wInteg.toArray⟩) true).run Tryz.prog W = .ok (.tuple #[.func (.func 91) #[] #[],.bool true]) W:=ymap_look hb (i:=1) (by kernel_rfl)
theorem ylook2 {r:Nat}{W:World}(hb:W.heap[r]? = some (.map ytabE 5)):(Instr.lookup 124 (.map (some r)) (.string ⟨Yf.wOrder.toArray⟩) true).run Tryz.prog W = .ok (.tuple #[.func (.func 92) #[] #[],.bool true]) W:=ymap_look hb (i:=2) (by kernel_rfl)
theorem ylook3 {r:Nat}{W:World}(hb:W.heap[r]? = some (.map ytabE 5)):(Instr.lookup 124 (.map (some r)) (.string ⟨Yf.wAtt.toArray⟩) true).run Tryz.prog W = .ok (.tuple #[.func (.func 93) #[] #[],.bool true]) W:=ymap_look hb (i:=3) (by kernel_rfl)
theorem ylook4 {r:Nat}{W:World}(hb:W.heap[r]? = some (.map ytabE 5)):(Instr.lookup 124 (.map (some r)) (.string ⟨Yf.wHatch.toArray⟩) true).run Tryz.prog W = .ok (.tuple #[.func (.func 94) #[] #[],.bool true]) W:=ymap_look hb (i:=4) (by kernel_rfl)
theorem ylook_none {r:Nat}{t:B}{W:World}(hb:W.heap[r]? = some (.map ytabE 5))(h:Yf.known t=false):
  (Instr.lookup 124 (.map (some r)) (.string ⟨t.toArray⟩) true).run Tryz.prog W = .ok (.tuple #[.nilFunc,.bool false]) W:=by
 simp only [Yf.known,Bool.or_eq_false_iff] at h;obtain ⟨⟨⟨⟨h1,h2⟩,h3⟩,h4⟩,h5⟩:=h;have hf:Instr.findNow .string (.string ⟨t.toArray⟩) ytabE.toList 0=some none:=find_none _ 0 (fun e he=>by
  simp only [ytabE,List.mem_cons,List.not_mem_nil,or_false] at he
  rcases he with rfl | rfl | rfl | rfl | rfl
  ·exact ⟨_,rfl,h1⟩
  ·exact ⟨_,rfl,h2⟩
  ·exact ⟨_,rfl,h3⟩
  ·exact ⟨_,rfl,h4⟩
  ·exact ⟨_,rfl,h5⟩)
 rw [Instr.lookup];simp only [Sem.run_bind,run_underlying Tryz.underlying124,Result.andThen,obj_get hb,key_check,key_find _ _ none _ hf,Sem.run_pure,if_true,Tryz.zeroValue189]
structure FewY (g:Yf.St)(n:Nat):Prop where
 conf:g.conf.length+n<=1800000
 integ:g.integ.length+n<=1800000
 ord:g.ord.length<=2000
 hat:g.hat.length<=200
theorem readsY_any (c:Cx)(X:Nat->Prop)(n:Nat)(hn:n<=900000)(q pp bm:Nat)(word:B)(g:Yf.St)(hG:0<c.r/\0<c.bt/\0<c.B)(hf:FewY g n)(hw:Yf.known word=true):
  ∃ fid,(∀ args w,(callFunc fid args).run Tryz.prog w = .ok (.enter fid args) w)/\(∀ W:World,W.heap[bm]? = some (.map ytabE 5)->(Instr.lookup 124 (.map (some bm)) (.string ⟨word.toArray⟩) true).run Tryz.prog W = .ok (.tuple #[.func (.func fid) #[] #[],.bool true]) W) /\
   (∀ s,Yf.rest c.ts n word g s ≠ .out->∀ W U fs,Rd c X W s->Qm c q pp U fs W g->ErrT W->Calls Tryz.prog fid #[.pointer (some ⟨pp,0,none⟩)] W (ReadQ c X W q pp (Yf.rest c.ts n word g s))):=by
 by_cases x0:(word==Yf.wConf)=true
 ·have he:∀ s,Yf.rest c.ts n word g s=(Pg.lift (Yf.list c.ts (Pg.nameAt c.ts []) n g.conf s)).bind fun l s1 => .ok { g with conf:=l } s1:=fun s=>by rw [Yf.rest,if_pos x0]
  obtain rfl:word=Yf.wConf:=by simpa using x0
  exact ⟨88,enters_of Tryz.func88 (by kernel_rfl) rfl,fun W hb=>ylook0 hb,fun s hne W U fs hR hP _=>by rw [he] at hne ⊢;exact conf5_any c X W s q pp n U fs g hR hP hf.conf (fun e=>hne (by rw [e];rfl))⟩
 by_cases x1:(word==Yf.wInteg)=true
 ·have he:∀ s,Yf.rest c.ts n word g s=(Pg.lift (Yf.list c.ts (Pg.nameAt c.ts []) n g.integ s)).bind fun l s1 => .ok { g with integ:=l } s1:=fun s=>by rw [Yf.rest,if_neg x0,if_pos x1]
  obtain rfl:word=Yf.wInteg:=by simpa using x1
  exact ⟨91,enters_of Tryz.func91 (by kernel_rfl) rfl,fun W hb=>ylook1 hb,fun s hne W U fs hR hP _=>by rw [he] at hne ⊢;exact integ5_any c X W s q pp n U fs g hR hP hf.integ (fun e=>hne (by rw [e];rfl))⟩
 by_cases x2:(word==Yf.wOrder)=true
 ·have he:∀ s,Yf.rest c.ts n word g s=ordF c.ts g s:=fun s=>by rw [Yf.rest,if_neg x0,if_neg x1,if_pos x2];rfl
  obtain rfl:word=Yf.wOrder:=by simpa using x2
  exact ⟨92,enters_of Tryz.func92 (by kernel_rfl) rfl,fun W hb=>ylook2 hb,fun s _ W U fs hR hP _=>by rw [he];exact order5_any c X W s q pp U fs g hR hP hf.ord⟩
 by_cases x3:(word==Yf.wAtt)=true
 ·have he:∀ s,Yf.rest c.ts n word g s=attF c.ts g s:=fun s=>by rw [Yf.rest,if_neg x0,if_neg x1,if_neg x2,if_pos x3];rfl
  obtain rfl:word=Yf.wAtt:=by simpa using x3
  exact ⟨93,enters_of Tryz.func93 (by kernel_rfl) rfl,fun W hb=>ylook3 hb,fun s _ W U fs hR hP _=>by rw [he];exact att5_any c X W s q pp U fs g hR hP⟩
 ·have he:∀ s,Yf.rest c.ts n word g s=hatF c.ts n g s:=fun s=>by rw [Yf.rest,if_neg x0,if_neg x1,if_neg x2,if_neg x3];rfl
  obtain rfl:word=Yf.wHatch:=by
   simp only [Yf.known,Bool.or_eq_true] at hw
   rcases hw with (((h | h) | h) | h) | h
   ·exact absurd h x0
   ·exact absurd h x1
   ·exact absurd h x2
   ·exact absurd h x3
   ·simpa using h
  exact ⟨94,enters_of Tryz.func94 (by kernel_rfl) rfl,fun W hb=>ylook4 hb,fun s hne W U fs hR hP hg=>by rw [he] at hne ⊢;exact hatch5_any c X W s n hn q pp U fs g hR hP hg hG hf.hat (fun e=>hne (by rw [hatF,e];rfl))⟩
end
section
open Go.RowKit Tn Lx
attribute [local go_sem] tok_field0 tok_field1 tok_field3
theorem item5_any (c:Cx)(X:Nat->Prop)(w:World)(s:Ex.S)(n:Nat)(hn:n<=900000)(q pp bm:Nat)(U:Nat->Value)(fs:List HtV)(g:Yf.St)(h:Rd c X w s)(hP:Qm c q pp U fs w g)(hg:ErrT w)(hG:0<c.r/\0<c.bt/\0<c.B)(hm:w.heap[bm]? = some (.map ytabE 5))(hm1:bm≠c.r/\bm≠c.bt/\bm≠q)(hf:FewY g n)(hne:Yf.item c.ts n g s ≠ .out):
  Calls Tryz.prog 42 #[.pointer (some ⟨pp,0,none⟩),.map (some bm)] w (ReadQ c X w q pp (Yf.item c.ts n g s)):=by
 have hr1:=h.rlt;have hb1:=h.blt;have hg1:=h.glt;have hsz:=h.size;have p0:=hP.p0;have hN:=next_any c X w s h;have hE:Yf.item c.ts n g s=if Yf.known (Ex.tk c.ts s.p).text=true then (Pg.lift (Ex.take c.ts (Ex.tk c.ts s.p).text s)).bind fun _ s1=>(Yf.rest c.ts n (Ex.tk c.ts s.p).text g s1).bind fun g1 s2=>(Pg.lift (Ex.take c.ts [59] s2)).bind fun _ s3 => .ok g1 s3 else .bad 5 (Ex.at_ c.ts s) []:=rfl
 have hreads:=readsY_any c X n hn q pp bm (Ex.tk c.ts s.p).text g hG hf;generalize Yf.item c.ts n g s=RR at *;generalize Ex.tk c.ts s.p=t at *
 cases hk:Yf.known t.text with
 | false =>
  rw [hk,if_neg (by decide)] at hE;have lk0:=fun (W:World) (hb:W.heap[bm]? = some (.map ytabE 5))=>ylook_none (W:=W) hb hk;have hW:=fun w1 (hR:Rd c X w1 s)=>wrong_at c X w1 s 5 hR;generalize Ex.at_ c.ts s=p at *;have HN:=Lib.hid hN;have HE:=Lib.hid hE;have HLK:=Lib.hid lk0;have HW:=Lib.hid hW;have HR:=Lib.hid h;have HP:=Lib.hid hP;have HM:=Lib.hid hm;clear hN hE lk0 hW h hP hm hreads hne hk hg
  go_enter Tryz.func42,Tryz.ntmps42
  go_wp2_with fail
  refine HN.out.mono ?_;rintro e w1 ⟨rfl,hb1'⟩;have p01:=(HP.out.below hb1').p0;have lk:=HLK.out w1 ((hb1'.block _ (lt_of_heap HM.out)).trans HM.out);have HW1:=Lib.hid (HW.out w1 (HR.out.below hb1'));have HB1:=Lib.hid hb1';clear hb1' HN HLK HW;unfold tval
  go_wp2_with fail
  refine HW1.out.mono ?_;rintro e w2 ⟨rfl,hb2⟩;have HK:=Lib.hid ((Ky.of_kp (c:=c) (q:=q) (Kp.of_below HB1.out)).then_below hb2);clear hb2 lk;unfold dval
  go_wp2
  go_ret
  exact .inr ⟨5,p,[],HE.out,rfl,HK.out⟩
 | true =>
  rw [hk,if_pos rfl] at hE;have HN:=Lib.hid hN;have HE:=Lib.hid hE;have HP:=Lib.hid hP;have HR:=Lib.hid h;have HM:=Lib.hid hm;have HG:=Lib.hid hg;have HNE:=Lib.hid hne;have hfid:=hreads hk;obtain ⟨fid,hen,hlook,hread⟩:=hfid;have HLK:=Lib.hid hlook;have HREAD:=Lib.hid hread;clear hN hE h hP hm hg hne hreads hk hlook hread
  go_enter Tryz.func42,Tryz.ntmps42
  go_wp2_with fail
  refine HN.out.mono ?_;rintro e w1 ⟨rfl,hb1'⟩;have hP1:=HP.out.below hb1';have p01:=hP1.p0;have lk:=HLK.out w1 ((hb1'.block _ (lt_of_heap HM.out)).trans HM.out);obtain ⟨V,hV⟩:∃ V,w1.alloc (.cells #[.string ⟨t.text.toArray⟩] 9)=V:=⟨_,rfl⟩;have hbV:Below w1.heap.size w1 V:=by rw [<- hV];exact (Below.refl _ w1).alloc (Nat.le_refl _) _
  have ks:V.cell? ⟨w1.heap.size,0,none⟩=some (.string ⟨t.text.toArray⟩):=by rw [<- hV];exact (blk_cell (blk_new w1 _) 0).trans rfl
  have hbW:Below w.heap.size w V:=hb1'.trans (hbV.mono hb1'.size);have hT:=take_any c X V s t.text w1.heap.size (HR.out.below hbW) ks;have hgV:ErrT V:=HG.out.below hbW HG.out.lt;have HTK:=Lib.hid hT;have HV:=Lib.hid hV;have HBW:=Lib.hid hbW;have HPV:=Lib.hid (HP.out.below hbW);have HGV:=Lib.hid hgV;clear hT hV hbV ks hb1' hP1 hbW hgV HN HLK;unfold tval
  go_wp2_with fail
  rw [HV.out];refine HTK.out.mono ?_;rintro e w2 (⟨s2,hE2,rfl,hR2,hK2⟩ | ⟨cd,p2,hE2,rfl,hK2⟩)
  rotate_left
  ·have hF:RR = .bad cd p2 []:=by rw [HE.out,hE2];rfl
   have HF:=Lib.hid hF;have HK:=Lib.hid (Ky.of_kp (q:=q) (Below.then_kp (c:=c) HBW.out hK2));clear hF hE2 hK2 lk;unfold dval
   go_wp2
   go_ret
   exact .inr ⟨cd,p2,[],HF.out,rfl,HK.out⟩
  have hF2:RR=(Yf.rest c.ts n t.text g s2).bind fun g1 s2=>(Pg.lift (Ex.take c.ts [59] s2)).bind fun _ s3 => .ok g1 s3:=by rw [HE.out,hE2];rfl
  have hP2:=HPV.out.kp hr1 hb1 hK2;have hKw2:=Below.then_kp HBW.out hK2;have hg2:ErrT w2:=(World.cell?_of_block (hK2.old (k:=0) HGV.out.lt hG.2.2 (by omega) (by omega))).trans HGV.out;have hrd2:=HREAD.out s2 (fun e=>HNE.out (by rw [hF2,e];rfl)) w2 U fs hR2 hP2 hg2;generalize Yf.rest c.ts n t.text g s2=RS at *;have HRD2:=Lib.hid hrd2;have HK2:=Lib.hid hKw2;have HF2:=Lib.hid hF2;clear hrd2 hP2 hKw2 hR2 hK2 hg2 hF2 hE2 HTK HV HBW HPV HGV HREAD HE HNE lk
  go_wp2_with fail
  refine HRD2.out.mono ?_;rintro e w3 (⟨g3,s3,U3,fs3,hE3,rfl,hR3,hP3,hK3⟩ | ⟨cd,p3,nm3,hE3,rfl,hK3⟩)
  rotate_left
  ·have hF:RR = .bad cd p3 nm3:=by rw [HF2.out,hE3];rfl
   have HF:=Lib.hid hF;have HK:=Lib.hid ((Ky.of_kp (q:=q) HK2.out).trans hK3);clear hF hE3 hK3;unfold dvalN
   go_wp2
   go_ret
   exact .inr ⟨cd,p3,nm3,HF.out,rfl,HK.out⟩
  have p03:=hP3.p0;have hF3:RR=(Pg.lift (Ex.take c.ts [59] s3)).bind fun _ s4 => .ok g3 s4:=by rw [HF2.out,hE3];rfl
  obtain ⟨V3,hV3⟩:∃ V,w3.alloc (.cells #[.string ⟨#[59]⟩] 9)=V:=⟨_,rfl⟩;have hbV3:Below w3.heap.size w3 V3:=by rw [<- hV3];exact (Below.refl _ w3).alloc (Nat.le_refl _) _
  have ks3:V3.cell? ⟨w3.heap.size,0,none⟩=some (.string ⟨#[59]⟩):=by rw [<- hV3];exact (blk_cell (blk_new w3 _) 0).trans rfl
  have hT3:=take_any c X V3 s3 [59] w3.heap.size (hR3.below hbV3) ks3;have HT3:=Lib.hid hT3;have HV3:=Lib.hid hV3;have HP3:=Lib.hid (hP3.below hbV3);have HK3:=Lib.hid (((Ky.of_kp (q:=q) HK2.out).trans hK3).then_below hbV3);have HF3:=Lib.hid hF3;clear hT3 hV3 hbV3 ks3 hR3 hP3 hK3 hF3 hE3 HRD2 HK2 HF2
  go_wp2_with fail
  rw [HV3.out];refine HT3.out.mono ?_;rintro e w4 (⟨s4,hE4,rfl,hR4,hK4⟩ | ⟨cd,p4,hE4,rfl,hK4⟩)
  ·have hF:RR = .ok g3 s4:=by rw [HF3.out,hE4];rfl
   have HF:=Lib.hid hF;have HR4:=Lib.hid hR4;have HP4:=Lib.hid (HP3.out.kp hr1 hb1 hK4);have HK4:=Lib.hid (HK3.out.trans (Ky.of_kp (q:=q) hK4));clear hF hE4 hR4 hK4 HT3 HV3 HP3 HK3
   go_wp2
   go_ret
   exact .inl ⟨_,_,_,_,HF.out,rfl,HR4.out,HP4.out,HK4.out⟩
  ·have hF:RR = .bad cd p4 []:=by rw [HF3.out,hE4];rfl
   have HF:=Lib.hid hF;have HK4:=Lib.hid (HK3.out.trans (Ky.of_kp (q:=q) hK4));clear hF hE4 hK4;unfold dval
   go_wp2
   go_ret
   exact .inr ⟨cd,p4,[],HF.out,rfl,HK4.out⟩
end
section
open Go.RowKit Tn Lx
attribute [local go_sem] tok_field0 tok_field1 tok_field3
theorem noAtt5_any (c:Cx)(X:Nat->Prop)(w:World)(s:Ex.S)(q pp:Nat)(U:Nat->Value)(fs:List HtV)(g:Yf.St)(h:Rd c X w s)(hP:Qm c q pp U fs w g)(hg:ErrT w):Calls Tryz.prog 44 #[.pointer (some ⟨pp,0,none⟩)] w fun e w'=>e = .returned (dvalN 16 (Ex.at_ c.ts s) Yf.wAtt)/\Below w.heap.size w w':=by
 have p0:=hP.p0;have hW:=wrong_at c X w s 16 h;have hlt:=hg.lt;generalize Ex.at_ c.ts s=p at *;have HW:=Lib.hid hW;have HG:=Lib.hid hg;clear hW hg hP h
 go_enter Tryz.func44,Tryz.ntmps44
 go_wp2_with fail
 refine HW.out.mono ?_;rintro e w1 ⟨rfl,hb1⟩;obtain ⟨V,hV⟩:∃ V,w1.alloc (.cells #[.int .i64 0,.int .i64 0,.int .i64 0,.string ⟨#[]⟩] 43)=V:=⟨_,rfl⟩;have hbV:Below w1.heap.size w1 V:=by rw [<- hV];exact (Below.refl _ w1).alloc (Nat.le_refl _) _
 have hD:DiagAt w1.heap.size V:=by rw [<- hV];exact ⟨by simp [go_sem],by simp [go_sem],by simp [go_sem],by simp [go_sem],fun i=>by simp [go_sem]⟩
 have hbW:Below w.heap.size w V:=hb1.trans (hbV.mono hb1.size);have hgV:ErrT V:=HG.out.below hbW hlt;have hs1:=hb1.size;have HV:=Lib.hid hV;have HD:=Lib.hid hD;have HGV:=Lib.hid hgV;have HBW:=Lib.hid hbW;clear hV hD hgV hbW hbV hb1 HW HG;unfold dval
 go_wp2_with fail
 rw [HV.out];refine (as_hit_fz 16 p.line p.col ⟨#[]⟩ w1.heap.size _ _ _ _ V HGV.out HD.out.d0 HD.out.d1 HD.out.d2 HD.out.d3 HD.out.df).mono ?_;rintro e w2 ⟨rfl,hN,⟨d0,d1,d2,d3⟩,df⟩;have hb2:Below w.heap.size w w2:=HBW.out.trans (hN.to_below (by omega) HBW.out.size);have hl2:=hb2.size;have HB2:=Lib.hid hb2;have HN:=Lib.hid hN;clear hb2 hN
 go_wp2
 go_ret
 exact ⟨rfl,HB2.out.setCell (by omega) _⟩
structure AllStY (c:Cx)(X:Nat->Prop)(w:World)(q pp bm n:Nat)(R:Pg.R Yf.St)(k cnt:Nat)(g:Yf.St)(s:Ex.S)(U:Nat->Value)(fs:List HtV)(wr:World):Prop where
 rd:Rd c X wr s
 pm:Qm c q pp U fs wr g
 kr:Ky c q w wr
 tab:wr.heap[bm]? = some (.map ytabE 5)
 fin:Yf.all c.ts n k cnt g s=R
 ok:Ex.GoodS c.ts s/\Yf.StOk c.ts cnt s.p s.ns.length g
 le:cnt<=100
theorem ErrT.ky {c:Cx}{q:Nat}{w w':World}(h:ErrT w)(k:Ky c q w w')(hG:0<c.r/\0<c.bt/\0<c.B)(hq:0<q):ErrT w' :=
 (World.cell?_of_block (k.block 0 h.lt (by
  rintro (e | e | e | ⟨e,_⟩) <;> omega))).trans h
theorem yall5_any (c:Cx)(X:Nat->Prop)(w:World)(s:Ex.S)(n:Nat)(hn:n<=900000)(hn2:10*c.ts.length+8<n)(q pp f:Nat)(U:Nat->Value)(fs:List HtV)(g:Yf.St)(h:Rd c X w s)(hP:Qm c q pp U fs w g)(hg:ErrT w)(hG:0<c.r/\0<c.bt/\0<c.B)
  (hok:Ex.GoodS c.ts s/\Yf.StOk c.ts 0 s.p s.ns.length g) (hne:Yf.all c.ts n f 0 g s ≠ .out):
  Calls Tryz.prog 19 #[.pointer (some ⟨pp,0,none⟩)] w (ReadQ c X w q pp (Yf.all c.ts n f 0 g s)):=by
 have hr:=h.rlt;have hb:=h.blt;have hqB:=hP.qB;have hsz:=h.size;have hql:=lt_of_heap hP.pol;have hbW:Below w.heap.size w (w.alloc (.map ytabE 5)):=(Below.refl _ w).alloc (Nat.le_refl _) _;have hst0:AllStY c X w q pp w.heap.size n (Yf.all c.ts n f 0 g s) f 0 g s U fs (w.alloc (.map ytabE 5)) :=
  ⟨h.below hbW,hP.below hbW,Ky.of_kp (Kp.of_below hbW),blk_new_map w,rfl,hok,by omega⟩
 generalize Yf.all c.ts n f 0 g s=R at *;have HST0:=Lib.hid hst0;have HNE:=Lib.hid hne;have HG:=Lib.hid hg;clear hst0 hne hg h hP hok hbW
 go_enter Tryz.func19,Tryz.ntmps19
 go_wp2_with fail
 refine (items5_any w).mono ?_;rintro e w1 ⟨rfl,rfl⟩
 go_wp2_with fail
 go_loopg [4] f (fun k nv wr=>∃ (cnt:Nat) (g':Yf.St) (s':Ex.S) (u1:Nat->Value) (u4:List HtV),nv = .int .i64 (cnt:Int)/\AllStY c X w q pp w.heap.size n R k cnt g' s' u1 u4 wr)
 case atStart=>exact ⟨0,g,s,U,fs,rfl,HST0.out⟩
 case round =>
  obtain ⟨cnt,g',s',u1,u4,rfl,hst⟩:=hrel;obtain ⟨k,rfl⟩:∃ k,gk=k+1:=by
   cases gk with
   | zero=>exact absurd hst.fin.symm (by rw [Yf.all];exact HNE.out)
   | succ k=>exact ⟨k,rfl⟩
  have hfin:=hst.fin;rw [Yf.all] at hfin;have p0:=hst.pm.p0;have hN:=next_any c X wr s' hst.rd;have hcl:=hst.le;have HST:=Lib.hid hst;clear hst HST0
  cases hk:((Ex.tk c.ts s'.p).kind==0) with
  | true =>
   rw [hk,if_pos rfl] at hfin;have hk2:((Ex.tk c.ts s'.p).kind != 0)=false:=by simpa using hk
   generalize Ex.tk c.ts s'.p=t at *;have HN:=Lib.hid hN;have HFIN:=Lib.hid hfin;clear hN hfin hk
   go_wp2_with fail
   refine HN.out.mono ?_;rintro e w2 ⟨rfl,hb2⟩;have hP2:=HST.out.pm.below hb2;have hK2:=HST.out.kr.then_below hb2;have hR2:=HST.out.rd.below hb2;have hH:=hasAtt5_any c w2 q pp u1 u4 g' hP2;have hW:=noAtt5_any c X w2 s' q pp u1 u4 g' hR2 hP2 (HG.out.ky hK2 hG (by omega));have HK2:=Lib.hid hK2;have HR2:=Lib.hid hR2;have HP2:=Lib.hid hP2;have HW:=Lib.hid hW;clear hK2 hR2 hP2 hW hb2 HST HN;unfold tval
   cases hm:g'.att.text.isEmpty with
   | false =>
    have hmt:(g'.att.text==[])=false:=by
     cases ht:g'.att.text with
     | nil=>rw [ht] at hm;cases hm
     | cons _ _=>rfl
    rw [hm] at hH;have HH:=Lib.hid hH;have HM:=Lib.hid hmt;clear hH hm hmt
    go_wp2_with fail
    refine HH.out.mono ?_;rintro e w3 ⟨rfl,rfl⟩
    go_wp2
    go_ret
    exact .inl ⟨g',s',u1,u4,by rw [<- HFIN.out,if_neg (by rw [HM.out];decide)],rfl,HR2.out,HP2.out,HK2.out⟩
   | true =>
    have hmt:(g'.att.text==[])=true:=by
     cases ht:g'.att.text with
     | nil=>rfl
     | cons _ _=>rw [ht] at hm;cases hm
    rw [hm] at hH;have HH:=Lib.hid hH;have HM:=Lib.hid hmt;clear hH hm hmt
    go_wp2_with fail
    refine HH.out.mono ?_;rintro e w3 ⟨rfl,rfl⟩
    go_wp2_with fail
    refine HW.out.mono ?_;rintro e w4 ⟨rfl,hb4⟩;have HK4:=Lib.hid (HK2.out.then_below hb4);clear hb4;unfold dvalN
    go_wp2
    go_ret
    exact .inr ⟨16,_,Yf.wAtt,by rw [<- HFIN.out,if_pos HM.out],rfl,HK4.out⟩
  | false =>
   rw [hk,if_neg (by decide)] at hfin;have hk2:((Ex.tk c.ts s'.p).kind != 0)=true:=by simpa using hk
   by_cases h100:cnt=100
   ·rw [if_pos h100] at hfin;have hW:=fun w1 (hR:Rd c X w1 s')=>wrong_at c X w1 s' 6 hR;generalize Ex.tk c.ts s'.p=t at *;have HN:=Lib.hid hN;have HFIN:=Lib.hid hfin;have HW:=Lib.hid hW;clear hN hfin hk hW;subst h100
    go_wp2_with fail
    refine HN.out.mono ?_;rintro e w2 ⟨rfl,hb2⟩;have p02:=(HST.out.pm.below hb2).p0;have HR2:=Lib.hid (HST.out.rd.below hb2);have HK2:=Lib.hid (HST.out.kr.then_below hb2);clear hb2 HN;unfold tval
    go_wp2_with fail
    refine (HW.out _ HR2.out).mono ?_;rintro e w3 ⟨rfl,hb3⟩;have HK3:=Lib.hid (HK2.out.then_below hb3);clear hb3;unfold dval
    go_wp2
    go_ret
    exact .inr ⟨6,_,[],HFIN.out.symm,rfl,HK3.out⟩
   ·rw [if_neg h100] at hfin;have h100':((cnt:Int)==100)=false:=by
     have:(cnt:Int)≠100:=by omega
     simpa using this
    have hpost:=Yf.item_on (n:=n) (k:=cnt) HST.out.ok.1 HST.out.ok.2 (by omega);have hgo:=HST.out.ok.1.here;have hso:=HST.out.ok.2;have hfw:FewY g' n:=⟨by have:=hso.lenC;omega,by have:=hso.lenI;omega,by have:=hso.few;omega,by have:=hso.few;omega⟩;have hI:=fun w2 (hb2:Below wr.heap.size wr w2)=>item5_any c X w2 s' n hn q pp w.heap.size u1 u4 g' (HST.out.rd.below hb2) (HST.out.pm.below hb2) (HG.out.ky (HST.out.kr.then_below hb2) hG (by omega)) hG ((hb2.block _ (lt_of_heap HST.out.tab)).trans HST.out.tab) ⟨by omega,by omega,by omega⟩ hfw hpost.not_out;generalize Ex.tk c.ts s'.p=t at *;generalize Yf.item c.ts n g' s'=RI at *;have HN:=Lib.hid hN;have HFIN:=Lib.hid hfin;have HI:=Lib.hid hI;have HPO:=Lib.hid hpost;clear hN hfin hk hI hpost hgo hso hfw
    go_wp2_with fail
    refine HN.out.mono ?_;rintro e w2 ⟨rfl,hb2⟩;have p02:=(HST.out.pm.below hb2).p0;have hI2:=HI.out w2 hb2;have HI2:=Lib.hid hI2;have HB2:=Lib.hid hb2;clear hb2 HN p0 hI2 HI;unfold tval
    go_wp2_with fail
    refine HI2.out.mono ?_;rintro e w3 (⟨g4,s4,U4,fs4,hE4,rfl,hR4,hP4,hK4⟩ | ⟨cd,p4,n4,hE4,rfl,hK4⟩)
    rotate_left
    ·have HF:=Lib.hid (show R = .bad cd p4 n4 by rw [<- HFIN.out,hE4];rfl);have HK4:=Lib.hid ((HST.out.kr.then_below HB2.out).trans hK4);clear hE4 hK4;unfold dvalN
     go_wp2
     go_ret
     exact .inr ⟨cd,p4,n4,HF.out,rfl,HK4.out⟩
    have hKw:=(HST.out.kr.then_below HB2.out).trans hK4;have ht4:=hK4.map ((HB2.out.block _ (lt_of_heap HST.out.tab)).trans HST.out.tab) (by omega) (by omega) (by omega);have hpo:=HPO.out;rw [hE4] at hpo;have hst4:AllStY c X w q pp w.heap.size n R k (cnt+1) g4 s4 U4 fs4 w3 :=
     ⟨hR4,hP4,hKw,ht4,by rw [<- HFIN.out,hE4];rfl,⟨hpo.1.good,hpo.2.2⟩,by omega⟩
    have HST4:=Lib.hid hst4;clear hst4 hR4 hP4 hK4 hKw ht4 hpo hE4 HI2 HB2 HST HFIN HPO p02
    go_wp2_with fail
    go_roundg k
    case measure=>omega
    case rel=>exact ⟨cnt+1,g4,s4,U4,fs4,by go_num,HST4.out⟩
end
end Go.Proofs.YtdfpkmfeldoamaaGreatDoor
