/- A part of the proof: A part of the proof. -/
import Derived.Test.YtninlbknklbofaaGreatDoorQs
import Derived.Deep.LoopGhost
import Derived.Deep.AppendLies
set_option linter.unusedSimpArgs false
set_option linter.unusedVariables false
set_option maxRecDepth 100000
set_option maxHeartbeats 8000000
namespace Go.Proofs.YtninlbknklbofaaGreatDoor
section
open Go.RowKit Tn Lx
attribute [local go_sem] qtok_field0 qtok_field1 qtok_field2 qtok_field3
theorem Abs.is_eq {ts:List Tok}{a:Unit}{s:Ex.S}{q:Qs}(h:Abs (Ex.Res.ok a s) q)(m:B):qis ts q m=Ex.is ts s m:=by
 obtain ⟨e1,e2,e3⟩:=h;unfold qis Ex.is;rw [e3,e1];rfl
theorem qint_eq {ts:List Tok}{f:Ex.Rec}{d:Nat}{s:Ex.S}{t:Tok}(_:Ex.tk ts s.p=t):
  ((Ex.Res.ok () s.skip:Ex.Res Unit).bind fun _ s=>Ex.addN ts ⟨⟨#[105,110,116]⟩,t.at_.line,t.at_.col,⟨#[]⟩,t.int,[].map fun (k:Nat)=>(k:Int)⟩ s)=Ex.addN ts ⟨⟨#[105,110,116]⟩,t.at_.line,t.at_.col,⟨#[]⟩,t.int,[].map fun (k:Nat)=>(k:Int)⟩ s.skip:=rfl
theorem qint_any (c:Cx)(X:Nat->Prop)(w:World)(d n:Nat)(f:Ex.Rec)(q:Qs)(s:Ex.S)(t:Tok)(hF:QSpec c n f)(h:Pre c X w d n 0 s.p [] (Ex.Res.ok () s:Ex.Res Unit) q)(hn:10*(c.ts.length-s.p)<n)(htk:Ex.tk c.ts s.p=t)(hk3:t.kind=3):
  Calls Tryz.prog 149 #[.pointer (some ⟨c.r,0,none⟩)] w (QP c X w d (Ex.addN c.ts ⟨⟨#[105,110,116]⟩,t.at_.line,t.at_.col,⟨#[]⟩,t.int,[].map fun (k:Nat)=>(k:Int)⟩ s.skip)):=by
 obtain ⟨hqp,hqn,hqc⟩:=h.abs;have hnx:s.p+1<c.ts.length:=hF.ts.next (by rw [htk,hk3];decide);have hr1:=h.qd.rlt;have hbt:=h.qd.bt;have hsz:=h.qd.size;have hd:=h.deep;obtain ⟨a0,a1,b0,b1,b2,b3,b4,c0,c1,k0,k1,k2,k3,k4,wr,w1,few,room⟩:=h.qd.looks h.lt;rw [hqp,htk] at b0 b1 b2 b3 b4 k0 k1 k2 k3 k4;rw [hqp] at a1 c1 wr w1;obtain ⟨V,hV⟩:∃ V,(w.alloc (.cells #[.int .i64 t.kind,.string ⟨t.text.toArray⟩,.int .i64 t.int,.int .i64 t.at_.line,.int .i64 t.at_.col] 109)).drew=V:=⟨_,rfl⟩;have hbV:Below w.heap.size w V:=by rw [<- hV];exact Below.drawn w _
 have hT:Fiq V w.heap.size t:=by rw [<- hV];exact Fiq.drawn w t
 have hQV:=h.qd.below hbV;have d1:=hQV.c1;have df:=hQV.fz;rw [hqp] at d1;obtain ⟨V2,hV2⟩:∃ V2,V.setCell ⟨c.r,1,none⟩ (.int .i64 ((s.p:Int)+1))=V2:=⟨_,rfl⟩;obtain ⟨hQ,hK⟩:=hQV.setp (p':=s.p+1) (by omega);rw [show (((s.p+1:Nat):Int))=(s.p:Int)+1 by omega,hV2] at hQ hK;obtain ⟨q1,hq1⟩:∃ q1,(⟨s.p+1,q.ns,q.cd,q.bp⟩:Qs)=q1:=⟨_,rfl⟩;rw [hq1] at hQ;have hp1:q1.p<c.ts.length:=by rw [<- hq1];exact hnx
 have hA1:Abs (Ex.Res.ok () s.skip:Ex.Res Unit) q1:=by rw [<- hq1];exact ⟨rfl,hqn,hqc⟩
 have hS1:St c.ts (s.p+1) [] (Ex.Res.ok () s.skip:Ex.Res Unit):=⟨(h.st.ready rfl).1.skip (by omega),Nat.le_refl _,fun k hk=>by cases hk⟩;have hT2:=hT.kp hK (by omega) (by omega);have hzV:=hbV.size;have hzV2:=hK.size;have hzT:=hT.lt;have HF:=Lib.hid hF;have HQ:=Lib.hid hQ;have HP:=Lib.hid hp1;have HA:=Lib.hid hA1;have HS:=Lib.hid hS1;have HK:=Lib.hid ((Kp.of_below (c:=c) hbV).trans hK);have HT:=Lib.hid hT2;have HV:=Lib.hid hV;have HV2:=Lib.hid hV2;have HTK:=Lib.hid htk;have HNX:=Lib.hid hnx;clear hF h hbV hT hQV hQ hK hq1 hp1 hA1 hS1 hT2 hV hV2 htk hnx;have hk3n:(t.kind==3)=true:=by simpa using hk3
 have HK3:=Lib.hid hk3;clear hk3
 go_enter Tryz.func149,Tryz.ntmps149
 go_upto_region 1 with fail
 go_region
 rw [HV.out];clear a0 a1 b0 b1 b2 b3 b4 c0 c1 k0 k1 k2 k3 k4
 go_upto_region 3 with fail
 rw [HV2.out];clear d1 df;have u0:=HT.out.c0;have u1:=HT.out.c1;have y0:=HT.out.c0;have y1:=HT.out.c1;have y2:=HT.out.c2;have y3:=HT.out.c3;have y4:=HT.out.c4
 go_wp2_with fail
 refine (qnode_any c X _ d q1 ⟨#[105,110,116]⟩ t ⟨#[]⟩ [] none 0 HQ.out HP.out (qints0 _ _) (fun g hg=>by cases hg)).mono ?_;rintro e w9 ⟨rfl,hQ,hK⟩;have hadd:=HA.out.add (ts:=c.ts) ⟨⟨#[105,110,116]⟩,t.at_.line,t.at_.col,⟨#[]⟩,t.int,[].map fun (k:Nat)=>(k:Int)⟩ (fun a s9 e9=>fits_of (HS.out.ready e9).2.2);have hkp:=HK.out.trans hK;have heq:=qint_eq (f:=f) (d:=d) (s:=s) HTK.out;have hlt:=qnode_lt HP.out (ts:=c.ts) ⟨⟨#[105,110,116]⟩,t.at_.line,t.at_.col,⟨#[]⟩,t.int,[].map fun (k:Nat)=>(k:Int)⟩;rw [heq] at hadd;have HADD:=Lib.hid hadd;have HQ9:=Lib.hid hQ;have HK9:=Lib.hid hkp;have HL:=Lib.hid hlt;clear hadd hQ hkp hlt heq hK y0 y1 y2 y3 y4 u0 u1
 go_wp2
 go_ret
 exact ⟨_,_,rfl,HQ9.out,HL.out,HADD.out.1,HADD.out.2,HK9.out⟩
theorem qvar_eq {ts:List Tok}{f:Ex.Rec}{d:Nat}{s:Ex.S}{t:Tok}(ht:Ex.tk ts s.p=t)(hi:t.int=0) :
  ((Ex.Res.ok () s.skip:Ex.Res Unit).bind fun _ s=>Ex.addN ts ⟨⟨#[118,97,114]⟩,t.at_.line,t.at_.col,⟨t.text.toArray⟩,t.int,[].map fun (k:Nat)=>(k:Int)⟩ s)=Ex.add ts [118,97,114] (Ex.at_ ts s) t.text [] s.skip:=by
 subst ht;rw [hi];unfold Ex.add;simp only [Ex.Res.bind]
 rfl
theorem qvar_any (c:Cx)(X:Nat->Prop)(w:World)(d n:Nat)(f:Ex.Rec)(q:Qs)(s:Ex.S)(t:Tok)(hF:QSpec c n f)(h:Pre c X w d n 0 s.p [] (Ex.Res.ok () s:Ex.Res Unit) q)(hn:10*(c.ts.length-s.p)<n)(htk:Ex.tk c.ts s.p=t)(hk1:t.kind=1)(hno:Ex.is c.ts s.skip [40]=false):
  Calls Tryz.prog 149 #[.pointer (some ⟨c.r,0,none⟩)] w (QP c X w d (Ex.add c.ts [118,97,114] (Ex.at_ c.ts s) t.text [] s.skip)):=by
 obtain ⟨hqp,hqn,hqc⟩:=h.abs;have hnx:s.p+1<c.ts.length:=hF.ts.next (by rw [htk,hk1];decide);have hti:t.int=0:=by have:=hF.ts.num (p:=s.p);rw [htk] at this;exact this (by rw [hk1];decide)
 have hr1:=h.qd.rlt;have hbt:=h.qd.bt;have hsz:=h.qd.size;have hd:=h.deep;obtain ⟨a0,a1,b0,b1,b2,b3,b4,c0,c1,k0,k1,k2,k3,k4,wr,w1,few,room⟩:=h.qd.looks h.lt;rw [hqp,htk] at b0 b1 b2 b3 b4 k0 k1 k2 k3 k4;rw [hqp] at a1 c1 wr w1;obtain ⟨V,hV⟩:∃ V,(w.alloc (.cells #[.int .i64 t.kind,.string ⟨t.text.toArray⟩,.int .i64 t.int,.int .i64 t.at_.line,.int .i64 t.at_.col] 109)).drew=V:=⟨_,rfl⟩;have hbV:Below w.heap.size w V:=by rw [<- hV];exact Below.drawn w _
 have hT:Fiq V w.heap.size t:=by rw [<- hV];exact Fiq.drawn w t
 have hQV:=h.qd.below hbV;have d1:=hQV.c1;have df:=hQV.fz;rw [hqp] at d1;obtain ⟨V2,hV2⟩:∃ V2,V.setCell ⟨c.r,1,none⟩ (.int .i64 ((s.p:Int)+1))=V2:=⟨_,rfl⟩;obtain ⟨hQ,hK⟩:=hQV.setp (p':=s.p+1) (by omega);rw [show (((s.p+1:Nat):Int))=(s.p:Int)+1 by omega,hV2] at hQ hK;obtain ⟨q1,hq1⟩:∃ q1,(⟨s.p+1,q.ns,q.cd,q.bp⟩:Qs)=q1:=⟨_,rfl⟩;rw [hq1] at hQ;have hp1:q1.p<c.ts.length:=by rw [<- hq1];exact hnx
 have hA1:Abs (Ex.Res.ok () s.skip:Ex.Res Unit) q1:=by rw [<- hq1];exact ⟨rfl,hqn,hqc⟩
 have hS1:St c.ts (s.p+1) [] (Ex.Res.ok () s.skip:Ex.Res Unit):=⟨(h.st.ready rfl).1.skip (by omega),Nat.le_refl _,fun k hk=>by cases hk⟩;have hT2:=hT.kp hK (by omega) (by omega);have hzV:=hbV.size;have hzV2:=hK.size;have hzT:=hT.lt;have HF:=Lib.hid hF;have HQ:=Lib.hid hQ;have HP:=Lib.hid hp1;have HA:=Lib.hid hA1;have HS:=Lib.hid hS1;have HK:=Lib.hid ((Kp.of_below (c:=c) hbV).trans hK);have HT:=Lib.hid hT2;have HV:=Lib.hid hV;have HV2:=Lib.hid hV2;have HTK:=Lib.hid htk;have HTI:=Lib.hid hti;have HNX:=Lib.hid hnx;clear hF h hbV hT hQV hQ hK hq1 hp1 hA1 hS1 hT2 hV hV2 htk hti hnx;have hk1n:(t.kind==1)=true:=by simpa using hk1
 have hk3n:(t.kind==3)=false:=by simp [hk1]
 have HK1:=Lib.hid hk1;have HNO:=Lib.hid hno;clear hk1 hno
 go_enter Tryz.func149,Tryz.ntmps149
 go_upto_region 1 with fail
 go_region
 rw [HV.out];clear a0 a1 b0 b1 b2 b3 b4 c0 c1 k0 k1 k2 k3 k4
 go_upto_region 3 with fail
 rw [HV2.out];clear d1 df;have u0:=HT.out.c0;have u1:=HT.out.c1
 go_wp2_with fail
 clear u0 u1;have hqi:qis c.ts q1 [40]=false:=(HA.out.is_eq (ts:=c.ts) [40]).trans HNO.out;have hC:=qtake_any c X V2 d q1 [40] HQ.out HP.out;rw [hqi,show qtake c.ts q1 [40]=q1 by unfold qtake;rw [hqi];rfl] at hC;refine hC.mono ?_;rintro e w0 ⟨rfl,hQ0,hK0⟩;have HQ0:=Lib.hid hQ0;have HK0:=Lib.hid (HK.out.trans hK0);have HT0:=Lib.hid (HT.out.kp hK0 (by omega) (by omega));have hz0:=hK0.size;clear hQ0 hK0 hC hqi;have y0:=HT0.out.c0;have y1:=HT0.out.c1;have y2:=HT0.out.c2;have y3:=HT0.out.c3;have y4:=HT0.out.c4
 go_wp2_with fail
 refine (qnode_any c X _ d q1 ⟨#[118,97,114]⟩ t ⟨t.text.toArray⟩ [] none 0 HQ0.out HP.out (qints0 _ _) (fun g hg=>by cases hg)).mono ?_;rintro e w9 ⟨rfl,hQ,hK⟩;have hadd:=HA.out.add (ts:=c.ts) ⟨⟨#[118,97,114]⟩,t.at_.line,t.at_.col,⟨t.text.toArray⟩,t.int,[].map fun (k:Nat)=>(k:Int)⟩ (fun a s9 e9=>fits_of (HS.out.ready e9).2.2);have hkp:=HK0.out.trans hK;have heq:=qvar_eq (f:=f) (d:=d) (s:=s) HTK.out HTI.out;have hlt:=qnode_lt HP.out (ts:=c.ts) ⟨⟨#[118,97,114]⟩,t.at_.line,t.at_.col,⟨t.text.toArray⟩,t.int,[].map fun (k:Nat)=>(k:Int)⟩;rw [heq] at hadd;have HADD:=Lib.hid hadd;have HQ9:=Lib.hid hQ;have HK9:=Lib.hid hkp;have HL:=Lib.hid hlt;clear hadd hQ hkp hlt heq hK y0 y1 y2 y3 y4
 go_wp2
 go_ret
 exact ⟨_,_,rfl,HQ9.out,HL.out,HADD.out.1,HADD.out.2,HK9.out⟩
end
section
open Go.RowKit Tn Lx
attribute [local go_sem] qtok_field0 qtok_field1 qtok_field2 qtok_field3
theorem qtake_tr {c:Cx}{X:Nat->Prop}{w:World}{d:Nat}{q:Qs}{m:B}(h:Qd c X w d q)(hp:q.p<c.ts.length)(hv:qis c.ts q m=true):Calls Tryz.prog 136 #[.pointer (some ⟨c.r,0,none⟩),.string ⟨m.toArray⟩] w (QR c X w d q.skip (.bool true)):=by
 have:=qtake_any c X w d q m h hp;unfold qtake at this;rw [hv] at this;exact this
theorem qtake_fa {c:Cx}{X:Nat->Prop}{w:World}{d:Nat}{q:Qs}{m:B}(h:Qd c X w d q)(hp:q.p<c.ts.length)(hv:qis c.ts q m=false):Calls Tryz.prog 136 #[.pointer (some ⟨c.r,0,none⟩),.string ⟨m.toArray⟩] w (QR c X w d q (.bool false)):=by
 have:=qtake_any c X w d q m h hp;unfold qtake at this;rw [hv] at this;exact this
theorem Abs.skip_ok {ts:List Tok}{α:Type}{a:α}{s:Ex.S}{q:Qs}(h:Abs (Ex.Res.ok a s) q):Abs (Ex.Res.ok () s.skip:Ex.Res Unit) q.skip:=⟨by show q.p+1=s.p+1;rw [h.1],h.2.1,h.2.2⟩
theorem qunit_in (c:Cx)(X:Nat->Prop)(w:World)(d:Nat)(q:Qs)(s:Ex.S)(t:Tok)(hT:Ex.TsOk c.ts)(h:Qd c X w d q)(hp:q.p<c.ts.length)(hA:Abs (Ex.Res.ok () s.skip:Ex.Res Unit) q)(htk:Ex.tk c.ts s.p=t)(hti:t.int=0)(hm:Ex.is c.ts s.skip [41]=true):
  Calls Tryz.prog 164 #[.pointer (some ⟨c.r,0,none⟩),tval t] w (QP c X w d (Ex.add c.ts [117,110,105,116] (Ex.at_ c.ts s) [] [] s.skip.skip)):=by
 obtain ⟨W,hW⟩:∃ W,w.alloc (.cells #[.int .i64 t.kind,.string ⟨t.text.toArray⟩,.int .i64 t.int,.int .i64 t.at_.line,.int .i64 t.at_.col] 109)=W:=⟨_,rfl⟩;have hbW:Below w.heap.size w W:=by rw [<- hW];exact (Below.refl _ w).alloc (Nat.le_refl _) _
 have hzW:w.heap.size<W.heap.size:=by rw [<- hW];simp
 have hT0:Fiq W w.heap.size t:=by rw [<- hW];exact Fiq.new w t
 have hr1:=h.rlt;have hbt:=h.bt;have hsz:=h.size;have hqi:qis c.ts q [41]=true:=(hA.is_eq (ts:=c.ts) [41]).trans hm;have hC:=qtake_tr (h.below hbW) hp hqi;have hA1:=hA.skip_ok (ts:=c.ts);have hp1:q.skip.p<c.ts.length:=qis_lt hT hqi;have hadd:=hA1.add (ts:=c.ts) ⟨⟨#[117,110,105,116]⟩,t.at_.line,t.at_.col,⟨#[]⟩,t.int,([]:List Nat).map fun (k:Nat)=>(k:Int)⟩ (fun a s9 e9=>fits_of (ks:=[]) (fun k hk=>by cases hk));have heq:((Ex.Res.ok () s.skip.skip:Ex.Res Unit).bind fun _ s=>Ex.addN c.ts ⟨⟨#[117,110,105,116]⟩,t.at_.line,t.at_.col,⟨#[]⟩,t.int,([]:List Nat).map fun (k:Nat)=>(k:Int)⟩ s)=Ex.add c.ts [117,110,105,116] (Ex.at_ c.ts s) [] [] s.skip.skip:=by rw [hti];subst htk;rfl
 rw [heq] at hadd;generalize q.skip=q1 at *;have hlt:=qnode_lt hp1 (ts:=c.ts) ⟨⟨#[117,110,105,116]⟩,t.at_.line,t.at_.col,⟨#[]⟩,t.int,([]:List Nat).map fun (k:Nat)=>(k:Int)⟩;have HC:=Lib.hid hC;have HW:=Lib.hid hW;have HT:=Lib.hid hT0;have HK:=Lib.hid (Kp.of_below (c:=c) hbW);have HP:=Lib.hid hp1;have HADD:=Lib.hid hadd;have HL:=Lib.hid hlt;clear hC hW hT0 hbW hp1 hadd hlt heq h hp hA hA1 htk hti hqi hT hm;unfold tval
 go_enter Tryz.func164,Tryz.ntmps164
 go_wp2_with fail
 rw [HW.out];refine HC.out.mono ?_;rintro e w1 ⟨rfl,hQ1,hK1⟩;have HQ1:=Lib.hid hQ1;have HK1:=Lib.hid (HK.out.trans hK1);have HT1:=Lib.hid (HT.out.kp hK1 (by omega) (by omega));clear hQ1 hK1;have y0:=HT1.out.c0;have y1:=HT1.out.c1;have y2:=HT1.out.c2;have y3:=HT1.out.c3;have y4:=HT1.out.c4
 go_wp2_with fail
 refine (qnode_any c X _ d q1 ⟨#[117,110,105,116]⟩ t ⟨#[]⟩ [] none 0 HQ1.out HP.out (qints0 _ _) (fun g hg=>by cases hg)).mono ?_;rintro e w9 ⟨rfl,hQ9,hK9⟩;have HQ9:=Lib.hid hQ9;have HK9:=Lib.hid (HK1.out.trans hK9);clear hQ9 hK9 y0 y1 y2 y3 y4
 go_wp2
 go_ret
 exact ⟨_,_,rfl,HQ9.out,HL.out,HADD.out.1,HADD.out.2,HK9.out⟩
end
section
open Go.RowKit Tn Lx
attribute [local go_sem] qtok_field0 qtok_field1 qtok_field2 qtok_field3
def QArgsP (c:Cx)(X:Nat->Prop)(w:World)(d:Nat)(R:Ex.Res (List Nat))(e:Ending)(w':World):Prop :=
 ∃ (l:List Nat) (ka:Option Addr) (kc:Nat) (q:Qs),e = .returned (.slice ka l.length kc)/\Qd c X w' d q/\q.p<c.ts.length/\w'.ownsRow c.B 3 1 (.slice ka l.length kc) l.length (ints (l.map fun (i:Nat)=>(i:Int)))/\(∀ g,(Value.slice ka l.length kc).ownBlock=some g->¬ X g)/\Abs R q/\(∀ a s,R = .ok a s->l=a)/\St c.ts 0 l R/\Kp c w w'
structure QArg (c:Cx)(X:Nat->Prop)(w:World)(d n:Nat)(f:Ex.Rec)(Rf:Ex.Res (List Nat))(k:Nat)(v:Value)(l:List Nat)(q:Qs)(m:Nat)(wr:World):Prop where
 qd:Qd c (XV X v) wr d q
 lt:q.p<c.ts.length
 kp:Kp c w wr
 own:wr.ownsRow w.heap.size 3 1 v l.length (ints (l.map fun (i:Nat)=>(i:Int)))
 few:l.length+k<=n+1
def QMore (c:Cx)(d n:Nat)(f:Ex.Rec)(Rf:Ex.Res (List Nat))(k:Nat)(l:List Nat)(q:Qs):Prop :=
 ∃ s:Ex.S,Abs (Ex.Res.ok () s:Ex.Res Unit) q/\St c.ts s.p l (Ex.Res.ok () s:Ex.Res Unit)/\10*(c.ts.length-s.p)+8<n/\c.ts.length-s.p<k/\((f .all d s).bind fun i s1=>Ex.argsLoop c.ts (f .all d) k (l++[i]) s1)=Rf
def QLast (c:Cx)(Rf:Ex.Res (List Nat))(l:List Nat)(q:Qs):Prop :=
 ∃ (R:Ex.Res Nat) (m:Nat),Abs R q/\St c.ts m l R/\(R.bind fun _ s1=>(Ex.take c.ts [41] s1).bind fun _ s2=>(.ok l s2:Ex.Res (List Nat)))=Rf
theorem St.reorder {ts:List Tok}{α:Type}{m m':Nat}{ks ks':List Nat}{R:Ex.Res α}(h:St ts m ks R)(hm:m'<=m)(hk:∀ k∈ks',k∈ks):St ts m' ks' R:=h.mono fun a s hs=>⟨hs.1,by omega,fun k hk'=>hs.2.2 k (hk k hk')⟩
theorem QArg.more {c:Cx}{X:Nat->Prop}{w:World}{d n:Nat}{f:Ex.Rec}{Rf:Ex.Res (List Nat)}{k':Nat}{v:Value}{l:List Nat}{q2:Qs}{m:Nat}{wr w2 w3:World}{i g cap:Nat}(hkp:Kp c w wr)(ho:wr.ownsRow w.heap.size 3 1 v l.length (ints (l.map fun (i:Nat)=>(i:Int))))(hB:c.B<=w.heap.size)(hQ:Qd c (XV X v) w2 d q2)(hp:q2.p<c.ts.length)(hK:Kp c wr w2)
  (hown:w3.ownsRow w.heap.size 3 1 (.slice (some ⟨g,0,none⟩) (l.length+1) cap) (l.length+1) (ints (l.map fun (i:Nat)=>(i:Int))++[.int .i64 (i:Int)])) (hgrow:(w2.alloc (.cells #[.int .i64 (i:Int)] 3)).grownBy w3 v.ownBlock) (hat:v.ownBlock=some g\/g=w2.heap.size+1) (hlt:g<w3.heap.size) (hfew:l.length+1+k'<=n+1):
  QArg c X w d n f Rf k' (.slice (some ⟨g,0,none⟩) (l.length+1) cap) (l++[i]) q2 m w3:=by
 have hw2:w.heap.size<=w2.heap.size:=Nat.le_trans hkp.size hK.size;have ho2:=hK.own ho (by decide) (by have:=hQ.rlt;omega) (by have:=hQ.rlt;have:=hQ.bt;omega);have tag:∀ q,v.ownBlock=some q->w.heap.size<=q/\q<w2.heap.size:=fun q hq=>by
  obtain ⟨h1,cur,h2⟩:=own_tag ho2 hq;exact ⟨h1,lt_of_heap h2⟩
 have hB2:But (fun q=>some q=v.ownBlock) w2 w3:=(But.of_below ((Below.refl _ w2).alloc (Nat.le_refl _) _)).trans (But.of_grown hgrow (fun q e=>e.symm));have far:∀ b,b<c.B->¬ (some b=v.ownBlock):=fun b hb e=>by have:=(tag b e.symm).1;omega
 refine ⟨?_,hp, ?_, ?_,by simp;omega⟩
 ·refine hQ.grown hB2 (far _ hQ.rlt) (far _ hQ.glt) (fun q hq => .inr hq) _ (fun q hq=>?_)
  rcases hq with hq | hq
  ·exact .inl (.inl hq)
  ·have hq':q=g:=by injection hq
   subst hq'
   rcases hat with e | e
   ·exact .inl (.inr e.symm)
   ·exact .inr ⟨by omega,hlt⟩
 ·exact (hkp.trans hK).new hB2 (fun q e=>(tag q e.symm).1)
 ·have:ints ((l++[i]).map fun (i:Nat)=>(i:Int))=ints (l.map fun (i:Nat)=>(i:Int))++[.int .i64 (i:Int)]:=by simp [ints]
  rw [this,List.length_append];exact hown
theorem QMore.step {c:Cx}{d n:Nat}{f:Ex.Rec}{Rf:Ex.Res (List Nat)}{k:Nat}{l:List Nat}{v:Nat}{s s1:Ex.S}{q1:Qs}(hS:St c.ts (s.p+1) (v :: l) (f .all d s))(hA:Abs (f .all d s) q1)(he:f .all d s = .ok v s1)(hi:Ex.is c.ts s1 [44]=true)(hn:10*(c.ts.length-s.p)+8<n)(hk:c.ts.length-s.p<k+1)(hsl:s.p<c.ts.length)
  (hfin:((f .all d s).bind fun i s1=>Ex.argsLoop c.ts (f .all d) (k+1) (l++[i]) s1)=Rf):QMore c d n f Rf k (l++[v]) q1.skip:=by
 have hr:=hS.ready he;rw [he] at hA hfin;have hlt:=Ex.is_lt hi;refine ⟨s1.skip,hA.skip_ok (ts:=c.ts),⟨hr.1.skip hlt,Nat.le_refl _,fun k hk=>?_⟩, ?_, ?_, ?_⟩
 ·refine hr.2.2 k ?_
  rcases List.mem_append.1 hk with h | h
  ·exact List.mem_cons_of_mem _ h
  ·rw [List.mem_singleton.1 h];exact List.mem_cons_self ..
 ·have:=hr.2.1;show 10*(c.ts.length-(s1.p+1))+8<n;omega
 ·have:=hr.2.1;show c.ts.length-(s1.p+1)<k;omega
 ·rw [<- hfin]
  show _=Ex.argsLoop c.ts (f .all d) (k+1) (l++[v]) s1
  rw [Ex.argsLoop,if_pos hi]
theorem QLast.step {c:Cx}{d:Nat}{f:Ex.Rec}{Rf:Ex.Res (List Nat)}{k:Nat}{l:List Nat}{v:Nat}{s:Ex.S}{q1:Qs}(hS:St c.ts (s.p+1) (v :: l) (f .all d s))(hA:Abs (f .all d s) q1)(hv:∀ i s',f .all d s = .ok i s'->v=i)(hi:∀ a s',f .all d s = .ok a s'->Ex.is c.ts s' [44]=false)
  (hfin:((f .all d s).bind fun i s1=>Ex.argsLoop c.ts (f .all d) (k+1) (l++[i]) s1)=Rf):QLast c Rf (l++[v]) q1:=by
 refine ⟨f .all d s,s.p+1,hA,hS.reorder (Nat.le_refl _) (fun k hk=>?_), ?_⟩
 ·rcases List.mem_append.1 hk with h | h
  ·exact List.mem_cons_of_mem _ h
  ·rw [List.mem_singleton.1 h];exact List.mem_cons_self ..
 ·rw [<- hfin]
  cases he:f .all d s with
  | ok i s1 =>
   obtain rfl:=hv i s1 he
   show _=Ex.argsLoop c.ts (f .all d) (k+1) (l++[v]) s1
   rw [Ex.argsLoop,if_neg (by rw [hi v s1 he];decide)];rfl
  | bad c' p=>rfl
  | out=>rfl
theorem qargs_any (c:Cx)(X:Nat->Prop)(w:World)(d n:Nat)(f:Ex.Rec)(q:Qs)(s:Ex.S)(hF:QSpec c n f)(hn9:n<=900000)(h:Qd c X w d q)(hd:d<=64)(hp:q.p<c.ts.length)(hA:Abs (Ex.Res.ok () s:Ex.Res Unit) q)(hS:Ex.GoodS c.ts s)(hn:10*(c.ts.length-s.p)+8<n):
  Calls Tryz.prog 163 #[.pointer (some ⟨c.r,0,none⟩)] w (QArgsP c X w d (Ex.args c.ts n (f .all d) s)):=by
 obtain ⟨i0,hi0,hz0,hz1,hz2⟩:=info_parts Tryz.info3;have HI0:=Lib.hid hi0;have HZ0:=Lib.hid hz0;have HZ1:=Lib.hid hz1;have HZ2:=Lib.hid hz2;clear hi0 hz0 hz1 hz2;have hr1:=h.rlt;have hbt:=h.bt;have hsz:=h.size;have hx0:∀ k,X k->k<w.heap.size:=h.xlt;have HX0:=Lib.hid hx0;clear hx0;have hnil:∀ W:World,W.ownsRow w.heap.size 3 1 (.slice none 0 0) 0 (ints (([]:List Nat).map fun (i:Nat)=>(i:Int))):=fun W=>World.ownsRow_nil W _ _ _;have HNIL:=Lib.hid hnil;clear hnil
 cases hv:qis c.ts q [41] with
 | true =>
  have hi:Ex.is c.ts s [41]=true:=(hA.is_eq (ts:=c.ts) [41]).symm.trans hv;have h44:Ex.is c.ts s [44]=false:=by
   unfold Ex.is Ex.isT at hi ⊢;have:=eq_of_beq (Bool.and_eq_true _ _ ▸ hi).2;rw [this];simp
  have hfin:Ex.args c.ts n (f .all d) s = .ok [] s.skip:=by
   unfold Ex.args;rw [if_pos hi];obtain ⟨k,rfl⟩:∃ k,n=k+1:=⟨n-1,by omega⟩;rw [Ex.argsLoop,if_neg (by rw [h44];decide),Ex.take,if_pos hi];rfl
  rw [hfin];have hC:=qtake_tr h hp hv;have hp1:q.skip.p<c.ts.length:=qis_lt hF.ts hv;have hlt:=hF.ts.is_next hi;have HC:=Lib.hid hC;have HP:=Lib.hid hp1;have HA:=Lib.hid (hA.skip_ok (ts:=c.ts));have HS:=Lib.hid (hS.skip (by omega));have HF:=Lib.hid hF;clear hC hp1 hA hS hF h hfin hi h44 hv
  go_enter Tryz.func163,Tryz.ntmps163
  go_wp2_with fail
  refine HC.out.mono ?_;rintro e w1 ⟨rfl,hQ1,hK1⟩;have HQ1:=Lib.hid hQ1;have HK1:=Lib.hid hK1;clear hQ1 hK1
  go_wp2
  go_ret
  exact ⟨[],none,0,_,rfl,HQ1.out,HP.out,World.ownsRow_nil _ _ _ _,(fun g hg=>by cases hg),HA.out,(fun a s e=>by cases e;rfl),⟨HS.out,Nat.zero_le _,fun k hk=>by cases hk⟩,HK1.out⟩
 | false =>
  have hi:Ex.is c.ts s [41]=false:=(hA.is_eq (ts:=c.ts) [41]).symm.trans hv;have hfin:((f .all d s).bind fun i s1=>Ex.argsLoop c.ts (f .all d) n ([]++[i]) s1)=Ex.args c.ts n (f .all d) s:=by
   unfold Ex.args;rw [if_neg (by rw [hi];decide)];rfl
  obtain ⟨Rf,hRf⟩:∃ Rf,Ex.args c.ts n (f .all d) s=Rf:=⟨_,rfl⟩;rw [hRf] at hfin ⊢;have hC:=qtake_fa h hp hv;have hM:QMore c d n f Rf n [] q:=⟨s,hA,⟨hS,Nat.le_refl _,fun k hk=>by cases hk⟩,hn,by omega,hfin⟩;have HC:=Lib.hid hC;have HM:=Lib.hid hM;have HF:=Lib.hid hF;have HP:=Lib.hid hp;clear hC hM hF hA hS h hfin hRf hv hi hp hn
  go_enter Tryz.func163,Tryz.ntmps163
  go_wp2_with fail
  refine HC.out.mono ?_;rintro e w1 ⟨rfl,hQ1,hK1⟩;have HQ1:=Lib.hid hQ1;have HK1:=Lib.hid hK1;clear hQ1 hK1 HC;have hst:QArg c X w d n f Rf n (.slice none 0 0) [] q 0 w1:=⟨HQ1.out.less (fun k hk=>by rcases hk with hk | hk;exact hk;cases hk),HP.out,HK1.out,HNIL.out _,by simp⟩;have HST:=Lib.hid hst;clear hst HQ1 HK1 HNIL HP
  go_wp2_with fail
  go_loopg [3,5] n (fun k v mo wr=>∃ (l:List Nat) (q':Qs),QArg c X w d n f Rf k v l q' 0 wr/\((mo = .bool true/\QMore c d n f Rf k l q')\/(mo = .bool false/\QLast c Rf l q')))
  case atStart=>exact ⟨[],q,HST.out,.inl ⟨rfl,HM.out⟩⟩
  case round =>
   obtain ⟨l,q',hst,hmo⟩:=hrel;obtain ⟨ao,cap0,rfl⟩:=own_form hst.own;clear HST HM;have hsr:=hst.kp.size;have hfew:=hst.few;have HS:=Lib.hid hst;clear hst
   rcases hmo with ⟨rfl,hM⟩ | ⟨rfl,hL⟩
   ·obtain ⟨s',hA,hS,hn,hk,hfin⟩:=hM;have hsl:s'.p<c.ts.length:=by have:=HS.out.lt;rw [hA.1] at this;exact this
    obtain ⟨k,rfl⟩:∃ k,gk=k+1:=⟨gk-1,by omega⟩;have HA:=Lib.hid hA;have HSS:=Lib.hid hS;have HFIN:=Lib.hid hfin;clear hA hS hfin
    go_wp2_with fail
    refine (HF.out.all (Ex.Res.ok () s':Ex.Res Unit) _ _ d s'.p _ q' ⟨HS.out.qd,HS.out.lt,HA.out,HSS.out,by omega,hd⟩).mono ?_;rintro e w2 ⟨v1,q1,rfl,hQ2,hp2,hA2,hv2,hK2⟩;have hS2:=HSS.out.rec HF.out.ends HF.out.gr .all (by simp only [Ex.rank];omega) hv2
    change Abs (f .all d s') q1 at hA2
    change ∀ i s,f .all d s' = .ok i s->v1=i at hv2
    change St c.ts (s'.p+1) (v1 :: l) (f .all d s') at hS2
    have ho2:=hK2.own HS.out.own (by decide) (by omega) (by omega);have hs2:=hK2.size;have HQ2:=Lib.hid hQ2;have HP2:=Lib.hid hp2;have HA2:=Lib.hid hA2;have Hv2:=Lib.hid hv2;have HS2:=Lib.hid hS2;have HK2:=Lib.hid hK2;have HO2:=Lib.hid ho2;clear hQ2 hp2 hA2 hv2 hS2 hK2 ho2
    go_wp2_with (at_builtin;refine wpList_append_lies _ rfl (.tmp 13) (.tmp 15) 28 rfl w.heap.size 3 i0 _ 1 8 Tryz.underlying28 HI0.out HZ0.out HZ1.out HZ2.out rfl (by decide) (.slice ao l.length cap0) l.length (ints (l.map fun (i:Nat)=>(i:Int))) rfl (HO2.out.alloc _) ⟨w2.heap.size,0,none⟩ 1 1 [.int .i64 (v1:Int)] rfl rfl (World.news_of_block (cs:=#[.int .i64 (v1:Int)]) (t:=3) (fr:=(0,0)) (heap_alloc_new w2 _)) (by intro x hx;simp at hx;subst hx;rfl) (by decide) (by unfold maxLen;omega) (by omega) (by simp;omega) (w2.heap.size+1) (by simp) ?_;intro g cap w4 hown hgrow hat hlt)
    have hst4:=QArg.more (f:=f) (Rf:=Rf) (k':=k) (n:=n) (m:=0) HS.out.kp HS.out.own (by omega) HQ2.out HP2.out HK2.out hown hgrow hat hlt (by omega);have HST:=Lib.hid hst4;clear hown hgrow hat hlt hst4
    cases hq:qis c.ts q1 [44] with
    | true =>
     obtain ⟨a,s1,hRa,hi,_⟩:=HA2.out.take_ok (ts:=c.ts) hq;obtain rfl:v1=a:=Hv2.out a s1 hRa;have hM:=QMore.step HS2.out HA2.out hRa hi hn hk hsl HFIN.out;have hC:=qtake_tr HST.out.qd HP2.out hq;have hp9:=qis_lt HF.out.ts hq;have HM:=Lib.hid hM;have HC:=Lib.hid hC;have HP9:=Lib.hid hp9;clear hM hC hp9 hRa hi hq
     go_wp2_with fail
     refine HC.out.mono ?_;rintro e w5 ⟨rfl,hQ5,hK5⟩;have ho5:=hK5.own HST.out.own (by decide) (by omega) (by omega);have hst5:QArg c X w d n f Rf k (.slice (some ⟨g,0,none⟩) (l.length+1) cap) (l++[v1]) q1.skip 0 w5:=⟨hQ5,HP9.out,HST.out.kp.trans hK5,ho5,HST.out.few⟩;have HST5:=Lib.hid hst5;clear hQ5 hK5 ho5 hst5
     go_wp2_with fail
     go_roundg k
     case measure=>omega
     case rel=>exact ⟨_,_,HST5.out,.inl ⟨rfl,HM.out⟩⟩
    | false =>
     have hL:=QLast.step HS2.out HA2.out Hv2.out (HA2.out.take_no (ts:=c.ts) hq).1 HFIN.out;have hC:=qtake_fa HST.out.qd HP2.out hq;have HL:=Lib.hid hL;have HC:=Lib.hid hC;clear hL hC hq
     go_wp2_with fail
     refine HC.out.mono ?_;rintro e w5 ⟨rfl,hQ5,hK5⟩;have ho5:=hK5.own HST.out.own (by decide) (by omega) (by omega);have hst5:QArg c X w d n f Rf k (.slice (some ⟨g,0,none⟩) (l.length+1) cap) (l++[v1]) q1 0 w5:=⟨hQ5,HP2.out,HST.out.kp.trans hK5,ho5,HST.out.few⟩;have HST5:=Lib.hid hst5;clear hQ5 hK5 ho5 hst5
     go_wp2_with fail
     go_roundg k
     case measure=>omega
     case rel=>exact ⟨_,_,HST5.out,.inr ⟨rfl,HL.out⟩⟩
   ·obtain ⟨R,m,hA,hS,hfin⟩:=hL;have hA2:=hA.must (ts:=c.ts) [41];have hS2:=hS.must [41];have hp2:=qmust_lt HF.out.ts HS.out.lt [41];have hC:=qmust_any c (XV X (.slice ao l.length cap0)) wr d q' [41] HS.out.qd HS.out.lt;generalize qmust c.ts q' [41]=q2 at *;have HC:=Lib.hid hC;have HA2:=Lib.hid hA2;have HS2:=Lib.hid hS2;have HP2:=Lib.hid hp2;have HFIN:=Lib.hid hfin;clear hC hA2 hS2 hp2 hfin hA hS
    go_wp2_with fail
    refine HC.out.mono ?_;rintro e w5 ⟨rfl,hQ5,hK5⟩;have ho5:=hK5.own HS.out.own (by decide) (by omega) (by omega);have HQ5:=Lib.hid hQ5;have HK5:=Lib.hid (HS.out.kp.trans hK5);have HO5:=Lib.hid ho5;clear hQ5 hK5 ho5
    go_wp2
    go_ret
    have hRf:Rf=((R.bind fun _ s=>Ex.take c.ts [41] s).bind fun _ s2=>(.ok l s2:Ex.Res (List Nat))):=by rw [<- HFIN.out,Ex.Res.bind_assoc]
    refine ⟨l,ao,cap0,q2,rfl,HQ5.out.less (fun k hk => .inl hk),HP2.out,own_mono HO5.out (by omega),fun g hg hx=>?_, ?_, ?_, ?_,HK5.out⟩
    ·have h1:=(own_tag HO5.out hg).1;have h2:=HX0.out g hx;omega
    ·have hA:=HA2.out;rw [hRf]
     revert hA
     generalize (R.bind fun _ s=>Ex.take c.ts [41] s)=R2;intro hA
     cases R2 with
     | ok a s2=>exact hA
     | bad c' p=>exact hA
     | out=>exact hA
    ·intro a s2 e;rw [hRf] at e
     revert e
     generalize (R.bind fun _ s=>Ex.take c.ts [41] s)=R2;intro e
     cases R2 with
     | ok a' s3=>cases e;rfl
     | bad c' p=>cases e
     | out=>cases e
    ·rw [hRf];exact Ex.Res.Post.bind HS2.out fun a s3 h3=>⟨h3.1,Nat.zero_le _,h3.2.2⟩
end
end Go.Proofs.YtninlbknklbofaaGreatDoor
