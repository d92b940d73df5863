/- A part of the proof: The document's unaries that begin with a mark, or a word. -/
import Derived.Test.YtninlbknklbofaaGreatDoorQs
set_option linter.unusedSimpArgs false
set_option linter.unusedVariables false
set_option maxRecDepth 100000
set_option maxHeartbeats 4000000
namespace Go.Proofs.YtninlbknklbofaaGreatDoor
open Go.RowKit Tn Lx
attribute [local go_sem] qtok_field0 qtok_field1 qtok_field2 qtok_field3
theorem qneg_eq {ts:List Tok}{f:Ex.Rec}{d:Nat}{s:Ex.S}{t:Tok}{R0:Ex.Res Nat}{v0:Nat}(ht:Ex.tk ts s.p=t)(hi:t.int=0)(htx:t.text=[45])(h0:((Ex.Res.ok () s.skip:Ex.Res Unit).bind fun _ s=>f .unary d s)=R0)(l0:∀ x s,R0 = .ok x s->v0=x):
  (R0.bind fun _ s=>Ex.addN ts ⟨⟨#[110,101,103]⟩,t.at_.line,t.at_.col,⟨#[]⟩,t.int,[v0].map fun (k:Nat)=>(k:Int)⟩ s)=Ex.prefixF ts f [110,101,103] d s:=by
 subst h0;subst ht;rw [hi];unfold Ex.prefixF;simp only [Ex.Res.bind] at l0 ⊢
 cases e0:f .unary d s.skip with
 | bad c p=>rfl
 | out=>rfl
 | ok x0 s0 =>
  simp only [e0,Ex.Res.bind] at l0 ⊢;obtain rfl:=l0 x0 s0 rfl
  rfl
theorem qneg_any (c:Cx)(X:Nat->Prop)(w:World)(d n:Nat)(f:Ex.Rec)(q:Qs)(s:Ex.S)(t:Tok)(hF:QSpec c n f)(h:Pre c X w d n 0 s.p [] (Ex.Res.ok () s:Ex.Res Unit) q)(hn:10*(c.ts.length-s.p)<n)(htk:Ex.tk c.ts s.p=t)(hx:t.text=[45])(hk1:t.kind≠1)(hk3:t.kind≠3):
  Calls Tryz.prog 149 #[.pointer (some ⟨c.r,0,none⟩)] w (QP c X w d (Ex.prefixF c.ts f [110,101,103] d s)):=by
 obtain ⟨hqp,hqn,hqc⟩:=h.abs;have hnx:s.p+1<c.ts.length:=hF.ts.next (by rw [htk];have:=hF.ts.kind0 (p:=s.p);rw [htk,hx] at this;exact this (by simp));have hti:t.int=0:=by rw [<- htk] at hk3 ⊢;exact hF.ts.num hk3
 have hr1:=h.qd.rlt;have hbt:=h.qd.bt;have hsz:=h.qd.size;have hd:=h.deep;obtain ⟨a0,a1,b0,b1,b2,b3,b4,c0,c1,k0,k1,k2,k3,k4,wr,w1,few,room⟩:=h.qd.looks h.lt;rw [hqp,htk] at b0 b1 b2 b3 b4 k0 k1 k2 k3 k4;rw [hqp] at a1 c1 wr w1;obtain ⟨V,hV⟩:∃ V,(w.alloc (.cells #[.int .i64 t.kind,.string ⟨t.text.toArray⟩,.int .i64 t.int,.int .i64 t.at_.line,.int .i64 t.at_.col] 109)).drew=V:=⟨_,rfl⟩;have hbV:Below w.heap.size w V:=by rw [<- hV];exact Below.drawn w _
 have hT:Fiq V w.heap.size t:=by rw [<- hV];exact Fiq.drawn w t
 have hQV:=h.qd.below hbV;have d1:=hQV.c1;have df:=hQV.fz;rw [hqp] at d1;obtain ⟨V2,hV2⟩:∃ V2,V.setCell ⟨c.r,1,none⟩ (.int .i64 ((s.p:Int)+1))=V2:=⟨_,rfl⟩;obtain ⟨hQ,hK⟩:=hQV.setp (p':=s.p+1) (by omega);rw [show (((s.p+1:Nat):Int))=(s.p:Int)+1 by omega,hV2] at hQ hK;obtain ⟨q1,hq1⟩:∃ q1,(⟨s.p+1,q.ns,q.cd,q.bp⟩:Qs)=q1:=⟨_,rfl⟩;rw [hq1] at hQ;have hp1:q1.p<c.ts.length:=by rw [<- hq1];exact hnx
 have hA1:Abs (Ex.Res.ok () s.skip:Ex.Res Unit) q1:=by rw [<- hq1];exact ⟨rfl,hqn,hqc⟩
 have hS1:St c.ts (s.p+1) [] (Ex.Res.ok () s.skip:Ex.Res Unit):=⟨(h.st.ready rfl).1.skip (by omega),Nat.le_refl _,fun k hk=>by cases hk⟩;have hT2:=hT.kp hK (by omega) (by omega);have hzV:=hbV.size;have hzV2:=hK.size;have hzT:=hT.lt;obtain ⟨kd,tx,nm,ap⟩:=t;simp only at hx hk1 hk3;subst hx;have HF:=Lib.hid hF;have HQ:=Lib.hid hQ;have HP:=Lib.hid hp1;have HA:=Lib.hid hA1;have HS:=Lib.hid hS1;have HK:=Lib.hid ((Kp.of_below (c:=c) hbV).trans hK);have HT:=Lib.hid hT2;have HV:=Lib.hid hV;have HV2:=Lib.hid hV2;have HTK:=Lib.hid htk;have HTI:=Lib.hid hti;have HNX:=Lib.hid hnx;clear hF h hbV hT hQV hQ hK hq1 hp1 hA1 hS1 hT2 hV hV2 htk hti hnx;have hk1n:(kd==1)=false:=by simpa using hk1
 have hk3n:(kd==3)=false:=by simpa using hk3
 clear hk1 hk3
 go_enter Tryz.func149,Tryz.ntmps149
 go_upto_region 1 with fail
 go_region
 rw [HV.out];clear a0 a1 b0 b1 b2 b3 b4 c0 c1 k0 k1 k2 k3 k4
 go_upto_region 3 with fail
 rw [HV2.out];clear d1 df;have u0:=HT.out.c0;have u1:=HT.out.c1
 go_wp2_with fail
 clear u0 u1;refine (HF.out.unary (Ex.Res.ok () s.skip:Ex.Res Unit) X _ d (s.p+1) _ q1 ⟨HQ.out,HP.out,HA.out,HS.out,by omega,hd⟩).mono ?_;rintro e w0 ⟨v0,q0,rfl,hQ0,hp0,hA0,hv0,hK0⟩;have hS0:=HS.out.rec HF.out.ends HF.out.gr .unary (by simp only [Ex.rank];omega) hv0;obtain ⟨R0,hR0⟩:∃ R,((Ex.Res.ok () s.skip:Ex.Res Unit).bind fun _ s=>f .unary d s)=R:=⟨_,rfl⟩;rw [hR0] at hA0 hS0 hv0;have HA0:=Lib.hid hA0;have HS0:=Lib.hid hS0;have HR0:=Lib.hid hR0;have Hv0:=Lib.hid hv0;have HP0:=Lib.hid hp0;have HQ0:=Lib.hid hQ0;have HK0:=Lib.hid (HK.out.trans hK0);have HT0:=Lib.hid (HT.out.kp hK0 (by omega) (by omega));have hz0:=hK0.size;clear hA0 hS0 hR0 hv0 hp0 hQ0 hK0;have y0:=HT0.out.c0;have y1:=HT0.out.c1;have y2:=HT0.out.c2;have y3:=HT0.out.c3;have y4:=HT0.out.c4
 go_wp2_with fail
 refine (qnode_any c X _ d q0 ⟨#[110,101,103]⟩ ⟨kd,[45],nm,ap⟩ ⟨#[]⟩ [v0] (some ⟨w0.heap.size,0,none⟩) 1 (HQ0.out.below ((Below.refl _ w0).alloc (Nat.le_refl _) _)) HP0.out (qints1 _ (by omega) v0) (HQ0.out.fresh _ _)).mono ?_;rintro e w9 ⟨rfl,hQ,hK⟩;have hadd:=HA0.out.add (ts:=c.ts) ⟨⟨#[110,101,103]⟩,ap.line,ap.col,⟨#[]⟩,nm,[v0].map fun (k:Nat)=>(k:Int)⟩ (fun a s9 e9=>fits_of (HS0.out.ready e9).2.2);have hkp:=HK0.out.trans (Below.then_kp ((Below.refl _ w0).alloc (Nat.le_refl _) _) hK);have heq:=qneg_eq (f:=f) (d:=d) (s:=s) HTK.out HTI.out rfl HR0.out Hv0.out;have hlt:=qnode_lt HP0.out (ts:=c.ts) ⟨⟨#[110,101,103]⟩,ap.line,ap.col,⟨#[]⟩,nm,[v0].map fun (k:Nat)=>(k:Int)⟩;rw [heq] at hadd;have HADD:=Lib.hid hadd;have HQ9:=Lib.hid hQ;have HK9:=Lib.hid hkp;have HL:=Lib.hid hlt;clear hadd hQ hkp hlt heq hK y0 y1 y2 y3 y4
 go_wp2
 go_ret
 exact ⟨_,_,rfl,HQ9.out,HL.out,HADD.out.1,HADD.out.2,HK9.out⟩
theorem qnot_eq {ts:List Tok}{f:Ex.Rec}{d:Nat}{s:Ex.S}{t:Tok}{R0:Ex.Res Nat}{v0:Nat}(ht:Ex.tk ts s.p=t)(hi:t.int=0)(htx:t.text=[110,111,116])(h0:((Ex.Res.ok () s.skip:Ex.Res Unit).bind fun _ s=>f .unary d s)=R0)(l0:∀ x s,R0 = .ok x s->v0=x):
  (R0.bind fun _ s=>Ex.addN ts ⟨⟨#[110,111,116]⟩,t.at_.line,t.at_.col,⟨#[]⟩,t.int,[v0].map fun (k:Nat)=>(k:Int)⟩ s)=Ex.prefixF ts f [110,111,116] d s:=by
 subst h0;subst ht;rw [hi];unfold Ex.prefixF;simp only [Ex.Res.bind] at l0 ⊢
 cases e0:f .unary d s.skip with
 | bad c p=>rfl
 | out=>rfl
 | ok x0 s0 =>
  simp only [e0,Ex.Res.bind] at l0 ⊢;obtain rfl:=l0 x0 s0 rfl
  rfl
theorem qnot_any (c:Cx)(X:Nat->Prop)(w:World)(d n:Nat)(f:Ex.Rec)(q:Qs)(s:Ex.S)(t:Tok)(hF:QSpec c n f)(h:Pre c X w d n 0 s.p [] (Ex.Res.ok () s:Ex.Res Unit) q)(hn:10*(c.ts.length-s.p)<n)(htk:Ex.tk c.ts s.p=t)(hx:t.text=[110,111,116])(hk1:t.kind≠1)(hk3:t.kind≠3):
  Calls Tryz.prog 149 #[.pointer (some ⟨c.r,0,none⟩)] w (QP c X w d (Ex.prefixF c.ts f [110,111,116] d s)):=by
 obtain ⟨hqp,hqn,hqc⟩:=h.abs;have hnx:s.p+1<c.ts.length:=hF.ts.next (by rw [htk];have:=hF.ts.kind0 (p:=s.p);rw [htk,hx] at this;exact this (by simp));have hti:t.int=0:=by rw [<- htk] at hk3 ⊢;exact hF.ts.num hk3
 have hr1:=h.qd.rlt;have hbt:=h.qd.bt;have hsz:=h.qd.size;have hd:=h.deep;obtain ⟨a0,a1,b0,b1,b2,b3,b4,c0,c1,k0,k1,k2,k3,k4,wr,w1,few,room⟩:=h.qd.looks h.lt;rw [hqp,htk] at b0 b1 b2 b3 b4 k0 k1 k2 k3 k4;rw [hqp] at a1 c1 wr w1;obtain ⟨V,hV⟩:∃ V,(w.alloc (.cells #[.int .i64 t.kind,.string ⟨t.text.toArray⟩,.int .i64 t.int,.int .i64 t.at_.line,.int .i64 t.at_.col] 109)).drew=V:=⟨_,rfl⟩;have hbV:Below w.heap.size w V:=by rw [<- hV];exact Below.drawn w _
 have hT:Fiq V w.heap.size t:=by rw [<- hV];exact Fiq.drawn w t
 have hQV:=h.qd.below hbV;have d1:=hQV.c1;have df:=hQV.fz;rw [hqp] at d1;obtain ⟨V2,hV2⟩:∃ V2,V.setCell ⟨c.r,1,none⟩ (.int .i64 ((s.p:Int)+1))=V2:=⟨_,rfl⟩;obtain ⟨hQ,hK⟩:=hQV.setp (p':=s.p+1) (by omega);rw [show (((s.p+1:Nat):Int))=(s.p:Int)+1 by omega,hV2] at hQ hK;obtain ⟨q1,hq1⟩:∃ q1,(⟨s.p+1,q.ns,q.cd,q.bp⟩:Qs)=q1:=⟨_,rfl⟩;rw [hq1] at hQ;have hp1:q1.p<c.ts.length:=by rw [<- hq1];exact hnx
 have hA1:Abs (Ex.Res.ok () s.skip:Ex.Res Unit) q1:=by rw [<- hq1];exact ⟨rfl,hqn,hqc⟩
 have hS1:St c.ts (s.p+1) [] (Ex.Res.ok () s.skip:Ex.Res Unit):=⟨(h.st.ready rfl).1.skip (by omega),Nat.le_refl _,fun k hk=>by cases hk⟩;have hT2:=hT.kp hK (by omega) (by omega);have hzV:=hbV.size;have hzV2:=hK.size;have hzT:=hT.lt;obtain ⟨kd,tx,nm,ap⟩:=t;simp only at hx hk1 hk3;subst hx;have HF:=Lib.hid hF;have HQ:=Lib.hid hQ;have HP:=Lib.hid hp1;have HA:=Lib.hid hA1;have HS:=Lib.hid hS1;have HK:=Lib.hid ((Kp.of_below (c:=c) hbV).trans hK);have HT:=Lib.hid hT2;have HV:=Lib.hid hV;have HV2:=Lib.hid hV2;have HTK:=Lib.hid htk;have HTI:=Lib.hid hti;have HNX:=Lib.hid hnx;clear hF h hbV hT hQV hQ hK hq1 hp1 hA1 hS1 hT2 hV hV2 htk hti hnx;have hk1n:(kd==1)=false:=by simpa using hk1
 have hk3n:(kd==3)=false:=by simpa using hk3
 clear hk1 hk3
 go_enter Tryz.func149,Tryz.ntmps149
 go_upto_region 1 with fail
 go_region
 rw [HV.out];clear a0 a1 b0 b1 b2 b3 b4 c0 c1 k0 k1 k2 k3 k4
 go_upto_region 3 with fail
 rw [HV2.out];clear d1 df;have u0:=HT.out.c0;have u1:=HT.out.c1
 go_wp2_with fail
 clear u0 u1;refine (HF.out.unary (Ex.Res.ok () s.skip:Ex.Res Unit) X _ d (s.p+1) _ q1 ⟨HQ.out,HP.out,HA.out,HS.out,by omega,hd⟩).mono ?_;rintro e w0 ⟨v0,q0,rfl,hQ0,hp0,hA0,hv0,hK0⟩;have hS0:=HS.out.rec HF.out.ends HF.out.gr .unary (by simp only [Ex.rank];omega) hv0;obtain ⟨R0,hR0⟩:∃ R,((Ex.Res.ok () s.skip:Ex.Res Unit).bind fun _ s=>f .unary d s)=R:=⟨_,rfl⟩;rw [hR0] at hA0 hS0 hv0;have HA0:=Lib.hid hA0;have HS0:=Lib.hid hS0;have HR0:=Lib.hid hR0;have Hv0:=Lib.hid hv0;have HP0:=Lib.hid hp0;have HQ0:=Lib.hid hQ0;have HK0:=Lib.hid (HK.out.trans hK0);have HT0:=Lib.hid (HT.out.kp hK0 (by omega) (by omega));have hz0:=hK0.size;clear hA0 hS0 hR0 hv0 hp0 hQ0 hK0;have y0:=HT0.out.c0;have y1:=HT0.out.c1;have y2:=HT0.out.c2;have y3:=HT0.out.c3;have y4:=HT0.out.c4
 go_wp2_with fail
 refine (qnode_any c X _ d q0 ⟨#[110,111,116]⟩ ⟨kd,[110,111,116],nm,ap⟩ ⟨#[]⟩ [v0] (some ⟨w0.heap.size,0,none⟩) 1 (HQ0.out.below ((Below.refl _ w0).alloc (Nat.le_refl _) _)) HP0.out (qints1 _ (by omega) v0) (HQ0.out.fresh _ _)).mono ?_;rintro e w9 ⟨rfl,hQ,hK⟩;have hadd:=HA0.out.add (ts:=c.ts) ⟨⟨#[110,111,116]⟩,ap.line,ap.col,⟨#[]⟩,nm,[v0].map fun (k:Nat)=>(k:Int)⟩ (fun a s9 e9=>fits_of (HS0.out.ready e9).2.2);have hkp:=HK0.out.trans (Below.then_kp ((Below.refl _ w0).alloc (Nat.le_refl _) _) hK);have heq:=qnot_eq (f:=f) (d:=d) (s:=s) HTK.out HTI.out rfl HR0.out Hv0.out;have hlt:=qnode_lt HP0.out (ts:=c.ts) ⟨⟨#[110,111,116]⟩,ap.line,ap.col,⟨#[]⟩,nm,[v0].map fun (k:Nat)=>(k:Int)⟩;rw [heq] at hadd;have HADD:=Lib.hid hadd;have HQ9:=Lib.hid hQ;have HK9:=Lib.hid hkp;have HL:=Lib.hid hlt;clear hadd hQ hkp hlt heq hK y0 y1 y2 y3 y4
 go_wp2
 go_ret
 exact ⟨_,_,rfl,HQ9.out,HL.out,HADD.out.1,HADD.out.2,HK9.out⟩
theorem qfst_eq {ts:List Tok}{f:Ex.Rec}{d:Nat}{s:Ex.S}{t:Tok}{R0:Ex.Res Nat}{v0:Nat}(ht:Ex.tk ts s.p=t)(hi:t.int=0)(htx:t.text=[102,115,116])(h0:((Ex.Res.ok () s.skip:Ex.Res Unit).bind fun _ s=>f .unary d s)=R0)(l0:∀ x s,R0 = .ok x s->v0=x):
  (R0.bind fun _ s=>Ex.addN ts ⟨⟨#[102,115,116]⟩,t.at_.line,t.at_.col,⟨#[]⟩,t.int,[v0].map fun (k:Nat)=>(k:Int)⟩ s)=Ex.prefixF ts f [102,115,116] d s:=by
 subst h0;subst ht;rw [hi];unfold Ex.prefixF;simp only [Ex.Res.bind] at l0 ⊢
 cases e0:f .unary d s.skip with
 | bad c p=>rfl
 | out=>rfl
 | ok x0 s0 =>
  simp only [e0,Ex.Res.bind] at l0 ⊢;obtain rfl:=l0 x0 s0 rfl
  rfl
theorem qfst_any (c:Cx)(X:Nat->Prop)(w:World)(d n:Nat)(f:Ex.Rec)(q:Qs)(s:Ex.S)(t:Tok)(hF:QSpec c n f)(h:Pre c X w d n 0 s.p [] (Ex.Res.ok () s:Ex.Res Unit) q)(hn:10*(c.ts.length-s.p)<n)(htk:Ex.tk c.ts s.p=t)(hx:t.text=[102,115,116])(hk1:t.kind≠1)(hk3:t.kind≠3):
  Calls Tryz.prog 149 #[.pointer (some ⟨c.r,0,none⟩)] w (QP c X w d (Ex.prefixF c.ts f [102,115,116] d s)):=by
 obtain ⟨hqp,hqn,hqc⟩:=h.abs;have hnx:s.p+1<c.ts.length:=hF.ts.next (by rw [htk];have:=hF.ts.kind0 (p:=s.p);rw [htk,hx] at this;exact this (by simp));have hti:t.int=0:=by rw [<- htk] at hk3 ⊢;exact hF.ts.num hk3
 have hr1:=h.qd.rlt;have hbt:=h.qd.bt;have hsz:=h.qd.size;have hd:=h.deep;obtain ⟨a0,a1,b0,b1,b2,b3,b4,c0,c1,k0,k1,k2,k3,k4,wr,w1,few,room⟩:=h.qd.looks h.lt;rw [hqp,htk] at b0 b1 b2 b3 b4 k0 k1 k2 k3 k4;rw [hqp] at a1 c1 wr w1;obtain ⟨V,hV⟩:∃ V,(w.alloc (.cells #[.int .i64 t.kind,.string ⟨t.text.toArray⟩,.int .i64 t.int,.int .i64 t.at_.line,.int .i64 t.at_.col] 109)).drew=V:=⟨_,rfl⟩;have hbV:Below w.heap.size w V:=by rw [<- hV];exact Below.drawn w _
 have hT:Fiq V w.heap.size t:=by rw [<- hV];exact Fiq.drawn w t
 have hQV:=h.qd.below hbV;have d1:=hQV.c1;have df:=hQV.fz;rw [hqp] at d1;obtain ⟨V2,hV2⟩:∃ V2,V.setCell ⟨c.r,1,none⟩ (.int .i64 ((s.p:Int)+1))=V2:=⟨_,rfl⟩;obtain ⟨hQ,hK⟩:=hQV.setp (p':=s.p+1) (by omega);rw [show (((s.p+1:Nat):Int))=(s.p:Int)+1 by omega,hV2] at hQ hK;obtain ⟨q1,hq1⟩:∃ q1,(⟨s.p+1,q.ns,q.cd,q.bp⟩:Qs)=q1:=⟨_,rfl⟩;rw [hq1] at hQ;have hp1:q1.p<c.ts.length:=by rw [<- hq1];exact hnx
 have hA1:Abs (Ex.Res.ok () s.skip:Ex.Res Unit) q1:=by rw [<- hq1];exact ⟨rfl,hqn,hqc⟩
 have hS1:St c.ts (s.p+1) [] (Ex.Res.ok () s.skip:Ex.Res Unit):=⟨(h.st.ready rfl).1.skip (by omega),Nat.le_refl _,fun k hk=>by cases hk⟩;have hT2:=hT.kp hK (by omega) (by omega);have hzV:=hbV.size;have hzV2:=hK.size;have hzT:=hT.lt;obtain ⟨kd,tx,nm,ap⟩:=t;simp only at hx hk1 hk3;subst hx;have HF:=Lib.hid hF;have HQ:=Lib.hid hQ;have HP:=Lib.hid hp1;have HA:=Lib.hid hA1;have HS:=Lib.hid hS1;have HK:=Lib.hid ((Kp.of_below (c:=c) hbV).trans hK);have HT:=Lib.hid hT2;have HV:=Lib.hid hV;have HV2:=Lib.hid hV2;have HTK:=Lib.hid htk;have HTI:=Lib.hid hti;have HNX:=Lib.hid hnx;clear hF h hbV hT hQV hQ hK hq1 hp1 hA1 hS1 hT2 hV hV2 htk hti hnx;have hk1n:(kd==1)=false:=by simpa using hk1
 have hk3n:(kd==3)=false:=by simpa using hk3
 clear hk1 hk3
 go_enter Tryz.func149,Tryz.ntmps149
 go_upto_region 1 with fail
 go_region
 rw [HV.out];clear a0 a1 b0 b1 b2 b3 b4 c0 c1 k0 k1 k2 k3 k4
 go_upto_region 3 with fail
 rw [HV2.out];clear d1 df;have u0:=HT.out.c0;have u1:=HT.out.c1
 go_wp2_with fail
 clear u0 u1;refine (HF.out.unary (Ex.Res.ok () s.skip:Ex.Res Unit) X _ d (s.p+1) _ q1 ⟨HQ.out,HP.out,HA.out,HS.out,by omega,hd⟩).mono ?_;rintro e w0 ⟨v0,q0,rfl,hQ0,hp0,hA0,hv0,hK0⟩;have hS0:=HS.out.rec HF.out.ends HF.out.gr .unary (by simp only [Ex.rank];omega) hv0;obtain ⟨R0,hR0⟩:∃ R,((Ex.Res.ok () s.skip:Ex.Res Unit).bind fun _ s=>f .unary d s)=R:=⟨_,rfl⟩;rw [hR0] at hA0 hS0 hv0;have HA0:=Lib.hid hA0;have HS0:=Lib.hid hS0;have HR0:=Lib.hid hR0;have Hv0:=Lib.hid hv0;have HP0:=Lib.hid hp0;have HQ0:=Lib.hid hQ0;have HK0:=Lib.hid (HK.out.trans hK0);have HT0:=Lib.hid (HT.out.kp hK0 (by omega) (by omega));have hz0:=hK0.size;clear hA0 hS0 hR0 hv0 hp0 hQ0 hK0;have y0:=HT0.out.c0;have y1:=HT0.out.c1;have y2:=HT0.out.c2;have y3:=HT0.out.c3;have y4:=HT0.out.c4
 go_wp2_with fail
 refine (qnode_any c X _ d q0 ⟨#[102,115,116]⟩ ⟨kd,[102,115,116],nm,ap⟩ ⟨#[]⟩ [v0] (some ⟨w0.heap.size,0,none⟩) 1 (HQ0.out.below ((Below.refl _ w0).alloc (Nat.le_refl _) _)) HP0.out (qints1 _ (by omega) v0) (HQ0.out.fresh _ _)).mono ?_;rintro e w9 ⟨rfl,hQ,hK⟩;have hadd:=HA0.out.add (ts:=c.ts) ⟨⟨#[102,115,116]⟩,ap.line,ap.col,⟨#[]⟩,nm,[v0].map fun (k:Nat)=>(k:Int)⟩ (fun a s9 e9=>fits_of (HS0.out.ready e9).2.2);have hkp:=HK0.out.trans (Below.then_kp ((Below.refl _ w0).alloc (Nat.le_refl _) _) hK);have heq:=qfst_eq (f:=f) (d:=d) (s:=s) HTK.out HTI.out rfl HR0.out Hv0.out;have hlt:=qnode_lt HP0.out (ts:=c.ts) ⟨⟨#[102,115,116]⟩,ap.line,ap.col,⟨#[]⟩,nm,[v0].map fun (k:Nat)=>(k:Int)⟩;rw [heq] at hadd;have HADD:=Lib.hid hadd;have HQ9:=Lib.hid hQ;have HK9:=Lib.hid hkp;have HL:=Lib.hid hlt;clear hadd hQ hkp hlt heq hK y0 y1 y2 y3 y4
 go_wp2
 go_ret
 exact ⟨_,_,rfl,HQ9.out,HL.out,HADD.out.1,HADD.out.2,HK9.out⟩
theorem qsnd_eq {ts:List Tok}{f:Ex.Rec}{d:Nat}{s:Ex.S}{t:Tok}{R0:Ex.Res Nat}{v0:Nat}(ht:Ex.tk ts s.p=t)(hi:t.int=0)(htx:t.text=[115,110,100])(h0:((Ex.Res.ok () s.skip:Ex.Res Unit).bind fun _ s=>f .unary d s)=R0)(l0:∀ x s,R0 = .ok x s->v0=x):
  (R0.bind fun _ s=>Ex.addN ts ⟨⟨#[115,110,100]⟩,t.at_.line,t.at_.col,⟨#[]⟩,t.int,[v0].map fun (k:Nat)=>(k:Int)⟩ s)=Ex.prefixF ts f [115,110,100] d s:=by
 subst h0;subst ht;rw [hi];unfold Ex.prefixF;simp only [Ex.Res.bind] at l0 ⊢
 cases e0:f .unary d s.skip with
 | bad c p=>rfl
 | out=>rfl
 | ok x0 s0 =>
  simp only [e0,Ex.Res.bind] at l0 ⊢;obtain rfl:=l0 x0 s0 rfl
  rfl
theorem qsnd_any (c:Cx)(X:Nat->Prop)(w:World)(d n:Nat)(f:Ex.Rec)(q:Qs)(s:Ex.S)(t:Tok)(hF:QSpec c n f)(h:Pre c X w d n 0 s.p [] (Ex.Res.ok () s:Ex.Res Unit) q)(hn:10*(c.ts.length-s.p)<n)(htk:Ex.tk c.ts s.p=t)(hx:t.text=[115,110,100])(hk1:t.kind≠1)(hk3:t.kind≠3):
  Calls Tryz.prog 149 #[.pointer (some ⟨c.r,0,none⟩)] w (QP c X w d (Ex.prefixF c.ts f [115,110,100] d s)):=by
 obtain ⟨hqp,hqn,hqc⟩:=h.abs;have hnx:s.p+1<c.ts.length:=hF.ts.next (by rw [htk];have:=hF.ts.kind0 (p:=s.p);rw [htk,hx] at this;exact this (by simp));have hti:t.int=0:=by rw [<- htk] at hk3 ⊢;exact hF.ts.num hk3
 have hr1:=h.qd.rlt;have hbt:=h.qd.bt;have hsz:=h.qd.size;have hd:=h.deep;obtain ⟨a0,a1,b0,b1,b2,b3,b4,c0,c1,k0,k1,k2,k3,k4,wr,w1,few,room⟩:=h.qd.looks h.lt;rw [hqp,htk] at b0 b1 b2 b3 b4 k0 k1 k2 k3 k4;rw [hqp] at a1 c1 wr w1;obtain ⟨V,hV⟩:∃ V,(w.alloc (.cells #[.int .i64 t.kind,.string ⟨t.text.toArray⟩,.int .i64 t.int,.int .i64 t.at_.line,.int .i64 t.at_.col] 109)).drew=V:=⟨_,rfl⟩;have hbV:Below w.heap.size w V:=by rw [<- hV];exact Below.drawn w _
 have hT:Fiq V w.heap.size t:=by rw [<- hV];exact Fiq.drawn w t
 have hQV:=h.qd.below hbV;have d1:=hQV.c1;have df:=hQV.fz;rw [hqp] at d1;obtain ⟨V2,hV2⟩:∃ V2,V.setCell ⟨c.r,1,none⟩ (.int .i64 ((s.p:Int)+1))=V2:=⟨_,rfl⟩;obtain ⟨hQ,hK⟩:=hQV.setp (p':=s.p+1) (by omega);rw [show (((s.p+1:Nat):Int))=(s.p:Int)+1 by omega,hV2] at hQ hK;obtain ⟨q1,hq1⟩:∃ q1,(⟨s.p+1,q.ns,q.cd,q.bp⟩:Qs)=q1:=⟨_,rfl⟩;rw [hq1] at hQ;have hp1:q1.p<c.ts.length:=by rw [<- hq1];exact hnx
 have hA1:Abs (Ex.Res.ok () s.skip:Ex.Res Unit) q1:=by rw [<- hq1];exact ⟨rfl,hqn,hqc⟩
 have hS1:St c.ts (s.p+1) [] (Ex.Res.ok () s.skip:Ex.Res Unit):=⟨(h.st.ready rfl).1.skip (by omega),Nat.le_refl _,fun k hk=>by cases hk⟩;have hT2:=hT.kp hK (by omega) (by omega);have hzV:=hbV.size;have hzV2:=hK.size;have hzT:=hT.lt;obtain ⟨kd,tx,nm,ap⟩:=t;simp only at hx hk1 hk3;subst hx;have HF:=Lib.hid hF;have HQ:=Lib.hid hQ;have HP:=Lib.hid hp1;have HA:=Lib.hid hA1;have HS:=Lib.hid hS1;have HK:=Lib.hid ((Kp.of_below (c:=c) hbV).trans hK);have HT:=Lib.hid hT2;have HV:=Lib.hid hV;have HV2:=Lib.hid hV2;have HTK:=Lib.hid htk;have HTI:=Lib.hid hti;have HNX:=Lib.hid hnx;clear hF h hbV hT hQV hQ hK hq1 hp1 hA1 hS1 hT2 hV hV2 htk hti hnx;have hk1n:(kd==1)=false:=by simpa using hk1
 have hk3n:(kd==3)=false:=by simpa using hk3
 clear hk1 hk3
 go_enter Tryz.func149,Tryz.ntmps149
 go_upto_region 1 with fail
 go_region
 rw [HV.out];clear a0 a1 b0 b1 b2 b3 b4 c0 c1 k0 k1 k2 k3 k4
 go_upto_region 3 with fail
 rw [HV2.out];clear d1 df;have u0:=HT.out.c0;have u1:=HT.out.c1
 go_wp2_with fail
 clear u0 u1;refine (HF.out.unary (Ex.Res.ok () s.skip:Ex.Res Unit) X _ d (s.p+1) _ q1 ⟨HQ.out,HP.out,HA.out,HS.out,by omega,hd⟩).mono ?_;rintro e w0 ⟨v0,q0,rfl,hQ0,hp0,hA0,hv0,hK0⟩;have hS0:=HS.out.rec HF.out.ends HF.out.gr .unary (by simp only [Ex.rank];omega) hv0;obtain ⟨R0,hR0⟩:∃ R,((Ex.Res.ok () s.skip:Ex.Res Unit).bind fun _ s=>f .unary d s)=R:=⟨_,rfl⟩;rw [hR0] at hA0 hS0 hv0;have HA0:=Lib.hid hA0;have HS0:=Lib.hid hS0;have HR0:=Lib.hid hR0;have Hv0:=Lib.hid hv0;have HP0:=Lib.hid hp0;have HQ0:=Lib.hid hQ0;have HK0:=Lib.hid (HK.out.trans hK0);have HT0:=Lib.hid (HT.out.kp hK0 (by omega) (by omega));have hz0:=hK0.size;clear hA0 hS0 hR0 hv0 hp0 hQ0 hK0;have y0:=HT0.out.c0;have y1:=HT0.out.c1;have y2:=HT0.out.c2;have y3:=HT0.out.c3;have y4:=HT0.out.c4
 go_wp2_with fail
 refine (qnode_any c X _ d q0 ⟨#[115,110,100]⟩ ⟨kd,[115,110,100],nm,ap⟩ ⟨#[]⟩ [v0] (some ⟨w0.heap.size,0,none⟩) 1 (HQ0.out.below ((Below.refl _ w0).alloc (Nat.le_refl _) _)) HP0.out (qints1 _ (by omega) v0) (HQ0.out.fresh _ _)).mono ?_;rintro e w9 ⟨rfl,hQ,hK⟩;have hadd:=HA0.out.add (ts:=c.ts) ⟨⟨#[115,110,100]⟩,ap.line,ap.col,⟨#[]⟩,nm,[v0].map fun (k:Nat)=>(k:Int)⟩ (fun a s9 e9=>fits_of (HS0.out.ready e9).2.2);have hkp:=HK0.out.trans (Below.then_kp ((Below.refl _ w0).alloc (Nat.le_refl _) _) hK);have heq:=qsnd_eq (f:=f) (d:=d) (s:=s) HTK.out HTI.out rfl HR0.out Hv0.out;have hlt:=qnode_lt HP0.out (ts:=c.ts) ⟨⟨#[115,110,100]⟩,ap.line,ap.col,⟨#[]⟩,nm,[v0].map fun (k:Nat)=>(k:Int)⟩;rw [heq] at hadd;have HADD:=Lib.hid hadd;have HQ9:=Lib.hid hQ;have HK9:=Lib.hid hkp;have HL:=Lib.hid hlt;clear hadd hQ hkp hlt heq hK y0 y1 y2 y3 y4
 go_wp2
 go_ret
 exact ⟨_,_,rfl,HQ9.out,HL.out,HADD.out.1,HADD.out.2,HK9.out⟩
theorem qget_eq {ts:List Tok}{f:Ex.Rec}{d:Nat}{s:Ex.S}{t:Tok}{R0:Ex.Res B}{v0:B}(ht:Ex.tk ts s.p=t)(hi:t.int=0)(htx:t.text=[33])(h0:((Ex.Res.ok () s.skip:Ex.Res Unit).bind fun _ s=>Ex.name ts s)=R0)(l0:∀ x s,R0 = .ok x s->v0=x):
  (R0.bind fun _ s=>Ex.addN ts ⟨⟨#[103,101,116]⟩,t.at_.line,t.at_.col,⟨v0.toArray⟩,t.int,[].map fun (k:Nat)=>(k:Int)⟩ s)=Ex.named ts [103,101,116] s:=by
 subst h0;subst ht;rw [hi];unfold Ex.named;simp only [Ex.Res.bind] at l0 ⊢
 cases e0:Ex.name ts s.skip with
 | bad c p=>rfl
 | out=>rfl
 | ok x0 s0 =>
  simp only [e0,Ex.Res.bind] at l0 ⊢;obtain rfl:=l0 x0 s0 rfl
  rfl
theorem qget_any (c:Cx)(X:Nat->Prop)(w:World)(d n:Nat)(f:Ex.Rec)(q:Qs)(s:Ex.S)(t:Tok)(hF:QSpec c n f)(h:Pre c X w d n 0 s.p [] (Ex.Res.ok () s:Ex.Res Unit) q)(hn:10*(c.ts.length-s.p)<n)(htk:Ex.tk c.ts s.p=t)(hx:t.text=[33])(hk1:t.kind≠1)(hk3:t.kind≠3):
  Calls Tryz.prog 149 #[.pointer (some ⟨c.r,0,none⟩)] w (QP c X w d (Ex.named c.ts [103,101,116] s)):=by
 obtain ⟨hqp,hqn,hqc⟩:=h.abs;have hnx:s.p+1<c.ts.length:=hF.ts.next (by rw [htk];have:=hF.ts.kind0 (p:=s.p);rw [htk,hx] at this;exact this (by simp));have hti:t.int=0:=by rw [<- htk] at hk3 ⊢;exact hF.ts.num hk3
 have hr1:=h.qd.rlt;have hbt:=h.qd.bt;have hsz:=h.qd.size;have hd:=h.deep;obtain ⟨a0,a1,b0,b1,b2,b3,b4,c0,c1,k0,k1,k2,k3,k4,wr,w1,few,room⟩:=h.qd.looks h.lt;rw [hqp,htk] at b0 b1 b2 b3 b4 k0 k1 k2 k3 k4;rw [hqp] at a1 c1 wr w1;obtain ⟨V,hV⟩:∃ V,(w.alloc (.cells #[.int .i64 t.kind,.string ⟨t.text.toArray⟩,.int .i64 t.int,.int .i64 t.at_.line,.int .i64 t.at_.col] 109)).drew=V:=⟨_,rfl⟩;have hbV:Below w.heap.size w V:=by rw [<- hV];exact Below.drawn w _
 have hT:Fiq V w.heap.size t:=by rw [<- hV];exact Fiq.drawn w t
 have hQV:=h.qd.below hbV;have d1:=hQV.c1;have df:=hQV.fz;rw [hqp] at d1;obtain ⟨V2,hV2⟩:∃ V2,V.setCell ⟨c.r,1,none⟩ (.int .i64 ((s.p:Int)+1))=V2:=⟨_,rfl⟩;obtain ⟨hQ,hK⟩:=hQV.setp (p':=s.p+1) (by omega);rw [show (((s.p+1:Nat):Int))=(s.p:Int)+1 by omega,hV2] at hQ hK;obtain ⟨q1,hq1⟩:∃ q1,(⟨s.p+1,q.ns,q.cd,q.bp⟩:Qs)=q1:=⟨_,rfl⟩;rw [hq1] at hQ;have hp1:q1.p<c.ts.length:=by rw [<- hq1];exact hnx
 have hA1:Abs (Ex.Res.ok () s.skip:Ex.Res Unit) q1:=by rw [<- hq1];exact ⟨rfl,hqn,hqc⟩
 have hS1:St c.ts (s.p+1) [] (Ex.Res.ok () s.skip:Ex.Res Unit):=⟨(h.st.ready rfl).1.skip (by omega),Nat.le_refl _,fun k hk=>by cases hk⟩;have hT2:=hT.kp hK (by omega) (by omega);have hzV:=hbV.size;have hzV2:=hK.size;have hzT:=hT.lt;obtain ⟨kd,tx,nm,ap⟩:=t;simp only at hx hk1 hk3;subst hx;have HF:=Lib.hid hF;have HQ:=Lib.hid hQ;have HP:=Lib.hid hp1;have HA:=Lib.hid hA1;have HS:=Lib.hid hS1;have HK:=Lib.hid ((Kp.of_below (c:=c) hbV).trans hK);have HT:=Lib.hid hT2;have HV:=Lib.hid hV;have HV2:=Lib.hid hV2;have HTK:=Lib.hid htk;have HTI:=Lib.hid hti;have HNX:=Lib.hid hnx;clear hF h hbV hT hQV hQ hK hq1 hp1 hA1 hS1 hT2 hV hV2 htk hti hnx;have hk1n:(kd==1)=false:=by simpa using hk1
 have hk3n:(kd==3)=false:=by simpa using hk3
 clear hk1 hk3
 go_enter Tryz.func149,Tryz.ntmps149
 go_upto_region 1 with fail
 go_region
 rw [HV.out];clear a0 a1 b0 b1 b2 b3 b4 c0 c1 k0 k1 k2 k3 k4
 go_upto_region 3 with fail
 rw [HV2.out];clear d1 df;have u0:=HT.out.c0;have u1:=HT.out.c1
 go_wp2_with fail
 clear u0 u1;refine (qkind_any c X _ d q1 1 HQ.out HP.out).mono ?_;rintro e w0 ⟨rfl,hQ0,hK0⟩;have hp0:=qkind_lt HF.out.ts HP.out (k:=1) (by decide);obtain ⟨hA0,hv0⟩:=HA.out.name (ts:=c.ts);have hS0:=HS.out.name;generalize qkind c.ts q1 1=q0 at *;generalize qkindT c.ts q1 1=t0 at *;obtain ⟨R0,hR0⟩:∃ R,((Ex.Res.ok () s.skip:Ex.Res Unit).bind fun _ s=>Ex.name c.ts s)=R:=⟨_,rfl⟩;rw [hR0] at hA0 hS0 hv0;have HA0:=Lib.hid hA0;have HS0:=Lib.hid hS0;have HR0:=Lib.hid hR0;have Hv0:=Lib.hid hv0;have HP0:=Lib.hid hp0;have HQ0:=Lib.hid hQ0;have HK0:=Lib.hid (HK.out.trans hK0);have HT0:=Lib.hid (HT.out.kp hK0 (by omega) (by omega));have hz0:=hK0.size;clear hA0 hS0 hR0 hv0 hp0 hQ0 hK0;obtain ⟨V0,hV0⟩:∃ V,w0.alloc (.cells #[.int .i64 t0.kind,.string ⟨t0.text.toArray⟩,.int .i64 t0.int,.int .i64 t0.at_.line,.int .i64 t0.at_.col] 109)=V:=⟨_,rfl⟩;have hbV0:Below w0.heap.size w0 V0:=by rw [<- hV0];exact (Below.refl _ w0).alloc (Nat.le_refl _) _
 have hM0:Fiq V0 w0.heap.size t0:=by rw [<- hV0];exact Fiq.new w0 t0
 have HQ0v:=Lib.hid (HQ0.out.below hbV0);have HK0v:=Lib.hid (HK0.out.then_below hbV0);have HT0v:=Lib.hid (HT0.out.below hbV0);have HM0:=Lib.hid hM0;have HV0:=Lib.hid hV0;have hzv0:=hbV0.size;clear hbV0 hM0 hV0;unfold tval;have y0:=HT0v.out.c0;have y1:=HT0v.out.c1;have y2:=HT0v.out.c2;have y3:=HT0v.out.c3;have y4:=HT0v.out.c4;have z1:=HM0.out.c1;rw [<- HV0.out] at y0 y1 y2 y3 y4 z1
 go_wp2_with fail
 rw [HV0.out];refine (qnode_any c X _ d q0 ⟨#[103,101,116]⟩ ⟨kd,[33],nm,ap⟩ ⟨t0.text.toArray⟩ [] none 0 HQ0v.out HP0.out (qints0 _ _) (fun g hg=>by cases hg)).mono ?_;rintro e w9 ⟨rfl,hQ,hK⟩;have hadd:=HA0.out.add (ts:=c.ts) ⟨⟨#[103,101,116]⟩,ap.line,ap.col,⟨t0.text.toArray⟩,nm,[].map fun (k:Nat)=>(k:Int)⟩ (fun a s9 e9=>fits_of (HS0.out.ready e9).2.2);have hkp:=HK0v.out.trans hK;have heq:=qget_eq (f:=f) (d:=d) (s:=s) HTK.out HTI.out rfl HR0.out Hv0.out;have hlt:=qnode_lt HP0.out (ts:=c.ts) ⟨⟨#[103,101,116]⟩,ap.line,ap.col,⟨t0.text.toArray⟩,nm,[].map fun (k:Nat)=>(k:Int)⟩;rw [heq] at hadd;have HADD:=Lib.hid hadd;have HQ9:=Lib.hid hQ;have HK9:=Lib.hid hkp;have HL:=Lib.hid hlt;clear hadd hQ hkp hlt heq hK y0 y1 y2 y3 y4 z1
 go_wp2
 go_ret
 exact ⟨_,_,rfl,HQ9.out,HL.out,HADD.out.1,HADD.out.2,HK9.out⟩
theorem qhole_eq {ts:List Tok}{f:Ex.Rec}{d:Nat}{s:Ex.S}{t:Tok}{R0:Ex.Res B}{v0:B}(ht:Ex.tk ts s.p=t)(hi:t.int=0)(htx:t.text=[104,111,108,101])(h0:((Ex.Res.ok () s.skip:Ex.Res Unit).bind fun _ s=>Ex.name ts s)=R0)(l0:∀ x s,R0 = .ok x s->v0=x):
  (R0.bind fun _ s=>Ex.addN ts ⟨⟨#[104,111,108,101]⟩,t.at_.line,t.at_.col,⟨v0.toArray⟩,t.int,[].map fun (k:Nat)=>(k:Int)⟩ s)=Ex.named ts [104,111,108,101] s:=by
 subst h0;subst ht;rw [hi];unfold Ex.named;simp only [Ex.Res.bind] at l0 ⊢
 cases e0:Ex.name ts s.skip with
 | bad c p=>rfl
 | out=>rfl
 | ok x0 s0 =>
  simp only [e0,Ex.Res.bind] at l0 ⊢;obtain rfl:=l0 x0 s0 rfl
  rfl
theorem qhole_any (c:Cx)(X:Nat->Prop)(w:World)(d n:Nat)(f:Ex.Rec)(q:Qs)(s:Ex.S)(t:Tok)(hF:QSpec c n f)(h:Pre c X w d n 0 s.p [] (Ex.Res.ok () s:Ex.Res Unit) q)(hn:10*(c.ts.length-s.p)<n)(htk:Ex.tk c.ts s.p=t)(hx:t.text=[104,111,108,101])(hk1:t.kind≠1)(hk3:t.kind≠3):
  Calls Tryz.prog 149 #[.pointer (some ⟨c.r,0,none⟩)] w (QP c X w d (Ex.named c.ts [104,111,108,101] s)):=by
 obtain ⟨hqp,hqn,hqc⟩:=h.abs;have hnx:s.p+1<c.ts.length:=hF.ts.next (by rw [htk];have:=hF.ts.kind0 (p:=s.p);rw [htk,hx] at this;exact this (by simp));have hti:t.int=0:=by rw [<- htk] at hk3 ⊢;exact hF.ts.num hk3
 have hr1:=h.qd.rlt;have hbt:=h.qd.bt;have hsz:=h.qd.size;have hd:=h.deep;obtain ⟨a0,a1,b0,b1,b2,b3,b4,c0,c1,k0,k1,k2,k3,k4,wr,w1,few,room⟩:=h.qd.looks h.lt;rw [hqp,htk] at b0 b1 b2 b3 b4 k0 k1 k2 k3 k4;rw [hqp] at a1 c1 wr w1;obtain ⟨V,hV⟩:∃ V,(w.alloc (.cells #[.int .i64 t.kind,.string ⟨t.text.toArray⟩,.int .i64 t.int,.int .i64 t.at_.line,.int .i64 t.at_.col] 109)).drew=V:=⟨_,rfl⟩;have hbV:Below w.heap.size w V:=by rw [<- hV];exact Below.drawn w _
 have hT:Fiq V w.heap.size t:=by rw [<- hV];exact Fiq.drawn w t
 have hQV:=h.qd.below hbV;have d1:=hQV.c1;have df:=hQV.fz;rw [hqp] at d1;obtain ⟨V2,hV2⟩:∃ V2,V.setCell ⟨c.r,1,none⟩ (.int .i64 ((s.p:Int)+1))=V2:=⟨_,rfl⟩;obtain ⟨hQ,hK⟩:=hQV.setp (p':=s.p+1) (by omega);rw [show (((s.p+1:Nat):Int))=(s.p:Int)+1 by omega,hV2] at hQ hK;obtain ⟨q1,hq1⟩:∃ q1,(⟨s.p+1,q.ns,q.cd,q.bp⟩:Qs)=q1:=⟨_,rfl⟩;rw [hq1] at hQ;have hp1:q1.p<c.ts.length:=by rw [<- hq1];exact hnx
 have hA1:Abs (Ex.Res.ok () s.skip:Ex.Res Unit) q1:=by rw [<- hq1];exact ⟨rfl,hqn,hqc⟩
 have hS1:St c.ts (s.p+1) [] (Ex.Res.ok () s.skip:Ex.Res Unit):=⟨(h.st.ready rfl).1.skip (by omega),Nat.le_refl _,fun k hk=>by cases hk⟩;have hT2:=hT.kp hK (by omega) (by omega);have hzV:=hbV.size;have hzV2:=hK.size;have hzT:=hT.lt;obtain ⟨kd,tx,nm,ap⟩:=t;simp only at hx hk1 hk3;subst hx;have HF:=Lib.hid hF;have HQ:=Lib.hid hQ;have HP:=Lib.hid hp1;have HA:=Lib.hid hA1;have HS:=Lib.hid hS1;have HK:=Lib.hid ((Kp.of_below (c:=c) hbV).trans hK);have HT:=Lib.hid hT2;have HV:=Lib.hid hV;have HV2:=Lib.hid hV2;have HTK:=Lib.hid htk;have HTI:=Lib.hid hti;have HNX:=Lib.hid hnx;clear hF h hbV hT hQV hQ hK hq1 hp1 hA1 hS1 hT2 hV hV2 htk hti hnx;have hk1n:(kd==1)=false:=by simpa using hk1
 have hk3n:(kd==3)=false:=by simpa using hk3
 clear hk1 hk3
 go_enter Tryz.func149,Tryz.ntmps149
 go_upto_region 1 with fail
 go_region
 rw [HV.out];clear a0 a1 b0 b1 b2 b3 b4 c0 c1 k0 k1 k2 k3 k4
 go_upto_region 3 with fail
 rw [HV2.out];clear d1 df;have u0:=HT.out.c0;have u1:=HT.out.c1
 go_wp2_with fail
 clear u0 u1;refine (qkind_any c X _ d q1 1 HQ.out HP.out).mono ?_;rintro e w0 ⟨rfl,hQ0,hK0⟩;have hp0:=qkind_lt HF.out.ts HP.out (k:=1) (by decide);obtain ⟨hA0,hv0⟩:=HA.out.name (ts:=c.ts);have hS0:=HS.out.name;generalize qkind c.ts q1 1=q0 at *;generalize qkindT c.ts q1 1=t0 at *;obtain ⟨R0,hR0⟩:∃ R,((Ex.Res.ok () s.skip:Ex.Res Unit).bind fun _ s=>Ex.name c.ts s)=R:=⟨_,rfl⟩;rw [hR0] at hA0 hS0 hv0;have HA0:=Lib.hid hA0;have HS0:=Lib.hid hS0;have HR0:=Lib.hid hR0;have Hv0:=Lib.hid hv0;have HP0:=Lib.hid hp0;have HQ0:=Lib.hid hQ0;have HK0:=Lib.hid (HK.out.trans hK0);have HT0:=Lib.hid (HT.out.kp hK0 (by omega) (by omega));have hz0:=hK0.size;clear hA0 hS0 hR0 hv0 hp0 hQ0 hK0;obtain ⟨V0,hV0⟩:∃ V,w0.alloc (.cells #[.int .i64 t0.kind,.string ⟨t0.text.toArray⟩,.int .i64 t0.int,.int .i64 t0.at_.line,.int .i64 t0.at_.col] 109)=V:=⟨_,rfl⟩;have hbV0:Below w0.heap.size w0 V0:=by rw [<- hV0];exact (Below.refl _ w0).alloc (Nat.le_refl _) _
 have hM0:Fiq V0 w0.heap.size t0:=by rw [<- hV0];exact Fiq.new w0 t0
 have HQ0v:=Lib.hid (HQ0.out.below hbV0);have HK0v:=Lib.hid (HK0.out.then_below hbV0);have HT0v:=Lib.hid (HT0.out.below hbV0);have HM0:=Lib.hid hM0;have HV0:=Lib.hid hV0;have hzv0:=hbV0.size;clear hbV0 hM0 hV0;unfold tval;have y0:=HT0v.out.c0;have y1:=HT0v.out.c1;have y2:=HT0v.out.c2;have y3:=HT0v.out.c3;have y4:=HT0v.out.c4;have z1:=HM0.out.c1;rw [<- HV0.out] at y0 y1 y2 y3 y4 z1
 go_wp2_with fail
 rw [HV0.out];refine (qnode_any c X _ d q0 ⟨#[104,111,108,101]⟩ ⟨kd,[104,111,108,101],nm,ap⟩ ⟨t0.text.toArray⟩ [] none 0 HQ0v.out HP0.out (qints0 _ _) (fun g hg=>by cases hg)).mono ?_;rintro e w9 ⟨rfl,hQ,hK⟩;have hadd:=HA0.out.add (ts:=c.ts) ⟨⟨#[104,111,108,101]⟩,ap.line,ap.col,⟨t0.text.toArray⟩,nm,[].map fun (k:Nat)=>(k:Int)⟩ (fun a s9 e9=>fits_of (HS0.out.ready e9).2.2);have hkp:=HK0v.out.trans hK;have heq:=qhole_eq (f:=f) (d:=d) (s:=s) HTK.out HTI.out rfl HR0.out Hv0.out;have hlt:=qnode_lt HP0.out (ts:=c.ts) ⟨⟨#[104,111,108,101]⟩,ap.line,ap.col,⟨t0.text.toArray⟩,nm,[].map fun (k:Nat)=>(k:Int)⟩;rw [heq] at hadd;have HADD:=Lib.hid hadd;have HQ9:=Lib.hid hQ;have HK9:=Lib.hid hkp;have HL:=Lib.hid hlt;clear hadd hQ hkp hlt heq hK y0 y1 y2 y3 y4 z1
 go_wp2
 go_ret
 exact ⟨_,_,rfl,HQ9.out,HL.out,HADD.out.1,HADD.out.2,HK9.out⟩
theorem qtrue_eq {ts:List Tok}{f:Ex.Rec}{d:Nat}{s:Ex.S}{t:Tok}(ht:Ex.tk ts s.p=t)(hi:t.int=0)(htx:t.text=[116,114,117,101]) :
  ((Ex.Res.ok () s.skip:Ex.Res Unit).bind fun _ s=>Ex.addN ts ⟨⟨#[116,114,117,101]⟩,t.at_.line,t.at_.col,⟨#[]⟩,t.int,[].map fun (k:Nat)=>(k:Int)⟩ s)=Ex.add ts [116,114,117,101] (Ex.at_ ts s) [] [] s.skip:=by
 subst ht;rw [hi];unfold Ex.add;simp only [Ex.Res.bind]
 rfl
theorem qtrue_any (c:Cx)(X:Nat->Prop)(w:World)(d n:Nat)(f:Ex.Rec)(q:Qs)(s:Ex.S)(t:Tok)(hF:QSpec c n f)(h:Pre c X w d n 0 s.p [] (Ex.Res.ok () s:Ex.Res Unit) q)(hn:10*(c.ts.length-s.p)<n)(htk:Ex.tk c.ts s.p=t)(hx:t.text=[116,114,117,101])(hk1:t.kind≠1)(hk3:t.kind≠3):
  Calls Tryz.prog 149 #[.pointer (some ⟨c.r,0,none⟩)] w (QP c X w d (Ex.add c.ts [116,114,117,101] (Ex.at_ c.ts s) [] [] s.skip)):=by
 obtain ⟨hqp,hqn,hqc⟩:=h.abs;have hnx:s.p+1<c.ts.length:=hF.ts.next (by rw [htk];have:=hF.ts.kind0 (p:=s.p);rw [htk,hx] at this;exact this (by simp));have hti:t.int=0:=by rw [<- htk] at hk3 ⊢;exact hF.ts.num hk3
 have hr1:=h.qd.rlt;have hbt:=h.qd.bt;have hsz:=h.qd.size;have hd:=h.deep;obtain ⟨a0,a1,b0,b1,b2,b3,b4,c0,c1,k0,k1,k2,k3,k4,wr,w1,few,room⟩:=h.qd.looks h.lt;rw [hqp,htk] at b0 b1 b2 b3 b4 k0 k1 k2 k3 k4;rw [hqp] at a1 c1 wr w1;obtain ⟨V,hV⟩:∃ V,(w.alloc (.cells #[.int .i64 t.kind,.string ⟨t.text.toArray⟩,.int .i64 t.int,.int .i64 t.at_.line,.int .i64 t.at_.col] 109)).drew=V:=⟨_,rfl⟩;have hbV:Below w.heap.size w V:=by rw [<- hV];exact Below.drawn w _
 have hT:Fiq V w.heap.size t:=by rw [<- hV];exact Fiq.drawn w t
 have hQV:=h.qd.below hbV;have d1:=hQV.c1;have df:=hQV.fz;rw [hqp] at d1;obtain ⟨V2,hV2⟩:∃ V2,V.setCell ⟨c.r,1,none⟩ (.int .i64 ((s.p:Int)+1))=V2:=⟨_,rfl⟩;obtain ⟨hQ,hK⟩:=hQV.setp (p':=s.p+1) (by omega);rw [show (((s.p+1:Nat):Int))=(s.p:Int)+1 by omega,hV2] at hQ hK;obtain ⟨q1,hq1⟩:∃ q1,(⟨s.p+1,q.ns,q.cd,q.bp⟩:Qs)=q1:=⟨_,rfl⟩;rw [hq1] at hQ;have hp1:q1.p<c.ts.length:=by rw [<- hq1];exact hnx
 have hA1:Abs (Ex.Res.ok () s.skip:Ex.Res Unit) q1:=by rw [<- hq1];exact ⟨rfl,hqn,hqc⟩
 have hS1:St c.ts (s.p+1) [] (Ex.Res.ok () s.skip:Ex.Res Unit):=⟨(h.st.ready rfl).1.skip (by omega),Nat.le_refl _,fun k hk=>by cases hk⟩;have hT2:=hT.kp hK (by omega) (by omega);have hzV:=hbV.size;have hzV2:=hK.size;have hzT:=hT.lt;obtain ⟨kd,tx,nm,ap⟩:=t;simp only at hx hk1 hk3;subst hx;have HF:=Lib.hid hF;have HQ:=Lib.hid hQ;have HP:=Lib.hid hp1;have HA:=Lib.hid hA1;have HS:=Lib.hid hS1;have HK:=Lib.hid ((Kp.of_below (c:=c) hbV).trans hK);have HT:=Lib.hid hT2;have HV:=Lib.hid hV;have HV2:=Lib.hid hV2;have HTK:=Lib.hid htk;have HTI:=Lib.hid hti;have HNX:=Lib.hid hnx;clear hF h hbV hT hQV hQ hK hq1 hp1 hA1 hS1 hT2 hV hV2 htk hti hnx;have hk1n:(kd==1)=false:=by simpa using hk1
 have hk3n:(kd==3)=false:=by simpa using hk3
 clear hk1 hk3
 go_enter Tryz.func149,Tryz.ntmps149
 go_upto_region 1 with fail
 go_region
 rw [HV.out];clear a0 a1 b0 b1 b2 b3 b4 c0 c1 k0 k1 k2 k3 k4
 go_upto_region 3 with fail
 rw [HV2.out];clear d1 df;have u0:=HT.out.c0;have u1:=HT.out.c1;have y0:=HT.out.c0;have y1:=HT.out.c1;have y2:=HT.out.c2;have y3:=HT.out.c3;have y4:=HT.out.c4
 go_wp2_with fail
 refine (qnode_any c X _ d q1 ⟨#[116,114,117,101]⟩ ⟨kd,[116,114,117,101],nm,ap⟩ ⟨#[]⟩ [] none 0 HQ.out HP.out (qints0 _ _) (fun g hg=>by cases hg)).mono ?_;rintro e w9 ⟨rfl,hQ,hK⟩;have hadd:=HA.out.add (ts:=c.ts) ⟨⟨#[116,114,117,101]⟩,ap.line,ap.col,⟨#[]⟩,nm,[].map fun (k:Nat)=>(k:Int)⟩ (fun a s9 e9=>fits_of (HS.out.ready e9).2.2);have hkp:=HK.out.trans hK;have heq:=qtrue_eq (f:=f) (d:=d) (s:=s) HTK.out HTI.out rfl;have hlt:=qnode_lt HP.out (ts:=c.ts) ⟨⟨#[116,114,117,101]⟩,ap.line,ap.col,⟨#[]⟩,nm,[].map fun (k:Nat)=>(k:Int)⟩;rw [heq] at hadd;have HADD:=Lib.hid hadd;have HQ9:=Lib.hid hQ;have HK9:=Lib.hid hkp;have HL:=Lib.hid hlt;clear hadd hQ hkp hlt heq hK y0 y1 y2 y3 y4 u0 u1
 go_wp2
 go_ret
 exact ⟨_,_,rfl,HQ9.out,HL.out,HADD.out.1,HADD.out.2,HK9.out⟩
theorem qfalse_eq {ts:List Tok}{f:Ex.Rec}{d:Nat}{s:Ex.S}{t:Tok}(ht:Ex.tk ts s.p=t)(hi:t.int=0)(htx:t.text=[102,97,108,115,101]) :
  ((Ex.Res.ok () s.skip:Ex.Res Unit).bind fun _ s=>Ex.addN ts ⟨⟨#[102,97,108,115,101]⟩,t.at_.line,t.at_.col,⟨#[]⟩,t.int,[].map fun (k:Nat)=>(k:Int)⟩ s)=Ex.add ts [102,97,108,115,101] (Ex.at_ ts s) [] [] s.skip:=by
 subst ht;rw [hi];unfold Ex.add;simp only [Ex.Res.bind]
 rfl
theorem qfalse_any (c:Cx)(X:Nat->Prop)(w:World)(d n:Nat)(f:Ex.Rec)(q:Qs)(s:Ex.S)(t:Tok)(hF:QSpec c n f)(h:Pre c X w d n 0 s.p [] (Ex.Res.ok () s:Ex.Res Unit) q)(hn:10*(c.ts.length-s.p)<n)(htk:Ex.tk c.ts s.p=t)(hx:t.text=[102,97,108,115,101])(hk1:t.kind≠1)(hk3:t.kind≠3):
  Calls Tryz.prog 149 #[.pointer (some ⟨c.r,0,none⟩)] w (QP c X w d (Ex.add c.ts [102,97,108,115,101] (Ex.at_ c.ts s) [] [] s.skip)):=by
 obtain ⟨hqp,hqn,hqc⟩:=h.abs;have hnx:s.p+1<c.ts.length:=hF.ts.next (by rw [htk];have:=hF.ts.kind0 (p:=s.p);rw [htk,hx] at this;exact this (by simp));have hti:t.int=0:=by rw [<- htk] at hk3 ⊢;exact hF.ts.num hk3
 have hr1:=h.qd.rlt;have hbt:=h.qd.bt;have hsz:=h.qd.size;have hd:=h.deep;obtain ⟨a0,a1,b0,b1,b2,b3,b4,c0,c1,k0,k1,k2,k3,k4,wr,w1,few,room⟩:=h.qd.looks h.lt;rw [hqp,htk] at b0 b1 b2 b3 b4 k0 k1 k2 k3 k4;rw [hqp] at a1 c1 wr w1;obtain ⟨V,hV⟩:∃ V,(w.alloc (.cells #[.int .i64 t.kind,.string ⟨t.text.toArray⟩,.int .i64 t.int,.int .i64 t.at_.line,.int .i64 t.at_.col] 109)).drew=V:=⟨_,rfl⟩;have hbV:Below w.heap.size w V:=by rw [<- hV];exact Below.drawn w _
 have hT:Fiq V w.heap.size t:=by rw [<- hV];exact Fiq.drawn w t
 have hQV:=h.qd.below hbV;have d1:=hQV.c1;have df:=hQV.fz;rw [hqp] at d1;obtain ⟨V2,hV2⟩:∃ V2,V.setCell ⟨c.r,1,none⟩ (.int .i64 ((s.p:Int)+1))=V2:=⟨_,rfl⟩;obtain ⟨hQ,hK⟩:=hQV.setp (p':=s.p+1) (by omega);rw [show (((s.p+1:Nat):Int))=(s.p:Int)+1 by omega,hV2] at hQ hK;obtain ⟨q1,hq1⟩:∃ q1,(⟨s.p+1,q.ns,q.cd,q.bp⟩:Qs)=q1:=⟨_,rfl⟩;rw [hq1] at hQ;have hp1:q1.p<c.ts.length:=by rw [<- hq1];exact hnx
 have hA1:Abs (Ex.Res.ok () s.skip:Ex.Res Unit) q1:=by rw [<- hq1];exact ⟨rfl,hqn,hqc⟩
 have hS1:St c.ts (s.p+1) [] (Ex.Res.ok () s.skip:Ex.Res Unit):=⟨(h.st.ready rfl).1.skip (by omega),Nat.le_refl _,fun k hk=>by cases hk⟩;have hT2:=hT.kp hK (by omega) (by omega);have hzV:=hbV.size;have hzV2:=hK.size;have hzT:=hT.lt;obtain ⟨kd,tx,nm,ap⟩:=t;simp only at hx hk1 hk3;subst hx;have HF:=Lib.hid hF;have HQ:=Lib.hid hQ;have HP:=Lib.hid hp1;have HA:=Lib.hid hA1;have HS:=Lib.hid hS1;have HK:=Lib.hid ((Kp.of_below (c:=c) hbV).trans hK);have HT:=Lib.hid hT2;have HV:=Lib.hid hV;have HV2:=Lib.hid hV2;have HTK:=Lib.hid htk;have HTI:=Lib.hid hti;have HNX:=Lib.hid hnx;clear hF h hbV hT hQV hQ hK hq1 hp1 hA1 hS1 hT2 hV hV2 htk hti hnx;have hk1n:(kd==1)=false:=by simpa using hk1
 have hk3n:(kd==3)=false:=by simpa using hk3
 clear hk1 hk3
 go_enter Tryz.func149,Tryz.ntmps149
 go_upto_region 1 with fail
 go_region
 rw [HV.out];clear a0 a1 b0 b1 b2 b3 b4 c0 c1 k0 k1 k2 k3 k4
 go_upto_region 3 with fail
 rw [HV2.out];clear d1 df;have u0:=HT.out.c0;have u1:=HT.out.c1;have y0:=HT.out.c0;have y1:=HT.out.c1;have y2:=HT.out.c2;have y3:=HT.out.c3;have y4:=HT.out.c4
 go_wp2_with fail
 refine (qnode_any c X _ d q1 ⟨#[102,97,108,115,101]⟩ ⟨kd,[102,97,108,115,101],nm,ap⟩ ⟨#[]⟩ [] none 0 HQ.out HP.out (qints0 _ _) (fun g hg=>by cases hg)).mono ?_;rintro e w9 ⟨rfl,hQ,hK⟩;have hadd:=HA.out.add (ts:=c.ts) ⟨⟨#[102,97,108,115,101]⟩,ap.line,ap.col,⟨#[]⟩,nm,[].map fun (k:Nat)=>(k:Int)⟩ (fun a s9 e9=>fits_of (HS.out.ready e9).2.2);have hkp:=HK.out.trans hK;have heq:=qfalse_eq (f:=f) (d:=d) (s:=s) HTK.out HTI.out rfl;have hlt:=qnode_lt HP.out (ts:=c.ts) ⟨⟨#[102,97,108,115,101]⟩,ap.line,ap.col,⟨#[]⟩,nm,[].map fun (k:Nat)=>(k:Int)⟩;rw [heq] at hadd;have HADD:=Lib.hid hadd;have HQ9:=Lib.hid hQ;have HK9:=Lib.hid hkp;have HL:=Lib.hid hlt;clear hadd hQ hkp hlt heq hK y0 y1 y2 y3 y4 u0 u1
 go_wp2
 go_ret
 exact ⟨_,_,rfl,HQ9.out,HL.out,HADD.out.1,HADD.out.2,HK9.out⟩
theorem qrelease_eq {ts:List Tok}{f:Ex.Rec}{d:Nat}{s:Ex.S}{t:Tok}{R0:Ex.Res B}{R1:Ex.Res Unit}{R2:Ex.Res Nat}{R3:Ex.Res Unit}{v0:B}{v2:Nat}(ht:Ex.tk ts s.p=t)(hi:t.int=0)(htx:t.text=[114,101,108,101,97,115,101])(h0:((Ex.Res.ok () s.skip:Ex.Res Unit).bind fun _ s=>Ex.name ts s)=R0)(l0:∀ x s,R0 = .ok x s->v0=x)(h1:(R0.bind fun _ s=>Ex.take ts [40] s)=R1)(h2:(R1.bind fun _ s=>f .all d s)=R2)(l2:∀ x s,R2 = .ok x s->v2=x)(h3:(R2.bind fun _ s=>Ex.take ts [41] s)=R3):
  (R3.bind fun _ s=>Ex.addN ts ⟨⟨#[114,101,108,101,97,115,101]⟩,t.at_.line,t.at_.col,⟨v0.toArray⟩,t.int,[v2].map fun (k:Nat)=>(k:Int)⟩ s)=Ex.releaseF ts f d s:=by
 subst h3;subst h2;subst h1;subst h0;subst ht;rw [hi];unfold Ex.releaseF;simp only [Ex.Res.bind] at l0 l2 ⊢
 cases e0:Ex.name ts s.skip with
 | bad c p=>rfl
 | out=>rfl
 | ok x0 s0 =>
  simp only [e0,Ex.Res.bind] at l0 l2 ⊢;obtain rfl:=l0 x0 s0 rfl
  cases e1:Ex.take ts [40] s0 with
  | bad c p=>rfl
  | out=>rfl
  | ok x1 s1 =>
   simp only [e1,Ex.Res.bind] at l2 ⊢
   cases e2:f .all d s1 with
   | bad c p=>rfl
   | out=>rfl
   | ok x2 s2 =>
    simp only [e2,Ex.Res.bind] at l2 ⊢;obtain rfl:=l2 x2 s2 rfl
    cases e3:Ex.take ts [41] s2 with
    | bad c p=>rfl
    | out=>rfl
    | ok x3 s3 =>
     simp only [e3,Ex.Res.bind]
     rfl
theorem qrelease_any (c:Cx)(X:Nat->Prop)(w:World)(d n:Nat)(f:Ex.Rec)(q:Qs)(s:Ex.S)(t:Tok)(hF:QSpec c n f)(h:Pre c X w d n 0 s.p [] (Ex.Res.ok () s:Ex.Res Unit) q)(hn:10*(c.ts.length-s.p)<n)(htk:Ex.tk c.ts s.p=t)(hx:t.text=[114,101,108,101,97,115,101])(hk1:t.kind≠1)(hk3:t.kind≠3):
  Calls Tryz.prog 149 #[.pointer (some ⟨c.r,0,none⟩)] w (QP c X w d (Ex.releaseF c.ts f d s)):=by
 obtain ⟨hqp,hqn,hqc⟩:=h.abs;have hnx:s.p+1<c.ts.length:=hF.ts.next (by rw [htk];have:=hF.ts.kind0 (p:=s.p);rw [htk,hx] at this;exact this (by simp));have hti:t.int=0:=by rw [<- htk] at hk3 ⊢;exact hF.ts.num hk3
 have hr1:=h.qd.rlt;have hbt:=h.qd.bt;have hsz:=h.qd.size;have hd:=h.deep;obtain ⟨a0,a1,b0,b1,b2,b3,b4,c0,c1,k0,k1,k2,k3,k4,wr,w1,few,room⟩:=h.qd.looks h.lt;rw [hqp,htk] at b0 b1 b2 b3 b4 k0 k1 k2 k3 k4;rw [hqp] at a1 c1 wr w1;obtain ⟨V,hV⟩:∃ V,(w.alloc (.cells #[.int .i64 t.kind,.string ⟨t.text.toArray⟩,.int .i64 t.int,.int .i64 t.at_.line,.int .i64 t.at_.col] 109)).drew=V:=⟨_,rfl⟩;have hbV:Below w.heap.size w V:=by rw [<- hV];exact Below.drawn w _
 have hT:Fiq V w.heap.size t:=by rw [<- hV];exact Fiq.drawn w t
 have hQV:=h.qd.below hbV;have d1:=hQV.c1;have df:=hQV.fz;rw [hqp] at d1;obtain ⟨V2,hV2⟩:∃ V2,V.setCell ⟨c.r,1,none⟩ (.int .i64 ((s.p:Int)+1))=V2:=⟨_,rfl⟩;obtain ⟨hQ,hK⟩:=hQV.setp (p':=s.p+1) (by omega);rw [show (((s.p+1:Nat):Int))=(s.p:Int)+1 by omega,hV2] at hQ hK;obtain ⟨q1,hq1⟩:∃ q1,(⟨s.p+1,q.ns,q.cd,q.bp⟩:Qs)=q1:=⟨_,rfl⟩;rw [hq1] at hQ;have hp1:q1.p<c.ts.length:=by rw [<- hq1];exact hnx
 have hA1:Abs (Ex.Res.ok () s.skip:Ex.Res Unit) q1:=by rw [<- hq1];exact ⟨rfl,hqn,hqc⟩
 have hS1:St c.ts (s.p+1) [] (Ex.Res.ok () s.skip:Ex.Res Unit):=⟨(h.st.ready rfl).1.skip (by omega),Nat.le_refl _,fun k hk=>by cases hk⟩;have hT2:=hT.kp hK (by omega) (by omega);have hzV:=hbV.size;have hzV2:=hK.size;have hzT:=hT.lt;obtain ⟨kd,tx,nm,ap⟩:=t;simp only at hx hk1 hk3;subst hx;have HF:=Lib.hid hF;have HQ:=Lib.hid hQ;have HP:=Lib.hid hp1;have HA:=Lib.hid hA1;have HS:=Lib.hid hS1;have HK:=Lib.hid ((Kp.of_below (c:=c) hbV).trans hK);have HT:=Lib.hid hT2;have HV:=Lib.hid hV;have HV2:=Lib.hid hV2;have HTK:=Lib.hid htk;have HTI:=Lib.hid hti;have HNX:=Lib.hid hnx;clear hF h hbV hT hQV hQ hK hq1 hp1 hA1 hS1 hT2 hV hV2 htk hti hnx;have hk1n:(kd==1)=false:=by simpa using hk1
 have hk3n:(kd==3)=false:=by simpa using hk3
 clear hk1 hk3
 go_enter Tryz.func149,Tryz.ntmps149
 go_upto_region 1 with fail
 go_region
 rw [HV.out];clear a0 a1 b0 b1 b2 b3 b4 c0 c1 k0 k1 k2 k3 k4
 go_upto_region 3 with fail
 rw [HV2.out];clear d1 df;have u0:=HT.out.c0;have u1:=HT.out.c1
 go_wp2_with fail
 clear u0 u1;refine (qkind_any c X _ d q1 1 HQ.out HP.out).mono ?_;rintro e w0 ⟨rfl,hQ0,hK0⟩;have hp0:=qkind_lt HF.out.ts HP.out (k:=1) (by decide);obtain ⟨hA0,hv0⟩:=HA.out.name (ts:=c.ts);have hS0:=HS.out.name;generalize qkind c.ts q1 1=q0 at *;generalize qkindT c.ts q1 1=t0 at *;obtain ⟨R0,hR0⟩:∃ R,((Ex.Res.ok () s.skip:Ex.Res Unit).bind fun _ s=>Ex.name c.ts s)=R:=⟨_,rfl⟩;rw [hR0] at hA0 hS0 hv0;have HA0:=Lib.hid hA0;have HS0:=Lib.hid hS0;have HR0:=Lib.hid hR0;have Hv0:=Lib.hid hv0;have HP0:=Lib.hid hp0;have HQ0:=Lib.hid hQ0;have HK0:=Lib.hid (HK.out.trans hK0);have HT0:=Lib.hid (HT.out.kp hK0 (by omega) (by omega));have hz0:=hK0.size;clear hA0 hS0 hR0 hv0 hp0 hQ0 hK0;obtain ⟨V0,hV0⟩:∃ V,w0.alloc (.cells #[.int .i64 t0.kind,.string ⟨t0.text.toArray⟩,.int .i64 t0.int,.int .i64 t0.at_.line,.int .i64 t0.at_.col] 109)=V:=⟨_,rfl⟩;have hbV0:Below w0.heap.size w0 V0:=by rw [<- hV0];exact (Below.refl _ w0).alloc (Nat.le_refl _) _
 have hM0:Fiq V0 w0.heap.size t0:=by rw [<- hV0];exact Fiq.new w0 t0
 have HQ0v:=Lib.hid (HQ0.out.below hbV0);have HK0v:=Lib.hid (HK0.out.then_below hbV0);have HT0v:=Lib.hid (HT0.out.below hbV0);have HM0:=Lib.hid hM0;have HV0:=Lib.hid hV0;have hzv0:=hbV0.size;clear hbV0 hM0 hV0;unfold tval
 go_wp2_with fail
 rw [HV0.out];refine (qmust_any c X _ d q0 [40] HQ0v.out HP0.out).mono ?_;rintro e w1 ⟨rfl,hQ1,hK1⟩;have hp1:=qmust_lt HF.out.ts HP0.out [40];have hA1:=HA0.out.must (ts:=c.ts) [40];have hS1:=HS0.out.must [40];generalize qmust c.ts q0 [40]=q1 at *;obtain ⟨R1,hR1⟩:∃ R,(R0.bind fun _ s=>Ex.take c.ts [40] s)=R:=⟨_,rfl⟩;rw [hR1] at hA1 hS1;have HA1:=Lib.hid hA1;have HS1:=Lib.hid hS1;have HR1:=Lib.hid hR1;have HP1:=Lib.hid hp1;have HQ1:=Lib.hid hQ1;have HK1:=Lib.hid (HK0v.out.trans hK1);have HT1:=Lib.hid (HT0v.out.kp hK1 (by omega) (by omega));have HM1:=Lib.hid (HM0.out.kp hK1 (by omega) (by omega));have hz1:=hK1.size;clear hA1 hS1 hR1 hp1 hQ1 hK1
 go_wp2_with fail
 refine (HF.out.all R1 X _ d (((s.p+1)+1)+1) _ q1 ⟨HQ1.out,HP1.out,HA1.out,HS1.out,by omega,hd⟩).mono ?_;rintro e w2 ⟨v2,q2,rfl,hQ2,hp2,hA2,hv2,hK2⟩;have hS2:=HS1.out.rec HF.out.ends HF.out.gr .all (by simp only [Ex.rank];omega) hv2;obtain ⟨R2,hR2⟩:∃ R,(R1.bind fun _ s=>f .all d s)=R:=⟨_,rfl⟩;rw [hR2] at hA2 hS2 hv2;have HA2:=Lib.hid hA2;have HS2:=Lib.hid hS2;have HR2:=Lib.hid hR2;have Hv2:=Lib.hid hv2;have HP2:=Lib.hid hp2;have HQ2:=Lib.hid hQ2;have HK2:=Lib.hid (HK1.out.trans hK2);have HT2:=Lib.hid (HT1.out.kp hK2 (by omega) (by omega));have HM2:=Lib.hid (HM1.out.kp hK2 (by omega) (by omega));have hz2:=hK2.size;clear hA2 hS2 hR2 hv2 hp2 hQ2 hK2
 go_wp2_with fail
 refine (qmust_any c X _ d q2 [41] HQ2.out HP2.out).mono ?_;rintro e w3 ⟨rfl,hQ3,hK3⟩;have hp3:=qmust_lt HF.out.ts HP2.out [41];have hA3:=HA2.out.must (ts:=c.ts) [41];have hS3:=HS2.out.must [41];generalize qmust c.ts q2 [41]=q3 at *;obtain ⟨R3,hR3⟩:∃ R,(R2.bind fun _ s=>Ex.take c.ts [41] s)=R:=⟨_,rfl⟩;rw [hR3] at hA3 hS3;have HA3:=Lib.hid hA3;have HS3:=Lib.hid hS3;have HR3:=Lib.hid hR3;have HP3:=Lib.hid hp3;have HQ3:=Lib.hid hQ3;have HK3:=Lib.hid (HK2.out.trans hK3);have HT3:=Lib.hid (HT2.out.kp hK3 (by omega) (by omega));have HM3:=Lib.hid (HM2.out.kp hK3 (by omega) (by omega));have hz3:=hK3.size;clear hA3 hS3 hR3 hp3 hQ3 hK3;have y0:=HT3.out.c0;have y1:=HT3.out.c1;have y2:=HT3.out.c2;have y3:=HT3.out.c3;have y4:=HT3.out.c4;have z1:=HM3.out.c1
 go_wp2_with fail
 refine (qnode_any c X _ d q3 ⟨#[114,101,108,101,97,115,101]⟩ ⟨kd,[114,101,108,101,97,115,101],nm,ap⟩ ⟨t0.text.toArray⟩ [v2] (some ⟨w3.heap.size,0,none⟩) 1 (HQ3.out.below ((Below.refl _ w3).alloc (Nat.le_refl _) _)) HP3.out (qints1 _ (by omega) v2) (HQ3.out.fresh _ _)).mono ?_;rintro e w9 ⟨rfl,hQ,hK⟩;have hadd:=HA3.out.add (ts:=c.ts) ⟨⟨#[114,101,108,101,97,115,101]⟩,ap.line,ap.col,⟨t0.text.toArray⟩,nm,[v2].map fun (k:Nat)=>(k:Int)⟩ (fun a s9 e9=>fits_of (HS3.out.ready e9).2.2);have hkp:=HK3.out.trans (Below.then_kp ((Below.refl _ w3).alloc (Nat.le_refl _) _) hK);have heq:=qrelease_eq (f:=f) (d:=d) (s:=s) HTK.out HTI.out rfl HR0.out Hv0.out HR1.out HR2.out Hv2.out HR3.out;have hlt:=qnode_lt HP3.out (ts:=c.ts) ⟨⟨#[114,101,108,101,97,115,101]⟩,ap.line,ap.col,⟨t0.text.toArray⟩,nm,[v2].map fun (k:Nat)=>(k:Int)⟩;rw [heq] at hadd;have HADD:=Lib.hid hadd;have HQ9:=Lib.hid hQ;have HK9:=Lib.hid hkp;have HL:=Lib.hid hlt;clear hadd hQ hkp hlt heq hK y0 y1 y2 y3 y4 z1
 go_wp2
 go_ret
 exact ⟨_,_,rfl,HQ9.out,HL.out,HADD.out.1,HADD.out.2,HK9.out⟩
end Go.Proofs.YtninlbknklbofaaGreatDoor
