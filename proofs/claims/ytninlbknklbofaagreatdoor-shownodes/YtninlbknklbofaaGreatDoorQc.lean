/- A part of the proof: A part of the proof. -/
import Derived.Test.YtninlbknklbofaaGreatDoorQr
set_option linter.unusedSimpArgs false
set_option linter.unusedVariables false
set_option maxRecDepth 100000
set_option maxHeartbeats 4000000
namespace Go.Proofs.YtninlbknklbofaaGreatDoor
section
open Go.RowKit Tn Lx
attribute [local go_sem] qtok_field0 qtok_field1 qtok_field2 qtok_field3
theorem qpair_eq {ts:List Tok}{f:Ex.Rec}{d:Nat}{s:Ex.S}{t:Tok}{R1:Ex.Res Nat}{R2:Ex.Res Unit}{R3:Ex.Res Nat}{R4:Ex.Res Unit}{v1 v3:Nat}(ht:Ex.tk ts s.p=t)(hi:t.int=0)(hno:Ex.is ts s.skip [41]=false)
  (h1:((Ex.Res.ok () s.skip:Ex.Res Unit).bind fun _ s=>f .all d s)=R1) (l1:∀ x s,R1 = .ok x s->v1=x) (hx:∀ a s',R1 = .ok a s'->Ex.is ts s' [41]=false) (h2:(R1.bind fun _ s=>Ex.take ts [44] s)=R2) (h3:(R2.bind fun _ s=>f .all d s)=R3) (l3:∀ x s,R3 = .ok x s->v3=x) (h4:(R3.bind fun _ s=>Ex.take ts [41] s)=R4):
  (R4.bind fun _ s=>Ex.addN ts ⟨⟨#[112,97,105,114]⟩,t.at_.line,t.at_.col,⟨#[]⟩,t.int,[v1,v3].map fun (k:Nat)=>(k:Int)⟩ s)=Ex.bracketsF ts f d s:=by
 subst h4;subst h3;subst h2;subst h1;subst ht;rw [hi];unfold Ex.bracketsF;rw [if_neg (by rw [hno];decide)];simp only [Ex.Res.bind] at l1 l3 hx ⊢
 cases e1:f .all d s.skip with
 | bad c p=>rfl
 | out=>rfl
 | ok x1 s1 =>
  simp only [e1,Ex.Res.bind] at l1 l3 hx ⊢;obtain rfl:=l1 x1 s1 rfl;have h41:=hx v1 s1 rfl
  cases e44:Ex.is ts s1 [44] with
  | false =>
   have e2:Ex.take ts [44] s1=Ex.wrong ts 5 s1:=by rw [Ex.take,if_neg (by rw [e44];decide)]
   have e3:Ex.take ts [41] s1=Ex.wrong ts 5 s1:=by rw [Ex.take,if_neg (by rw [h41];decide)]
   rw [if_neg (by decide),e2,e3];rfl
  | true =>
   have e2:Ex.take ts [44] s1 = .ok () s1.skip:=by rw [Ex.take,if_pos e44]
   rw [if_pos rfl];simp only [e2,Ex.Res.bind] at l3 ⊢
   cases e3:f .all d s1.skip with
   | bad c p=>rfl
   | out=>rfl
   | ok x3 s3 =>
    simp only [e3,Ex.Res.bind] at l3 ⊢;obtain rfl:=l3 x3 s3 rfl
    cases e4:Ex.take ts [41] s3 with
    | bad c p=>rfl
    | out=>rfl
    | ok x4 s4=>rfl
theorem qpair_any (c:Cx)(X:Nat->Prop)(w:World)(d n:Nat)(f:Ex.Rec)(q:Qs)(s:Ex.S)(t:Tok)(hF:QSpec c n f)(h:Pre c X w d n 0 (s.p+1) [] (Ex.Res.ok () s.skip:Ex.Res Unit) q)(hn:10*(c.ts.length-s.p)<n)(hsl:s.p<c.ts.length)(htk:Ex.tk c.ts s.p=t)(hk3:t.kind≠3)(hno:Ex.is c.ts s.skip [41]=false):
  Calls Tryz.prog 164 #[.pointer (some ⟨c.r,0,none⟩),tval t] w (QP c X w d (Ex.bracketsF c.ts f d s)):=by
 have hti:t.int=0:=by rw [<- htk] at hk3 ⊢;exact hF.ts.num hk3
 have hr1:=h.qd.rlt;have hbt:=h.qd.bt;have hsz:=h.qd.size;have hd:=h.deep;obtain ⟨W,hW⟩:∃ W,w.alloc (.cells #[.int .i64 t.kind,.string ⟨t.text.toArray⟩,.int .i64 t.int,.int .i64 t.at_.line,.int .i64 t.at_.col] 109)=W:=⟨_,rfl⟩;have hbW:Below w.heap.size w W:=by rw [<- hW];exact (Below.refl _ w).alloc (Nat.le_refl _) _
 have hzW:w.heap.size<W.heap.size:=by rw [<- hW];simp
 have hT0:Fiq W w.heap.size t:=by rw [<- hW];exact Fiq.new w t
 have HF:=Lib.hid hF;have HQ:=Lib.hid (h.qd.below hbW);have HP:=Lib.hid h.lt;have HA:=Lib.hid h.abs;have HS:=Lib.hid h.st;have HK:=Lib.hid (Kp.of_below (c:=c) hbW);have HT:=Lib.hid hT0;have HW:=Lib.hid hW;have HTK:=Lib.hid htk;have HTI:=Lib.hid hti;have HNO:=Lib.hid hno;clear hF h hbW hT0 hW htk hti hk3 hno;unfold tval
 go_enter Tryz.func164,Tryz.ntmps164
 have t1:=HT.out.c1
 go_wp2_with fail
 rw [HW.out];clear t1;have hqi:qis c.ts q [41]=false:=(HA.out.is_eq (ts:=c.ts) [41]).trans HNO.out;have hC:=qtake_any c X W d q [41] HQ.out HP.out;rw [hqi,show qtake c.ts q [41]=q by unfold qtake;rw [hqi];rfl] at hC;refine hC.mono ?_;rintro e w0 ⟨rfl,hQ0,hK0⟩;have HQ0:=Lib.hid hQ0;have HK0:=Lib.hid (HK.out.trans hK0);have HT0:=Lib.hid (HT.out.kp hK0 (by omega) (by omega));have hz0:=hK0.size;clear hQ0 hK0 hC hqi
 go_wp2_with fail
 refine (HF.out.all (Ex.Res.ok () s.skip:Ex.Res Unit) X _ d (s.p+1) _ q ⟨HQ0.out,HP.out,HA.out,HS.out,by omega,hd⟩).mono ?_;rintro e w1 ⟨v1,q1,rfl,hQ1,hp1,hA1,hv1,hK1⟩;have hS1:=HS.out.rec HF.out.ends HF.out.gr .all (by simp only [Ex.rank];omega) hv1;obtain ⟨R1,hR1⟩:∃ R,((Ex.Res.ok () s.skip:Ex.Res Unit).bind fun _ s=>f .all d s)=R:=⟨_,rfl⟩;rw [hR1] at hA1 hS1 hv1;have HA1:=Lib.hid hA1;have HS1:=Lib.hid hS1;have HR1:=Lib.hid hR1;have Hv1:=Lib.hid hv1;have HP1:=Lib.hid hp1;have HQ1:=Lib.hid hQ1;have HK1:=Lib.hid (HK0.out.trans hK1);have HT1:=Lib.hid (HT0.out.kp hK1 (by omega) (by omega));have hz1:=hK1.size;clear hA1 hS1 hR1 hv1 hp1 hQ1 hK1
 cases hq1:qis c.ts q1 [41] with
 | true =>
  obtain ⟨a,s1,hRa,hi,_⟩:=HA1.out.take_ok (ts:=c.ts) hq1;obtain rfl:v1=a:=Hv1.out a s1 hRa;have hfin:Ex.bracketsF c.ts f d s = .ok v1 s1.skip:=by
   have e1:f .all d s.skip = .ok v1 s1:=HR1.out.trans hRa;have e44:Ex.is c.ts s1 [44]=false:=by
    unfold Ex.is Ex.isT at hi ⊢;have:=eq_of_beq (Bool.and_eq_true _ _ ▸ hi).2;rw [this];simp
   unfold Ex.bracketsF;rw [if_neg (by rw [HNO.out];decide),e1]
   show (if Ex.is c.ts s1 [44]=true then _ else _)=_
   rw [if_neg (by rw [e44];decide),Ex.take,if_pos hi];rfl
  have hC:=qtake_tr HQ1.out HP1.out hq1;have hA9:Abs (Ex.bracketsF c.ts f d s) q1.skip:=by
   rw [hfin];have:=HA1.out;rw [hRa] at this;exact this.skip_ok (ts:=c.ts)
  have hp9:q1.skip.p<c.ts.length:=qis_lt HF.out.ts hq1;have HFIN:=Lib.hid hfin;have HC:=Lib.hid hC;have HA9:=Lib.hid hA9;have HP9:=Lib.hid hp9;clear hfin hC hA9 hp9 hq1 hRa hi
  go_wp2_with fail
  refine HC.out.mono ?_;rintro e w2 ⟨rfl,hQ2,hK2⟩;have HQ2:=Lib.hid hQ2;have HK2:=Lib.hid (HK1.out.trans hK2);clear hQ2 hK2
  go_wp2
  go_ret
  exact ⟨v1,_,rfl,HQ2.out,HP9.out,HA9.out,(fun i s2 e=>by rw [HFIN.out] at e;cases e;rfl),HK2.out⟩
 | false =>
  have hxx:=fun a s' (e:R1 = .ok a s')=>(HA1.out.take_no (ts:=c.ts) hq1).1 a s' e;have hC:=qtake_fa HQ1.out HP1.out hq1;have HC:=Lib.hid hC;have HX:=Lib.hid hxx;clear hC hxx hq1
  go_wp2_with fail
  refine HC.out.mono ?_;rintro e w5 ⟨rfl,hQ5,hK5⟩;have HQ5:=Lib.hid hQ5;have HK5:=Lib.hid (HK1.out.trans hK5);have HT5:=Lib.hid (HT1.out.kp hK5 (by omega) (by omega));have hz5:=hK5.size;clear hQ5 hK5
  go_wp2_with fail
  refine (qmust_any c X _ d q1 [44] HQ5.out HP1.out).mono ?_;rintro e w2 ⟨rfl,hQ2,hK2⟩;have hp2:=qmust_lt HF.out.ts HP1.out [44];have hA2:=HA1.out.must (ts:=c.ts) [44];have hS2:=HS1.out.must [44];generalize qmust c.ts q1 [44]=q2 at *;obtain ⟨R2,hR2⟩:∃ R,(R1.bind fun _ s=>Ex.take c.ts [44] s)=R:=⟨_,rfl⟩;rw [hR2] at hA2 hS2;have HA2:=Lib.hid hA2;have HS2:=Lib.hid hS2;have HR2:=Lib.hid hR2;have HP2:=Lib.hid hp2;have HQ2:=Lib.hid hQ2;have HK2:=Lib.hid (HK5.out.trans hK2);have HT2:=Lib.hid (HT5.out.kp hK2 (by omega) (by omega));have hz2:=hK2.size;clear hA2 hS2 hR2 hp2 hQ2 hK2
  go_wp2_with fail
  refine (HF.out.all R2 X _ d (((s.p+1)+1)+1) _ q2 ⟨HQ2.out,HP2.out,HA2.out,HS2.out,by omega,hd⟩).mono ?_;rintro e w3 ⟨v3,q3,rfl,hQ3,hp3,hA3,hv3,hK3⟩;have hS3:=HS2.out.rec HF.out.ends HF.out.gr .all (by simp only [Ex.rank];omega) hv3;obtain ⟨R3,hR3⟩:∃ R,(R2.bind fun _ s=>f .all d s)=R:=⟨_,rfl⟩;rw [hR3] at hA3 hS3 hv3;have HA3:=Lib.hid hA3;have HS3:=Lib.hid hS3;have HR3:=Lib.hid hR3;have Hv3:=Lib.hid hv3;have HP3:=Lib.hid hp3;have HQ3:=Lib.hid hQ3;have HK3:=Lib.hid (HK2.out.trans hK3);have HT3:=Lib.hid (HT2.out.kp hK3 (by omega) (by omega));have hz3:=hK3.size;clear hA3 hS3 hR3 hv3 hp3 hQ3 hK3
  go_wp2_with fail
  refine (qmust_any c X _ d q3 [41] HQ3.out HP3.out).mono ?_;rintro e w4 ⟨rfl,hQ4,hK4⟩;have hp4:=qmust_lt HF.out.ts HP3.out [41];have hA4:=HA3.out.must (ts:=c.ts) [41];have hS4:=HS3.out.must [41];generalize qmust c.ts q3 [41]=q4 at *;obtain ⟨R4,hR4⟩:∃ R,(R3.bind fun _ s=>Ex.take c.ts [41] s)=R:=⟨_,rfl⟩;rw [hR4] at hA4 hS4;have HA4:=Lib.hid hA4;have HS4:=Lib.hid hS4;have HR4:=Lib.hid hR4;have HP4:=Lib.hid hp4;have HQ4:=Lib.hid hQ4;have HK4:=Lib.hid (HK3.out.trans hK4);have HT4:=Lib.hid (HT3.out.kp hK4 (by omega) (by omega));have hz4:=hK4.size;clear hA4 hS4 hR4 hp4 hQ4 hK4;have y0:=HT4.out.c0;have y1:=HT4.out.c1;have y2:=HT4.out.c2;have y3:=HT4.out.c3;have y4:=HT4.out.c4
  go_wp2_with fail
  refine (qnode_any c X _ d q4 ⟨#[112,97,105,114]⟩ t ⟨#[]⟩ [v1,v3] (some ⟨w4.heap.size,0,none⟩) 2 (HQ4.out.below ((Below.refl _ w4).alloc (Nat.le_refl _) _)) HP4.out (qints2 _ (by omega) v1 v3) (HQ4.out.fresh _ _)).mono ?_;rintro e w9 ⟨rfl,hQ,hK⟩;have hadd:=HA4.out.add (ts:=c.ts) ⟨⟨#[112,97,105,114]⟩,t.at_.line,t.at_.col,⟨#[]⟩,t.int,[v1,v3].map fun (k:Nat)=>(k:Int)⟩ (fun a s9 e9=>fits_of (HS4.out.ready e9).2.2);have hkp:=HK4.out.trans (Below.then_kp ((Below.refl _ w4).alloc (Nat.le_refl _) _) hK);have heq:=qpair_eq (f:=f) (d:=d) (s:=s) HTK.out HTI.out HNO.out HR1.out Hv1.out HX.out HR2.out HR3.out Hv3.out HR4.out;have hlt:=qnode_lt HP4.out (ts:=c.ts) ⟨⟨#[112,97,105,114]⟩,t.at_.line,t.at_.col,⟨#[]⟩,t.int,[v1,v3].map fun (k:Nat)=>(k:Int)⟩;rw [heq] at hadd;have HADD:=Lib.hid hadd;have HQ9:=Lib.hid hQ;have HK9:=Lib.hid hkp;have HL:=Lib.hid hlt;clear hadd hQ hkp hlt heq hK y0 y1 y2 y3 y4
  go_wp2
  go_ret
  exact ⟨_,_,rfl,HQ9.out,HL.out,HADD.out.1,HADD.out.2,HK9.out⟩
end
section
open Go.RowKit Tn Lx
attribute [local go_sem] qtok_field0 qtok_field1 qtok_field2 qtok_field3
theorem qcall_eq {ts:List Tok}{f:Ex.Rec}{d n:Nat}{s:Ex.S}{t:Tok}{l:List Nat}(ht:Ex.tk ts s.p=t)(hi:t.int=0)(hyes:Ex.is ts s.skip [40]=true)(hl:∀ a s',Ex.args ts n (f .all d) s.skip.skip = .ok a s'->l=a):
  ((Ex.args ts n (f .all d) s.skip.skip).bind fun _ s=>Ex.addN ts ⟨⟨#[99,97,108,108]⟩,t.at_.line,t.at_.col,⟨t.text.toArray⟩,t.int,l.map fun (k:Nat)=>(k:Int)⟩ s)=Ex.varF ts n f d s:=by
 subst ht;rw [hi];unfold Ex.varF;rw [if_pos hyes]
 cases e:Ex.args ts n (f .all d) s.skip.skip with
 | bad c p=>rfl
 | out=>rfl
 | ok a s1 =>
  obtain rfl:=hl a s1 e
  rfl
theorem qcall_any (c:Cx)(X:Nat->Prop)(w:World)(d n:Nat)(f:Ex.Rec)(q:Qs)(s:Ex.S)(t:Tok)(hF:QSpec c n f)(h:Pre c X w d n 0 s.p [] (Ex.Res.ok () s:Ex.Res Unit) q)(hn:10*(c.ts.length-s.p)<n)(htk:Ex.tk c.ts s.p=t)(hk1:t.kind=1)(hyes:Ex.is c.ts s.skip [40]=true)(hn9:n<=900000):
  Calls Tryz.prog 149 #[.pointer (some ⟨c.r,0,none⟩)] w (QP c X w d (Ex.varF c.ts n f d s)):=by
 obtain ⟨hqp,hqn,hqc⟩:=h.abs;have hnx:s.p+1<c.ts.length:=hF.ts.next (by rw [htk,hk1];decide);have hti:t.int=0:=by have:=hF.ts.num (p:=s.p);rw [htk] at this;exact this (by rw [hk1];decide)
 have hr1:=h.qd.rlt;have hbt:=h.qd.bt;have hsz:=h.qd.size;have hd:=h.deep;obtain ⟨a0,a1,b0,b1,b2,b3,b4,c0,c1,k0,k1,k2,k3,k4,wr,w1,few,room⟩:=h.qd.looks h.lt;rw [hqp,htk] at b0 b1 b2 b3 b4 k0 k1 k2 k3 k4;rw [hqp] at a1 c1 wr w1;obtain ⟨V,hV⟩:∃ V,(w.alloc (.cells #[.int .i64 t.kind,.string ⟨t.text.toArray⟩,.int .i64 t.int,.int .i64 t.at_.line,.int .i64 t.at_.col] 109)).drew=V:=⟨_,rfl⟩;have hbV:Below w.heap.size w V:=by rw [<- hV];exact Below.drawn w _
 have hT:Fiq V w.heap.size t:=by rw [<- hV];exact Fiq.drawn w t
 have hQV:=h.qd.below hbV;have d1:=hQV.c1;have df:=hQV.fz;rw [hqp] at d1;obtain ⟨V2,hV2⟩:∃ V2,V.setCell ⟨c.r,1,none⟩ (.int .i64 ((s.p:Int)+1))=V2:=⟨_,rfl⟩;obtain ⟨hQ,hK⟩:=hQV.setp (p':=s.p+1) (by omega);rw [show (((s.p+1:Nat):Int))=(s.p:Int)+1 by omega,hV2] at hQ hK;obtain ⟨q1,hq1⟩:∃ q1,(⟨s.p+1,q.ns,q.cd,q.bp⟩:Qs)=q1:=⟨_,rfl⟩;rw [hq1] at hQ;have hp1:q1.p<c.ts.length:=by rw [<- hq1];exact hnx
 have hA1:Abs (Ex.Res.ok () s.skip:Ex.Res Unit) q1:=by rw [<- hq1];exact ⟨rfl,hqn,hqc⟩
 have hS1:St c.ts (s.p+1) [] (Ex.Res.ok () s.skip:Ex.Res Unit):=⟨(h.st.ready rfl).1.skip (by omega),Nat.le_refl _,fun k hk=>by cases hk⟩;have hT2:=hT.kp hK (by omega) (by omega);have hzV:=hbV.size;have hzV2:=hK.size;have hzT:=hT.lt;have HF:=Lib.hid hF;have HQ:=Lib.hid hQ;have HP:=Lib.hid hp1;have HA:=Lib.hid hA1;have HS:=Lib.hid hS1;have HK:=Lib.hid ((Kp.of_below (c:=c) hbV).trans hK);have HT:=Lib.hid hT2;have HV:=Lib.hid hV;have HV2:=Lib.hid hV2;have HTK:=Lib.hid htk;have HTI:=Lib.hid hti;have HNX:=Lib.hid hnx;clear hF h hbV hT hQV hQ hK hq1 hp1 hA1 hS1 hT2 hV hV2 htk hti hnx;have hk1n:(t.kind==1)=true:=by simpa using hk1
 have hk3n:(t.kind==3)=false:=by simp [hk1]
 have HK1:=Lib.hid hk1;have HYES:=Lib.hid hyes;clear hk1 hyes
 go_enter Tryz.func149,Tryz.ntmps149
 go_upto_region 1 with fail
 go_region
 rw [HV.out];clear a0 a1 b0 b1 b2 b3 b4 c0 c1 k0 k1 k2 k3 k4
 go_upto_region 3 with fail
 rw [HV2.out];clear d1 df;have u0:=HT.out.c0;have u1:=HT.out.c1;have hqi:qis c.ts q1 [40]=true:=(HA.out.is_eq (ts:=c.ts) [40]).trans HYES.out;have hC:=qtake_tr HQ.out HP.out hqi;have HP0:=Lib.hid (qis_lt HF.out.ts hqi);have HA0:=Lib.hid (HA.out.skip_ok (ts:=c.ts));have HC:=Lib.hid hC;have HG0:=Lib.hid ((HS.out.ready rfl).1.skip (Ex.is_lt HYES.out));clear hqi hC
 go_wp2_with fail
 clear u0 u1;refine HC.out.mono ?_;rintro e w0 ⟨rfl,hQ0,hK0⟩;have HQ0:=Lib.hid hQ0;have HT0:=Lib.hid (HT.out.kp hK0 (by omega) (by omega));have HK0:=Lib.hid (HK.out.trans hK0);have hz0:=hK0.size;clear hQ0 hK0;have hfu:10*(c.ts.length-s.skip.skip.p)+8<n:=by show 10*(c.ts.length-(s.p+1+1))+8<n;have:=HNX.out;omega
 go_wp2_with fail
 refine (qargs_any c X _ d n f q1.skip s.skip.skip HF.out hn9 HQ0.out hd HP0.out HA0.out HG0.out hfu).mono ?_;rintro e w2 ⟨l,ka,kc,q2,rfl,hQ2,hp2,hO2,hx2,hA2,hl2,hS2,hK2⟩;have HQ2:=Lib.hid hQ2;have HP2:=Lib.hid hp2;have HO2:=Lib.hid hO2;have HX2:=Lib.hid hx2;have HA2:=Lib.hid hA2;have HL2:=Lib.hid hl2;have HS2:=Lib.hid hS2;have HT2:=Lib.hid (HT0.out.kp hK2 (by omega) (by omega));have HK2:=Lib.hid (HK0.out.trans hK2);clear hQ2 hp2 hO2 hx2 hA2 hl2 hS2 hK2;have y0:=HT2.out.c0;have y1:=HT2.out.c1;have y2:=HT2.out.c2;have y3:=HT2.out.c3;have y4:=HT2.out.c4
 go_wp2_with fail
 refine (qnode_any c X _ d q2 ⟨#[99,97,108,108]⟩ t ⟨t.text.toArray⟩ l ka kc HQ2.out HP2.out HO2.out HX2.out).mono ?_;rintro e w9 ⟨rfl,hQ,hK⟩;have hadd:=HA2.out.add (ts:=c.ts) ⟨⟨#[99,97,108,108]⟩,t.at_.line,t.at_.col,⟨t.text.toArray⟩,t.int,l.map fun (k:Nat)=>(k:Int)⟩ (fun a s9 e9=>fits_of (HS2.out.ready e9).2.2 (fun k hk=>hk));have heq:=qcall_eq (f:=f) (n:=n) (d:=d) (s:=s) HTK.out HTI.out HYES.out HL2.out;have hlt:=qnode_lt HP2.out (ts:=c.ts) ⟨⟨#[99,97,108,108]⟩,t.at_.line,t.at_.col,⟨t.text.toArray⟩,t.int,l.map fun (k:Nat)=>(k:Int)⟩;rw [heq] at hadd;have HADD:=Lib.hid hadd;have HQ9:=Lib.hid hQ;have HK9:=Lib.hid (HK2.out.trans hK);have HL:=Lib.hid hlt;clear hadd hQ hlt heq hK y0 y1 y2 y3 y4
 go_wp2
 go_ret
 exact ⟨_,_,rfl,HQ9.out,HL.out,HADD.out.1,HADD.out.2,HK9.out⟩
theorem qparen_any (c:Cx)(X:Nat->Prop)(w:World)(d n:Nat)(f:Ex.Rec)(q:Qs)(s:Ex.S)(t:Tok)(hF:QSpec c n f)(h:Pre c X w d n 0 s.p [] (Ex.Res.ok () s:Ex.Res Unit) q)(hn:10*(c.ts.length-s.p)<n)(htk:Ex.tk c.ts s.p=t)(hx:t.text=[40])(hk1:t.kind≠1)(hk3:t.kind≠3):
  Calls Tryz.prog 149 #[.pointer (some ⟨c.r,0,none⟩)] w (QP c X w d (Ex.bracketsF c.ts f d s)):=by
 obtain ⟨hqp,hqn,hqc⟩:=h.abs;have hnx:s.p+1<c.ts.length:=hF.ts.next (by rw [htk];have:=hF.ts.kind0 (p:=s.p);rw [htk,hx] at this;exact this (by simp));have hti:t.int=0:=by rw [<- htk] at hk3 ⊢;exact hF.ts.num hk3
 have hr1:=h.qd.rlt;have hbt:=h.qd.bt;have hsz:=h.qd.size;have hd:=h.deep;obtain ⟨a0,a1,b0,b1,b2,b3,b4,c0,c1,k0,k1,k2,k3,k4,wr,w1,few,room⟩:=h.qd.looks h.lt;rw [hqp,htk] at b0 b1 b2 b3 b4 k0 k1 k2 k3 k4;rw [hqp] at a1 c1 wr w1;obtain ⟨V,hV⟩:∃ V,(w.alloc (.cells #[.int .i64 t.kind,.string ⟨t.text.toArray⟩,.int .i64 t.int,.int .i64 t.at_.line,.int .i64 t.at_.col] 109)).drew=V:=⟨_,rfl⟩;have hbV:Below w.heap.size w V:=by rw [<- hV];exact Below.drawn w _
 have hT:Fiq V w.heap.size t:=by rw [<- hV];exact Fiq.drawn w t
 have hQV:=h.qd.below hbV;have d1:=hQV.c1;have df:=hQV.fz;rw [hqp] at d1;obtain ⟨V2,hV2⟩:∃ V2,V.setCell ⟨c.r,1,none⟩ (.int .i64 ((s.p:Int)+1))=V2:=⟨_,rfl⟩;obtain ⟨hQ,hK⟩:=hQV.setp (p':=s.p+1) (by omega);rw [show (((s.p+1:Nat):Int))=(s.p:Int)+1 by omega,hV2] at hQ hK;obtain ⟨q1,hq1⟩:∃ q1,(⟨s.p+1,q.ns,q.cd,q.bp⟩:Qs)=q1:=⟨_,rfl⟩;rw [hq1] at hQ;have hp1:q1.p<c.ts.length:=by rw [<- hq1];exact hnx
 have hA1:Abs (Ex.Res.ok () s.skip:Ex.Res Unit) q1:=by rw [<- hq1];exact ⟨rfl,hqn,hqc⟩
 have hS1:St c.ts (s.p+1) [] (Ex.Res.ok () s.skip:Ex.Res Unit):=⟨(h.st.ready rfl).1.skip (by omega),Nat.le_refl _,fun k hk=>by cases hk⟩;have hT2:=hT.kp hK (by omega) (by omega);have hzV:=hbV.size;have hzV2:=hK.size;have hzT:=hT.lt;have hIN:Calls Tryz.prog 164 #[.pointer (some ⟨c.r,0,none⟩),tval t] V2 (QP c X V2 d (Ex.bracketsF c.ts f d s)):=by
  cases hm:Ex.is c.ts s.skip [41] with
  | true =>
   have e:Ex.bracketsF c.ts f d s=Ex.add c.ts [117,110,105,116] (Ex.at_ c.ts s) [] [] s.skip.skip:=by unfold Ex.bracketsF;rw [if_pos hm]
   rw [e];exact qunit_in c X V2 d q1 s t hF.ts hQ hp1 hA1 htk hti hm
  | false=>exact qpair_any c X V2 d n f q1 s t hF ⟨hQ,hp1,hA1,hS1,by omega,hd⟩ hn (by omega) htk hk3 hm
 obtain ⟨kd,tx,nm,ap⟩:=t;simp only at hx hk1 hk3;subst hx;unfold tval at hIN;simp only at hIN;have HIN:=Lib.hid hIN;clear hIN;have HF:=Lib.hid hF;have HQ:=Lib.hid hQ;have HP:=Lib.hid hp1;have HA:=Lib.hid hA1;have HS:=Lib.hid hS1;have HK:=Lib.hid ((Kp.of_below (c:=c) hbV).trans hK);have HT:=Lib.hid hT2;have HV:=Lib.hid hV;have HV2:=Lib.hid hV2;have HTK:=Lib.hid htk;have HTI:=Lib.hid hti;have HNX:=Lib.hid hnx;clear hF h hbV hT hQV hQ hK hq1 hp1 hA1 hS1 hT2 hV hV2 htk hti hnx;have hk1n:(kd==1)=false:=by simpa using hk1
 have hk3n:(kd==3)=false:=by simpa using hk3
 clear hk1 hk3
 go_enter Tryz.func149,Tryz.ntmps149
 go_upto_region 1 with fail
 go_region
 rw [HV.out];clear a0 a1 b0 b1 b2 b3 b4 c0 c1 k0 k1 k2 k3 k4
 go_upto_region 3 with fail
 rw [HV2.out];clear d1 df;have u0:=HT.out.c0;have u1:=HT.out.c1;have y0:=HT.out.c0;have y1:=HT.out.c1;have y2:=HT.out.c2;have y3:=HT.out.c3;have y4:=HT.out.c4
 go_wp2_with fail
 refine HIN.out.mono ?_;rintro e w2 ⟨v,q2,rfl,hQ2,hp2,hA2,hv2,hK2⟩;have HQ2:=Lib.hid hQ2;have HP2:=Lib.hid hp2;have HA2:=Lib.hid hA2;have HW2:=Lib.hid hv2;have HK2:=Lib.hid (HK.out.trans hK2);clear hQ2 hp2 hA2 hv2 hK2 y0 y1 y2 y3 y4 u0 u1
 go_wp2
 go_ret
 exact ⟨v,q2,rfl,HQ2.out,HP2.out,HA2.out,HW2.out,HK2.out⟩
end
end Go.Proofs.YtninlbknklbofaaGreatDoor
