/- A part of the proof: The document's items that begin with a word. -/
import Derived.Test.YtninlbknklbofaaGreatDoorQs
set_option linter.unusedSimpArgs false
set_option linter.unusedVariables false
set_option maxRecDepth 100000
set_option maxHeartbeats 4000000
namespace Go.Proofs.YtninlbknklbofaaGreatDoor
open Go.RowKit Tn Lx
attribute [local go_sem] qtok_field0 qtok_field1 qtok_field2 qtok_field3
theorem qlet_eq {ts:List Tok}{f:Ex.Rec}{d:Nat}{s:Ex.S}{t:Tok}{R0:Ex.Res B}{R1:Ex.Res Unit}{R2:Ex.Res Nat}{R3:Ex.Res Unit}{R4:Ex.Res Nat}{v0:B}{v2:Nat}{v4:Nat}(ht:Ex.tk ts s.p=t)(hi:t.int=0)(htx:t.text=[108,101,116])(h0:((Ex.Res.ok () s.skip:Ex.Res Unit).bind fun _ s=>Ex.name ts s)=R0)(l0:∀ x s,R0 = .ok x s->v0=x)(h1:(R0.bind fun _ s=>Ex.take ts [61] s)=R1)(h2:(R1.bind fun _ s=>f .all d s)=R2)(l2:∀ x s,R2 = .ok x s->v2=x)(h3:(R2.bind fun _ s=>Ex.take ts [105,110] s)=R3)(h4:(R3.bind fun _ s=>f .all d s)=R4)(l4:∀ x s,R4 = .ok x s->v4=x):
  (R4.bind fun _ s=>Ex.addN ts ⟨⟨#[108,101,116]⟩,t.at_.line,t.at_.col,⟨v0.toArray⟩,t.int,[v2,v4].map fun (k:Nat)=>(k:Int)⟩ s)=Ex.letF ts f d s:=by
 subst h4;subst h3;subst h2;subst h1;subst h0;subst ht;rw [hi];unfold Ex.letF;simp only [Ex.Res.bind] at l0 l2 l4 ⊢
 cases e0:Ex.name ts s.skip with
 | bad c p=>rfl
 | out=>rfl
 | ok x0 s0 =>
  simp only [e0,Ex.Res.bind] at l0 l2 l4 ⊢;obtain rfl:=l0 x0 s0 rfl
  cases e1:Ex.take ts [61] s0 with
  | bad c p=>rfl
  | out=>rfl
  | ok x1 s1 =>
   simp only [e1,Ex.Res.bind] at l2 l4 ⊢
   cases e2:f .all d s1 with
   | bad c p=>rfl
   | out=>rfl
   | ok x2 s2 =>
    simp only [e2,Ex.Res.bind] at l2 l4 ⊢;obtain rfl:=l2 x2 s2 rfl
    cases e3:Ex.take ts [105,110] s2 with
    | bad c p=>rfl
    | out=>rfl
    | ok x3 s3 =>
     simp only [e3,Ex.Res.bind] at l4 ⊢
     cases e4:f .all d s3 with
     | bad c p=>rfl
     | out=>rfl
     | ok x4 s4 =>
      simp only [e4,Ex.Res.bind] at l4 ⊢;obtain rfl:=l4 x4 s4 rfl
      rfl
theorem qlet_any (c:Cx)(X:Nat->Prop)(w:World)(d n:Nat)(f:Ex.Rec)(q:Qs)(s:Ex.S)(t:Tok)(hF:QSpec c n f)(h:Pre c X w d n 0 (s.p+1) [] (Ex.Res.ok () s.skip:Ex.Res Unit) q)(hn:10*(c.ts.length-s.p)<n)(hsl:s.p<c.ts.length)(htk:Ex.tk c.ts s.p=t)(hx:t.text=[108,101,116])(hk3:t.kind≠3):
  Calls Tryz.prog 117 #[.pointer (some ⟨c.r,0,none⟩),tval t] w (QP c X w d (Ex.letF c.ts f d s)):=by
 have hti:t.int=0:=by rw [<- htk] at hk3 ⊢;exact hF.ts.num hk3
 have hr1:=h.qd.rlt;have hbt:=h.qd.bt;have hsz:=h.qd.size;have hd:=h.deep;obtain ⟨W,hW⟩:∃ W,w.alloc (.cells #[.int .i64 t.kind,.string ⟨t.text.toArray⟩,.int .i64 t.int,.int .i64 t.at_.line,.int .i64 t.at_.col] 109)=W:=⟨_,rfl⟩;have hbW:Below w.heap.size w W:=by rw [<- hW];exact (Below.refl _ w).alloc (Nat.le_refl _) _
 have hzW:w.heap.size<W.heap.size:=by rw [<- hW];simp
 have hT0:Fiq W w.heap.size t:=by rw [<- hW];exact Fiq.new w t
 obtain ⟨kd,tx,nm,ap⟩:=t;simp only at hx;subst hx;have HF:=Lib.hid hF;have HQ:=Lib.hid (h.qd.below hbW);have HP:=Lib.hid h.lt;have HA:=Lib.hid h.abs;have HS:=Lib.hid h.st;have HK:=Lib.hid (Kp.of_below (c:=c) hbW);have HT:=Lib.hid hT0;have HW:=Lib.hid hW;have HTK:=Lib.hid htk;have HTI:=Lib.hid hti;clear hF h hbW hT0 hW htk hti hk3;unfold tval
 go_enter Tryz.func117,Tryz.ntmps117
 have t1:=HT.out.c1
 go_wp2_with fail
 rw [HW.out];clear t1;refine (qkind_any c X _ d q 1 HQ.out HP.out).mono ?_;rintro e w0 ⟨rfl,hQ0,hK0⟩;have hp0:=qkind_lt HF.out.ts HP.out (k:=1) (by decide);obtain ⟨hA0,hv0⟩:=HA.out.name (ts:=c.ts);have hS0:=HS.out.name;generalize qkind c.ts q 1=q0 at *;generalize qkindT c.ts q 1=t0 at *;obtain ⟨R0,hR0⟩:∃ R,((Ex.Res.ok () s.skip:Ex.Res Unit).bind fun _ s=>Ex.name c.ts s)=R:=⟨_,rfl⟩;rw [hR0] at hA0 hS0 hv0;have HA0:=Lib.hid hA0;have HS0:=Lib.hid hS0;have HR0:=Lib.hid hR0;have Hv0:=Lib.hid hv0;have HP0:=Lib.hid hp0;have HQ0:=Lib.hid hQ0;have HK0:=Lib.hid (HK.out.trans hK0);have HT0:=Lib.hid (HT.out.kp hK0 (by omega) (by omega));have hz0:=hK0.size;clear hA0 hS0 hR0 hv0 hp0 hQ0 hK0;obtain ⟨V0,hV0⟩:∃ V,w0.alloc (.cells #[.int .i64 t0.kind,.string ⟨t0.text.toArray⟩,.int .i64 t0.int,.int .i64 t0.at_.line,.int .i64 t0.at_.col] 109)=V:=⟨_,rfl⟩;have hbV0:Below w0.heap.size w0 V0:=by rw [<- hV0];exact (Below.refl _ w0).alloc (Nat.le_refl _) _
 have hM0:Fiq V0 w0.heap.size t0:=by rw [<- hV0];exact Fiq.new w0 t0
 have HQ0v:=Lib.hid (HQ0.out.below hbV0);have HK0v:=Lib.hid (HK0.out.then_below hbV0);have HT0v:=Lib.hid (HT0.out.below hbV0);have HM0:=Lib.hid hM0;have HV0:=Lib.hid hV0;have hzv0:=hbV0.size;clear hbV0 hM0 hV0;unfold tval
 go_wp2_with fail
 rw [HV0.out];refine (qmust_any c X _ d q0 [61] HQ0v.out HP0.out).mono ?_;rintro e w1 ⟨rfl,hQ1,hK1⟩;have hp1:=qmust_lt HF.out.ts HP0.out [61];have hA1:=HA0.out.must (ts:=c.ts) [61];have hS1:=HS0.out.must [61];generalize qmust c.ts q0 [61]=q1 at *;obtain ⟨R1,hR1⟩:∃ R,(R0.bind fun _ s=>Ex.take c.ts [61] s)=R:=⟨_,rfl⟩;rw [hR1] at hA1 hS1;have HA1:=Lib.hid hA1;have HS1:=Lib.hid hS1;have HR1:=Lib.hid hR1;have HP1:=Lib.hid hp1;have HQ1:=Lib.hid hQ1;have HK1:=Lib.hid (HK0v.out.trans hK1);have HT1:=Lib.hid (HT0v.out.kp hK1 (by omega) (by omega));have HM1:=Lib.hid (HM0.out.kp hK1 (by omega) (by omega));have hz1:=hK1.size;clear hA1 hS1 hR1 hp1 hQ1 hK1
 go_wp2_with fail
 refine (HF.out.all R1 X _ d (((s.p+1)+1)+1) _ q1 ⟨HQ1.out,HP1.out,HA1.out,HS1.out,by omega,hd⟩).mono ?_;rintro e w2 ⟨v2,q2,rfl,hQ2,hp2,hA2,hv2,hK2⟩;have hS2:=HS1.out.rec HF.out.ends HF.out.gr .all (by simp only [Ex.rank];omega) hv2;obtain ⟨R2,hR2⟩:∃ R,(R1.bind fun _ s=>f .all d s)=R:=⟨_,rfl⟩;rw [hR2] at hA2 hS2 hv2;have HA2:=Lib.hid hA2;have HS2:=Lib.hid hS2;have HR2:=Lib.hid hR2;have Hv2:=Lib.hid hv2;have HP2:=Lib.hid hp2;have HQ2:=Lib.hid hQ2;have HK2:=Lib.hid (HK1.out.trans hK2);have HT2:=Lib.hid (HT1.out.kp hK2 (by omega) (by omega));have HM2:=Lib.hid (HM1.out.kp hK2 (by omega) (by omega));have hz2:=hK2.size;clear hA2 hS2 hR2 hv2 hp2 hQ2 hK2
 go_wp2_with fail
 refine (qmust_any c X _ d q2 [105,110] HQ2.out HP2.out).mono ?_;rintro e w3 ⟨rfl,hQ3,hK3⟩;have hp3:=qmust_lt HF.out.ts HP2.out [105,110];have hA3:=HA2.out.must (ts:=c.ts) [105,110];have hS3:=HS2.out.must [105,110];generalize qmust c.ts q2 [105,110]=q3 at *;obtain ⟨R3,hR3⟩:∃ R,(R2.bind fun _ s=>Ex.take c.ts [105,110] s)=R:=⟨_,rfl⟩;rw [hR3] at hA3 hS3;have HA3:=Lib.hid hA3;have HS3:=Lib.hid hS3;have HR3:=Lib.hid hR3;have HP3:=Lib.hid hp3;have HQ3:=Lib.hid hQ3;have HK3:=Lib.hid (HK2.out.trans hK3);have HT3:=Lib.hid (HT2.out.kp hK3 (by omega) (by omega));have HM3:=Lib.hid (HM2.out.kp hK3 (by omega) (by omega));have hz3:=hK3.size;clear hA3 hS3 hR3 hp3 hQ3 hK3
 go_wp2_with fail
 refine (HF.out.all R3 X _ d (((((s.p+1)+1)+1)+1)+1) _ q3 ⟨HQ3.out,HP3.out,HA3.out,HS3.out,by omega,hd⟩).mono ?_;rintro e w4 ⟨v4,q4,rfl,hQ4,hp4,hA4,hv4,hK4⟩;have hS4:=HS3.out.rec HF.out.ends HF.out.gr .all (by simp only [Ex.rank];omega) hv4;obtain ⟨R4,hR4⟩:∃ R,(R3.bind fun _ s=>f .all d s)=R:=⟨_,rfl⟩;rw [hR4] at hA4 hS4 hv4;have HA4:=Lib.hid hA4;have HS4:=Lib.hid hS4;have HR4:=Lib.hid hR4;have Hv4:=Lib.hid hv4;have HP4:=Lib.hid hp4;have HQ4:=Lib.hid hQ4;have HK4:=Lib.hid (HK3.out.trans hK4);have HT4:=Lib.hid (HT3.out.kp hK4 (by omega) (by omega));have HM4:=Lib.hid (HM3.out.kp hK4 (by omega) (by omega));have hz4:=hK4.size;clear hA4 hS4 hR4 hv4 hp4 hQ4 hK4;have y0:=HT4.out.c0;have y1:=HT4.out.c1;have y2:=HT4.out.c2;have y3:=HT4.out.c3;have y4:=HT4.out.c4;have z1:=HM4.out.c1
 go_wp2_with fail
 refine (qnode_any c X _ d q4 ⟨#[108,101,116]⟩ ⟨kd,[108,101,116],nm,ap⟩ ⟨t0.text.toArray⟩ [v2,v4] (some ⟨w4.heap.size,0,none⟩) 2 (HQ4.out.below ((Below.refl _ w4).alloc (Nat.le_refl _) _)) HP4.out (qints2 _ (by omega) v2 v4) (HQ4.out.fresh _ _)).mono ?_;rintro e w9 ⟨rfl,hQ,hK⟩;have hadd:=HA4.out.add (ts:=c.ts) ⟨⟨#[108,101,116]⟩,ap.line,ap.col,⟨t0.text.toArray⟩,nm,[v2,v4].map fun (k:Nat)=>(k:Int)⟩ (fun a s9 e9=>fits_of (HS4.out.ready e9).2.2);have hkp:=HK4.out.trans (Below.then_kp ((Below.refl _ w4).alloc (Nat.le_refl _) _) hK);have heq:=qlet_eq (f:=f) (d:=d) (s:=s) HTK.out HTI.out rfl HR0.out Hv0.out HR1.out HR2.out Hv2.out HR3.out HR4.out Hv4.out;have hlt:=qnode_lt HP4.out (ts:=c.ts) ⟨⟨#[108,101,116]⟩,ap.line,ap.col,⟨t0.text.toArray⟩,nm,[v2,v4].map fun (k:Nat)=>(k:Int)⟩;rw [heq] at hadd;have HADD:=Lib.hid hadd;have HQ9:=Lib.hid hQ;have HK9:=Lib.hid hkp;have HL:=Lib.hid hlt;clear hadd hQ hkp hlt heq hK y0 y1 y2 y3 y4 z1
 go_wp2
 go_ret
 exact ⟨_,_,rfl,HQ9.out,HL.out,HADD.out.1,HADD.out.2,HK9.out⟩
theorem qif_eq {ts:List Tok}{f:Ex.Rec}{d:Nat}{s:Ex.S}{t:Tok}{R0:Ex.Res Nat}{R1:Ex.Res Unit}{R2:Ex.Res Nat}{R3:Ex.Res Unit}{R4:Ex.Res Nat}{v0:Nat}{v2:Nat}{v4:Nat}(ht:Ex.tk ts s.p=t)(hi:t.int=0)(htx:t.text=[105,102])(h0:((Ex.Res.ok () s.skip:Ex.Res Unit).bind fun _ s=>f .all d s)=R0)(l0:∀ x s,R0 = .ok x s->v0=x)(h1:(R0.bind fun _ s=>Ex.take ts [116,104,101,110] s)=R1)(h2:(R1.bind fun _ s=>f .item d s)=R2)(l2:∀ x s,R2 = .ok x s->v2=x)(h3:(R2.bind fun _ s=>Ex.take ts [101,108,115,101] s)=R3)(h4:(R3.bind fun _ s=>f .item d s)=R4)(l4:∀ x s,R4 = .ok x s->v4=x):
  (R4.bind fun _ s=>Ex.addN ts ⟨⟨#[105,102]⟩,t.at_.line,t.at_.col,⟨#[]⟩,t.int,[v0,v2,v4].map fun (k:Nat)=>(k:Int)⟩ s)=Ex.choiceF ts f d s:=by
 subst h4;subst h3;subst h2;subst h1;subst h0;subst ht;rw [hi];unfold Ex.choiceF;simp only [Ex.Res.bind] at l0 l2 l4 ⊢
 cases e0:f .all d s.skip with
 | bad c p=>rfl
 | out=>rfl
 | ok x0 s0 =>
  simp only [e0,Ex.Res.bind] at l0 l2 l4 ⊢;obtain rfl:=l0 x0 s0 rfl
  cases e1:Ex.take ts [116,104,101,110] s0 with
  | bad c p=>rfl
  | out=>rfl
  | ok x1 s1 =>
   simp only [e1,Ex.Res.bind] at l2 l4 ⊢
   cases e2:f .item d s1 with
   | bad c p=>rfl
   | out=>rfl
   | ok x2 s2 =>
    simp only [e2,Ex.Res.bind] at l2 l4 ⊢;obtain rfl:=l2 x2 s2 rfl
    cases e3:Ex.take ts [101,108,115,101] s2 with
    | bad c p=>rfl
    | out=>rfl
    | ok x3 s3 =>
     simp only [e3,Ex.Res.bind] at l4 ⊢
     cases e4:f .item d s3 with
     | bad c p=>rfl
     | out=>rfl
     | ok x4 s4 =>
      simp only [e4,Ex.Res.bind] at l4 ⊢;obtain rfl:=l4 x4 s4 rfl
      rfl
theorem qif_any (c:Cx)(X:Nat->Prop)(w:World)(d n:Nat)(f:Ex.Rec)(q:Qs)(s:Ex.S)(t:Tok)(hF:QSpec c n f)(h:Pre c X w d n 0 (s.p+1) [] (Ex.Res.ok () s.skip:Ex.Res Unit) q)(hn:10*(c.ts.length-s.p)<n)(hsl:s.p<c.ts.length)(htk:Ex.tk c.ts s.p=t)(hx:t.text=[105,102])(hk3:t.kind≠3):
  Calls Tryz.prog 117 #[.pointer (some ⟨c.r,0,none⟩),tval t] w (QP c X w d (Ex.choiceF c.ts f d s)):=by
 have hti:t.int=0:=by rw [<- htk] at hk3 ⊢;exact hF.ts.num hk3
 have hr1:=h.qd.rlt;have hbt:=h.qd.bt;have hsz:=h.qd.size;have hd:=h.deep;obtain ⟨W,hW⟩:∃ W,w.alloc (.cells #[.int .i64 t.kind,.string ⟨t.text.toArray⟩,.int .i64 t.int,.int .i64 t.at_.line,.int .i64 t.at_.col] 109)=W:=⟨_,rfl⟩;have hbW:Below w.heap.size w W:=by rw [<- hW];exact (Below.refl _ w).alloc (Nat.le_refl _) _
 have hzW:w.heap.size<W.heap.size:=by rw [<- hW];simp
 have hT0:Fiq W w.heap.size t:=by rw [<- hW];exact Fiq.new w t
 obtain ⟨kd,tx,nm,ap⟩:=t;simp only at hx;subst hx;have HF:=Lib.hid hF;have HQ:=Lib.hid (h.qd.below hbW);have HP:=Lib.hid h.lt;have HA:=Lib.hid h.abs;have HS:=Lib.hid h.st;have HK:=Lib.hid (Kp.of_below (c:=c) hbW);have HT:=Lib.hid hT0;have HW:=Lib.hid hW;have HTK:=Lib.hid htk;have HTI:=Lib.hid hti;clear hF h hbW hT0 hW htk hti hk3;unfold tval
 go_enter Tryz.func117,Tryz.ntmps117
 have t1:=HT.out.c1
 go_wp2_with fail
 rw [HW.out];clear t1;refine (HF.out.all (Ex.Res.ok () s.skip:Ex.Res Unit) X _ d (s.p+1) _ q ⟨HQ.out,HP.out,HA.out,HS.out,by omega,hd⟩).mono ?_;rintro e w0 ⟨v0,q0,rfl,hQ0,hp0,hA0,hv0,hK0⟩;have hS0:=HS.out.rec HF.out.ends HF.out.gr .all (by simp only [Ex.rank];omega) hv0;obtain ⟨R0,hR0⟩:∃ R,((Ex.Res.ok () s.skip:Ex.Res Unit).bind fun _ s=>f .all d s)=R:=⟨_,rfl⟩;rw [hR0] at hA0 hS0 hv0;have HA0:=Lib.hid hA0;have HS0:=Lib.hid hS0;have HR0:=Lib.hid hR0;have Hv0:=Lib.hid hv0;have HP0:=Lib.hid hp0;have HQ0:=Lib.hid hQ0;have HK0:=Lib.hid (HK.out.trans hK0);have HT0:=Lib.hid (HT.out.kp hK0 (by omega) (by omega));have hz0:=hK0.size;clear hA0 hS0 hR0 hv0 hp0 hQ0 hK0
 go_wp2_with fail
 refine (qmust_any c X _ d q0 [116,104,101,110] HQ0.out HP0.out).mono ?_;rintro e w1 ⟨rfl,hQ1,hK1⟩;have hp1:=qmust_lt HF.out.ts HP0.out [116,104,101,110];have hA1:=HA0.out.must (ts:=c.ts) [116,104,101,110];have hS1:=HS0.out.must [116,104,101,110];generalize qmust c.ts q0 [116,104,101,110]=q1 at *;obtain ⟨R1,hR1⟩:∃ R,(R0.bind fun _ s=>Ex.take c.ts [116,104,101,110] s)=R:=⟨_,rfl⟩;rw [hR1] at hA1 hS1;have HA1:=Lib.hid hA1;have HS1:=Lib.hid hS1;have HR1:=Lib.hid hR1;have HP1:=Lib.hid hp1;have HQ1:=Lib.hid hQ1;have HK1:=Lib.hid (HK0.out.trans hK1);have HT1:=Lib.hid (HT0.out.kp hK1 (by omega) (by omega));have hz1:=hK1.size;clear hA1 hS1 hR1 hp1 hQ1 hK1
 go_wp2_with fail
 refine (HF.out.item R1 X _ d (((s.p+1)+1)+1) _ q1 ⟨HQ1.out,HP1.out,HA1.out,HS1.out,by omega,hd⟩).mono ?_;rintro e w2 ⟨v2,q2,rfl,hQ2,hp2,hA2,hv2,hK2⟩;have hS2:=HS1.out.rec HF.out.ends HF.out.gr .item (by simp only [Ex.rank];omega) hv2;obtain ⟨R2,hR2⟩:∃ R,(R1.bind fun _ s=>f .item d s)=R:=⟨_,rfl⟩;rw [hR2] at hA2 hS2 hv2;have HA2:=Lib.hid hA2;have HS2:=Lib.hid hS2;have HR2:=Lib.hid hR2;have Hv2:=Lib.hid hv2;have HP2:=Lib.hid hp2;have HQ2:=Lib.hid hQ2;have HK2:=Lib.hid (HK1.out.trans hK2);have HT2:=Lib.hid (HT1.out.kp hK2 (by omega) (by omega));have hz2:=hK2.size;clear hA2 hS2 hR2 hv2 hp2 hQ2 hK2
 go_wp2_with fail
 refine (qmust_any c X _ d q2 [101,108,115,101] HQ2.out HP2.out).mono ?_;rintro e w3 ⟨rfl,hQ3,hK3⟩;have hp3:=qmust_lt HF.out.ts HP2.out [101,108,115,101];have hA3:=HA2.out.must (ts:=c.ts) [101,108,115,101];have hS3:=HS2.out.must [101,108,115,101];generalize qmust c.ts q2 [101,108,115,101]=q3 at *;obtain ⟨R3,hR3⟩:∃ R,(R2.bind fun _ s=>Ex.take c.ts [101,108,115,101] s)=R:=⟨_,rfl⟩;rw [hR3] at hA3 hS3;have HA3:=Lib.hid hA3;have HS3:=Lib.hid hS3;have HR3:=Lib.hid hR3;have HP3:=Lib.hid hp3;have HQ3:=Lib.hid hQ3;have HK3:=Lib.hid (HK2.out.trans hK3);have HT3:=Lib.hid (HT2.out.kp hK3 (by omega) (by omega));have hz3:=hK3.size;clear hA3 hS3 hR3 hp3 hQ3 hK3
 go_wp2_with fail
 refine (HF.out.item R3 X _ d (((((s.p+1)+1)+1)+1)+1) _ q3 ⟨HQ3.out,HP3.out,HA3.out,HS3.out,by omega,hd⟩).mono ?_;rintro e w4 ⟨v4,q4,rfl,hQ4,hp4,hA4,hv4,hK4⟩;have hS4:=HS3.out.rec HF.out.ends HF.out.gr .item (by simp only [Ex.rank];omega) hv4;obtain ⟨R4,hR4⟩:∃ R,(R3.bind fun _ s=>f .item d s)=R:=⟨_,rfl⟩;rw [hR4] at hA4 hS4 hv4;have HA4:=Lib.hid hA4;have HS4:=Lib.hid hS4;have HR4:=Lib.hid hR4;have Hv4:=Lib.hid hv4;have HP4:=Lib.hid hp4;have HQ4:=Lib.hid hQ4;have HK4:=Lib.hid (HK3.out.trans hK4);have HT4:=Lib.hid (HT3.out.kp hK4 (by omega) (by omega));have hz4:=hK4.size;clear hA4 hS4 hR4 hv4 hp4 hQ4 hK4;have y0:=HT4.out.c0;have y1:=HT4.out.c1;have y2:=HT4.out.c2;have y3:=HT4.out.c3;have y4:=HT4.out.c4
 go_wp2_with fail
 refine (qnode_any c X _ d q4 ⟨#[105,102]⟩ ⟨kd,[105,102],nm,ap⟩ ⟨#[]⟩ [v0,v2,v4] (some ⟨w4.heap.size,0,none⟩) 3 (HQ4.out.below ((Below.refl _ w4).alloc (Nat.le_refl _) _)) HP4.out (qints3 _ (by omega) v0 v2 v4) (HQ4.out.fresh _ _)).mono ?_;rintro e w9 ⟨rfl,hQ,hK⟩;have hadd:=HA4.out.add (ts:=c.ts) ⟨⟨#[105,102]⟩,ap.line,ap.col,⟨#[]⟩,nm,[v0,v2,v4].map fun (k:Nat)=>(k:Int)⟩ (fun a s9 e9=>fits_of (HS4.out.ready e9).2.2);have hkp:=HK4.out.trans (Below.then_kp ((Below.refl _ w4).alloc (Nat.le_refl _) _) hK);have heq:=qif_eq (f:=f) (d:=d) (s:=s) HTK.out HTI.out rfl HR0.out Hv0.out HR1.out HR2.out Hv2.out HR3.out HR4.out Hv4.out;have hlt:=qnode_lt HP4.out (ts:=c.ts) ⟨⟨#[105,102]⟩,ap.line,ap.col,⟨#[]⟩,nm,[v0,v2,v4].map fun (k:Nat)=>(k:Int)⟩;rw [heq] at hadd;have HADD:=Lib.hid hadd;have HQ9:=Lib.hid hQ;have HK9:=Lib.hid hkp;have HL:=Lib.hid hlt;clear hadd hQ hkp hlt heq hK y0 y1 y2 y3 y4
 go_wp2
 go_ret
 exact ⟨_,_,rfl,HQ9.out,HL.out,HADD.out.1,HADD.out.2,HK9.out⟩
theorem qtry_eq {ts:List Tok}{f:Ex.Rec}{d:Nat}{s:Ex.S}{t:Tok}{R0:Ex.Res Nat}{R1:Ex.Res Unit}{R2:Ex.Res B}{R3:Ex.Res Unit}{R4:Ex.Res Nat}{v0:Nat}{v2:B}{v4:Nat}(ht:Ex.tk ts s.p=t)(hi:t.int=0)(htx:t.text=[116,114,121])(h0:((Ex.Res.ok () s.skip:Ex.Res Unit).bind fun _ s=>f .all d s)=R0)(l0:∀ x s,R0 = .ok x s->v0=x)(h1:(R0.bind fun _ s=>Ex.take ts [119,105,116,104] s)=R1)(h2:(R1.bind fun _ s=>Ex.name ts s)=R2)(l2:∀ x s,R2 = .ok x s->v2=x)(h3:(R2.bind fun _ s=>Ex.take ts [45,62] s)=R3)(h4:(R3.bind fun _ s=>f .item d s)=R4)(l4:∀ x s,R4 = .ok x s->v4=x):
  (R4.bind fun _ s=>Ex.addN ts ⟨⟨#[116,114,121]⟩,t.at_.line,t.at_.col,⟨v2.toArray⟩,t.int,[v0,v4].map fun (k:Nat)=>(k:Int)⟩ s)=Ex.guardF ts f d s:=by
 subst h4;subst h3;subst h2;subst h1;subst h0;subst ht;rw [hi];unfold Ex.guardF;simp only [Ex.Res.bind] at l0 l2 l4 ⊢
 cases e0:f .all d s.skip with
 | bad c p=>rfl
 | out=>rfl
 | ok x0 s0 =>
  simp only [e0,Ex.Res.bind] at l0 l2 l4 ⊢;obtain rfl:=l0 x0 s0 rfl
  cases e1:Ex.take ts [119,105,116,104] s0 with
  | bad c p=>rfl
  | out=>rfl
  | ok x1 s1 =>
   simp only [e1,Ex.Res.bind] at l2 l4 ⊢
   cases e2:Ex.name ts s1 with
   | bad c p=>rfl
   | out=>rfl
   | ok x2 s2 =>
    simp only [e2,Ex.Res.bind] at l2 l4 ⊢;obtain rfl:=l2 x2 s2 rfl
    cases e3:Ex.take ts [45,62] s2 with
    | bad c p=>rfl
    | out=>rfl
    | ok x3 s3 =>
     simp only [e3,Ex.Res.bind] at l4 ⊢
     cases e4:f .item d s3 with
     | bad c p=>rfl
     | out=>rfl
     | ok x4 s4 =>
      simp only [e4,Ex.Res.bind] at l4 ⊢;obtain rfl:=l4 x4 s4 rfl
      rfl
theorem qtry_any (c:Cx)(X:Nat->Prop)(w:World)(d n:Nat)(f:Ex.Rec)(q:Qs)(s:Ex.S)(t:Tok)(hF:QSpec c n f)(h:Pre c X w d n 0 (s.p+1) [] (Ex.Res.ok () s.skip:Ex.Res Unit) q)(hn:10*(c.ts.length-s.p)<n)(hsl:s.p<c.ts.length)(htk:Ex.tk c.ts s.p=t)(hx:t.text=[116,114,121])(hk3:t.kind≠3):
  Calls Tryz.prog 117 #[.pointer (some ⟨c.r,0,none⟩),tval t] w (QP c X w d (Ex.guardF c.ts f d s)):=by
 have hti:t.int=0:=by rw [<- htk] at hk3 ⊢;exact hF.ts.num hk3
 have hr1:=h.qd.rlt;have hbt:=h.qd.bt;have hsz:=h.qd.size;have hd:=h.deep;obtain ⟨W,hW⟩:∃ W,w.alloc (.cells #[.int .i64 t.kind,.string ⟨t.text.toArray⟩,.int .i64 t.int,.int .i64 t.at_.line,.int .i64 t.at_.col] 109)=W:=⟨_,rfl⟩;have hbW:Below w.heap.size w W:=by rw [<- hW];exact (Below.refl _ w).alloc (Nat.le_refl _) _
 have hzW:w.heap.size<W.heap.size:=by rw [<- hW];simp
 have hT0:Fiq W w.heap.size t:=by rw [<- hW];exact Fiq.new w t
 obtain ⟨kd,tx,nm,ap⟩:=t;simp only at hx;subst hx;have HF:=Lib.hid hF;have HQ:=Lib.hid (h.qd.below hbW);have HP:=Lib.hid h.lt;have HA:=Lib.hid h.abs;have HS:=Lib.hid h.st;have HK:=Lib.hid (Kp.of_below (c:=c) hbW);have HT:=Lib.hid hT0;have HW:=Lib.hid hW;have HTK:=Lib.hid htk;have HTI:=Lib.hid hti;clear hF h hbW hT0 hW htk hti hk3;unfold tval
 go_enter Tryz.func117,Tryz.ntmps117
 have t1:=HT.out.c1
 go_wp2_with fail
 rw [HW.out];clear t1;refine (HF.out.all (Ex.Res.ok () s.skip:Ex.Res Unit) X _ d (s.p+1) _ q ⟨HQ.out,HP.out,HA.out,HS.out,by omega,hd⟩).mono ?_;rintro e w0 ⟨v0,q0,rfl,hQ0,hp0,hA0,hv0,hK0⟩;have hS0:=HS.out.rec HF.out.ends HF.out.gr .all (by simp only [Ex.rank];omega) hv0;obtain ⟨R0,hR0⟩:∃ R,((Ex.Res.ok () s.skip:Ex.Res Unit).bind fun _ s=>f .all d s)=R:=⟨_,rfl⟩;rw [hR0] at hA0 hS0 hv0;have HA0:=Lib.hid hA0;have HS0:=Lib.hid hS0;have HR0:=Lib.hid hR0;have Hv0:=Lib.hid hv0;have HP0:=Lib.hid hp0;have HQ0:=Lib.hid hQ0;have HK0:=Lib.hid (HK.out.trans hK0);have HT0:=Lib.hid (HT.out.kp hK0 (by omega) (by omega));have hz0:=hK0.size;clear hA0 hS0 hR0 hv0 hp0 hQ0 hK0
 go_wp2_with fail
 refine (qmust_any c X _ d q0 [119,105,116,104] HQ0.out HP0.out).mono ?_;rintro e w1 ⟨rfl,hQ1,hK1⟩;have hp1:=qmust_lt HF.out.ts HP0.out [119,105,116,104];have hA1:=HA0.out.must (ts:=c.ts) [119,105,116,104];have hS1:=HS0.out.must [119,105,116,104];generalize qmust c.ts q0 [119,105,116,104]=q1 at *;obtain ⟨R1,hR1⟩:∃ R,(R0.bind fun _ s=>Ex.take c.ts [119,105,116,104] s)=R:=⟨_,rfl⟩;rw [hR1] at hA1 hS1;have HA1:=Lib.hid hA1;have HS1:=Lib.hid hS1;have HR1:=Lib.hid hR1;have HP1:=Lib.hid hp1;have HQ1:=Lib.hid hQ1;have HK1:=Lib.hid (HK0.out.trans hK1);have HT1:=Lib.hid (HT0.out.kp hK1 (by omega) (by omega));have hz1:=hK1.size;clear hA1 hS1 hR1 hp1 hQ1 hK1
 go_wp2_with fail
 refine (qkind_any c X _ d q1 1 HQ1.out HP1.out).mono ?_;rintro e w2 ⟨rfl,hQ2,hK2⟩;have hp2:=qkind_lt HF.out.ts HP1.out (k:=1) (by decide);obtain ⟨hA2,hv2⟩:=HA1.out.name (ts:=c.ts);have hS2:=HS1.out.name;generalize qkind c.ts q1 1=q2 at *;generalize qkindT c.ts q1 1=t2 at *;obtain ⟨R2,hR2⟩:∃ R,(R1.bind fun _ s=>Ex.name c.ts s)=R:=⟨_,rfl⟩;rw [hR2] at hA2 hS2 hv2;have HA2:=Lib.hid hA2;have HS2:=Lib.hid hS2;have HR2:=Lib.hid hR2;have Hv2:=Lib.hid hv2;have HP2:=Lib.hid hp2;have HQ2:=Lib.hid hQ2;have HK2:=Lib.hid (HK1.out.trans hK2);have HT2:=Lib.hid (HT1.out.kp hK2 (by omega) (by omega));have hz2:=hK2.size;clear hA2 hS2 hR2 hv2 hp2 hQ2 hK2;obtain ⟨V2,hV2⟩:∃ V,w2.alloc (.cells #[.int .i64 t2.kind,.string ⟨t2.text.toArray⟩,.int .i64 t2.int,.int .i64 t2.at_.line,.int .i64 t2.at_.col] 109)=V:=⟨_,rfl⟩;have hbV2:Below w2.heap.size w2 V2:=by rw [<- hV2];exact (Below.refl _ w2).alloc (Nat.le_refl _) _
 have hM2:Fiq V2 w2.heap.size t2:=by rw [<- hV2];exact Fiq.new w2 t2
 have HQ2v:=Lib.hid (HQ2.out.below hbV2);have HK2v:=Lib.hid (HK2.out.then_below hbV2);have HT2v:=Lib.hid (HT2.out.below hbV2);have HM2:=Lib.hid hM2;have HV2:=Lib.hid hV2;have hzv2:=hbV2.size;clear hbV2 hM2 hV2;unfold tval
 go_wp2_with fail
 rw [HV2.out];refine (qmust_any c X _ d q2 [45,62] HQ2v.out HP2.out).mono ?_;rintro e w3 ⟨rfl,hQ3,hK3⟩;have hp3:=qmust_lt HF.out.ts HP2.out [45,62];have hA3:=HA2.out.must (ts:=c.ts) [45,62];have hS3:=HS2.out.must [45,62];generalize qmust c.ts q2 [45,62]=q3 at *;obtain ⟨R3,hR3⟩:∃ R,(R2.bind fun _ s=>Ex.take c.ts [45,62] s)=R:=⟨_,rfl⟩;rw [hR3] at hA3 hS3;have HA3:=Lib.hid hA3;have HS3:=Lib.hid hS3;have HR3:=Lib.hid hR3;have HP3:=Lib.hid hp3;have HQ3:=Lib.hid hQ3;have HK3:=Lib.hid (HK2v.out.trans hK3);have HT3:=Lib.hid (HT2v.out.kp hK3 (by omega) (by omega));have HM3:=Lib.hid (HM2.out.kp hK3 (by omega) (by omega));have hz3:=hK3.size;clear hA3 hS3 hR3 hp3 hQ3 hK3
 go_wp2_with fail
 refine (HF.out.item R3 X _ d (((((s.p+1)+1)+1)+1)+1) _ q3 ⟨HQ3.out,HP3.out,HA3.out,HS3.out,by omega,hd⟩).mono ?_;rintro e w4 ⟨v4,q4,rfl,hQ4,hp4,hA4,hv4,hK4⟩;have hS4:=HS3.out.rec HF.out.ends HF.out.gr .item (by simp only [Ex.rank];omega) hv4;obtain ⟨R4,hR4⟩:∃ R,(R3.bind fun _ s=>f .item d s)=R:=⟨_,rfl⟩;rw [hR4] at hA4 hS4 hv4;have HA4:=Lib.hid hA4;have HS4:=Lib.hid hS4;have HR4:=Lib.hid hR4;have Hv4:=Lib.hid hv4;have HP4:=Lib.hid hp4;have HQ4:=Lib.hid hQ4;have HK4:=Lib.hid (HK3.out.trans hK4);have HT4:=Lib.hid (HT3.out.kp hK4 (by omega) (by omega));have HM4:=Lib.hid (HM3.out.kp hK4 (by omega) (by omega));have hz4:=hK4.size;clear hA4 hS4 hR4 hv4 hp4 hQ4 hK4;have y0:=HT4.out.c0;have y1:=HT4.out.c1;have y2:=HT4.out.c2;have y3:=HT4.out.c3;have y4:=HT4.out.c4;have z1:=HM4.out.c1
 go_wp2_with fail
 refine (qnode_any c X _ d q4 ⟨#[116,114,121]⟩ ⟨kd,[116,114,121],nm,ap⟩ ⟨t2.text.toArray⟩ [v0,v4] (some ⟨w4.heap.size,0,none⟩) 2 (HQ4.out.below ((Below.refl _ w4).alloc (Nat.le_refl _) _)) HP4.out (qints2 _ (by omega) v0 v4) (HQ4.out.fresh _ _)).mono ?_;rintro e w9 ⟨rfl,hQ,hK⟩;have hadd:=HA4.out.add (ts:=c.ts) ⟨⟨#[116,114,121]⟩,ap.line,ap.col,⟨t2.text.toArray⟩,nm,[v0,v4].map fun (k:Nat)=>(k:Int)⟩ (fun a s9 e9=>fits_of (HS4.out.ready e9).2.2);have hkp:=HK4.out.trans (Below.then_kp ((Below.refl _ w4).alloc (Nat.le_refl _) _) hK);have heq:=qtry_eq (f:=f) (d:=d) (s:=s) HTK.out HTI.out rfl HR0.out Hv0.out HR1.out HR2.out Hv2.out HR3.out HR4.out Hv4.out;have hlt:=qnode_lt HP4.out (ts:=c.ts) ⟨⟨#[116,114,121]⟩,ap.line,ap.col,⟨t2.text.toArray⟩,nm,[v0,v4].map fun (k:Nat)=>(k:Int)⟩;rw [heq] at hadd;have HADD:=Lib.hid hadd;have HQ9:=Lib.hid hQ;have HK9:=Lib.hid hkp;have HL:=Lib.hid hlt;clear hadd hQ hkp hlt heq hK y0 y1 y2 y3 y4 z1
 go_wp2
 go_ret
 exact ⟨_,_,rfl,HQ9.out,HL.out,HADD.out.1,HADD.out.2,HK9.out⟩
theorem qraise_eq {ts:List Tok}{f:Ex.Rec}{d:Nat}{s:Ex.S}{t:Tok}{R0:Ex.Res B}{v0:B}(ht:Ex.tk ts s.p=t)(hi:t.int=0)(htx:t.text=[114,97,105,115,101])(h0:((Ex.Res.ok () s.skip:Ex.Res Unit).bind fun _ s=>Ex.name ts s)=R0)(l0:∀ x s,R0 = .ok x s->v0=x):
  (R0.bind fun _ s=>Ex.addN ts ⟨⟨#[114,97,105,115,101]⟩,t.at_.line,t.at_.col,⟨v0.toArray⟩,t.int,[].map fun (k:Nat)=>(k:Int)⟩ s)=Ex.named ts [114,97,105,115,101] s:=by
 subst h0;subst ht;rw [hi];unfold Ex.named;simp only [Ex.Res.bind] at l0 ⊢
 cases e0:Ex.name ts s.skip with
 | bad c p=>rfl
 | out=>rfl
 | ok x0 s0 =>
  simp only [e0,Ex.Res.bind] at l0 ⊢;obtain rfl:=l0 x0 s0 rfl
  rfl
theorem qraise_any (c:Cx)(X:Nat->Prop)(w:World)(d n:Nat)(f:Ex.Rec)(q:Qs)(s:Ex.S)(t:Tok)(hF:QSpec c n f)(h:Pre c X w d n 0 (s.p+1) [] (Ex.Res.ok () s.skip:Ex.Res Unit) q)(hn:10*(c.ts.length-s.p)<n)(hsl:s.p<c.ts.length)(htk:Ex.tk c.ts s.p=t)(hx:t.text=[114,97,105,115,101])(hk3:t.kind≠3):
  Calls Tryz.prog 117 #[.pointer (some ⟨c.r,0,none⟩),tval t] w (QP c X w d (Ex.named c.ts [114,97,105,115,101] s)):=by
 have hti:t.int=0:=by rw [<- htk] at hk3 ⊢;exact hF.ts.num hk3
 have hr1:=h.qd.rlt;have hbt:=h.qd.bt;have hsz:=h.qd.size;have hd:=h.deep;obtain ⟨W,hW⟩:∃ W,w.alloc (.cells #[.int .i64 t.kind,.string ⟨t.text.toArray⟩,.int .i64 t.int,.int .i64 t.at_.line,.int .i64 t.at_.col] 109)=W:=⟨_,rfl⟩;have hbW:Below w.heap.size w W:=by rw [<- hW];exact (Below.refl _ w).alloc (Nat.le_refl _) _
 have hzW:w.heap.size<W.heap.size:=by rw [<- hW];simp
 have hT0:Fiq W w.heap.size t:=by rw [<- hW];exact Fiq.new w t
 obtain ⟨kd,tx,nm,ap⟩:=t;simp only at hx;subst hx;have HF:=Lib.hid hF;have HQ:=Lib.hid (h.qd.below hbW);have HP:=Lib.hid h.lt;have HA:=Lib.hid h.abs;have HS:=Lib.hid h.st;have HK:=Lib.hid (Kp.of_below (c:=c) hbW);have HT:=Lib.hid hT0;have HW:=Lib.hid hW;have HTK:=Lib.hid htk;have HTI:=Lib.hid hti;clear hF h hbW hT0 hW htk hti hk3;unfold tval
 go_enter Tryz.func117,Tryz.ntmps117
 have t1:=HT.out.c1
 go_wp2_with fail
 rw [HW.out];clear t1;refine (qkind_any c X _ d q 1 HQ.out HP.out).mono ?_;rintro e w0 ⟨rfl,hQ0,hK0⟩;have hp0:=qkind_lt HF.out.ts HP.out (k:=1) (by decide);obtain ⟨hA0,hv0⟩:=HA.out.name (ts:=c.ts);have hS0:=HS.out.name;generalize qkind c.ts q 1=q0 at *;generalize qkindT c.ts q 1=t0 at *;obtain ⟨R0,hR0⟩:∃ R,((Ex.Res.ok () s.skip:Ex.Res Unit).bind fun _ s=>Ex.name c.ts s)=R:=⟨_,rfl⟩;rw [hR0] at hA0 hS0 hv0;have HA0:=Lib.hid hA0;have HS0:=Lib.hid hS0;have HR0:=Lib.hid hR0;have Hv0:=Lib.hid hv0;have HP0:=Lib.hid hp0;have HQ0:=Lib.hid hQ0;have HK0:=Lib.hid (HK.out.trans hK0);have HT0:=Lib.hid (HT.out.kp hK0 (by omega) (by omega));have hz0:=hK0.size;clear hA0 hS0 hR0 hv0 hp0 hQ0 hK0;obtain ⟨V0,hV0⟩:∃ V,w0.alloc (.cells #[.int .i64 t0.kind,.string ⟨t0.text.toArray⟩,.int .i64 t0.int,.int .i64 t0.at_.line,.int .i64 t0.at_.col] 109)=V:=⟨_,rfl⟩;have hbV0:Below w0.heap.size w0 V0:=by rw [<- hV0];exact (Below.refl _ w0).alloc (Nat.le_refl _) _
 have hM0:Fiq V0 w0.heap.size t0:=by rw [<- hV0];exact Fiq.new w0 t0
 have HQ0v:=Lib.hid (HQ0.out.below hbV0);have HK0v:=Lib.hid (HK0.out.then_below hbV0);have HT0v:=Lib.hid (HT0.out.below hbV0);have HM0:=Lib.hid hM0;have HV0:=Lib.hid hV0;have hzv0:=hbV0.size;clear hbV0 hM0 hV0;unfold tval;have y0:=HT0v.out.c0;have y1:=HT0v.out.c1;have y2:=HT0v.out.c2;have y3:=HT0v.out.c3;have y4:=HT0v.out.c4;have z1:=HM0.out.c1;rw [<- HV0.out] at y0 y1 y2 y3 y4 z1
 go_wp2_with fail
 rw [HV0.out];refine (qnode_any c X _ d q0 ⟨#[114,97,105,115,101]⟩ ⟨kd,[114,97,105,115,101],nm,ap⟩ ⟨t0.text.toArray⟩ [] none 0 HQ0v.out HP0.out (qints0 _ _) (fun g hg=>by cases hg)).mono ?_;rintro e w9 ⟨rfl,hQ,hK⟩;have hadd:=HA0.out.add (ts:=c.ts) ⟨⟨#[114,97,105,115,101]⟩,ap.line,ap.col,⟨t0.text.toArray⟩,nm,[].map fun (k:Nat)=>(k:Int)⟩ (fun a s9 e9=>fits_of (HS0.out.ready e9).2.2);have hkp:=HK0v.out.trans hK;have heq:=qraise_eq (f:=f) (d:=d) (s:=s) HTK.out HTI.out rfl HR0.out Hv0.out;have hlt:=qnode_lt HP0.out (ts:=c.ts) ⟨⟨#[114,97,105,115,101]⟩,ap.line,ap.col,⟨t0.text.toArray⟩,nm,[].map fun (k:Nat)=>(k:Int)⟩;rw [heq] at hadd;have HADD:=Lib.hid hadd;have HQ9:=Lib.hid hQ;have HK9:=Lib.hid hkp;have HL:=Lib.hid hlt;clear hadd hQ hkp hlt heq hK y0 y1 y2 y3 y4 z1
 go_wp2
 go_ret
 exact ⟨_,_,rfl,HQ9.out,HL.out,HADD.out.1,HADD.out.2,HK9.out⟩
theorem qout_eq {ts:List Tok}{f:Ex.Rec}{d:Nat}{s:Ex.S}{t:Tok}{R0:Ex.Res B}{R1:Ex.Res Nat}{v0:B}{v1:Nat}(ht:Ex.tk ts s.p=t)(hi:t.int=0)(htx:t.text=[111,117,116])(h0:((Ex.Res.ok () s.skip:Ex.Res Unit).bind fun _ s=>Ex.name ts s)=R0)(l0:∀ x s,R0 = .ok x s->v0=x)(h1:(R0.bind fun _ s=>f .or d s)=R1)(l1:∀ x s,R1 = .ok x s->v1=x):
  (R1.bind fun _ s=>Ex.addN ts ⟨⟨#[111,117,116]⟩,t.at_.line,t.at_.col,⟨v0.toArray⟩,t.int,[v1].map fun (k:Nat)=>(k:Int)⟩ s)=Ex.outF ts f d s:=by
 subst h1;subst h0;subst ht;rw [hi];unfold Ex.outF;simp only [Ex.Res.bind] at l0 l1 ⊢
 cases e0:Ex.name ts s.skip with
 | bad c p=>rfl
 | out=>rfl
 | ok x0 s0 =>
  simp only [e0,Ex.Res.bind] at l0 l1 ⊢;obtain rfl:=l0 x0 s0 rfl
  cases e1:f .or d s0 with
  | bad c p=>rfl
  | out=>rfl
  | ok x1 s1 =>
   simp only [e1,Ex.Res.bind] at l1 ⊢;obtain rfl:=l1 x1 s1 rfl
   rfl
theorem qout_any (c:Cx)(X:Nat->Prop)(w:World)(d n:Nat)(f:Ex.Rec)(q:Qs)(s:Ex.S)(t:Tok)(hF:QSpec c n f)(h:Pre c X w d n 0 (s.p+1) [] (Ex.Res.ok () s.skip:Ex.Res Unit) q)(hn:10*(c.ts.length-s.p)<n)(hsl:s.p<c.ts.length)(htk:Ex.tk c.ts s.p=t)(hx:t.text=[111,117,116])(hk3:t.kind≠3):
  Calls Tryz.prog 117 #[.pointer (some ⟨c.r,0,none⟩),tval t] w (QP c X w d (Ex.outF c.ts f d s)):=by
 have hti:t.int=0:=by rw [<- htk] at hk3 ⊢;exact hF.ts.num hk3
 have hr1:=h.qd.rlt;have hbt:=h.qd.bt;have hsz:=h.qd.size;have hd:=h.deep;obtain ⟨W,hW⟩:∃ W,w.alloc (.cells #[.int .i64 t.kind,.string ⟨t.text.toArray⟩,.int .i64 t.int,.int .i64 t.at_.line,.int .i64 t.at_.col] 109)=W:=⟨_,rfl⟩;have hbW:Below w.heap.size w W:=by rw [<- hW];exact (Below.refl _ w).alloc (Nat.le_refl _) _
 have hzW:w.heap.size<W.heap.size:=by rw [<- hW];simp
 have hT0:Fiq W w.heap.size t:=by rw [<- hW];exact Fiq.new w t
 obtain ⟨kd,tx,nm,ap⟩:=t;simp only at hx;subst hx;have HF:=Lib.hid hF;have HQ:=Lib.hid (h.qd.below hbW);have HP:=Lib.hid h.lt;have HA:=Lib.hid h.abs;have HS:=Lib.hid h.st;have HK:=Lib.hid (Kp.of_below (c:=c) hbW);have HT:=Lib.hid hT0;have HW:=Lib.hid hW;have HTK:=Lib.hid htk;have HTI:=Lib.hid hti;clear hF h hbW hT0 hW htk hti hk3;unfold tval
 go_enter Tryz.func117,Tryz.ntmps117
 have t1:=HT.out.c1
 go_wp2_with fail
 rw [HW.out];clear t1;refine (qkind_any c X _ d q 1 HQ.out HP.out).mono ?_;rintro e w0 ⟨rfl,hQ0,hK0⟩;have hp0:=qkind_lt HF.out.ts HP.out (k:=1) (by decide);obtain ⟨hA0,hv0⟩:=HA.out.name (ts:=c.ts);have hS0:=HS.out.name;generalize qkind c.ts q 1=q0 at *;generalize qkindT c.ts q 1=t0 at *;obtain ⟨R0,hR0⟩:∃ R,((Ex.Res.ok () s.skip:Ex.Res Unit).bind fun _ s=>Ex.name c.ts s)=R:=⟨_,rfl⟩;rw [hR0] at hA0 hS0 hv0;have HA0:=Lib.hid hA0;have HS0:=Lib.hid hS0;have HR0:=Lib.hid hR0;have Hv0:=Lib.hid hv0;have HP0:=Lib.hid hp0;have HQ0:=Lib.hid hQ0;have HK0:=Lib.hid (HK.out.trans hK0);have HT0:=Lib.hid (HT.out.kp hK0 (by omega) (by omega));have hz0:=hK0.size;clear hA0 hS0 hR0 hv0 hp0 hQ0 hK0;obtain ⟨V0,hV0⟩:∃ V,w0.alloc (.cells #[.int .i64 t0.kind,.string ⟨t0.text.toArray⟩,.int .i64 t0.int,.int .i64 t0.at_.line,.int .i64 t0.at_.col] 109)=V:=⟨_,rfl⟩;have hbV0:Below w0.heap.size w0 V0:=by rw [<- hV0];exact (Below.refl _ w0).alloc (Nat.le_refl _) _
 have hM0:Fiq V0 w0.heap.size t0:=by rw [<- hV0];exact Fiq.new w0 t0
 have HQ0v:=Lib.hid (HQ0.out.below hbV0);have HK0v:=Lib.hid (HK0.out.then_below hbV0);have HT0v:=Lib.hid (HT0.out.below hbV0);have HM0:=Lib.hid hM0;have HV0:=Lib.hid hV0;have hzv0:=hbV0.size;clear hbV0 hM0 hV0;unfold tval
 go_wp2_with fail
 rw [HV0.out];refine (HF.out.or R0 X _ d ((s.p+1)+1) _ q0 ⟨HQ0v.out,HP0.out,HA0.out,HS0.out,by omega,hd⟩).mono ?_;rintro e w1 ⟨v1,q1,rfl,hQ1,hp1,hA1,hv1,hK1⟩;have hS1:=HS0.out.rec HF.out.ends HF.out.gr .or (by simp only [Ex.rank];omega) hv1;obtain ⟨R1,hR1⟩:∃ R,(R0.bind fun _ s=>f .or d s)=R:=⟨_,rfl⟩;rw [hR1] at hA1 hS1 hv1;have HA1:=Lib.hid hA1;have HS1:=Lib.hid hS1;have HR1:=Lib.hid hR1;have Hv1:=Lib.hid hv1;have HP1:=Lib.hid hp1;have HQ1:=Lib.hid hQ1;have HK1:=Lib.hid (HK0v.out.trans hK1);have HT1:=Lib.hid (HT0v.out.kp hK1 (by omega) (by omega));have HM1:=Lib.hid (HM0.out.kp hK1 (by omega) (by omega));have hz1:=hK1.size;clear hA1 hS1 hR1 hv1 hp1 hQ1 hK1;have y0:=HT1.out.c0;have y1:=HT1.out.c1;have y2:=HT1.out.c2;have y3:=HT1.out.c3;have y4:=HT1.out.c4;have z1:=HM1.out.c1
 go_wp2_with fail
 refine (qnode_any c X _ d q1 ⟨#[111,117,116]⟩ ⟨kd,[111,117,116],nm,ap⟩ ⟨t0.text.toArray⟩ [v1] (some ⟨w1.heap.size,0,none⟩) 1 (HQ1.out.below ((Below.refl _ w1).alloc (Nat.le_refl _) _)) HP1.out (qints1 _ (by omega) v1) (HQ1.out.fresh _ _)).mono ?_;rintro e w9 ⟨rfl,hQ,hK⟩;have hadd:=HA1.out.add (ts:=c.ts) ⟨⟨#[111,117,116]⟩,ap.line,ap.col,⟨t0.text.toArray⟩,nm,[v1].map fun (k:Nat)=>(k:Int)⟩ (fun a s9 e9=>fits_of (HS1.out.ready e9).2.2);have hkp:=HK1.out.trans (Below.then_kp ((Below.refl _ w1).alloc (Nat.le_refl _) _) hK);have heq:=qout_eq (f:=f) (d:=d) (s:=s) HTK.out HTI.out rfl HR0.out Hv0.out HR1.out Hv1.out;have hlt:=qnode_lt HP1.out (ts:=c.ts) ⟨⟨#[111,117,116]⟩,ap.line,ap.col,⟨t0.text.toArray⟩,nm,[v1].map fun (k:Nat)=>(k:Int)⟩;rw [heq] at hadd;have HADD:=Lib.hid hadd;have HQ9:=Lib.hid hQ;have HK9:=Lib.hid hkp;have HL:=Lib.hid hlt;clear hadd hQ hkp hlt heq hK y0 y1 y2 y3 y4 z1
 go_wp2
 go_ret
 exact ⟨_,_,rfl,HQ9.out,HL.out,HADD.out.1,HADD.out.2,HK9.out⟩
end Go.Proofs.YtninlbknklbofaaGreatDoor
