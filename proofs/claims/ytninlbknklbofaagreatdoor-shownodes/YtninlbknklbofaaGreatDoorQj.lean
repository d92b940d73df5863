/- A part of the proof: A part of the proof. -/
import Derived.Test.YtninlbknklbofaaGreatDoorQw
set_option linter.unusedSimpArgs false
set_option linter.unusedVariables false
set_option maxRecDepth 100000
set_option maxHeartbeats 4000000
namespace Go.Proofs.YtninlbknklbofaaGreatDoor
section
open Go.RowKit Tn Lx
attribute [local go_sem] qtok_field0 qtok_field1 qtok_field2 qtok_field3
theorem Abs.enter_bad {ts:List Tok}{α β:Type}{R:Ex.Res α}{q:Qs}{d:Nat}{k:Nat->Ex.S->Ex.Res β}(h:Abs R q)(hc:(qin ts q (d+1)).cd≠0):Abs (R.bind fun _ s=>(Ex.enter ts d s).bind k) (qin ts q (d+1))/\∀ i s,(R.bind fun _ s=>(Ex.enter ts d s).bind k) = .ok i s->False:=by
 have h1:=h.enter (ts:=ts) d;rw [<- Ex.Res.bind_assoc]
 revert h1
 generalize (R.bind fun _ s=>Ex.enter ts d s)=R1;intro h1
 cases R1 with
 | ok a s=>exact absurd h1.2.2 hc
 | bad c p=>exact ⟨h1,fun i s e=>by cases e⟩
 | out=>exact h1.elim
theorem Abs.enter_ok {ts:List Tok}{α:Type}{R:Ex.Res α}{q:Qs}{d:Nat}(h:Abs R q)(hc:(qin ts q (d+1)).cd=0):∃ a s,R = .ok a s/\Ex.enter ts d s = .ok (d+1) s/\qin ts q (d+1)=q/\d<64:=by
 have h1:=h.enter (ts:=ts) d
 cases R with
 | ok a s =>
  refine ⟨a,s,rfl, ?_⟩
  change Abs (Ex.enter ts d s) _ at h1
  unfold Ex.enter at h1 ⊢
  by_cases hd:64<=d
  ·rw [if_pos hd] at h1;exact absurd hc (by rw [h1.2.1];exact h1.1)
  ·rw [if_neg hd];exact ⟨rfl,by unfold qin;rw [if_neg (by omega)],by omega⟩
 | bad c p=>exact absurd hc (by rw [h1.2.1];exact h1.1)
 | out=>exact h1.elim
theorem qitem_no (c:Cx)(X:Nat->Prop)(w:World)(d:Nat)(q:Qs)(h:Qd c X w d q)(hp:q.p<c.ts.length)(hd:d<=64)(hc:(qin c.ts q (d+1)).cd≠0):Calls Tryz.prog 55 #[.pointer (some ⟨c.r,0,none⟩)] w (QR c X w d (qin c.ts q (d+1)) (.int .i64 0)):=by
 have hI:=qin_any c X w d q h hp hd;rw [decide_eq_false hc] at hI;generalize qin c.ts q (d+1)=q' at *;have HI:=Lib.hid hI;clear hI h hc hp
 go_enter Tryz.func55,Tryz.ntmps55
 go_wp2_with fail
 refine HI.out.mono ?_;rintro e w1 ⟨rfl,hQ1,hK1⟩;have c2:w1.cell? ⟨c.r,2,none⟩=some (.int .i64 ((d:Int)+1)):=by rw [hQ1.c2];congr 2
 have cf:=hQ1.fz;obtain ⟨hQ2,hK2⟩:=hQ1.setd d;have HQ2:=Lib.hid hQ2;have HK2:=Lib.hid (hK1.trans hK2);clear hQ1 hK1 hQ2 hK2
 go_wp2
 go_ret
 exact ⟨rfl,by simpa using HQ2.out,by simpa using HK2.out⟩
theorem qitem_yes (c:Cx)(X:Nat->Prop)(w:World)(d:Nat)(q:Qs)(R:Ex.Res Nat)(h:Qd c X w d q)(hp:q.p<c.ts.length)(hd:d<=64)(hc:(qin c.ts q (d+1)).cd=0)
  (hX:∀ w',Qd c X w' (d+1) (qin c.ts q (d+1))->Calls Tryz.prog 82 #[.pointer (some ⟨c.r,0,none⟩)] w' (QP c X w' (d+1) R)):Calls Tryz.prog 55 #[.pointer (some ⟨c.r,0,none⟩)] w (QP c X w d R):=by
 have hI:=qin_any c X w d q h hp hd;rw [decide_eq_true hc] at hI;generalize qin c.ts q (d+1)=q' at *;have HI:=Lib.hid hI;have HX:=Lib.hid hX;clear hI h hc hp hX
 go_enter Tryz.func55,Tryz.ntmps55
 go_wp2_with fail
 refine HI.out.mono ?_;rintro e w1 ⟨rfl,hQ1,hK1⟩;have HK1:=Lib.hid hK1;have HQ1:=Lib.hid hQ1;clear hK1 hQ1
 go_wp2_with fail
 refine (HX.out _ HQ1.out).mono ?_;rintro e w2 ⟨v,q2,rfl,hQ2,hp2,hA2,hv2,hK2⟩;have c2:w2.cell? ⟨c.r,2,none⟩=some (.int .i64 ((d:Int)+1)):=by rw [hQ2.c2];congr 2
 have cf:=hQ2.fz;obtain ⟨hQ3,hK3⟩:=hQ2.setd d;have HQ3:=Lib.hid hQ3;have HK3:=Lib.hid (HK1.out.trans (hK2.trans hK3));have HP2:=Lib.hid hp2;have HA2:=Lib.hid hA2;have HV2:=Lib.hid hv2;clear hQ2 hK2 hQ3 hK3 hp2 hA2 hv2
 go_wp2
 go_ret
 exact ⟨v,q2,rfl,by simpa using HQ3.out,HP2.out,HA2.out,HV2.out,by simpa using HK3.out⟩
theorem qitem_any (c:Cx)(n k:Nat)(g:Nat->Ex.S->Ex.Res Nat){α:Type}(R:Ex.Res α)(X:Nat->Prop)(w:World)(d m:Nat)(ks:List Nat)(q:Qs)(h:Pre c X w d n k m ks R q)
  (hX:∀ (s:Ex.S) (w':World),d<64->Pre c X w' (d+1) n k s.p [] (Ex.Res.ok () s:Ex.Res Unit) q->Calls Tryz.prog 82 #[.pointer (some ⟨c.r,0,none⟩)] w' (QP c X w' (d+1) (g (d+1) s))):
  Calls Tryz.prog 55 #[.pointer (some ⟨c.r,0,none⟩)] w (QP c X w d (R.bind fun _ s=>(Ex.enter c.ts d s).bind g)):=by
 by_cases hc:(qin c.ts q (d+1)).cd=0
 ·obtain ⟨a,s,rfl,he,hq,hd⟩:=h.abs.enter_ok hc;refine qitem_yes c X w d q _ h.qd h.lt h.deep hc fun w' h'=>?_;rw [hq] at h'
  show Calls _ _ _ _ (QP c X w' (d+1) ((Ex.enter c.ts d s).bind g))
  rw [he];have hst:=h.st.ready rfl;exact hX s w' hd ⟨h',h.lt,⟨h.abs.1,h.abs.2.1,h.abs.2.2⟩,⟨hst.1,Nat.le_refl _,fun k hk=>by cases hk⟩,by have:=h.fuel;have:=hst.2.1;omega,by omega⟩
 ·have hb:=h.abs.enter_bad (k:=g) hc;refine (qitem_no c X w d q h.qd h.lt h.deep hc).mono ?_;rintro e w1 ⟨rfl,hQ1,hK1⟩;exact ⟨0,_,rfl,hQ1,qin_lt h.lt _,hb.1,fun i s e=>(hb.2 i s e).elim,hK1⟩
theorem qunary_no (c:Cx)(X:Nat->Prop)(w:World)(d:Nat)(q:Qs)(h:Qd c X w d q)(hp:q.p<c.ts.length)(hd:d<=64)(hc:(qin c.ts q (d+1)).cd≠0):Calls Tryz.prog 134 #[.pointer (some ⟨c.r,0,none⟩)] w (QR c X w d (qin c.ts q (d+1)) (.int .i64 0)):=by
 have hI:=qin_any c X w d q h hp hd;rw [decide_eq_false hc] at hI;generalize qin c.ts q (d+1)=q' at *;have HI:=Lib.hid hI;clear hI h hc hp
 go_enter Tryz.func134,Tryz.ntmps134
 go_wp2_with fail
 refine HI.out.mono ?_;rintro e w1 ⟨rfl,hQ1,hK1⟩;have c2:w1.cell? ⟨c.r,2,none⟩=some (.int .i64 ((d:Int)+1)):=by rw [hQ1.c2];congr 2
 have cf:=hQ1.fz;obtain ⟨hQ2,hK2⟩:=hQ1.setd d;have HQ2:=Lib.hid hQ2;have HK2:=Lib.hid (hK1.trans hK2);clear hQ1 hK1 hQ2 hK2
 go_wp2
 go_ret
 exact ⟨rfl,by simpa using HQ2.out,by simpa using HK2.out⟩
theorem qunary_yes (c:Cx)(X:Nat->Prop)(w:World)(d:Nat)(q:Qs)(R:Ex.Res Nat)(h:Qd c X w d q)(hp:q.p<c.ts.length)(hd:d<=64)(hc:(qin c.ts q (d+1)).cd=0)
  (hX:∀ w',Qd c X w' (d+1) (qin c.ts q (d+1))->Calls Tryz.prog 149 #[.pointer (some ⟨c.r,0,none⟩)] w' (QP c X w' (d+1) R)):Calls Tryz.prog 134 #[.pointer (some ⟨c.r,0,none⟩)] w (QP c X w d R):=by
 have hI:=qin_any c X w d q h hp hd;rw [decide_eq_true hc] at hI;generalize qin c.ts q (d+1)=q' at *;have HI:=Lib.hid hI;have HX:=Lib.hid hX;clear hI h hc hp hX
 go_enter Tryz.func134,Tryz.ntmps134
 go_wp2_with fail
 refine HI.out.mono ?_;rintro e w1 ⟨rfl,hQ1,hK1⟩;have HK1:=Lib.hid hK1;have HQ1:=Lib.hid hQ1;clear hK1 hQ1
 go_wp2_with fail
 refine (HX.out _ HQ1.out).mono ?_;rintro e w2 ⟨v,q2,rfl,hQ2,hp2,hA2,hv2,hK2⟩;have c2:w2.cell? ⟨c.r,2,none⟩=some (.int .i64 ((d:Int)+1)):=by rw [hQ2.c2];congr 2
 have cf:=hQ2.fz;obtain ⟨hQ3,hK3⟩:=hQ2.setd d;have HQ3:=Lib.hid hQ3;have HK3:=Lib.hid (HK1.out.trans (hK2.trans hK3));have HP2:=Lib.hid hp2;have HA2:=Lib.hid hA2;have HV2:=Lib.hid hv2;clear hQ2 hK2 hQ3 hK3 hp2 hA2 hv2
 go_wp2
 go_ret
 exact ⟨v,q2,rfl,by simpa using HQ3.out,HP2.out,HA2.out,HV2.out,by simpa using HK3.out⟩
theorem qunary_any (c:Cx)(n k:Nat)(g:Nat->Ex.S->Ex.Res Nat){α:Type}(R:Ex.Res α)(X:Nat->Prop)(w:World)(d m:Nat)(ks:List Nat)(q:Qs)(h:Pre c X w d n k m ks R q)
  (hX:∀ (s:Ex.S) (w':World),d<64->Pre c X w' (d+1) n k s.p [] (Ex.Res.ok () s:Ex.Res Unit) q->Calls Tryz.prog 149 #[.pointer (some ⟨c.r,0,none⟩)] w' (QP c X w' (d+1) (g (d+1) s))):
  Calls Tryz.prog 134 #[.pointer (some ⟨c.r,0,none⟩)] w (QP c X w d (R.bind fun _ s=>(Ex.enter c.ts d s).bind g)):=by
 by_cases hc:(qin c.ts q (d+1)).cd=0
 ·obtain ⟨a,s,rfl,he,hq,hd⟩:=h.abs.enter_ok hc;refine qunary_yes c X w d q _ h.qd h.lt h.deep hc fun w' h'=>?_;rw [hq] at h'
  show Calls _ _ _ _ (QP c X w' (d+1) ((Ex.enter c.ts d s).bind g))
  rw [he];have hst:=h.st.ready rfl;exact hX s w' hd ⟨h',h.lt,⟨h.abs.1,h.abs.2.1,h.abs.2.2⟩,⟨hst.1,Nat.le_refl _,fun k hk=>by cases hk⟩,by have:=h.fuel;have:=hst.2.1;omega,by omega⟩
 ·have hb:=h.abs.enter_bad (k:=g) hc;refine (qunary_no c X w d q h.qd h.lt h.deep hc).mono ?_;rintro e w1 ⟨rfl,hQ1,hK1⟩;exact ⟨0,_,rfl,hQ1,qin_lt h.lt _,hb.1,fun i s e=>(hb.2 i s e).elim,hK1⟩
theorem qword_go (c:Cx)(X:Nat->Prop)(w:World)(d n:Nat)(q:Qs)(s:Ex.S)(t:Tok)(R:Ex.Res Nat)(hT:Ex.TsOk c.ts)(h:Pre c X w d n 0 s.p [] (Ex.Res.ok () s:Ex.Res Unit) q)(htk:Ex.tk c.ts s.p=t)(hk:t.kind=2)
  (hx:t.text=[108,101,116]\/t.text=[105,102]\/t.text=[116,114,121]\/t.text=[114,97,105,115,101]\/t.text=[111,117,116])
  (hC:∀ (w':World) (q':Qs),Pre c X w' d n 0 (s.p+1) [] (Ex.Res.ok () s.skip:Ex.Res Unit) q'->Calls Tryz.prog 117 #[.pointer (some ⟨c.r,0,none⟩),tval t] w' (QP c X w' d R)):
  Calls Tryz.prog 82 #[.pointer (some ⟨c.r,0,none⟩)] w (QP c X w d R):=by
 obtain ⟨hqp,hqn,hqc⟩:=h.abs;have hnx:s.p+1<c.ts.length:=hT.next (by rw [htk,hk];decide);have hr1:=h.qd.rlt;have hbt:=h.qd.bt;have hsz:=h.qd.size;have hd:=h.deep;have hfu:=h.fuel;obtain ⟨a0,a1,b0,b1,b2,b3,b4,c0,c1,k0,k1,k2,k3,k4,wr,w1,few,room⟩:=h.qd.looks h.lt;rw [hqp,htk] at b0 b1 b2 b3 b4 k0 k1 k2 k3 k4;rw [hqp] at a1 c1 wr w1;obtain ⟨V,hV⟩:∃ V,(w.alloc (.cells #[.int .i64 t.kind,.string ⟨t.text.toArray⟩,.int .i64 t.int,.int .i64 t.at_.line,.int .i64 t.at_.col] 109)).drew=V:=⟨_,rfl⟩;have hbV:Below w.heap.size w V:=by rw [<- hV];exact Below.drawn w _
 have hT1:Fiq V w.heap.size t:=by rw [<- hV];exact Fiq.drawn w t
 have hQV:=h.qd.below hbV;have d1:=hQV.c1;have df:=hQV.fz;rw [hqp] at d1;obtain ⟨V2,hV2⟩:∃ V2,V.setCell ⟨c.r,1,none⟩ (.int .i64 ((s.p:Int)+1))=V2:=⟨_,rfl⟩;obtain ⟨hQ,hK⟩:=hQV.setp (p':=s.p+1) (by omega);rw [show (((s.p+1:Nat):Int))=(s.p:Int)+1 by omega,hV2] at hQ hK;obtain ⟨q1,hq1⟩:∃ q1,(⟨s.p+1,q.ns,q.cd,q.bp⟩:Qs)=q1:=⟨_,rfl⟩;rw [hq1] at hQ;have hP1:Pre c X V2 d n 0 (s.p+1) [] (Ex.Res.ok () s.skip:Ex.Res Unit) q1:=⟨hQ,by rw [<- hq1];exact hnx,by rw [<- hq1];exact ⟨rfl,hqn,hqc⟩,⟨(h.st.ready rfl).1.skip (by omega),Nat.le_refl _,fun k hk=>by cases hk⟩,by omega,hd⟩;have hC1:=hC V2 q1 hP1;have hT2:=hT1.kp hK (by omega) (by omega);have HC:=Lib.hid hC1;have HK:=Lib.hid ((Kp.of_below (c:=c) hbV).trans hK);have HT:=Lib.hid hT2;have HTV:=Lib.hid hT1;have HV:=Lib.hid hV;have HV2:=Lib.hid hV2;clear hT h htk hC hbV hT1 hQV hQ hK hq1 hP1 hC1 hT2 hV hV2 hnx hqp hqn hqc hfu;obtain ⟨kd,tx,nm,ap⟩:=t;simp only at hk hx;subst hk;unfold tval at HC;simp only at HC
 rcases hx with rfl | rfl | rfl | rfl | rfl
 all_goals
  go_enter Tryz.func82,Tryz.ntmps82
  go_upto_region 1 with fail
  go_region
  rw [HV.out];clear a0 a1 b0 b1 b2 b3 b4 c0 c1 k0 k1 k2 k3 k4;have u0:=HTV.out.c0;have u1:=HTV.out.c1
  go_upto_region 4 with fail
  rw [HV2.out];clear u0 u1 d1 df;have y0:=HT.out.c0;have y1:=HT.out.c1;have y2:=HT.out.c2;have y3:=HT.out.c3;have y4:=HT.out.c4
  go_wp2_with fail
  refine HC.out.mono ?_;rintro e w2 ⟨v,q2,rfl,hQ2,hp2,hA2,hv2,hK2⟩;have HQ2:=Lib.hid hQ2;have HP2:=Lib.hid hp2;have HA2:=Lib.hid hA2;have HV2:=Lib.hid hv2;have HK2:=Lib.hid (HK.out.trans hK2);clear hQ2 hp2 hA2 hv2 hK2 y0 y1 y2 y3 y4
  go_wp2
  go_ret
  exact ⟨v,q2,rfl,HQ2.out,HP2.out,HA2.out,HV2.out,HK2.out⟩
end
section
open Go.RowKit Tn Lx
attribute [local go_sem] qtok_field0 qtok_field1 qtok_field2 qtok_field3
theorem qnone_any (c:Cx)(X:Nat->Prop)(w:World)(d:Nat)(q:Qs)(s:Ex.S)(t:Tok)(h:Qd c X w d q)(hp:q.p<c.ts.length)(hA:Abs (Ex.Res.ok () s:Ex.Res Unit) q)(htk:Ex.tk c.ts s.p=t)(hk1:t.kind≠1)(hk3:t.kind≠3)
  (x1:(t.text==[45])=false) (x2:(t.text==[110,111,116])=false) (x3:(t.text==[102,115,116])=false) (x4:(t.text==[115,110,100])=false) (x5:(t.text==[33])=false) (x6:(t.text==[104,111,108,101])=false)
  (x7:(t.text==[116,114,117,101])=false) (x8:(t.text==[102,97,108,115,101])=false) (x9:(t.text==[114,101,108,101,97,115,101])=false) (x10:(t.text==[40])=false):
  Calls Tryz.prog 149 #[.pointer (some ⟨c.r,0,none⟩)] w (QP c X w d (Ex.wrong c.ts 5 s)):=by
 obtain ⟨hqp,hqn,hqc⟩:=hA;obtain ⟨a0,a1,b0,b1,b2,b3,b4,c0,c1,k0,k1,k2,k3,k4,wr,w1,few,room⟩:=h.looks hp;rw [hqp,htk] at b0 b1 b2 b3 b4 k0 k1 k2 k3 k4;rw [hqp] at a1 c1 wr w1;have hr1:=h.rlt;have hbt:=h.bt;have hsz:=h.size;obtain ⟨V,hV⟩:∃ V,(w.alloc (.cells #[.int .i64 t.kind,.string ⟨t.text.toArray⟩,.int .i64 t.int,.int .i64 t.at_.line,.int .i64 t.at_.col] 109)).drew=V:=⟨_,rfl⟩;have hbV:Below w.heap.size w V:=by rw [<- hV];exact Below.drawn w _
 have hT:Fiq V w.heap.size t:=by rw [<- hV];exact Fiq.drawn w t
 have hQV:=h.below hbV;have d1:=hQV.c1;have df:=hQV.fz;rw [hqp] at d1;obtain ⟨V2,hV2⟩:∃ V2,V.setCell ⟨c.r,1,none⟩ (.int .i64 ((s.p:Int)+1))=V2:=⟨_,rfl⟩;obtain ⟨hQ,hK⟩:=hQV.setp (p':=s.p+1) (by omega);rw [show (((s.p+1:Nat):Int))=(s.p:Int)+1 by omega,hV2] at hQ hK;have hT2:=hT.kp hK (by omega) (by omega);obtain ⟨hQ3,hK3⟩:=hQ.setp (p':=s.p) (by omega);obtain ⟨V3,hV3⟩:∃ V3,V2.setCell ⟨c.r,1,none⟩ (.int .i64 (s.p:Int))=V3:=⟨_,rfl⟩;rw [hV3] at hQ3 hK3;have hq3:(⟨s.p,q.ns,q.cd,q.bp⟩:Qs)=q:=by rw [<- hqp]
 simp only [] at hQ3;rw [hq3] at hQ3;have e1:V2.cell? ⟨c.r,1,none⟩=some (.int .i64 ((s.p:Int)+1)):=by rw [hQ.c1];congr 2
 have ef:=hQ.fz;have hF:=fun w1 (h1:Qd c X w1 d q)=>qfail_any c X w1 d q 5 h1 hp;have hR:Abs (Ex.wrong c.ts 5 s:Ex.Res Nat) (qfail c.ts q 5):=by
  unfold qfail Ex.wrong;rw [if_pos hqc,hqp];exact ⟨by decide,rfl,rfl⟩
 have hlt:(qfail c.ts q 5).p<c.ts.length:=by unfold qfail;split <;> exact hp
 have hk1n:(t.kind==1)=false:=by simpa using hk1
 have hk3n:(t.kind==3)=false:=by simpa using hk3
 have HQ3:=Lib.hid hQ3;have HK3:=Lib.hid ((Kp.of_below (c:=c) hbV).trans (hK.trans hK3));have HT:=Lib.hid hT2;have HV:=Lib.hid hV;have HV2:=Lib.hid hV2;have HV3:=Lib.hid hV3;have HF:=Lib.hid hF;have HR:=Lib.hid hR;have HL:=Lib.hid hlt;clear h hp hbV hT hQV hQ hK hT2 hQ3 hK3 hV hV2 hV3 hF hR hlt htk hq3 hqn hqc hk1 hk3 hqp
 go_enter Tryz.func149,Tryz.ntmps149
 go_upto_region 1 with fail
 go_region
 rw [HV.out];clear a0 a1 b0 b1 b2 b3 b4 c0 c1 k0 k1 k2 k3 k4
 go_upto_region 3 with fail
 rw [HV2.out];clear d1 df;have u0:=HT.out.c0;have u1:=HT.out.c1
 go_wp2_with fail
 rw [HV3.out];refine (HF.out _ HQ3.out).mono ?_;rintro e w2 ⟨rfl,hQ4,hK4⟩;have HQ4:=Lib.hid hQ4;have HK4:=Lib.hid (HK3.out.trans hK4);clear hQ4 hK4 e1 ef u0 u1
 go_wp2
 go_ret
 exact ⟨0,_,rfl,HQ4.out,HL.out,HR.out,(fun i s' e=>by unfold Ex.wrong at e;cases e),HK4.out⟩
end
section
open Go.RowKit Tn Lx
attribute [local go_sem] qtok_field0 qtok_field1 qtok_field2 qtok_field3
theorem qname_go (c:Cx)(X:Nat->Prop)(w:World)(d:Nat)(q:Qs)(t u:Tok)(R:Ex.Res Nat)(hT:Ex.TsOk c.ts)(h:Qd c X w d q)(hp:q.p<c.ts.length)(htk:Ex.tk c.ts q.p=t)(hu:Ex.tk c.ts (q.p+1)=u)(hk1:t.kind=1)
  (hx:(u.kind==4 && u.text==[58,61])=false)
  (hC:∀ w',Qd c X w' d q->Calls Tryz.prog 118 #[.pointer (some ⟨c.r,0,none⟩),.int .i64 0] w' (QP c X w' d R)):
  Calls Tryz.prog 82 #[.pointer (some ⟨c.r,0,none⟩)] w (QP c X w d R):=by
 have hnx:q.p+1<c.ts.length:=hT.next (by rw [htk,hk1];decide);obtain ⟨a0,a1,b0,b1,b2,b3,b4,c0,c1,k0,k1,k2,k3,k4,wr,w1,few,room⟩:=h.looks hp;rw [htk] at b0 b1 b2 b3 b4 k0 k1 k2 k3 k4;obtain ⟨V,hV⟩:∃ V,(w.alloc (.cells #[.int .i64 t.kind,.string ⟨t.text.toArray⟩,.int .i64 t.int,.int .i64 t.at_.line,.int .i64 t.at_.col] 109)).drew=V:=⟨_,rfl⟩;have hbV:Below w.heap.size w V:=by rw [<- hV];exact Below.drawn w _
 have hT1:Fiq V w.heap.size t:=by rw [<- hV];exact Fiq.drawn w t
 obtain ⟨U,hU⟩:∃ U,V.alloc (.cells #[.int .i64 0,.string ⟨#[]⟩,.int .i64 0,.int .i64 0,.int .i64 0] 109)=U:=⟨_,rfl⟩;have hbU:Below V.heap.size V U:=by rw [<- hU];exact (Below.refl _ V).alloc (Nat.le_refl _) _
 have hZ:Fiq U V.heap.size Ex.zt:=by rw [<- hU];exact ⟨blk_new V _⟩
 have hbw:=hbV.trans (hbU.mono hbV.size);have hQU:=h.below hbw;have e0:=hQU.c0;have e1:=hQU.c1;have n0:=hQU.tk hnx 0 (by omega) rfl;have n1:=hQU.tk hnx 1 (by omega) rfl;have n2:=hQU.tk hnx 2 (by omega) rfl;have n3:=hQU.tk hnx 3 (by omega) rfl;have n4:=hQU.tk hnx 4 (by omega) rfl;rw [hu] at n0 n1 n2 n3 n4;rw [Nat.add_zero] at n0;have wr2:IntKind.i64.wrap ((q.p:Int)+1)=(q.p:Int)+1:=IntWalk.i64_in _ (by omega);have wn:((q.p:Int)+1).toNat=q.p+1:=by omega
 have w0:(0:Int)<=(q.p:Int)+1:=by omega
 have w2:(q.p:Int)+1<(c.ts.length:Int):=by omega
 have hsz:=h.size;have hzV:=hbV.size;have hrl:=h.rlt;have hbt:=h.bt;obtain ⟨D,hD⟩:∃ D,U.drew=D:=⟨_,rfl⟩;have hbD:Below U.heap.size U D:=by rw [<- hD];exact (Below.refl _ U).drew
 have hZD:=hZ.below hbD;have hQD:=hQU.below hbD;have y0:=hZD.c0;have y1:=hZD.c1;have y2:=hZD.c2;have y3:=hZD.c3;have y4:=hZD.c4;have yf:=hZD.fz;obtain ⟨N,hN⟩:∃ N,((((D.setCell ⟨V.heap.size,0,none⟩ (.int .i64 u.kind)).setCell ⟨V.heap.size,1,none⟩ (.string ⟨u.text.toArray⟩)).setCell ⟨V.heap.size,2,none⟩ (.int .i64 u.int)).setCell ⟨V.heap.size,3,none⟩ (.int .i64 u.at_.line)).setCell ⟨V.heap.size,4,none⟩ (.int .i64 u.at_.col)=N:=⟨_,rfl⟩;have hZN:Fiq N V.heap.size u:=by rw [<- hN];exact hZD.store u
 have hQN:Qd c X N d q:=by rw [<- hN];exact hQD.five hZD (by omega) _ _ _ _ _
 have hbut:But (fun k=>k=V.heap.size) U N:=(But.of_below hbD).trans (by rw [<- hN];exact but_five D V.heap.size _ _ _ _ _);have hKN:Kp c w N:=(Kp.of_below (c:=c) hbw).new hbut (fun k e=>by omega);have hTN:Fiq N w.heap.size t:=⟨hbut.heap (hT1.below hbU).blk (by have:=hT1.lt;omega)⟩;have HQ:=Lib.hid hQU;have HK:=Lib.hid hKN;have HQN:=Lib.hid hQN;have HZN:=Lib.hid hZN;have HTN:=Lib.hid hTN;have HN:=Lib.hid hN;have HD:=Lib.hid hD;have HTV:=Lib.hid hT1;have HV:=Lib.hid hV;have HU:=Lib.hid hU;have HC:=Lib.hid hC;have HZ:=Lib.hid hZ;have HK1:=Lib.hid hk1;have HX:=Lib.hid hx;clear h htk hC hbV hT1 hV hk1 hT hU hbU hbw hQU hu hZ hx hnx hKN hQN hZN hTN hN hbut hbD hZD hQD hD
 go_enter Tryz.func82,Tryz.ntmps82
 go_upto_region 1 with fail
 go_region
 rw [HV.out];clear a0 a1 b0 b1 b2 b3 b4 c0 c1 k0 k1 k2 k3 k4;have u0:=HTV.out.c0;have u1:=HTV.out.c1;rw [HK1.out] at u0;have s0:=alloc_cell u0
 go_upto_region 7 with fail
 rw [HU.out]
 go_still_tail 11,(by kernel_rfl)
 change wpList _ _ _ _ _ U.drew
 rw [HD.out];clear e0 e1 n0 n1 n2 n3 n4
 go_upto_region 8 with fail
 rw [HN.out];clear y0 y1 y2 y3 y4 yf u0 u1 s0;have z0:=HZN.out.c0;have z1:=HZN.out.c1;have hx:=HX.out
 cases hv4:(u.kind==4) with
 | false =>
  clear hx
  go_wp2_with fail
  refine (HC.out _ HQN.out).mono ?_;rintro e w2 ⟨v,q2,rfl,hQ2,hp2,hA2,hv2,hK2⟩;have HQ2:=Lib.hid hQ2;have HP2:=Lib.hid hp2;have HA2:=Lib.hid hA2;have HV2:=Lib.hid hv2;have HK2:=Lib.hid (HK.out.trans hK2);clear hQ2 hp2 hA2 hv2 hK2 z0 z1
  go_wp2
  go_ret
  exact ⟨v,q2,rfl,HQ2.out,HP2.out,HA2.out,HV2.out,HK2.out⟩
 | true =>
  rw [hv4,Bool.true_and] at hx
  go_wp2_with fail
  refine (HC.out _ HQN.out).mono ?_;rintro e w2 ⟨v,q2,rfl,hQ2,hp2,hA2,hv2,hK2⟩;have HQ2:=Lib.hid hQ2;have HP2:=Lib.hid hp2;have HA2:=Lib.hid hA2;have HV2:=Lib.hid hv2;have HK2:=Lib.hid (HK.out.trans hK2);clear hQ2 hp2 hA2 hv2 hK2 z0 z1
  go_wp2
  go_ret
  exact ⟨v,q2,rfl,HQ2.out,HP2.out,HA2.out,HV2.out,HK2.out⟩
end
section
open Go.RowKit Tn Lx
attribute [local go_sem] qtok_field0 qtok_field1 qtok_field2 qtok_field3
theorem qset_go (c:Cx)(X:Nat->Prop)(w:World)(d:Nat)(q:Qs)(t u:Tok)(ks:List Nat)(R:Ex.Res Nat)(Ra:Ex.Res Nat)(hT:Ex.TsOk c.ts)(h:Qd c X w d q)(hp:q.p<c.ts.length)(htk:Ex.tk c.ts q.p=t)(hu:Ex.tk c.ts (q.p+1)=u)(hk1:t.kind=1)
  (hx1:u.kind=4) (hx2:u.text=[58,61])
  (hC:∀ w',Qd c X w' d q.skip.skip->Calls Tryz.prog 118 #[.pointer (some ⟨c.r,0,none⟩),.int .i64 0] w' (QP c X w' d Ra))
  (hf:∀ v,(∀ i s,Ra = .ok i s->v=i)->(∀ a s,Ra = .ok a s->fits s.ns.length ⟨⟨#[115,101,116]⟩,t.at_.line,t.at_.col,⟨t.text.toArray⟩,t.int,[v].map fun (k:Nat)=>(k:Int)⟩=true)/\(Ra.bind fun _ s=>Ex.addN c.ts ⟨⟨#[115,101,116]⟩,t.at_.line,t.at_.col,⟨t.text.toArray⟩,t.int,[v].map fun (k:Nat)=>(k:Int)⟩ s)=R):
  Calls Tryz.prog 82 #[.pointer (some ⟨c.r,0,none⟩)] w (QP c X w d R):=by
 have hnx:q.p+1<c.ts.length:=hT.next (by rw [htk,hk1];decide);obtain ⟨a0,a1,b0,b1,b2,b3,b4,c0,c1,k0,k1,k2,k3,k4,wr,w1,few,room⟩:=h.looks hp;rw [htk] at b0 b1 b2 b3 b4 k0 k1 k2 k3 k4;obtain ⟨V,hV⟩:∃ V,(w.alloc (.cells #[.int .i64 t.kind,.string ⟨t.text.toArray⟩,.int .i64 t.int,.int .i64 t.at_.line,.int .i64 t.at_.col] 109)).drew=V:=⟨_,rfl⟩;have hbV:Below w.heap.size w V:=by rw [<- hV];exact Below.drawn w _
 have hT1:Fiq V w.heap.size t:=by rw [<- hV];exact Fiq.drawn w t
 obtain ⟨U,hU⟩:∃ U,V.alloc (.cells #[.int .i64 0,.string ⟨#[]⟩,.int .i64 0,.int .i64 0,.int .i64 0] 109)=U:=⟨_,rfl⟩;have hbU:Below V.heap.size V U:=by rw [<- hU];exact (Below.refl _ V).alloc (Nat.le_refl _) _
 have hZ:Fiq U V.heap.size Ex.zt:=by rw [<- hU];exact ⟨blk_new V _⟩
 have hbw:=hbV.trans (hbU.mono hbV.size);have hQU:=h.below hbw;have e0:=hQU.c0;have e1:=hQU.c1;have n0:=hQU.tk hnx 0 (by omega) rfl;have n1:=hQU.tk hnx 1 (by omega) rfl;have n2:=hQU.tk hnx 2 (by omega) rfl;have n3:=hQU.tk hnx 3 (by omega) rfl;have n4:=hQU.tk hnx 4 (by omega) rfl;rw [hu] at n0 n1 n2 n3 n4;rw [Nat.add_zero] at n0;have wr2:IntKind.i64.wrap ((q.p:Int)+1)=(q.p:Int)+1:=IntWalk.i64_in _ (by omega);have wn:((q.p:Int)+1).toNat=q.p+1:=by omega
 have w0:(0:Int)<=(q.p:Int)+1:=by omega
 have w2:(q.p:Int)+1<(c.ts.length:Int):=by omega
 have hsz:=h.size;have hzV:=hbV.size;have hrl:=h.rlt;have hbt:=h.bt;obtain ⟨D,hD⟩:∃ D,U.drew=D:=⟨_,rfl⟩;have hbD:Below U.heap.size U D:=by rw [<- hD];exact (Below.refl _ U).drew
 have hZD:=hZ.below hbD;have hQD:=hQU.below hbD;have y0:=hZD.c0;have y1:=hZD.c1;have y2:=hZD.c2;have y3:=hZD.c3;have y4:=hZD.c4;have yf:=hZD.fz;obtain ⟨N,hN⟩:∃ N,((((D.setCell ⟨V.heap.size,0,none⟩ (.int .i64 u.kind)).setCell ⟨V.heap.size,1,none⟩ (.string ⟨u.text.toArray⟩)).setCell ⟨V.heap.size,2,none⟩ (.int .i64 u.int)).setCell ⟨V.heap.size,3,none⟩ (.int .i64 u.at_.line)).setCell ⟨V.heap.size,4,none⟩ (.int .i64 u.at_.col)=N:=⟨_,rfl⟩;have hZN:Fiq N V.heap.size u:=by rw [<- hN];exact hZD.store u
 have hQN:Qd c X N d q:=by rw [<- hN];exact hQD.five hZD (by omega) _ _ _ _ _
 have hbut:But (fun k=>k=V.heap.size) U N:=(But.of_below hbD).trans (by rw [<- hN];exact but_five D V.heap.size _ _ _ _ _);have hKN:Kp c w N:=(Kp.of_below (c:=c) hbw).new hbut (fun k e=>by omega);have hTN:Fiq N w.heap.size t:=⟨hbut.heap (hT1.below hbU).blk (by have:=hT1.lt;omega)⟩;have hnx2:q.p+2<c.ts.length:=hT.next (by rw [hu,hx1];decide);have m1:=hQN.c1;have mf:=hQN.fz;obtain ⟨M,hM⟩:∃ M,N.setCell ⟨c.r,1,none⟩ (.int .i64 ((q.p:Int)+2))=M:=⟨_,rfl⟩;obtain ⟨hQM,hKM⟩:=hQN.setp (p':=q.p+2) (by omega);rw [show (((q.p+2:Nat):Int))=(q.p:Int)+2 by omega,hM] at hQM hKM;have hTM:=hTN.kp hKM (by omega) (by omega);have hKw:=hKN.trans hKM;have wr3:IntKind.i64.wrap ((q.p:Int)+2)=(q.p:Int)+2:=IntWalk.i64_in _ (by omega);have hCM:=hC M hQM;have hzM:=hKw.size;have HCM:=Lib.hid hCM;have HKW:=Lib.hid hKw;have HTM:=Lib.hid hTM;have HM:=Lib.hid hM;have HNX2:=Lib.hid hnx2;clear hCM hKw hTM hM hQM hKM hnx2;have HQ:=Lib.hid hQU;have HK:=Lib.hid hKN;have HQN:=Lib.hid hQN;have HZN:=Lib.hid hZN;have HTN:=Lib.hid hTN;have HN:=Lib.hid hN;have HD:=Lib.hid hD;have HTV:=Lib.hid hT1;have HV:=Lib.hid hV;have HU:=Lib.hid hU;have HC:=Lib.hid hC;have HZ:=Lib.hid hZ;have HK1:=Lib.hid hk1;have HX1:=Lib.hid hx1;have HX2:=Lib.hid hx2;have HF:=Lib.hid hf;clear h htk hC hbV hT1 hV hk1 hT hU hbU hbw hQU hu hZ hx1 hx2 hf hnx hKN hQN hZN hTN hN hbut hbD hZD hQD hD
 go_enter Tryz.func82,Tryz.ntmps82
 go_upto_region 1 with fail
 go_region
 rw [HV.out];clear a0 a1 b0 b1 b2 b3 b4 c0 c1 k0 k1 k2 k3 k4;have u0:=HTV.out.c0;have u1:=HTV.out.c1;rw [HK1.out] at u0;have s0:=alloc_cell u0
 go_upto_region 7 with fail
 rw [HU.out]
 go_still_tail 11,(by kernel_rfl)
 change wpList _ _ _ _ _ U.drew
 rw [HD.out];clear e0 e1 n0 n1 n2 n3 n4
 go_upto_region 8 with fail
 rw [HN.out];clear y0 y1 y2 y3 y4 yf u0 u1 s0;have z0:=HZN.out.c0;have z1:=HZN.out.c1;rw [HX1.out] at z0;rw [HX2.out] at z1
 go_upto_region 10 with fail
 rw [HM.out];clear m1 mf z0 z1
 go_wp2_with fail
 refine HCM.out.mono ?_;rintro e w2 ⟨v,q2,rfl,hQ2,hp2,hA2,hv2,hK2⟩;obtain ⟨hf1,hf2⟩:=HF.out v hv2;have hadd:=hA2.add (ts:=c.ts) _ hf1;rw [hf2] at hadd;have hT2:=HTM.out.kp hK2 (by omega) (by omega);have hz2:=hK2.size;have hlt:=qnode_lt hp2 (ts:=c.ts) ⟨⟨#[115,101,116]⟩,t.at_.line,t.at_.col,⟨t.text.toArray⟩,t.int,[v].map fun (k:Nat)=>(k:Int)⟩;have HQ2:=Lib.hid hQ2;have HP2:=Lib.hid hp2;have HADD:=Lib.hid hadd;have HL:=Lib.hid hlt;have HK2:=Lib.hid (HKW.out.trans hK2);have HT2:=Lib.hid hT2;clear hQ2 hp2 hA2 hv2 hK2 hf1 hf2 hadd hT2 hlt;have y0:=HT2.out.c0;have y1:=HT2.out.c1;have y2:=HT2.out.c2;have y3:=HT2.out.c3;have y4:=HT2.out.c4
 go_wp2_with fail
 refine (qnode_any c X _ d q2 ⟨#[115,101,116]⟩ t ⟨t.text.toArray⟩ [v] (some ⟨w2.heap.size,0,none⟩) 1 (HQ2.out.below ((Below.refl _ w2).alloc (Nat.le_refl _) _)) HP2.out (qints1 _ (by omega) v) (HQ2.out.fresh _ _)).mono ?_;rintro e w9 ⟨rfl,hQ9,hK9⟩;have HQ9:=Lib.hid hQ9;have HK9:=Lib.hid (HK2.out.trans (Below.then_kp ((Below.refl _ w2).alloc (Nat.le_refl _) _) hK9));clear hQ9 hK9 y0 y1 y2 y3 y4
 go_wp2
 go_ret
 exact ⟨_,_,rfl,HQ9.out,HL.out,HADD.out.1,HADD.out.2,HK9.out⟩
end
section
open Go.RowKit Tn Lx
attribute [local go_sem] qtok_field0 qtok_field1 qtok_field2 qtok_field3
theorem qlev_go (c:Cx)(X:Nat->Prop)(w:World)(d:Nat)(q:Qs)(t:Tok)(R:Ex.Res Nat)(h:Qd c X w d q)(hp:q.p<c.ts.length)(htk:Ex.tk c.ts q.p=t)(hk1:t.kind≠1)
  (hx:t.kind≠2\/t.kind=2/\(t.text==[108,101,116])=false/\(t.text==[105,102])=false/\(t.text==[116,114,121])=false/\(t.text==[114,97,105,115,101])=false/\(t.text==[111,117,116])=false)
  (hC:∀ w',Qd c X w' d q->Calls Tryz.prog 118 #[.pointer (some ⟨c.r,0,none⟩),.int .i64 0] w' (QP c X w' d R)):
  Calls Tryz.prog 82 #[.pointer (some ⟨c.r,0,none⟩)] w (QP c X w d R):=by
 obtain ⟨a0,a1,b0,b1,b2,b3,b4,c0,c1,k0,k1,k2,k3,k4,wr,w1,few,room⟩:=h.looks hp;rw [htk] at b0 b1 b2 b3 b4 k0 k1 k2 k3 k4;obtain ⟨V,hV⟩:∃ V,(w.alloc (.cells #[.int .i64 t.kind,.string ⟨t.text.toArray⟩,.int .i64 t.int,.int .i64 t.at_.line,.int .i64 t.at_.col] 109)).drew=V:=⟨_,rfl⟩;have hbV:Below w.heap.size w V:=by rw [<- hV];exact Below.drawn w _
 have hT1:Fiq V w.heap.size t:=by rw [<- hV];exact Fiq.drawn w t
 have hk1n:(t.kind==1)=false:=by simpa using hk1
 have HQ:=Lib.hid (h.below hbV);have HK:=Lib.hid (Kp.of_below (c:=c) hbV);have HTV:=Lib.hid hT1;have HV:=Lib.hid hV;have HC:=Lib.hid hC;clear h htk hC hbV hT1 hV hk1
 rcases hx with hk2 | ⟨hk2,x1,x2,x3,x4,x5⟩
 ·have hk2n:(t.kind==2)=false:=by simpa using hk2
  clear hk2
  go_enter Tryz.func82,Tryz.ntmps82
  go_upto_region 1 with fail
  go_region
  rw [HV.out];clear a0 a1 b0 b1 b2 b3 b4 c0 c1 k0 k1 k2 k3 k4;have u0:=HTV.out.c0;have u1:=HTV.out.c1;have s0:=alloc_cell u0
  go_wp2_with fail
  refine (HC.out _ (HQ.out.below ((Below.refl _ V).alloc (Nat.le_refl _) _))).mono ?_;rintro e w2 ⟨v,q2,rfl,hQ2,hp2,hA2,hv2,hK2⟩;have HQ2:=Lib.hid hQ2;have HP2:=Lib.hid hp2;have HA2:=Lib.hid hA2;have HV2:=Lib.hid hv2;have HK2:=Lib.hid (HK.out.trans (Below.then_kp ((Below.refl _ V).alloc (Nat.le_refl _) _) hK2));clear hQ2 hp2 hA2 hv2 hK2 u0 u1
  go_wp2
  go_ret
  exact ⟨v,q2,rfl,HQ2.out,HP2.out,HA2.out,HV2.out,HK2.out⟩
 ·have hk2n:(t.kind==2)=true:=by simpa using hk2
  have HK2:=Lib.hid hk2;clear hk2
  go_enter Tryz.func82,Tryz.ntmps82
  go_upto_region 1 with fail
  go_region
  rw [HV.out];clear a0 a1 b0 b1 b2 b3 b4 c0 c1 k0 k1 k2 k3 k4;have u0:=HTV.out.c0;have u1:=HTV.out.c1;have s0:=alloc_cell u0;have hk2:=HK2.out
  go_wp2_with fail
  refine (HC.out _ (HQ.out.below ((Below.refl _ V).alloc (Nat.le_refl _) _))).mono ?_;rintro e w2 ⟨v,q2,rfl,hQ2,hp2,hA2,hv2,hK2⟩;have HQ2:=Lib.hid hQ2;have HP2:=Lib.hid hp2;have HA2:=Lib.hid hA2;have HV2:=Lib.hid hv2;have HKK:=Lib.hid (HK.out.trans (Below.then_kp ((Below.refl _ V).alloc (Nat.le_refl _) _) hK2));clear hQ2 hp2 hA2 hv2 hK2 u0 u1
  go_wp2
  go_ret
  exact ⟨v,q2,rfl,HQ2.out,HP2.out,HA2.out,HV2.out,HKK.out⟩
end
end Go.Proofs.YtninlbknklbofaaGreatDoor
