/- A part of the proof: A part of the proof. -/
import Derived.Test.YtninlbknklbofaaGreatDoorQ2
import Derived.Deep.LoopGhost
import Derived.Test.YtninlbknklbofaaGreatDoorQz
import Derived.Test.YtninlbknklbofaaGreatDoorLScan
import Derived.Test.YtninlbknklbofaaGreatDoorLBehind
import Derived.Test.YtninlbknklbofaaGreatDoorLLxO
set_option linter.unusedSimpArgs false
set_option linter.unusedVariables false
set_option maxRecDepth 100000
set_option maxHeartbeats 8000000
namespace Go.Proofs.YtninlbknklbofaaGreatDoor
section
open Go.RowKit Tn Lx
attribute [local go_sem] qtok_field0 qtok_field1 qtok_field2 qtok_field3
theorem qmarks3 (w:World):Calls Tryz.prog 135 #[.int .i64 3] w fun e w'=>∃ b,e = .returned (.slice (some ⟨b,0,none⟩) 2 2)/\w.heap.size<=b/\MksAt w' b [.string ⟨#[43]⟩,.string ⟨#[45]⟩]/\Below w.heap.size w w':=by
 have hb:Below w.heap.size w (w.alloc (.cells #[.string ⟨#[43]⟩,.string ⟨#[45]⟩] 9)):=(Below.refl _ w).alloc (Nat.le_refl _) _;have hm:MksAt (w.alloc (.cells #[.string ⟨#[43]⟩,.string ⟨#[45]⟩] 9)) w.heap.size [.string ⟨#[43]⟩,.string ⟨#[45]⟩]:=⟨blk_new w _⟩;have HB:=Lib.hid hb;have HM:=Lib.hid hm;clear hb hm
 go_enter Tryz.func135,Tryz.ntmps135
 go_wp2
 go_ret
 exact ⟨w.heap.size,rfl,Nat.le_refl _,HM.out,HB.out⟩
theorem qlev3_any (c:Cx)(n:Nat)(f:Ex.Rec)(hF:QSpec c n f){α:Type}(R:Ex.Res α)(X:Nat->Prop)(w:World)(d m:Nat)(ks:List Nat)(q:Qs)(h:Pre c X w d (n+1) 3 m ks R q):
  Calls Tryz.prog 118 #[.pointer (some ⟨c.r,0,none⟩),.int .i64 3] w (QP c X w d (R.bind fun _ s=>Ex.chain c.ts n (f .times d) [[43],[45]] s)):=by
 have hfu:=h.fuel;have hd:=h.deep;have hr1:=h.qd.rlt;have hbt:=h.qd.bt;have hsz:=h.qd.size;have few:=h.qd.few;have room:=h.qd.room;have hN:=hF.times R X w d m ks q ⟨h.qd,h.lt,h.abs,h.st,by omega,h.deep⟩;obtain ⟨R1,hR1⟩:∃ R1,(R.bind fun _ s=>f .times d s)=R1:=⟨_,rfl⟩;obtain ⟨Rf,hRf⟩:∃ Rf,(R.bind fun _ s=>Ex.chain c.ts n (f .times d) [[43],[45]] s)=Rf:=⟨_,rfl⟩;have hfin:R1.bind (Ex.chainLoop c.ts (f .times d) [[43],[45]] n)=Rf:=by rw [<- hRf,<- hR1,Ex.Res.bind_assoc];rfl
 rw [hR1] at hN;rw [hRf];have HN:=Lib.hid hN;have HF:=Lib.hid hF;have HS:=Lib.hid h.st;have HR1:=Lib.hid hR1;have HFIN:=Lib.hid hfin;clear hN hF h hR1 hRf hfin
 go_enter Tryz.func118,Tryz.ntmps118
 go_wp2_with fail
 refine HN.out.mono ?_;rintro e w1 ⟨v1,q1,rfl,hQ1,hp1,hA1,hv1,hK1⟩;have hS1:=HS.out.rec HF.out.ends HF.out.gr .times (by simp only [Ex.rank];omega) (by rw [HR1.out];exact hv1);rw [HR1.out] at hS1;have hst:QLev c X w d n (f .times d) [[43],[45]] Rf n v1 w1 q1 R1 (m+1):=⟨hQ1,hp1,hK1,hA1,hv1,hS1.reorder (Nat.le_refl _) (fun k hk=>by rw [List.mem_singleton.1 hk];exact List.mem_cons_self ..),by omega,by omega,HFIN.out⟩;have HST:=Lib.hid hst;clear hQ1 hp1 hA1 hv1 hK1 hS1 hst HN HS HR1 HFIN
 go_wp2_with fail
 go_loopg [5] n (fun k a wr=>∃ (v:Nat) (q2:Qs) (R2:Ex.Res Nat) (m2:Nat),a = .int .i64 (v:Int)/\QLev c X w d n (f .times d) [[43],[45]] Rf k v wr q2 R2 m2)
 case atStart=>exact ⟨v1,q1,R1,m+1,rfl,HST.out⟩
 case round =>
  obtain ⟨v,q2,R2,m2,rfl,hst⟩:=hrel;clear HST;have hlk:=hst.qd.looks hst.lt;obtain ⟨t,ht⟩:∃ t,Ex.tk c.ts q2.p=t:=⟨_,rfl⟩;rw [ht] at hlk;obtain ⟨a0,a1,b0,b1,b2,b3,b4,c0,c1,k0,k1,k2,k3,k4,wr0,w1',few',room'⟩:=hlk;obtain ⟨V,hV⟩:∃ V,(wr.alloc (.cells #[.int .i64 t.kind,.string ⟨t.text.toArray⟩,.int .i64 t.int,.int .i64 t.at_.line,.int .i64 t.at_.col] 109)).drew=V:=⟨_,rfl⟩;have hbV:Below wr.heap.size wr V:=by rw [<- hV];exact Below.drawn wr _
  have hT:Fiq V wr.heap.size t:=by rw [<- hV];exact Fiq.drawn wr t
  have hzr:=(hst.kp).size;have hzV:=hbV.size;have HQV:=Lib.hid ((hst.qd).below hbV);have HKV:=Lib.hid ((hst.kp).then_below hbV);have HT:=Lib.hid hT;have HV:=Lib.hid hV;have HTK:=Lib.hid ht;have hfu2:=hst.fuel;have hme2:=hst.meas;have HST:=Lib.hid hst;clear hbV hT hV ht hst
  go_upto_region 4 with fail
  go_region
  rw [HV.out];clear a0 a1 b0 b1 b2 b3 b4 c0 c1 k0 k1 k2 k3 k4
  go_wp2_with fail
  refine (qmarks3 V).mono ?_;rintro e w3 ⟨b,rfl,hbb,hM,hb3⟩;have hz3:=hb3.size;have HQ3:=Lib.hid (HQV.out.below hb3);have HK3:=Lib.hid (HKV.out.then_below hb3);have HT3:=Lib.hid (HT.out.below hb3);have HM3:=Lib.hid hM;clear hM hb3;have g0:w3.cell? ⟨b,0,none⟩=some (.string ⟨#[43]⟩):=HM3.out.cell 0;have g1:w3.cell? ⟨b,1,none⟩=some (.string ⟨#[45]⟩):=HM3.out.cell 1
  go_wp2_with fail
  refine wp_loop_rounds 3 ?_;rw [rounds_succ]
  cases hq0:qis c.ts q2 [43] with
  | true =>
   obtain ⟨s,hR,hi,htk,hti,htx,hsl,hms,hsp,hsA,hsS⟩:=mark_comes HF.out.ts HST.out.abs HST.out.link HST.out.st HTK.out hq0;have hC:=qtake_tr HQ3.out HST.out.lt hq0;have HSR:=Lib.hid hR;have HSM:=Lib.hid hi;have HST0:=Lib.hid htk;have HSI:=Lib.hid hti;have HSX:=Lib.hid htx;have HSP:=Lib.hid hsp;have HSA:=Lib.hid hsA;have HSS:=Lib.hid hsS;have HC:=Lib.hid hC;clear hR hi htk hti htx hsp hsA hsS hC hq0
   go_wp2_with fail
   refine HC.out.mono ?_;rintro e w5 ⟨rfl,hQ5,hK5⟩;have hz5:=hK5.size;have HM5:=Lib.hid (HM3.out.kp hK5 (by omega) (by omega));have HT5:=Lib.hid (HT3.out.kp hK5 (by omega) (by omega));have HK5:=Lib.hid (HK3.out.trans hK5);have HQ5:=Lib.hid hQ5;clear hQ5 hK5 g0 g1;have g0:w5.cell? ⟨b,0,none⟩=some (.string ⟨#[43]⟩):=HM5.out.cell 0;have g1:w5.cell? ⟨b,1,none⟩=some (.string ⟨#[45]⟩):=HM5.out.cell 1
   go_wp2_with fail
   rw [rounds_succ]
   go_wp2_with fail
   rw [rounds_succ]
   go_wp2_with fail
   refine (HF.out.times (Ex.Res.ok () s.skip:Ex.Res Unit) X w5 d (m2+1) _ q2.skip ⟨HQ5.out,HSP.out,HSA.out,HSS.out,by omega,hd⟩).mono ?_;rintro e w6 ⟨v6,q6,rfl,hQ6,hp6,hA6,hv6,hK6⟩;have hS6:=HSS.out.rec HF.out.ends HF.out.gr .times (by simp only [Ex.rank];omega) hv6
   change Abs (f .times d s.skip) q6 at hA6
   change ∀ i s9,f .times d s.skip = .ok i s9->v6=i at hv6
   change St c.ts (m2+1+1) (v6 :: _) (f .times d s.skip) at hS6
   have hadd:=hA6.add (ts:=c.ts) ⟨⟨#[43]⟩,t.at_.line,t.at_.col,⟨#[]⟩,t.int,[v,v6].map fun (k:Nat)=>(k:Int)⟩ (fun a s9 e9=>fits_of (hS6.ready e9).2.2);have hS7:=hS6.add (n:=⟨⟨#[43]⟩,t.at_.line,t.at_.col,⟨#[]⟩,t.int,[v,v6].map fun (k:Nat)=>(k:Int)⟩) Ex.nameOk_nil (by simp) (.inl HSI.out) hadd.2;have heq:=between_add (part:=f .times d) (v:=v) (x:=[43]) HST0.out HSI.out HSX.out hv6
   change ((f .times d s.skip).bind fun _ s=>Ex.addN c.ts ⟨⟨#[43]⟩,t.at_.line,t.at_.col,⟨#[]⟩,t.int,[v,v6].map fun (k:Nat)=>(k:Int)⟩ s)=_ at heq
   rw [heq] at hadd hS7;have hlt9:=qnode_lt hp6 (ts:=c.ts) ⟨⟨#[43]⟩,t.at_.line,t.at_.col,⟨#[]⟩,t.int,[v,v6].map fun (k:Nat)=>(k:Int)⟩;have hz6:=hK6.size;have HQ6:=Lib.hid hQ6;have HP6:=Lib.hid hp6;have HADD:=Lib.hid hadd;have HS7:=Lib.hid hS7;have HL:=Lib.hid hlt9;have HT6:=Lib.hid (HT5.out.kp hK6 (by omega) (by omega));have HK6:=Lib.hid (HK5.out.trans hK6);clear hQ6 hp6 hA6 hv6 hK6 hS6 hadd heq hlt9 hS7;have y0:=HT6.out.c0;have y1:=HT6.out.c1;have y2:=HT6.out.c2;have y3:=HT6.out.c3;have y4:=HT6.out.c4
   go_wp2_with fail
   refine (qnode_any c X _ d q6 ⟨#[43]⟩ t ⟨#[]⟩ [v,v6] (some ⟨w6.heap.size,0,none⟩) 2 (HQ6.out.below ((Below.refl _ w6).alloc (Nat.le_refl _) _)) HP6.out (qints2 _ (by omega) v v6) (HQ6.out.fresh _ _)).mono ?_;rintro e w9 ⟨rfl,hQ,hK⟩;have HQ9:=Lib.hid hQ;have HK9:=Lib.hid (HK6.out.trans (Below.then_kp ((Below.refl _ w6).alloc (Nat.le_refl _) _) hK));clear hQ hK y0 y1 y2 y3 y4;obtain ⟨k,rfl⟩:∃ j,gk=j+1:=⟨gk-1,by omega⟩;have hany:([[43],[45]].any fun x=>Ex.is c.ts s x)=true:=by simp only [List.any_cons,HSM.out,Bool.true_or,Bool.or_true]
   have hnew:(Ex.between c.ts (f .times d) v s).bind (Ex.chainLoop c.ts (f .times d) [[43],[45]] k)=Rf:=by
    rw [<- HST.out.fin,HSR.out]
    show _=Ex.chainLoop c.ts (f .times d) [[43],[45]] (k+1) v s
    rw [Ex.chainLoop,if_pos hany]
   have hst9:QLev c X w d n (f .times d) [[43],[45]] Rf k _ w9 _ (Ex.between c.ts (f .times d) v s) (m2+1+1):=⟨HQ9.out,HL.out,HK9.out,HADD.out.1,HADD.out.2,HS7.out,by omega,by omega,hnew⟩;have HST9:=Lib.hid hst9;clear hst9 hnew hany
   go_wp2_with fail
   go_roundg k
   case measure=>omega
   case rel=>exact ⟨_,_,_,_,rfl,HST9.out⟩
  | false =>
   have hC:=qtake_fa HQ3.out HST.out.lt hq0;have HC:=Lib.hid hC;clear hC
   go_wp2_with fail
   refine HC.out.mono ?_;rintro e w30 ⟨rfl,hQ30,hK30⟩;have hz30:=hK30.size;have HM30:=Lib.hid (HM3.out.kp hK30 (by omega) (by omega));have HT30:=Lib.hid (HT3.out.kp hK30 (by omega) (by omega));have HK30:=Lib.hid (HK3.out.trans hK30);have HQ30:=Lib.hid hQ30;clear hQ30 hK30 HC g0 g1;have g0:w30.cell? ⟨b,0,none⟩=some (.string ⟨#[43]⟩):=HM30.out.cell 0;have g1:w30.cell? ⟨b,1,none⟩=some (.string ⟨#[45]⟩):=HM30.out.cell 1
   go_wp2_with fail
   rw [rounds_succ]
   cases hq1:qis c.ts q2 [45] with
   | true =>
    obtain ⟨s,hR,hi,htk,hti,htx,hsl,hms,hsp,hsA,hsS⟩:=mark_comes HF.out.ts HST.out.abs HST.out.link HST.out.st HTK.out hq1;have hC:=qtake_tr HQ30.out HST.out.lt hq1;have HSR:=Lib.hid hR;have HSM:=Lib.hid hi;have HST0:=Lib.hid htk;have HSI:=Lib.hid hti;have HSX:=Lib.hid htx;have HSP:=Lib.hid hsp;have HSA:=Lib.hid hsA;have HSS:=Lib.hid hsS;have HC:=Lib.hid hC;clear hR hi htk hti htx hsp hsA hsS hC hq0 hq1
    go_wp2_with fail
    refine HC.out.mono ?_;rintro e w5 ⟨rfl,hQ5,hK5⟩;have hz5:=hK5.size;have HM5:=Lib.hid (HM30.out.kp hK5 (by omega) (by omega));have HT5:=Lib.hid (HT30.out.kp hK5 (by omega) (by omega));have HK5:=Lib.hid (HK30.out.trans hK5);have HQ5:=Lib.hid hQ5;clear hQ5 hK5 g0 g1;have g0:w5.cell? ⟨b,0,none⟩=some (.string ⟨#[43]⟩):=HM5.out.cell 0;have g1:w5.cell? ⟨b,1,none⟩=some (.string ⟨#[45]⟩):=HM5.out.cell 1
    go_wp2_with fail
    rw [rounds_succ]
    go_wp2_with fail
    refine (HF.out.times (Ex.Res.ok () s.skip:Ex.Res Unit) X w5 d (m2+1) _ q2.skip ⟨HQ5.out,HSP.out,HSA.out,HSS.out,by omega,hd⟩).mono ?_;rintro e w6 ⟨v6,q6,rfl,hQ6,hp6,hA6,hv6,hK6⟩;have hS6:=HSS.out.rec HF.out.ends HF.out.gr .times (by simp only [Ex.rank];omega) hv6
    change Abs (f .times d s.skip) q6 at hA6
    change ∀ i s9,f .times d s.skip = .ok i s9->v6=i at hv6
    change St c.ts (m2+1+1) (v6 :: _) (f .times d s.skip) at hS6
    have hadd:=hA6.add (ts:=c.ts) ⟨⟨#[45]⟩,t.at_.line,t.at_.col,⟨#[]⟩,t.int,[v,v6].map fun (k:Nat)=>(k:Int)⟩ (fun a s9 e9=>fits_of (hS6.ready e9).2.2);have hS7:=hS6.add (n:=⟨⟨#[45]⟩,t.at_.line,t.at_.col,⟨#[]⟩,t.int,[v,v6].map fun (k:Nat)=>(k:Int)⟩) Ex.nameOk_nil (by simp) (.inl HSI.out) hadd.2;have heq:=between_add (part:=f .times d) (v:=v) (x:=[45]) HST0.out HSI.out HSX.out hv6
    change ((f .times d s.skip).bind fun _ s=>Ex.addN c.ts ⟨⟨#[45]⟩,t.at_.line,t.at_.col,⟨#[]⟩,t.int,[v,v6].map fun (k:Nat)=>(k:Int)⟩ s)=_ at heq
    rw [heq] at hadd hS7;have hlt9:=qnode_lt hp6 (ts:=c.ts) ⟨⟨#[45]⟩,t.at_.line,t.at_.col,⟨#[]⟩,t.int,[v,v6].map fun (k:Nat)=>(k:Int)⟩;have hz6:=hK6.size;have HQ6:=Lib.hid hQ6;have HP6:=Lib.hid hp6;have HADD:=Lib.hid hadd;have HS7:=Lib.hid hS7;have HL:=Lib.hid hlt9;have HT6:=Lib.hid (HT5.out.kp hK6 (by omega) (by omega));have HK6:=Lib.hid (HK5.out.trans hK6);clear hQ6 hp6 hA6 hv6 hK6 hS6 hadd heq hlt9 hS7;have y0:=HT6.out.c0;have y1:=HT6.out.c1;have y2:=HT6.out.c2;have y3:=HT6.out.c3;have y4:=HT6.out.c4
    go_wp2_with fail
    refine (qnode_any c X _ d q6 ⟨#[45]⟩ t ⟨#[]⟩ [v,v6] (some ⟨w6.heap.size,0,none⟩) 2 (HQ6.out.below ((Below.refl _ w6).alloc (Nat.le_refl _) _)) HP6.out (qints2 _ (by omega) v v6) (HQ6.out.fresh _ _)).mono ?_;rintro e w9 ⟨rfl,hQ,hK⟩;have HQ9:=Lib.hid hQ;have HK9:=Lib.hid (HK6.out.trans (Below.then_kp ((Below.refl _ w6).alloc (Nat.le_refl _) _) hK));clear hQ hK y0 y1 y2 y3 y4;obtain ⟨k,rfl⟩:∃ j,gk=j+1:=⟨gk-1,by omega⟩;have hany:([[43],[45]].any fun x=>Ex.is c.ts s x)=true:=by simp only [List.any_cons,HSM.out,Bool.true_or,Bool.or_true]
    have hnew:(Ex.between c.ts (f .times d) v s).bind (Ex.chainLoop c.ts (f .times d) [[43],[45]] k)=Rf:=by
     rw [<- HST.out.fin,HSR.out]
     show _=Ex.chainLoop c.ts (f .times d) [[43],[45]] (k+1) v s
     rw [Ex.chainLoop,if_pos hany]
    have hst9:QLev c X w d n (f .times d) [[43],[45]] Rf k _ w9 _ (Ex.between c.ts (f .times d) v s) (m2+1+1):=⟨HQ9.out,HL.out,HK9.out,HADD.out.1,HADD.out.2,HS7.out,by omega,by omega,hnew⟩;have HST9:=Lib.hid hst9;clear hst9 hnew hany
    go_wp2_with fail
    go_roundg k
    case measure=>omega
    case rel=>exact ⟨_,_,_,_,rfl,HST9.out⟩
   | false =>
    have hC:=qtake_fa HQ30.out HST.out.lt hq1;have HC:=Lib.hid hC;clear hC
    go_wp2_with fail
    refine HC.out.mono ?_;rintro e w31 ⟨rfl,hQ31,hK31⟩;have hz31:=hK31.size;have HM31:=Lib.hid (HM30.out.kp hK31 (by omega) (by omega));have HT31:=Lib.hid (HT30.out.kp hK31 (by omega) (by omega));have HK31:=Lib.hid (HK30.out.trans hK31);have HQ31:=Lib.hid hQ31;clear hQ31 hK31 HC g0 g1;have g0:w31.cell? ⟨b,0,none⟩=some (.string ⟨#[43]⟩):=HM31.out.cell 0;have g1:w31.cell? ⟨b,1,none⟩=some (.string ⟨#[45]⟩):=HM31.out.cell 1
    go_wp2_with fail
    rw [rounds_succ];have hno:=chain_no (part:=f .times d) (ms:=[[43],[45]]) HST.out.abs HST.out.link (by intro x hx;simp only [List.mem_cons,List.not_mem_nil,or_false] at hx;rcases hx with rfl | rfl <;> assumption) (show 0<gk by omega);rw [HST.out.fin] at hno;have HNO:=Lib.hid hno;clear hno hq0 hq1
    go_wp2
    go_ret
    exact ⟨v,q2,rfl,HQ31.out,HST.out.lt,HNO.out.1,HNO.out.2,HK31.out⟩
end
section
open Go.RowKit Tn Lx
attribute [local go_sem] qtok_field0 qtok_field1 qtok_field2 qtok_field3
theorem qlev5_any (c:Cx)(X:Nat->Prop)(w:World)(d:Nat)(R:Ex.Res Nat)(h:Calls Tryz.prog 134 #[.pointer (some ⟨c.r,0,none⟩)] w (QP c X w d R)):Calls Tryz.prog 118 #[.pointer (some ⟨c.r,0,none⟩),.int .i64 5] w (QP c X w d R):=by
 have H:=Lib.hid h;clear h
 go_enter Tryz.func118,Tryz.ntmps118
 go_wp2_with fail
 refine H.out.mono ?_;rintro e w1 ⟨v1,q1,rfl,hQ1,hp1,hA1,hv1,hK1⟩;have HQ1:=Lib.hid hQ1;have HP1:=Lib.hid hp1;have HA1:=Lib.hid hA1;have Hv1:=Lib.hid hv1;have HK1:=Lib.hid hK1;clear hQ1 hp1 hA1 hv1 hK1
 go_wp2
 go_ret
 exact ⟨v1,q1,rfl,HQ1.out,HP1.out,HA1.out,Hv1.out,HK1.out⟩
theorem qmarks4 (w:World):Calls Tryz.prog 135 #[.int .i64 4] w fun e w'=>∃ b,e = .returned (.slice (some ⟨b,0,none⟩) 1 1)/\w.heap.size<=b/\MksAt w' b [.string ⟨#[42]⟩]/\Below w.heap.size w w':=by
 have hb:Below w.heap.size w (w.alloc (.cells #[.string ⟨#[42]⟩] 9)):=(Below.refl _ w).alloc (Nat.le_refl _) _;have hm:MksAt (w.alloc (.cells #[.string ⟨#[42]⟩] 9)) w.heap.size [.string ⟨#[42]⟩]:=⟨blk_new w _⟩;have HB:=Lib.hid hb;have HM:=Lib.hid hm;clear hb hm
 go_enter Tryz.func135,Tryz.ntmps135
 go_wp2
 go_ret
 exact ⟨w.heap.size,rfl,Nat.le_refl _,HM.out,HB.out⟩
theorem qlev4_any (c:Cx)(n:Nat)(f:Ex.Rec)(hF:QSpec c n f){α:Type}(R:Ex.Res α)(X:Nat->Prop)(w:World)(d m:Nat)(ks:List Nat)(q:Qs)(h:Pre c X w d (n+1) 2 m ks R q):
  Calls Tryz.prog 118 #[.pointer (some ⟨c.r,0,none⟩),.int .i64 4] w (QP c X w d (R.bind fun _ s=>Ex.chain c.ts n (f .unary d) [[42]] s)):=by
 have hfu:=h.fuel;have hd:=h.deep;have hr1:=h.qd.rlt;have hbt:=h.qd.bt;have hsz:=h.qd.size;have few:=h.qd.few;have room:=h.qd.room;have hN:=qlev5_any c X w d _ (hF.unary R X w d m ks q ⟨h.qd,h.lt,h.abs,h.st,by omega,h.deep⟩);obtain ⟨R1,hR1⟩:∃ R1,(R.bind fun _ s=>f .unary d s)=R1:=⟨_,rfl⟩;obtain ⟨Rf,hRf⟩:∃ Rf,(R.bind fun _ s=>Ex.chain c.ts n (f .unary d) [[42]] s)=Rf:=⟨_,rfl⟩;have hfin:R1.bind (Ex.chainLoop c.ts (f .unary d) [[42]] n)=Rf:=by rw [<- hRf,<- hR1,Ex.Res.bind_assoc];rfl
 rw [hR1] at hN;rw [hRf];have HN:=Lib.hid hN;have HF:=Lib.hid hF;have HS:=Lib.hid h.st;have HR1:=Lib.hid hR1;have HFIN:=Lib.hid hfin;clear hN hF h hR1 hRf hfin
 go_enter Tryz.func118,Tryz.ntmps118
 go_wp2_with fail
 refine HN.out.mono ?_;rintro e w1 ⟨v1,q1,rfl,hQ1,hp1,hA1,hv1,hK1⟩;have hS1:=HS.out.rec HF.out.ends HF.out.gr .unary (by simp only [Ex.rank];omega) (by rw [HR1.out];exact hv1);rw [HR1.out] at hS1;have hst:QLev c X w d n (f .unary d) [[42]] Rf n v1 w1 q1 R1 (m+1):=⟨hQ1,hp1,hK1,hA1,hv1,hS1.reorder (Nat.le_refl _) (fun k hk=>by rw [List.mem_singleton.1 hk];exact List.mem_cons_self ..),by omega,by omega,HFIN.out⟩;have HST:=Lib.hid hst;clear hQ1 hp1 hA1 hv1 hK1 hS1 hst HN HS HR1 HFIN
 go_wp2_with fail
 go_loopg [5] n (fun k a wr=>∃ (v:Nat) (q2:Qs) (R2:Ex.Res Nat) (m2:Nat),a = .int .i64 (v:Int)/\QLev c X w d n (f .unary d) [[42]] Rf k v wr q2 R2 m2)
 case atStart=>exact ⟨v1,q1,R1,m+1,rfl,HST.out⟩
 case round =>
  obtain ⟨v,q2,R2,m2,rfl,hst⟩:=hrel;clear HST;have hlk:=hst.qd.looks hst.lt;obtain ⟨t,ht⟩:∃ t,Ex.tk c.ts q2.p=t:=⟨_,rfl⟩;rw [ht] at hlk;obtain ⟨a0,a1,b0,b1,b2,b3,b4,c0,c1,k0,k1,k2,k3,k4,wr0,w1',few',room'⟩:=hlk;obtain ⟨V,hV⟩:∃ V,(wr.alloc (.cells #[.int .i64 t.kind,.string ⟨t.text.toArray⟩,.int .i64 t.int,.int .i64 t.at_.line,.int .i64 t.at_.col] 109)).drew=V:=⟨_,rfl⟩;have hbV:Below wr.heap.size wr V:=by rw [<- hV];exact Below.drawn wr _
  have hT:Fiq V wr.heap.size t:=by rw [<- hV];exact Fiq.drawn wr t
  have hzr:=(hst.kp).size;have hzV:=hbV.size;have HQV:=Lib.hid ((hst.qd).below hbV);have HKV:=Lib.hid ((hst.kp).then_below hbV);have HT:=Lib.hid hT;have HV:=Lib.hid hV;have HTK:=Lib.hid ht;have hfu2:=hst.fuel;have hme2:=hst.meas;have HST:=Lib.hid hst;clear hbV hT hV ht hst
  go_upto_region 4 with fail
  go_region
  rw [HV.out];clear a0 a1 b0 b1 b2 b3 b4 c0 c1 k0 k1 k2 k3 k4
  go_wp2_with fail
  refine (qmarks4 V).mono ?_;rintro e w3 ⟨b,rfl,hbb,hM,hb3⟩;have hz3:=hb3.size;have HQ3:=Lib.hid (HQV.out.below hb3);have HK3:=Lib.hid (HKV.out.then_below hb3);have HT3:=Lib.hid (HT.out.below hb3);have HM3:=Lib.hid hM;clear hM hb3;have g0:w3.cell? ⟨b,0,none⟩=some (.string ⟨#[42]⟩):=HM3.out.cell 0
  go_wp2_with fail
  refine wp_loop_rounds 2 ?_;rw [rounds_succ]
  cases hq0:qis c.ts q2 [42] with
  | true =>
   obtain ⟨s,hR,hi,htk,hti,htx,hsl,hms,hsp,hsA,hsS⟩:=mark_comes HF.out.ts HST.out.abs HST.out.link HST.out.st HTK.out hq0;have hC:=qtake_tr HQ3.out HST.out.lt hq0;have HSR:=Lib.hid hR;have HSM:=Lib.hid hi;have HST0:=Lib.hid htk;have HSI:=Lib.hid hti;have HSX:=Lib.hid htx;have HSP:=Lib.hid hsp;have HSA:=Lib.hid hsA;have HSS:=Lib.hid hsS;have HC:=Lib.hid hC;clear hR hi htk hti htx hsp hsA hsS hC hq0
   go_wp2_with fail
   refine HC.out.mono ?_;rintro e w5 ⟨rfl,hQ5,hK5⟩;have hz5:=hK5.size;have HM5:=Lib.hid (HM3.out.kp hK5 (by omega) (by omega));have HT5:=Lib.hid (HT3.out.kp hK5 (by omega) (by omega));have HK5:=Lib.hid (HK3.out.trans hK5);have HQ5:=Lib.hid hQ5;clear hQ5 hK5 g0;have g0:w5.cell? ⟨b,0,none⟩=some (.string ⟨#[42]⟩):=HM5.out.cell 0
   go_wp2_with fail
   rw [rounds_succ]
   go_wp2_with fail
   refine (qlev5_any c X w5 d _ (HF.out.unary (Ex.Res.ok () s.skip:Ex.Res Unit) X w5 d (m2+1) _ q2.skip ⟨HQ5.out,HSP.out,HSA.out,HSS.out,by omega,hd⟩)).mono ?_;rintro e w6 ⟨v6,q6,rfl,hQ6,hp6,hA6,hv6,hK6⟩;have hS6:=HSS.out.rec HF.out.ends HF.out.gr .unary (by simp only [Ex.rank];omega) hv6
   change Abs (f .unary d s.skip) q6 at hA6
   change ∀ i s9,f .unary d s.skip = .ok i s9->v6=i at hv6
   change St c.ts (m2+1+1) (v6 :: _) (f .unary d s.skip) at hS6
   have hadd:=hA6.add (ts:=c.ts) ⟨⟨#[42]⟩,t.at_.line,t.at_.col,⟨#[]⟩,t.int,[v,v6].map fun (k:Nat)=>(k:Int)⟩ (fun a s9 e9=>fits_of (hS6.ready e9).2.2);have hS7:=hS6.add (n:=⟨⟨#[42]⟩,t.at_.line,t.at_.col,⟨#[]⟩,t.int,[v,v6].map fun (k:Nat)=>(k:Int)⟩) Ex.nameOk_nil (by simp) (.inl HSI.out) hadd.2;have heq:=between_add (part:=f .unary d) (v:=v) (x:=[42]) HST0.out HSI.out HSX.out hv6
   change ((f .unary d s.skip).bind fun _ s=>Ex.addN c.ts ⟨⟨#[42]⟩,t.at_.line,t.at_.col,⟨#[]⟩,t.int,[v,v6].map fun (k:Nat)=>(k:Int)⟩ s)=_ at heq
   rw [heq] at hadd hS7;have hlt9:=qnode_lt hp6 (ts:=c.ts) ⟨⟨#[42]⟩,t.at_.line,t.at_.col,⟨#[]⟩,t.int,[v,v6].map fun (k:Nat)=>(k:Int)⟩;have hz6:=hK6.size;have HQ6:=Lib.hid hQ6;have HP6:=Lib.hid hp6;have HADD:=Lib.hid hadd;have HS7:=Lib.hid hS7;have HL:=Lib.hid hlt9;have HT6:=Lib.hid (HT5.out.kp hK6 (by omega) (by omega));have HK6:=Lib.hid (HK5.out.trans hK6);clear hQ6 hp6 hA6 hv6 hK6 hS6 hadd heq hlt9 hS7;have y0:=HT6.out.c0;have y1:=HT6.out.c1;have y2:=HT6.out.c2;have y3:=HT6.out.c3;have y4:=HT6.out.c4
   go_wp2_with fail
   refine (qnode_any c X _ d q6 ⟨#[42]⟩ t ⟨#[]⟩ [v,v6] (some ⟨w6.heap.size,0,none⟩) 2 (HQ6.out.below ((Below.refl _ w6).alloc (Nat.le_refl _) _)) HP6.out (qints2 _ (by omega) v v6) (HQ6.out.fresh _ _)).mono ?_;rintro e w9 ⟨rfl,hQ,hK⟩;have HQ9:=Lib.hid hQ;have HK9:=Lib.hid (HK6.out.trans (Below.then_kp ((Below.refl _ w6).alloc (Nat.le_refl _) _) hK));clear hQ hK y0 y1 y2 y3 y4;obtain ⟨k,rfl⟩:∃ j,gk=j+1:=⟨gk-1,by omega⟩;have hany:([[42]].any fun x=>Ex.is c.ts s x)=true:=by simp only [List.any_cons,HSM.out,Bool.true_or,Bool.or_true]
   have hnew:(Ex.between c.ts (f .unary d) v s).bind (Ex.chainLoop c.ts (f .unary d) [[42]] k)=Rf:=by
    rw [<- HST.out.fin,HSR.out]
    show _=Ex.chainLoop c.ts (f .unary d) [[42]] (k+1) v s
    rw [Ex.chainLoop,if_pos hany]
   have hst9:QLev c X w d n (f .unary d) [[42]] Rf k _ w9 _ (Ex.between c.ts (f .unary d) v s) (m2+1+1):=⟨HQ9.out,HL.out,HK9.out,HADD.out.1,HADD.out.2,HS7.out,by omega,by omega,hnew⟩;have HST9:=Lib.hid hst9;clear hst9 hnew hany
   go_wp2_with fail
   go_roundg k
   case measure=>omega
   case rel=>exact ⟨_,_,_,_,rfl,HST9.out⟩
  | false =>
   have hC:=qtake_fa HQ3.out HST.out.lt hq0;have HC:=Lib.hid hC;clear hC
   go_wp2_with fail
   refine HC.out.mono ?_;rintro e w30 ⟨rfl,hQ30,hK30⟩;have hz30:=hK30.size;have HM30:=Lib.hid (HM3.out.kp hK30 (by omega) (by omega));have HT30:=Lib.hid (HT3.out.kp hK30 (by omega) (by omega));have HK30:=Lib.hid (HK3.out.trans hK30);have HQ30:=Lib.hid hQ30;clear hQ30 hK30 HC g0;have g0:w30.cell? ⟨b,0,none⟩=some (.string ⟨#[42]⟩):=HM30.out.cell 0
   go_wp2_with fail
   rw [rounds_succ];have hno:=chain_no (part:=f .unary d) (ms:=[[42]]) HST.out.abs HST.out.link (by intro x hx;simp only [List.mem_cons,List.not_mem_nil,or_false] at hx;rcases hx with rfl <;> assumption) (show 0<gk by omega);rw [HST.out.fin] at hno;have HNO:=Lib.hid hno;clear hno hq0
   go_wp2
   go_ret
   exact ⟨v,q2,rfl,HQ30.out,HST.out.lt,HNO.out.1,HNO.out.2,HK30.out⟩
end
section
open Go.RowKit Tn Lx
theorem Pre.weak {c:Cx}{X:Nat->Prop}{w:World}{d n k n' k' m:Nat}{ks:List Nat}{α:Type}{R:Ex.Res α}{q:Qs}(h:Pre c X w d n k m ks R q)(hk:∀ x,x+k<n->x+k'<n'):Pre c X w d n' k' m ks R q:=⟨h.qd,h.lt,h.abs,h.st,hk _ h.fuel,h.deep⟩
theorem qspec_rec (c:Cx)(hT:Ex.TsOk c.ts):∀ n,n<=900000->QSpec c n (Ex.rec_ c.ts n)
 | 0,_=>⟨hT,Ex.rec_post 0,Ex.rec_gr 0,fun _ _ _ _ _ _ _ h=>absurd h.fuel (Nat.not_lt_zero _),fun _ _ _ _ _ _ _ h=>absurd h.fuel (Nat.not_lt_zero _),fun _ _ _ _ _ _ _ h=>absurd h.fuel (Nat.not_lt_zero _),fun _ _ _ _ _ _ _ h=>absurd h.fuel (Nat.not_lt_zero _),fun _ _ _ _ _ _ _ h=>absurd h.fuel (Nat.not_lt_zero _),
   fun _ _ _ _ _ _ _ h=>absurd h.fuel (Nat.not_lt_zero _),fun _ _ _ _ _ _ _ h=>absurd h.fuel (Nat.not_lt_zero _),fun _ _ _ _ _ _ _ h=>absurd h.fuel (Nat.not_lt_zero _)⟩
 | n+1,hn=>by
  have ih:=qspec_rec c hT n (by omega);refine ⟨hT,Ex.rec_post (n+1),Ex.rec_gr (n+1), ?_, ?_, ?_, ?_, ?_, ?_, ?_, ?_⟩
  ·intro α R X w d m ks q h;have e:(R.bind fun _ s=>Ex.rec_ c.ts (n+1) .all d s)=R.bind fun _ s=>Ex.allR c.ts n (Ex.rec_ c.ts n .item d) s:=Ex.Res.bind_congr fun _ s=>by rw [<- Ex.allF_eq];rfl
   rw [e];exact qall_any c n _ ih X d n R w m ks q (h.weak fun x hx=>by omega) (by have:=h.fuel;omega)
  ·intro α R X w d m ks q h;exact qitem_any c (n+1) 7 (fun d1 s1=>Ex.itemF c.ts (Ex.rec_ c.ts n) d1 s1) R X w d m ks q h fun s w' hd h'=>qinitem_any c n _ ih X w' (d+1) q s (h'.weak fun x hx=>by omega)
  ·intro α R X w d m ks q h;exact qlev0_any c n _ ih R X w d m ks q h
  ·intro α R X w d m ks q h;exact qlev1_any c n _ ih R X w d m ks q h
  ·intro α R X w d m ks q h;exact qlev2_any c n _ ih R X w d m ks q h
  ·intro α R X w d m ks q h;exact qlev3_any c n _ ih R X w d m ks q h
  ·intro α R X w d m ks q h;exact qlev4_any c n _ ih R X w d m ks q h
  ·intro α R X w d m ks q h;exact qunary_any c (n+1) 1 (fun d1 s1=>Ex.unaryF c.ts n (Ex.rec_ c.ts n) d1 s1) R X w d m ks q h fun s w' hd h'=>qinunary_any c n _ ih (by omega) X w' (d+1) q s (h'.weak fun x hx=>by omega)
end
section
open Go.RowKit
def moreB (s:ByteArray)(i:Nat)(low high:Int):Bool:=decide (i<s.size) && (decide (low<=((s.get! i).toNat:Int)) && decide (((s.get! i).toNat:Int)<=high))
theorem more_any (s:ByteArray)(i:Nat)(low high:Int)(w:World):Calls Tryz.prog 131 #[.string s,.int .i64 (i:Int),.int .u8 low,.int .u8 high] w fun e w'=>e = .returned (.bool (moreB s i low high))/\w=w':=by
 by_cases hi:i<s.size
 ·have hg:s.get! i=s[i]'hi:=Utf8W.get!_of_lt s i hi;generalize hc:s[i]'hi=c at *;have HG:=Lib.hid hg;clear hg
  cases h1:decide (low<=(c.toNat:Int))
  ·go_enter Tryz.func131,Tryz.ntmps131
   go_wp2
   all_goals (go_ret;refine ⟨?_,rfl⟩;first | (simp_all [moreB,HG.out];done) | (simp_all [moreB,HG.out];omega))
  ·cases h2:decide ((c.toNat:Int)<=high)
   all_goals
    go_enter Tryz.func131,Tryz.ntmps131
    go_wp2
    all_goals (go_ret;refine ⟨?_,rfl⟩;first | (simp_all [moreB,HG.out];done) | (simp_all [moreB,HG.out];omega))
 ·go_enter Tryz.func131,Tryz.ntmps131
  go_wp2
  all_goals (go_ret;refine ⟨?_,rfl⟩;first | (simp_all [moreB];done) | (simp_all [moreB];omega))
def shortsZ (z:Int):Bool:=z==40 || (z==41 || (z==123 || (z==125 || (z==44 || (z==59 || (z==58 || (z==33 || (z==43 || (z==45 || (z==42 || (z==61 || z==60)))))))))))
theorem shorts_eq (c:UInt8):Lx.shorts.contains c=shortsZ c.toNat:=by
 have h:∀ k:UInt8,(c==k)=((c.toNat:Int)==(k.toNat:Int)):=fun k=>by
  rw [Bool.eq_iff_iff];simp only [beq_iff_eq,<- UInt8.toNat_inj];omega
 simp only [Lx.shorts,List.contains_cons,List.contains_nil,Bool.or_false,h,shortsZ]
 rfl
theorem rmark_any (s:ByteArray)(w:World)(hne:0<s.size):Calls Tryz.prog 116 #[.string s] w fun e w'=>e = .returned (.int .i64 (Lx.mark s.data.toList:Int))/\w=w':=by
 obtain ⟨c,hc,hd⟩:=byte_at s 0 hne;simp only [List.drop_zero] at hd;have hm:Lx.mark s.data.toList=if s.data.toList.take 2==[58,61] || s.data.toList.take 2==[45,62] then 2 else if shortsZ c.toNat then 1 else 0:=by rw [hd,<- shorts_eq];rfl
 have e1:((s.extract 0 2).toList==[58,61])=(s.data.toList.take 2==[58,61]):=by rw [toList_eq,head_list]
 have e2:((s.extract 0 2).toList==[45,62])=(s.data.toList.take 2==[45,62]):=by rw [toList_eq,head_list]
 have h2:¬ 1<s.size->(s.data.toList.take 2==[58,61])=false/\(s.data.toList.take 2==[45,62])=false:=by
  intro h;have:(s.data.toList.take 2).length≠2:=by rw [List.length_take,<- size_len];omega
  constructor
  ·cases hb:(s.data.toList.take 2==[58,61])
   ·rfl
   ·exact absurd (by rw [eq_of_beq hb];rfl) this
  ·cases hb:(s.data.toList.take 2==[45,62])
   ·rfl
   ·exact absurd (by rw [eq_of_beq hb];rfl) this
 generalize (s.data.toList.take 2==[58,61])=b1 at *;generalize (s.data.toList.take 2==[45,62])=b2 at *;generalize Lx.mark s.data.toList=M at *;generalize hz:(c.toNat:Int)=z at *;have HM:=Lib.hid hm;clear hm hd
 by_cases h1:1<s.size
 ·clear h2
  cases b1
  ·cases b2
   ·go_enter Tryz.func116,Tryz.ntmps116
    go_wp2
    all_goals (go_ret;refine ⟨?_,rfl⟩)
    all_goals first
     | (exfalso;simp_all only;done)
     | (show Ending.returned (.int .i64 1)=_;rw [HM.out];simp only [shortsZ,Bool.or_true,Bool.true_or, *];rfl)
     | (show Ending.returned (.int .i64 0)=_;rw [HM.out];simp only [shortsZ,Bool.or_false, *];rfl)
   ·go_enter Tryz.func116,Tryz.ntmps116
    go_wp2
    go_ret;refine ⟨?_,rfl⟩;rw [HM.out];rfl
  ·go_enter Tryz.func116,Tryz.ntmps116
   go_wp2
   go_ret;refine ⟨?_,rfl⟩;rw [HM.out];rfl
 ·obtain ⟨rfl,rfl⟩:=h2 h1;clear h2
  go_enter Tryz.func116,Tryz.ntmps116
  go_wp2
  all_goals (go_ret;refine ⟨?_,rfl⟩)
  all_goals first
   | (exfalso;simp_all only;done)
   | (show Ending.returned (.int .i64 1)=_;rw [HM.out];simp only [shortsZ,Bool.or_true,Bool.true_or, *];rfl)
   | (show Ending.returned (.int .i64 0)=_;rw [HM.out];simp only [shortsZ,Bool.or_false, *];rfl)
end
section
open Go.RowKit
def moreL (l:Lx.B)(i lo hi:Nat):Bool:=decide (i<l.length) && (decide (lo<=(l.getD i 0).toNat) && decide ((l.getD i 0).toNat<=hi))
theorem moreB_L (s:ByteArray)(i lo hi:Nat):moreB s i (lo:Int) (hi:Int)=moreL s.data.toList i lo hi:=by
 have:=getD_drop s 0 i;rw [Nat.zero_add,List.drop_zero] at this;rw [moreB,moreL,this,<- size_len]
 congr 1
 rw [Bool.eq_iff_iff];simp only [Bool.and_eq_true,decide_eq_true_eq];omega
theorem slow_pt (n b0 b1 b2 b3 sz lo hi:Nat)(h2:2<=sz)(h4:sz<=4):
  (if Lib.slowN n b0 b1 b2 b3 sz lo hi=(65533,1) then 0 else (Lib.slowN n b0 b1 b2 b3 sz lo hi).2) =
   if (1<n/\lo<=b1/\b1<=hi)/\(sz<=2\/(2<n/\128<=b2/\b2<=191))/\(sz<=3\/(3<n/\128<=b3/\b3<=191)) then sz else 0:=by
 unfold Lib.slowN
 by_cases c1:n<sz
 ·rw [if_pos c1,if_pos rfl,if_neg (by omega)]
 rw [if_neg c1]
 by_cases c2:b1<lo\/hi<b1
 ·rw [if_pos c2,if_pos rfl,if_neg (by omega)]
 rw [if_neg c2]
 by_cases c3:sz<=2
 ·rw [if_pos c3,if_neg (by simp),if_pos (by omega)];simp;omega
 rw [if_neg c3]
 by_cases c4:b2<128\/191<b2
 ·rw [if_pos c4,if_pos rfl,if_neg (by omega)]
 rw [if_neg c4]
 by_cases c5:sz<=3
 ·rw [if_pos c5,if_neg (by simp),if_pos (by omega)];simp;omega
 rw [if_neg c5]
 by_cases c6:b3<128\/191<b3
 ·rw [if_pos c6,if_pos rfl,if_neg (by omega)]
 rw [if_neg c6,if_neg (by simp),if_pos (by omega)];simp;omega
theorem point_of_slow (l:Lx.B)(sz lo hi:Nat)(h2:2<=sz)(h4:sz<=4)
  (h:Lib.slowN l.length (l.getD 0 0).toNat (l.getD 1 0).toNat (l.getD 2 0).toNat (l.getD 3 0).toNat sz lo hi=Lib.decodeN l.length (l.getD 0 0).toNat (l.getD 1 0).toNat (l.getD 2 0).toNat (l.getD 3 0).toNat):
  Lx.point l=if moreL l 1 lo hi && ((decide (sz<=2) || moreL l 2 128 191) && (decide (sz<=3) || moreL l 3 128 191)) then sz else 0:=by
 have hd:Lx.dec l=Lib.slowN l.length (l.getD 0 0).toNat (l.getD 1 0).toNat (l.getD 2 0).toNat (l.getD 3 0).toNat sz lo hi:=h.symm;unfold Lx.point;rw [hd,slow_pt _ _ _ _ _ _ _ _ h2 h4];simp only [moreL,Bool.and_eq_true,Bool.or_eq_true,decide_eq_true_eq]
theorem point_none (l:Lx.B)(h:∀ n b1 b2 b3,Lib.decodeN n (l.getD 0 0).toNat b1 b2 b3=(65533,1)):Lx.point l=0:=by
 unfold Lx.point Lx.dec;rw [h,if_pos rfl]
end
end Go.Proofs.YtninlbknklbofaaGreatDoor
