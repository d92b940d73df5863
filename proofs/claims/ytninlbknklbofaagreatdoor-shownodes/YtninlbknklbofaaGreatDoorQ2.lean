/- A part of the proof: A part of the proof. -/
import Derived.Test.YtninlbknklbofaaGreatDoorQz
import Derived.Test.YtninlbknklbofaaGreatDoorQr
import Derived.Deep.LoopGhost
set_option linter.unusedSimpArgs false
set_option linter.unusedVariables false
set_option maxRecDepth 100000
set_option maxHeartbeats 8000000
namespace Go.Proofs.YtninlbknklbofaaGreatDoor
section
open Go.RowKit Tn Lx
attribute [local go_sem] qtok_field0 qtok_field1 qtok_field2 qtok_field3
structure MksAt (w:World)(b:Nat)(l:List Value):Prop where
 blk:w.heap[b]? = some (.cells l.toArray 9 (0,0))
theorem MksAt.below {w w':World}{b:Nat}{l:List Value}(h:MksAt w b l)(hb:Below w.heap.size w w'):MksAt w' b l:=⟨(hb.block b (lt_of_heap h.blk)).trans h.blk⟩
theorem MksAt.kp {c:Cx}{w w':World}{b:Nat}{l:List Value}(h:MksAt w b l)(hk:Kp c w w')(h1:b≠c.r)(h2:b≠c.bt):MksAt w' b l:=⟨hk.heap h.blk h1 h2 (fun e=>absurd e (by decide))⟩
theorem MksAt.cell {w:World}{b:Nat}{l:List Value}(h:MksAt w b l)(i:Nat):w.cell? ⟨b,i,none⟩=l[i]? := by rw [blk_cell h.blk i];simp
structure QLev (c:Cx)(X:Nat->Prop)(w:World)(d n:Nat)(part:Ex.Part)(ms:List B)(Rf:Ex.Res Nat)(k v:Nat)(wr:World)(q:Qs)(R:Ex.Res Nat)(m:Nat):Prop where
 qd:Qd c X wr d q
 lt:q.p<c.ts.length
 kp:Kp c w wr
 abs:Abs R q
 link:∀ i s,R = .ok i s->v=i
 st:St c.ts m [v] R
 fuel:10*(c.ts.length-m)<n
 meas:10*(c.ts.length-m)<k
 fin:R.bind (Ex.chainLoop c.ts part ms k)=Rf
theorem chain_no {ts:List Tok}{part:Ex.Part}{ms:List B}{R:Ex.Res Nat}{q:Qs}{k v:Nat}(hA:Abs R q)(hv:∀ i s,R = .ok i s->v=i)(hno:∀ m∈ms,qis ts q m=false)(hk:0<k):Abs (R.bind (Ex.chainLoop ts part ms k)) q/\∀ i s,R.bind (Ex.chainLoop ts part ms k) = .ok i s->v=i:=by
 obtain ⟨k,rfl⟩:∃ j,k=j+1:=⟨k-1,by omega⟩
 cases R with
 | ok a s =>
  have hn:(ms.any fun m=>Ex.is ts s m)=false:=by
   rw [List.any_eq_false];intro m hm;have:=(hA.take_no (ts:=ts) (hno m hm)).1 a s rfl;rw [this];decide
  have e:(Ex.Res.ok a s).bind (Ex.chainLoop ts part ms (k+1)) = .ok a s:=by
   show Ex.chainLoop ts part ms (k+1) a s=_
   rw [Ex.chainLoop,if_neg (by rw [hn];decide)]
  rw [e];exact ⟨hA,hv⟩
 | bad c p=>exact ⟨hA,fun i s e=>by cases e⟩
 | out=>exact hA.elim
theorem test_no {ts:List Tok}{part:Ex.Part}{R:Ex.Res Nat}{q:Qs}{v:Nat}(hA:Abs R q)(hv:∀ i s,R = .ok i s->v=i)(h0:qis ts q [61]=false)(h1:qis ts q [60]=false):
  Abs (R.bind fun l s1=>if (Ex.is ts s1 [61] || Ex.is ts s1 [60])=true then Ex.between ts part l s1 else .ok l s1) q/\∀ i s,(R.bind fun l s1=>if (Ex.is ts s1 [61] || Ex.is ts s1 [60])=true then Ex.between ts part l s1 else .ok l s1) = .ok i s->v=i:=by
 cases R with
 | ok a s =>
  have n0:=(hA.take_no (ts:=ts) h0).1 a s rfl;have n1:=(hA.take_no (ts:=ts) h1).1 a s rfl;have e:((Ex.Res.ok a s).bind fun l s1=>if (Ex.is ts s1 [61] || Ex.is ts s1 [60])=true then Ex.between ts part l s1 else .ok l s1) = .ok a s:=by
   show (if (Ex.is ts s [61] || Ex.is ts s [60])=true then _ else _)=_
   rw [n0,n1];rfl
  rw [e];exact ⟨hA,hv⟩
 | bad c p=>exact ⟨hA,fun i s e=>by cases e⟩
 | out=>exact hA.elim
theorem St.add {ts:List Tok}{α:Type}{m v:Nat}{ks:List Nat}{R:Ex.Res α}{n:Nd}(h:St ts m ks R)(hn:Ex.NameOk ts n.name)(hk:n.kids.length<=ts.length+3)(hm:Ex.NumOk ts n.num)(hv:∀ i s,(R.bind fun _ s=>Ex.addN ts n s) = .ok i s->v=i):St ts m [v] (R.bind fun _ s=>Ex.addN ts n s):=by
 cases R with
 | ok a s =>
  have hs:Ex.GoodS ts s/\m<=s.p/\∀ k∈ks,k<s.ns.length:=h;have hp:=Ex.addN_post (n:=n) hs.1 hn hk hm
  change ∀ i s',Ex.addN ts n s = .ok i s'->v=i at hv
  show St ts m [v] (Ex.addN ts n s)
  cases hr:Ex.addN ts n s with
  | ok i s1 =>
   rw [hr] at hp hv;obtain rfl:=hv i s1 rfl;exact ⟨hp.good,Nat.le_trans hs.2.1 hp.far,fun k hk=>by rw [List.mem_singleton.1 hk];exact hp.lt⟩
  | bad c p=>trivial
  | out=>rw [hr] at hp;exact hp.elim
 | bad c p=>trivial
 | out=>exact h.elim
theorem between_add {ts:List Tok}{part:Ex.Part}{v b:Nat}{s:Ex.S}{t:Tok}{x:B}(ht:Ex.tk ts s.p=t)(hi:t.int=0)(hx:t.text=x)(hv:∀ i s',part s.skip = .ok i s'->b=i):
  ((part s.skip).bind fun _ s=>Ex.addN ts ⟨⟨x.toArray⟩,t.at_.line,t.at_.col,⟨#[]⟩,t.int,[v,b].map fun (k:Nat)=>(k:Int)⟩ s)=Ex.between ts part v s:=by
 subst ht;rw [hi];subst hx;unfold Ex.between
 cases e:part s.skip with
 | bad c p=>rfl
 | out=>rfl
 | ok a s1=>obtain rfl:=hv a s1 e;rfl
theorem mark_comes {ts:List Tok}(hT:Ex.TsOk ts){R:Ex.Res Nat}{q:Qs}{t:Tok}{x:B}{v m:Nat}{ks:List Nat}(hA:Abs R q)(hv:∀ i s,R = .ok i s->v=i)(hS:St ts m ks R)(ht:Ex.tk ts q.p=t)(h:qis ts q x=true):
  ∃ s,R = .ok v s/\Ex.is ts s x=true/\Ex.tk ts s.p=t/\t.int=0/\t.text=x/\s.p<ts.length/\m<=s.p/\q.skip.p<ts.length/\Abs (Ex.Res.ok () s.skip:Ex.Res Unit) q.skip/\St ts (m+1) ks (Ex.Res.ok () s.skip:Ex.Res Unit):=by
 obtain ⟨a,s,rfl,hi,_⟩:=hA.take_ok (ts:=ts) h;obtain rfl:=hv a s rfl;have hr:=hS.ready rfl;have hlt:=Ex.is_lt hi;have htk:Ex.tk ts s.p=t:=by rw [<- hA.1];exact ht
 refine ⟨s,rfl,hi,htk, ?_, ?_,hlt,hr.2.1,qis_lt hT h,Abs.skip_ok (ts:=ts) hA,⟨hr.1.skip hlt,by show m+1<=s.p+1;have:=hr.2.1;omega,hr.2.2⟩⟩
 ·rw [<- htk];refine hT.num fun e3=>?_;simp [Ex.is,Ex.isT,e3] at hi
 ·rw [<- htk];unfold Ex.is Ex.isT at hi;exact eq_of_beq (Bool.and_eq_true _ _ ▸ hi).2
theorem qmarks0 (w:World):Calls Tryz.prog 135 #[.int .i64 0] w fun e w'=>∃ b,e = .returned (.slice (some ⟨b,0,none⟩) 1 1)/\w.heap.size<=b/\MksAt w' b [.string ⟨#[111,114]⟩]/\Below w.heap.size w w':=by
 have hb:Below w.heap.size w (w.alloc (.cells #[.string ⟨#[111,114]⟩] 9)):=(Below.refl _ w).alloc (Nat.le_refl _) _;have hm:MksAt (w.alloc (.cells #[.string ⟨#[111,114]⟩] 9)) w.heap.size [.string ⟨#[111,114]⟩]:=⟨blk_new w _⟩;have HB:=Lib.hid hb;have HM:=Lib.hid hm;clear hb hm
 go_enter Tryz.func135,Tryz.ntmps135
 go_wp2
 go_ret
 exact ⟨w.heap.size,rfl,Nat.le_refl _,HM.out,HB.out⟩
theorem qlev0_any (c:Cx)(n:Nat)(f:Ex.Rec)(hF:QSpec c n f){α:Type}(R:Ex.Res α)(X:Nat->Prop)(w:World)(d m:Nat)(ks:List Nat)(q:Qs)(h:Pre c X w d (n+1) 6 m ks R q):
  Calls Tryz.prog 118 #[.pointer (some ⟨c.r,0,none⟩),.int .i64 0] w (QP c X w d (R.bind fun _ s=>Ex.chain c.ts n (f .and d) [[111,114]] s)):=by
 have hfu:=h.fuel;have hd:=h.deep;have hr1:=h.qd.rlt;have hbt:=h.qd.bt;have hsz:=h.qd.size;have few:=h.qd.few;have room:=h.qd.room;have hN:=hF.and R X w d m ks q ⟨h.qd,h.lt,h.abs,h.st,by omega,h.deep⟩;obtain ⟨R1,hR1⟩:∃ R1,(R.bind fun _ s=>f .and d s)=R1:=⟨_,rfl⟩;obtain ⟨Rf,hRf⟩:∃ Rf,(R.bind fun _ s=>Ex.chain c.ts n (f .and d) [[111,114]] s)=Rf:=⟨_,rfl⟩;have hfin:R1.bind (Ex.chainLoop c.ts (f .and d) [[111,114]] n)=Rf:=by rw [<- hRf,<- hR1,Ex.Res.bind_assoc];rfl
 rw [hR1] at hN;rw [hRf];have HN:=Lib.hid hN;have HF:=Lib.hid hF;have HS:=Lib.hid h.st;have HR1:=Lib.hid hR1;have HFIN:=Lib.hid hfin;clear hN hF h hR1 hRf hfin
 go_enter Tryz.func118,Tryz.ntmps118
 go_wp2_with fail
 refine HN.out.mono ?_;rintro e w1 ⟨v1,q1,rfl,hQ1,hp1,hA1,hv1,hK1⟩;have hS1:=HS.out.rec HF.out.ends HF.out.gr .and (by simp only [Ex.rank];omega) (by rw [HR1.out];exact hv1);rw [HR1.out] at hS1;have hst:QLev c X w d n (f .and d) [[111,114]] Rf n v1 w1 q1 R1 (m+1):=⟨hQ1,hp1,hK1,hA1,hv1,hS1.reorder (Nat.le_refl _) (fun k hk=>by rw [List.mem_singleton.1 hk];exact List.mem_cons_self ..),by omega,by omega,HFIN.out⟩;have HST:=Lib.hid hst;clear hQ1 hp1 hA1 hv1 hK1 hS1 hst HN HS HR1 HFIN
 go_wp2_with fail
 go_loopg [5] n (fun k a wr=>∃ (v:Nat) (q2:Qs) (R2:Ex.Res Nat) (m2:Nat),a = .int .i64 (v:Int)/\QLev c X w d n (f .and d) [[111,114]] Rf k v wr q2 R2 m2)
 case atStart=>exact ⟨v1,q1,R1,m+1,rfl,HST.out⟩
 case round =>
  obtain ⟨v,q2,R2,m2,rfl,hst⟩:=hrel;clear HST;have hlk:=hst.qd.looks hst.lt;obtain ⟨t,ht⟩:∃ t,Ex.tk c.ts q2.p=t:=⟨_,rfl⟩;rw [ht] at hlk;obtain ⟨a0,a1,b0,b1,b2,b3,b4,c0,c1,k0,k1,k2,k3,k4,wr0,w1',few',room'⟩:=hlk;obtain ⟨V,hV⟩:∃ V,(wr.alloc (.cells #[.int .i64 t.kind,.string ⟨t.text.toArray⟩,.int .i64 t.int,.int .i64 t.at_.line,.int .i64 t.at_.col] 109)).drew=V:=⟨_,rfl⟩;have hbV:Below wr.heap.size wr V:=by rw [<- hV];exact Below.drawn wr _
  have hT:Fiq V wr.heap.size t:=by rw [<- hV];exact Fiq.drawn wr t
  have hzr:=(hst.kp).size;have hzV:=hbV.size;have HQV:=Lib.hid ((hst.qd).below hbV);have HKV:=Lib.hid ((hst.kp).then_below hbV);have HT:=Lib.hid hT;have HV:=Lib.hid hV;have HTK:=Lib.hid ht;have hfu2:=hst.fuel;have hme2:=hst.meas;have HST:=Lib.hid hst;clear hbV hT hV ht hst
  go_upto_region 4 with fail
  go_region
  rw [HV.out];clear a0 a1 b0 b1 b2 b3 b4 c0 c1 k0 k1 k2 k3 k4
  go_wp2_with fail
  refine (qmarks0 V).mono ?_;rintro e w3 ⟨b,rfl,hbb,hM,hb3⟩;have hz3:=hb3.size;have HQ3:=Lib.hid (HQV.out.below hb3);have HK3:=Lib.hid (HKV.out.then_below hb3);have HT3:=Lib.hid (HT.out.below hb3);have HM3:=Lib.hid hM;clear hM hb3;have g0:w3.cell? ⟨b,0,none⟩=some (.string ⟨#[111,114]⟩):=HM3.out.cell 0
  go_wp2_with fail
  refine wp_loop_rounds 2 ?_;rw [rounds_succ]
  cases hq0:qis c.ts q2 [111,114] with
  | true =>
   obtain ⟨s,hR,hi,htk,hti,htx,hsl,hms,hsp,hsA,hsS⟩:=mark_comes HF.out.ts HST.out.abs HST.out.link HST.out.st HTK.out hq0;have hC:=qtake_tr HQ3.out HST.out.lt hq0;have HSR:=Lib.hid hR;have HSM:=Lib.hid hi;have HST0:=Lib.hid htk;have HSI:=Lib.hid hti;have HSX:=Lib.hid htx;have HSP:=Lib.hid hsp;have HSA:=Lib.hid hsA;have HSS:=Lib.hid hsS;have HC:=Lib.hid hC;clear hR hi htk hti htx hsp hsA hsS hC hq0
   go_wp2_with fail
   refine HC.out.mono ?_;rintro e w5 ⟨rfl,hQ5,hK5⟩;have hz5:=hK5.size;have HM5:=Lib.hid (HM3.out.kp hK5 (by omega) (by omega));have HT5:=Lib.hid (HT3.out.kp hK5 (by omega) (by omega));have HK5:=Lib.hid (HK3.out.trans hK5);have HQ5:=Lib.hid hQ5;clear hQ5 hK5 g0;have g0:w5.cell? ⟨b,0,none⟩=some (.string ⟨#[111,114]⟩):=HM5.out.cell 0
   go_wp2_with fail
   rw [rounds_succ]
   go_wp2_with fail
   refine (HF.out.and (Ex.Res.ok () s.skip:Ex.Res Unit) X w5 d (m2+1) _ q2.skip ⟨HQ5.out,HSP.out,HSA.out,HSS.out,by omega,hd⟩).mono ?_;rintro e w6 ⟨v6,q6,rfl,hQ6,hp6,hA6,hv6,hK6⟩;have hS6:=HSS.out.rec HF.out.ends HF.out.gr .and (by simp only [Ex.rank];omega) hv6
   change Abs (f .and d s.skip) q6 at hA6
   change ∀ i s9,f .and d s.skip = .ok i s9->v6=i at hv6
   change St c.ts (m2+1+1) (v6 :: _) (f .and d s.skip) at hS6
   have hadd:=hA6.add (ts:=c.ts) ⟨⟨#[111,114]⟩,t.at_.line,t.at_.col,⟨#[]⟩,t.int,[v,v6].map fun (k:Nat)=>(k:Int)⟩ (fun a s9 e9=>fits_of (hS6.ready e9).2.2);have hS7:=hS6.add (n:=⟨⟨#[111,114]⟩,t.at_.line,t.at_.col,⟨#[]⟩,t.int,[v,v6].map fun (k:Nat)=>(k:Int)⟩) Ex.nameOk_nil (by simp) (.inl HSI.out) hadd.2;have heq:=between_add (part:=f .and d) (v:=v) (x:=[111,114]) HST0.out HSI.out HSX.out hv6
   change ((f .and d s.skip).bind fun _ s=>Ex.addN c.ts ⟨⟨#[111,114]⟩,t.at_.line,t.at_.col,⟨#[]⟩,t.int,[v,v6].map fun (k:Nat)=>(k:Int)⟩ s)=_ at heq
   rw [heq] at hadd hS7;have hlt9:=qnode_lt hp6 (ts:=c.ts) ⟨⟨#[111,114]⟩,t.at_.line,t.at_.col,⟨#[]⟩,t.int,[v,v6].map fun (k:Nat)=>(k:Int)⟩;have hz6:=hK6.size;have HQ6:=Lib.hid hQ6;have HP6:=Lib.hid hp6;have HADD:=Lib.hid hadd;have HS7:=Lib.hid hS7;have HL:=Lib.hid hlt9;have HT6:=Lib.hid (HT5.out.kp hK6 (by omega) (by omega));have HK6:=Lib.hid (HK5.out.trans hK6);clear hQ6 hp6 hA6 hv6 hK6 hS6 hadd heq hlt9 hS7;have y0:=HT6.out.c0;have y1:=HT6.out.c1;have y2:=HT6.out.c2;have y3:=HT6.out.c3;have y4:=HT6.out.c4
   go_wp2_with fail
   refine (qnode_any c X _ d q6 ⟨#[111,114]⟩ t ⟨#[]⟩ [v,v6] (some ⟨w6.heap.size,0,none⟩) 2 (HQ6.out.below ((Below.refl _ w6).alloc (Nat.le_refl _) _)) HP6.out (qints2 _ (by omega) v v6) (HQ6.out.fresh _ _)).mono ?_;rintro e w9 ⟨rfl,hQ,hK⟩;have HQ9:=Lib.hid hQ;have HK9:=Lib.hid (HK6.out.trans (Below.then_kp ((Below.refl _ w6).alloc (Nat.le_refl _) _) hK));clear hQ hK y0 y1 y2 y3 y4;obtain ⟨k,rfl⟩:∃ j,gk=j+1:=⟨gk-1,by omega⟩;have hany:([[111,114]].any fun x=>Ex.is c.ts s x)=true:=by simp only [List.any_cons,HSM.out,Bool.true_or,Bool.or_true]
   have hnew:(Ex.between c.ts (f .and d) v s).bind (Ex.chainLoop c.ts (f .and d) [[111,114]] k)=Rf:=by
    rw [<- HST.out.fin,HSR.out]
    show _=Ex.chainLoop c.ts (f .and d) [[111,114]] (k+1) v s
    rw [Ex.chainLoop,if_pos hany]
   have hst9:QLev c X w d n (f .and d) [[111,114]] Rf k _ w9 _ (Ex.between c.ts (f .and d) v s) (m2+1+1):=⟨HQ9.out,HL.out,HK9.out,HADD.out.1,HADD.out.2,HS7.out,by omega,by omega,hnew⟩;have HST9:=Lib.hid hst9;clear hst9 hnew hany
   go_wp2_with fail
   go_roundg k
   case measure=>omega
   case rel=>exact ⟨_,_,_,_,rfl,HST9.out⟩
  | false =>
   have hC:=qtake_fa HQ3.out HST.out.lt hq0;have HC:=Lib.hid hC;clear hC
   go_wp2_with fail
   refine HC.out.mono ?_;rintro e w30 ⟨rfl,hQ30,hK30⟩;have hz30:=hK30.size;have HM30:=Lib.hid (HM3.out.kp hK30 (by omega) (by omega));have HT30:=Lib.hid (HT3.out.kp hK30 (by omega) (by omega));have HK30:=Lib.hid (HK3.out.trans hK30);have HQ30:=Lib.hid hQ30;clear hQ30 hK30 HC g0;have g0:w30.cell? ⟨b,0,none⟩=some (.string ⟨#[111,114]⟩):=HM30.out.cell 0
   go_wp2_with fail
   rw [rounds_succ];have hno:=chain_no (part:=f .and d) (ms:=[[111,114]]) HST.out.abs HST.out.link (by intro x hx;simp only [List.mem_cons,List.not_mem_nil,or_false] at hx;rcases hx with rfl <;> assumption) (show 0<gk by omega);rw [HST.out.fin] at hno;have HNO:=Lib.hid hno;clear hno hq0
   go_wp2
   go_ret
   exact ⟨v,q2,rfl,HQ30.out,HST.out.lt,HNO.out.1,HNO.out.2,HK30.out⟩
end
section
open Go.RowKit Tn Lx
attribute [local go_sem] qtok_field0 qtok_field1 qtok_field2 qtok_field3
theorem qmarks1 (w:World):Calls Tryz.prog 135 #[.int .i64 1] w fun e w'=>∃ b,e = .returned (.slice (some ⟨b,0,none⟩) 1 1)/\w.heap.size<=b/\MksAt w' b [.string ⟨#[97,110,100]⟩]/\Below w.heap.size w w':=by
 have hb:Below w.heap.size w (w.alloc (.cells #[.string ⟨#[97,110,100]⟩] 9)):=(Below.refl _ w).alloc (Nat.le_refl _) _;have hm:MksAt (w.alloc (.cells #[.string ⟨#[97,110,100]⟩] 9)) w.heap.size [.string ⟨#[97,110,100]⟩]:=⟨blk_new w _⟩;have HB:=Lib.hid hb;have HM:=Lib.hid hm;clear hb hm
 go_enter Tryz.func135,Tryz.ntmps135
 go_wp2
 go_ret
 exact ⟨w.heap.size,rfl,Nat.le_refl _,HM.out,HB.out⟩
theorem qlev1_any (c:Cx)(n:Nat)(f:Ex.Rec)(hF:QSpec c n f){α:Type}(R:Ex.Res α)(X:Nat->Prop)(w:World)(d m:Nat)(ks:List Nat)(q:Qs)(h:Pre c X w d (n+1) 5 m ks R q):
  Calls Tryz.prog 118 #[.pointer (some ⟨c.r,0,none⟩),.int .i64 1] w (QP c X w d (R.bind fun _ s=>Ex.chain c.ts n (f .test d) [[97,110,100]] s)):=by
 have hfu:=h.fuel;have hd:=h.deep;have hr1:=h.qd.rlt;have hbt:=h.qd.bt;have hsz:=h.qd.size;have few:=h.qd.few;have room:=h.qd.room;have hN:=hF.test R X w d m ks q ⟨h.qd,h.lt,h.abs,h.st,by omega,h.deep⟩;obtain ⟨R1,hR1⟩:∃ R1,(R.bind fun _ s=>f .test d s)=R1:=⟨_,rfl⟩;obtain ⟨Rf,hRf⟩:∃ Rf,(R.bind fun _ s=>Ex.chain c.ts n (f .test d) [[97,110,100]] s)=Rf:=⟨_,rfl⟩;have hfin:R1.bind (Ex.chainLoop c.ts (f .test d) [[97,110,100]] n)=Rf:=by rw [<- hRf,<- hR1,Ex.Res.bind_assoc];rfl
 rw [hR1] at hN;rw [hRf];have HN:=Lib.hid hN;have HF:=Lib.hid hF;have HS:=Lib.hid h.st;have HR1:=Lib.hid hR1;have HFIN:=Lib.hid hfin;clear hN hF h hR1 hRf hfin
 go_enter Tryz.func118,Tryz.ntmps118
 go_wp2_with fail
 refine HN.out.mono ?_;rintro e w1 ⟨v1,q1,rfl,hQ1,hp1,hA1,hv1,hK1⟩;have hS1:=HS.out.rec HF.out.ends HF.out.gr .test (by simp only [Ex.rank];omega) (by rw [HR1.out];exact hv1);rw [HR1.out] at hS1;have hst:QLev c X w d n (f .test d) [[97,110,100]] Rf n v1 w1 q1 R1 (m+1):=⟨hQ1,hp1,hK1,hA1,hv1,hS1.reorder (Nat.le_refl _) (fun k hk=>by rw [List.mem_singleton.1 hk];exact List.mem_cons_self ..),by omega,by omega,HFIN.out⟩;have HST:=Lib.hid hst;clear hQ1 hp1 hA1 hv1 hK1 hS1 hst HN HS HR1 HFIN
 go_wp2_with fail
 go_loopg [5] n (fun k a wr=>∃ (v:Nat) (q2:Qs) (R2:Ex.Res Nat) (m2:Nat),a = .int .i64 (v:Int)/\QLev c X w d n (f .test d) [[97,110,100]] Rf k v wr q2 R2 m2)
 case atStart=>exact ⟨v1,q1,R1,m+1,rfl,HST.out⟩
 case round =>
  obtain ⟨v,q2,R2,m2,rfl,hst⟩:=hrel;clear HST;have hlk:=hst.qd.looks hst.lt;obtain ⟨t,ht⟩:∃ t,Ex.tk c.ts q2.p=t:=⟨_,rfl⟩;rw [ht] at hlk;obtain ⟨a0,a1,b0,b1,b2,b3,b4,c0,c1,k0,k1,k2,k3,k4,wr0,w1',few',room'⟩:=hlk;obtain ⟨V,hV⟩:∃ V,(wr.alloc (.cells #[.int .i64 t.kind,.string ⟨t.text.toArray⟩,.int .i64 t.int,.int .i64 t.at_.line,.int .i64 t.at_.col] 109)).drew=V:=⟨_,rfl⟩;have hbV:Below wr.heap.size wr V:=by rw [<- hV];exact Below.drawn wr _
  have hT:Fiq V wr.heap.size t:=by rw [<- hV];exact Fiq.drawn wr t
  have hzr:=(hst.kp).size;have hzV:=hbV.size;have HQV:=Lib.hid ((hst.qd).below hbV);have HKV:=Lib.hid ((hst.kp).then_below hbV);have HT:=Lib.hid hT;have HV:=Lib.hid hV;have HTK:=Lib.hid ht;have hfu2:=hst.fuel;have hme2:=hst.meas;have HST:=Lib.hid hst;clear hbV hT hV ht hst
  go_upto_region 4 with fail
  go_region
  rw [HV.out];clear a0 a1 b0 b1 b2 b3 b4 c0 c1 k0 k1 k2 k3 k4
  go_wp2_with fail
  refine (qmarks1 V).mono ?_;rintro e w3 ⟨b,rfl,hbb,hM,hb3⟩;have hz3:=hb3.size;have HQ3:=Lib.hid (HQV.out.below hb3);have HK3:=Lib.hid (HKV.out.then_below hb3);have HT3:=Lib.hid (HT.out.below hb3);have HM3:=Lib.hid hM;clear hM hb3;have g0:w3.cell? ⟨b,0,none⟩=some (.string ⟨#[97,110,100]⟩):=HM3.out.cell 0
  go_wp2_with fail
  refine wp_loop_rounds 2 ?_;rw [rounds_succ]
  cases hq0:qis c.ts q2 [97,110,100] with
  | true =>
   obtain ⟨s,hR,hi,htk,hti,htx,hsl,hms,hsp,hsA,hsS⟩:=mark_comes HF.out.ts HST.out.abs HST.out.link HST.out.st HTK.out hq0;have hC:=qtake_tr HQ3.out HST.out.lt hq0;have HSR:=Lib.hid hR;have HSM:=Lib.hid hi;have HST0:=Lib.hid htk;have HSI:=Lib.hid hti;have HSX:=Lib.hid htx;have HSP:=Lib.hid hsp;have HSA:=Lib.hid hsA;have HSS:=Lib.hid hsS;have HC:=Lib.hid hC;clear hR hi htk hti htx hsp hsA hsS hC hq0
   go_wp2_with fail
   refine HC.out.mono ?_;rintro e w5 ⟨rfl,hQ5,hK5⟩;have hz5:=hK5.size;have HM5:=Lib.hid (HM3.out.kp hK5 (by omega) (by omega));have HT5:=Lib.hid (HT3.out.kp hK5 (by omega) (by omega));have HK5:=Lib.hid (HK3.out.trans hK5);have HQ5:=Lib.hid hQ5;clear hQ5 hK5 g0;have g0:w5.cell? ⟨b,0,none⟩=some (.string ⟨#[97,110,100]⟩):=HM5.out.cell 0
   go_wp2_with fail
   rw [rounds_succ]
   go_wp2_with fail
   refine (HF.out.test (Ex.Res.ok () s.skip:Ex.Res Unit) X w5 d (m2+1) _ q2.skip ⟨HQ5.out,HSP.out,HSA.out,HSS.out,by omega,hd⟩).mono ?_;rintro e w6 ⟨v6,q6,rfl,hQ6,hp6,hA6,hv6,hK6⟩;have hS6:=HSS.out.rec HF.out.ends HF.out.gr .test (by simp only [Ex.rank];omega) hv6
   change Abs (f .test d s.skip) q6 at hA6
   change ∀ i s9,f .test d s.skip = .ok i s9->v6=i at hv6
   change St c.ts (m2+1+1) (v6 :: _) (f .test d s.skip) at hS6
   have hadd:=hA6.add (ts:=c.ts) ⟨⟨#[97,110,100]⟩,t.at_.line,t.at_.col,⟨#[]⟩,t.int,[v,v6].map fun (k:Nat)=>(k:Int)⟩ (fun a s9 e9=>fits_of (hS6.ready e9).2.2);have hS7:=hS6.add (n:=⟨⟨#[97,110,100]⟩,t.at_.line,t.at_.col,⟨#[]⟩,t.int,[v,v6].map fun (k:Nat)=>(k:Int)⟩) Ex.nameOk_nil (by simp) (.inl HSI.out) hadd.2;have heq:=between_add (part:=f .test d) (v:=v) (x:=[97,110,100]) HST0.out HSI.out HSX.out hv6
   change ((f .test d s.skip).bind fun _ s=>Ex.addN c.ts ⟨⟨#[97,110,100]⟩,t.at_.line,t.at_.col,⟨#[]⟩,t.int,[v,v6].map fun (k:Nat)=>(k:Int)⟩ s)=_ at heq
   rw [heq] at hadd hS7;have hlt9:=qnode_lt hp6 (ts:=c.ts) ⟨⟨#[97,110,100]⟩,t.at_.line,t.at_.col,⟨#[]⟩,t.int,[v,v6].map fun (k:Nat)=>(k:Int)⟩;have hz6:=hK6.size;have HQ6:=Lib.hid hQ6;have HP6:=Lib.hid hp6;have HADD:=Lib.hid hadd;have HS7:=Lib.hid hS7;have HL:=Lib.hid hlt9;have HT6:=Lib.hid (HT5.out.kp hK6 (by omega) (by omega));have HK6:=Lib.hid (HK5.out.trans hK6);clear hQ6 hp6 hA6 hv6 hK6 hS6 hadd heq hlt9 hS7;have y0:=HT6.out.c0;have y1:=HT6.out.c1;have y2:=HT6.out.c2;have y3:=HT6.out.c3;have y4:=HT6.out.c4
   go_wp2_with fail
   refine (qnode_any c X _ d q6 ⟨#[97,110,100]⟩ t ⟨#[]⟩ [v,v6] (some ⟨w6.heap.size,0,none⟩) 2 (HQ6.out.below ((Below.refl _ w6).alloc (Nat.le_refl _) _)) HP6.out (qints2 _ (by omega) v v6) (HQ6.out.fresh _ _)).mono ?_;rintro e w9 ⟨rfl,hQ,hK⟩;have HQ9:=Lib.hid hQ;have HK9:=Lib.hid (HK6.out.trans (Below.then_kp ((Below.refl _ w6).alloc (Nat.le_refl _) _) hK));clear hQ hK y0 y1 y2 y3 y4;obtain ⟨k,rfl⟩:∃ j,gk=j+1:=⟨gk-1,by omega⟩;have hany:([[97,110,100]].any fun x=>Ex.is c.ts s x)=true:=by simp only [List.any_cons,HSM.out,Bool.true_or,Bool.or_true]
   have hnew:(Ex.between c.ts (f .test d) v s).bind (Ex.chainLoop c.ts (f .test d) [[97,110,100]] k)=Rf:=by
    rw [<- HST.out.fin,HSR.out]
    show _=Ex.chainLoop c.ts (f .test d) [[97,110,100]] (k+1) v s
    rw [Ex.chainLoop,if_pos hany]
   have hst9:QLev c X w d n (f .test d) [[97,110,100]] Rf k _ w9 _ (Ex.between c.ts (f .test d) v s) (m2+1+1):=⟨HQ9.out,HL.out,HK9.out,HADD.out.1,HADD.out.2,HS7.out,by omega,by omega,hnew⟩;have HST9:=Lib.hid hst9;clear hst9 hnew hany
   go_wp2_with fail
   go_roundg k
   case measure=>omega
   case rel=>exact ⟨_,_,_,_,rfl,HST9.out⟩
  | false =>
   have hC:=qtake_fa HQ3.out HST.out.lt hq0;have HC:=Lib.hid hC;clear hC
   go_wp2_with fail
   refine HC.out.mono ?_;rintro e w30 ⟨rfl,hQ30,hK30⟩;have hz30:=hK30.size;have HM30:=Lib.hid (HM3.out.kp hK30 (by omega) (by omega));have HT30:=Lib.hid (HT3.out.kp hK30 (by omega) (by omega));have HK30:=Lib.hid (HK3.out.trans hK30);have HQ30:=Lib.hid hQ30;clear hQ30 hK30 HC g0;have g0:w30.cell? ⟨b,0,none⟩=some (.string ⟨#[97,110,100]⟩):=HM30.out.cell 0
   go_wp2_with fail
   rw [rounds_succ];have hno:=chain_no (part:=f .test d) (ms:=[[97,110,100]]) HST.out.abs HST.out.link (by intro x hx;simp only [List.mem_cons,List.not_mem_nil,or_false] at hx;rcases hx with rfl <;> assumption) (show 0<gk by omega);rw [HST.out.fin] at hno;have HNO:=Lib.hid hno;clear hno hq0
   go_wp2
   go_ret
   exact ⟨v,q2,rfl,HQ30.out,HST.out.lt,HNO.out.1,HNO.out.2,HK30.out⟩
end
section
open Go.RowKit Tn Lx
attribute [local go_sem] qtok_field0 qtok_field1 qtok_field2 qtok_field3
theorem qmarks2 (w:World):Calls Tryz.prog 135 #[.int .i64 2] w fun e w'=>∃ b,e = .returned (.slice (some ⟨b,0,none⟩) 2 2)/\w.heap.size<=b/\MksAt w' b [.string ⟨#[61]⟩,.string ⟨#[60]⟩]/\Below w.heap.size w w':=by
 have hb:Below w.heap.size w (w.alloc (.cells #[.string ⟨#[61]⟩,.string ⟨#[60]⟩] 9)):=(Below.refl _ w).alloc (Nat.le_refl _) _;have hm:MksAt (w.alloc (.cells #[.string ⟨#[61]⟩,.string ⟨#[60]⟩] 9)) w.heap.size [.string ⟨#[61]⟩,.string ⟨#[60]⟩]:=⟨blk_new w _⟩;have HB:=Lib.hid hb;have HM:=Lib.hid hm;clear hb hm
 go_enter Tryz.func135,Tryz.ntmps135
 go_wp2
 go_ret
 exact ⟨w.heap.size,rfl,Nat.le_refl _,HM.out,HB.out⟩
theorem qlev2_any (c:Cx)(n:Nat)(f:Ex.Rec)(hF:QSpec c n f){α:Type}(R:Ex.Res α)(X:Nat->Prop)(w:World)(d m:Nat)(ks:List Nat)(q:Qs)(h:Pre c X w d (n+1) 4 m ks R q):
  Calls Tryz.prog 118 #[.pointer (some ⟨c.r,0,none⟩),.int .i64 2] w (QP c X w d (R.bind fun _ s=>Ex.testF c.ts f d s)):=by
 have hfu:=h.fuel;have hd:=h.deep;have hr1:=h.qd.rlt;have hbt:=h.qd.bt;have hsz:=h.qd.size;have few:=h.qd.few;have room:=h.qd.room;have hN:=hF.sum R X w d m ks q ⟨h.qd,h.lt,h.abs,h.st,by omega,h.deep⟩;obtain ⟨R1,hR1⟩:∃ R1,(R.bind fun _ s=>f .sum d s)=R1:=⟨_,rfl⟩;obtain ⟨Rf,hRf⟩:∃ Rf,(R.bind fun _ s=>Ex.testF c.ts f d s)=Rf:=⟨_,rfl⟩;have hfin:(R1.bind fun l s1=>if (Ex.is c.ts s1 [61] || Ex.is c.ts s1 [60])=true then Ex.between c.ts (f .sum d) l s1 else .ok l s1)=Rf:=by rw [<- hRf,<- hR1,Ex.Res.bind_assoc];rfl
 rw [hR1] at hN;rw [hRf];have HN:=Lib.hid hN;have HF:=Lib.hid hF;have HS:=Lib.hid h.st;have HR1:=Lib.hid hR1;have HFIN:=Lib.hid hfin;clear hN hF h hR1 hRf hfin
 go_enter Tryz.func118,Tryz.ntmps118
 go_wp2_with fail
 refine HN.out.mono ?_;rintro e w1 ⟨v1,q1,rfl,hQ1,hp1,hA1,hv1,hK1⟩;have hS1:=HS.out.rec HF.out.ends HF.out.gr .sum (by simp only [Ex.rank];omega) (by rw [HR1.out];exact hv1);rw [HR1.out] at hS1;have hst:Qd c X w1 d q1:=hQ1;have HQ1:=Lib.hid hQ1;have HP1:=Lib.hid hp1;have HA1:=Lib.hid hA1;have Hv1:=Lib.hid hv1;have HK1:=Lib.hid hK1;have HS1:=Lib.hid (hS1.reorder (m':=m+1) (ks':=[v1]) (Nat.le_refl _) (fun k hk=>by rw [List.mem_singleton.1 hk];exact List.mem_cons_self ..));clear hQ1 hp1 hA1 hv1 hK1 hS1 hst HN HS HR1
 go_wp2_with fail
 refine wp_loop_rounds 1 ?_;rw [rounds_succ];have hlk:=HQ1.out.looks HP1.out;obtain ⟨t,ht⟩:∃ t,Ex.tk c.ts q1.p=t:=⟨_,rfl⟩;rw [ht] at hlk;obtain ⟨a0,a1,b0,b1,b2,b3,b4,c0,c1,k0,k1,k2,k3,k4,wr0,w1',few',room'⟩:=hlk;obtain ⟨V,hV⟩:∃ V,(w1.alloc (.cells #[.int .i64 t.kind,.string ⟨t.text.toArray⟩,.int .i64 t.int,.int .i64 t.at_.line,.int .i64 t.at_.col] 109)).drew=V:=⟨_,rfl⟩;have hbV:Below w1.heap.size w1 V:=by rw [<- hV];exact Below.drawn w1 _
 have hT:Fiq V w1.heap.size t:=by rw [<- hV];exact Fiq.drawn w1 t
 have hzr:=(HK1.out).size;have hzV:=hbV.size;have HQV:=Lib.hid ((HQ1.out).below hbV);have HKV:=Lib.hid ((HK1.out).then_below hbV);have HT:=Lib.hid hT;have HV:=Lib.hid hV;have HTK:=Lib.hid ht;clear hbV hT hV ht
 go_upto_region 4 with fail
 go_region
 rw [HV.out];clear a0 a1 b0 b1 b2 b3 b4 c0 c1 k0 k1 k2 k3 k4
 go_wp2_with fail
 refine (qmarks2 V).mono ?_;rintro e w3 ⟨b,rfl,hbb,hM,hb3⟩;have hz3:=hb3.size;have HQ3:=Lib.hid (HQV.out.below hb3);have HK3:=Lib.hid (HKV.out.then_below hb3);have HT3:=Lib.hid (HT.out.below hb3);have HM3:=Lib.hid hM;clear hM hb3;have g0:w3.cell? ⟨b,0,none⟩=some (.string ⟨#[61]⟩):=HM3.out.cell 0;have g1:w3.cell? ⟨b,1,none⟩=some (.string ⟨#[60]⟩):=HM3.out.cell 1
 go_wp2_with fail
 refine wp_loop_rounds 3 ?_;rw [rounds_succ]
 cases hq0:qis c.ts q1 [61] with
 | true =>
  obtain ⟨s,hR,hi,htk,hti,htx,hsl,hms,hsp,hsA,hsS⟩:=mark_comes HF.out.ts HA1.out Hv1.out HS1.out HTK.out hq0;have hC:=qtake_tr HQ3.out HP1.out hq0;have HSR:=Lib.hid hR;have HSM:=Lib.hid hi;have HST0:=Lib.hid htk;have HSI:=Lib.hid hti;have HSX:=Lib.hid htx;have HSP:=Lib.hid hsp;have HSA:=Lib.hid hsA;have HSS:=Lib.hid hsS;have HC:=Lib.hid hC;clear hR hi htk hti htx hsp hsA hsS hC hq0
  go_wp2_with fail
  refine HC.out.mono ?_;rintro e w5 ⟨rfl,hQ5,hK5⟩;have hz5:=hK5.size;have HM5:=Lib.hid (HM3.out.kp hK5 (by omega) (by omega));have HT5:=Lib.hid (HT3.out.kp hK5 (by omega) (by omega));have HK5:=Lib.hid (HK3.out.trans hK5);have HQ5:=Lib.hid hQ5;clear hQ5 hK5 g0 g1;have g0:w5.cell? ⟨b,0,none⟩=some (.string ⟨#[61]⟩):=HM5.out.cell 0;have g1:w5.cell? ⟨b,1,none⟩=some (.string ⟨#[60]⟩):=HM5.out.cell 1
  go_wp2_with fail
  rw [rounds_succ]
  go_wp2_with fail
  rw [rounds_succ]
  go_wp2_with fail
  refine (HF.out.sum (Ex.Res.ok () s.skip:Ex.Res Unit) X w5 d ((m+1)+1) _ q1.skip ⟨HQ5.out,HSP.out,HSA.out,HSS.out,by omega,hd⟩).mono ?_;rintro e w6 ⟨v6,q6,rfl,hQ6,hp6,hA6,hv6,hK6⟩;have hS6:=HSS.out.rec HF.out.ends HF.out.gr .sum (by simp only [Ex.rank];omega) hv6
  change Abs (f .sum d s.skip) q6 at hA6
  change ∀ i s9,f .sum d s.skip = .ok i s9->v6=i at hv6
  change St c.ts ((m+1)+1+1) (v6 :: _) (f .sum d s.skip) at hS6
  have hadd:=hA6.add (ts:=c.ts) ⟨⟨#[61]⟩,t.at_.line,t.at_.col,⟨#[]⟩,t.int,[v1,v6].map fun (k:Nat)=>(k:Int)⟩ (fun a s9 e9=>fits_of (hS6.ready e9).2.2);have hS7:=hS6.add (n:=⟨⟨#[61]⟩,t.at_.line,t.at_.col,⟨#[]⟩,t.int,[v1,v6].map fun (k:Nat)=>(k:Int)⟩) Ex.nameOk_nil (by simp) (.inl HSI.out) hadd.2;have heq:=between_add (part:=f .sum d) (v:=v1) (x:=[61]) HST0.out HSI.out HSX.out hv6
  change ((f .sum d s.skip).bind fun _ s=>Ex.addN c.ts ⟨⟨#[61]⟩,t.at_.line,t.at_.col,⟨#[]⟩,t.int,[v1,v6].map fun (k:Nat)=>(k:Int)⟩ s)=_ at heq
  rw [heq] at hadd hS7;have hlt9:=qnode_lt hp6 (ts:=c.ts) ⟨⟨#[61]⟩,t.at_.line,t.at_.col,⟨#[]⟩,t.int,[v1,v6].map fun (k:Nat)=>(k:Int)⟩;have hz6:=hK6.size;have HQ6:=Lib.hid hQ6;have HP6:=Lib.hid hp6;have HADD:=Lib.hid hadd;have HS7:=Lib.hid hS7;have HL:=Lib.hid hlt9;have HT6:=Lib.hid (HT5.out.kp hK6 (by omega) (by omega));have HK6:=Lib.hid (HK5.out.trans hK6);clear hQ6 hp6 hA6 hv6 hK6 hS6 hadd heq hlt9 hS7;have y0:=HT6.out.c0;have y1:=HT6.out.c1;have y2:=HT6.out.c2;have y3:=HT6.out.c3;have y4:=HT6.out.c4
  go_wp2_with fail
  refine (qnode_any c X _ d q6 ⟨#[61]⟩ t ⟨#[]⟩ [v1,v6] (some ⟨w6.heap.size,0,none⟩) 2 (HQ6.out.below ((Below.refl _ w6).alloc (Nat.le_refl _) _)) HP6.out (qints2 _ (by omega) v1 v6) (HQ6.out.fresh _ _)).mono ?_;rintro e w9 ⟨rfl,hQ,hK⟩;have HQ9:=Lib.hid hQ;have HK9:=Lib.hid (HK6.out.trans (Below.then_kp ((Below.refl _ w6).alloc (Nat.le_refl _) _) hK));clear hQ hK y0 y1 y2 y3 y4;have hnew:Ex.between c.ts (f .sum d) v1 s=Rf:=by
   rw [<- HFIN.out,HSR.out]
   show _=if (Ex.is c.ts s [61] || Ex.is c.ts s [60])=true then _ else _
   rw [if_pos (by rw [HSM.out];simp)]
  have HNEW:=Lib.hid hnew;clear hnew
  go_wp2
  go_ret
  exact ⟨_,_,rfl,HQ9.out,HL.out,by rw [<- HNEW.out];exact HADD.out.1,by rw [<- HNEW.out];exact HADD.out.2,HK9.out⟩
 | false =>
  have hC:=qtake_fa HQ3.out HP1.out hq0;have HC:=Lib.hid hC;clear hC
  go_wp2_with fail
  refine HC.out.mono ?_;rintro e w30 ⟨rfl,hQ30,hK30⟩;have hz30:=hK30.size;have HM30:=Lib.hid (HM3.out.kp hK30 (by omega) (by omega));have HT30:=Lib.hid (HT3.out.kp hK30 (by omega) (by omega));have HK30:=Lib.hid (HK3.out.trans hK30);have HQ30:=Lib.hid hQ30;clear hQ30 hK30 HC g0 g1;have g0:w30.cell? ⟨b,0,none⟩=some (.string ⟨#[61]⟩):=HM30.out.cell 0;have g1:w30.cell? ⟨b,1,none⟩=some (.string ⟨#[60]⟩):=HM30.out.cell 1
  go_wp2_with fail
  rw [rounds_succ]
  cases hq1:qis c.ts q1 [60] with
  | true =>
   obtain ⟨s,hR,hi,htk,hti,htx,hsl,hms,hsp,hsA,hsS⟩:=mark_comes HF.out.ts HA1.out Hv1.out HS1.out HTK.out hq1;have hC:=qtake_tr HQ30.out HP1.out hq1;have HSR:=Lib.hid hR;have HSM:=Lib.hid hi;have HST0:=Lib.hid htk;have HSI:=Lib.hid hti;have HSX:=Lib.hid htx;have HSP:=Lib.hid hsp;have HSA:=Lib.hid hsA;have HSS:=Lib.hid hsS;have HC:=Lib.hid hC;clear hR hi htk hti htx hsp hsA hsS hC hq0 hq1
   go_wp2_with fail
   refine HC.out.mono ?_;rintro e w5 ⟨rfl,hQ5,hK5⟩;have hz5:=hK5.size;have HM5:=Lib.hid (HM30.out.kp hK5 (by omega) (by omega));have HT5:=Lib.hid (HT30.out.kp hK5 (by omega) (by omega));have HK5:=Lib.hid (HK30.out.trans hK5);have HQ5:=Lib.hid hQ5;clear hQ5 hK5 g0 g1;have g0:w5.cell? ⟨b,0,none⟩=some (.string ⟨#[61]⟩):=HM5.out.cell 0;have g1:w5.cell? ⟨b,1,none⟩=some (.string ⟨#[60]⟩):=HM5.out.cell 1
   go_wp2_with fail
   rw [rounds_succ]
   go_wp2_with fail
   refine (HF.out.sum (Ex.Res.ok () s.skip:Ex.Res Unit) X w5 d ((m+1)+1) _ q1.skip ⟨HQ5.out,HSP.out,HSA.out,HSS.out,by omega,hd⟩).mono ?_;rintro e w6 ⟨v6,q6,rfl,hQ6,hp6,hA6,hv6,hK6⟩;have hS6:=HSS.out.rec HF.out.ends HF.out.gr .sum (by simp only [Ex.rank];omega) hv6
   change Abs (f .sum d s.skip) q6 at hA6
   change ∀ i s9,f .sum d s.skip = .ok i s9->v6=i at hv6
   change St c.ts ((m+1)+1+1) (v6 :: _) (f .sum d s.skip) at hS6
   have hadd:=hA6.add (ts:=c.ts) ⟨⟨#[60]⟩,t.at_.line,t.at_.col,⟨#[]⟩,t.int,[v1,v6].map fun (k:Nat)=>(k:Int)⟩ (fun a s9 e9=>fits_of (hS6.ready e9).2.2);have hS7:=hS6.add (n:=⟨⟨#[60]⟩,t.at_.line,t.at_.col,⟨#[]⟩,t.int,[v1,v6].map fun (k:Nat)=>(k:Int)⟩) Ex.nameOk_nil (by simp) (.inl HSI.out) hadd.2;have heq:=between_add (part:=f .sum d) (v:=v1) (x:=[60]) HST0.out HSI.out HSX.out hv6
   change ((f .sum d s.skip).bind fun _ s=>Ex.addN c.ts ⟨⟨#[60]⟩,t.at_.line,t.at_.col,⟨#[]⟩,t.int,[v1,v6].map fun (k:Nat)=>(k:Int)⟩ s)=_ at heq
   rw [heq] at hadd hS7;have hlt9:=qnode_lt hp6 (ts:=c.ts) ⟨⟨#[60]⟩,t.at_.line,t.at_.col,⟨#[]⟩,t.int,[v1,v6].map fun (k:Nat)=>(k:Int)⟩;have hz6:=hK6.size;have HQ6:=Lib.hid hQ6;have HP6:=Lib.hid hp6;have HADD:=Lib.hid hadd;have HS7:=Lib.hid hS7;have HL:=Lib.hid hlt9;have HT6:=Lib.hid (HT5.out.kp hK6 (by omega) (by omega));have HK6:=Lib.hid (HK5.out.trans hK6);clear hQ6 hp6 hA6 hv6 hK6 hS6 hadd heq hlt9 hS7;have y0:=HT6.out.c0;have y1:=HT6.out.c1;have y2:=HT6.out.c2;have y3:=HT6.out.c3;have y4:=HT6.out.c4
   go_wp2_with fail
   refine (qnode_any c X _ d q6 ⟨#[60]⟩ t ⟨#[]⟩ [v1,v6] (some ⟨w6.heap.size,0,none⟩) 2 (HQ6.out.below ((Below.refl _ w6).alloc (Nat.le_refl _) _)) HP6.out (qints2 _ (by omega) v1 v6) (HQ6.out.fresh _ _)).mono ?_;rintro e w9 ⟨rfl,hQ,hK⟩;have HQ9:=Lib.hid hQ;have HK9:=Lib.hid (HK6.out.trans (Below.then_kp ((Below.refl _ w6).alloc (Nat.le_refl _) _) hK));clear hQ hK y0 y1 y2 y3 y4;have hnew:Ex.between c.ts (f .sum d) v1 s=Rf:=by
    rw [<- HFIN.out,HSR.out]
    show _=if (Ex.is c.ts s [61] || Ex.is c.ts s [60])=true then _ else _
    rw [if_pos (by rw [HSM.out];simp)]
   have HNEW:=Lib.hid hnew;clear hnew
   go_wp2
   go_ret
   exact ⟨_,_,rfl,HQ9.out,HL.out,by rw [<- HNEW.out];exact HADD.out.1,by rw [<- HNEW.out];exact HADD.out.2,HK9.out⟩
  | false =>
   have hC:=qtake_fa HQ30.out HP1.out hq1;have HC:=Lib.hid hC;clear hC
   go_wp2_with fail
   refine HC.out.mono ?_;rintro e w31 ⟨rfl,hQ31,hK31⟩;have hz31:=hK31.size;have HM31:=Lib.hid (HM30.out.kp hK31 (by omega) (by omega));have HT31:=Lib.hid (HT30.out.kp hK31 (by omega) (by omega));have HK31:=Lib.hid (HK30.out.trans hK31);have HQ31:=Lib.hid hQ31;clear hQ31 hK31 HC g0 g1;have g0:w31.cell? ⟨b,0,none⟩=some (.string ⟨#[61]⟩):=HM31.out.cell 0;have g1:w31.cell? ⟨b,1,none⟩=some (.string ⟨#[60]⟩):=HM31.out.cell 1
   go_wp2_with fail
   rw [rounds_succ];have hno:=test_no (part:=f .sum d) HA1.out Hv1.out hq0 hq1;rw [HFIN.out] at hno;have HNO:=Lib.hid hno;clear hno hq0 hq1
   go_wp2
   go_ret
   exact ⟨v1,q1,rfl,HQ31.out,HP1.out,HNO.out.1,HNO.out.2,HK31.out⟩
end
end Go.Proofs.YtninlbknklbofaaGreatDoor
