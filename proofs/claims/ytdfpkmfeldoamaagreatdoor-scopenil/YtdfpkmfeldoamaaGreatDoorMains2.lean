/- A part of the proof: A part of the proof. -/
import Derived.Test.YtdfpkmfeldoamaaGreatDoorCl2
import Derived.Test.YtdfpkmfeldoamaaGreatDoorSp
import Derived.Test.YtdfpkmfeldoamaaGreatDoorTab2
set_option linter.unusedSimpArgs false
set_option linter.unusedVariables false
set_option maxRecDepth 100000
set_option maxHeartbeats 4000000
namespace Go.Proofs.YtdfpkmfeldoamaaGreatDoor
section
open Go.RowKit Tn Lx
theorem decl_glo (c:Cx)(X:Nat->Prop)(w:World)(s:Ex.S)(q pp l:Nat)(cs:Array Value)(v:Value)(word:B)(ds:List Pg.Dc)(x:Value)(bp:Nat)(h:Rd c X w s)(hpp:w.heap[pp]? = some (.cells #[.pointer (some ⟨c.r,0,none⟩),x] 79 (0,0)))(hpB:c.B<=pp)(hqB:c.B<=q)
  (hq:w.heap[q]? = some (.cells cs 76 (0,0))) (hl:cs[l]? = some v) (hown:w.ownsRow c.B 152 10 v ds.length (cells10 ds)) (hfew:ds.length<=200) (hbp:w.heap[bp]? = some (.cells #[.func (.func 78) #[] #[],.func (.func 80) #[] #[]] 180 (0,0))) (hpt:c.B<=bp) (hI:∀ p,0<=(Ex.tk c.ts p).int/\(Ex.tk c.ts p).int<1000000000000000000):
  Calls Tryz.prog 77 #[.pointer (some ⟨pp,0,none⟩),.string ⟨word.toArray⟩,.pointer (some ⟨q,l,none⟩),.slice (some ⟨bp,0,none⟩) 2 2] w (DeclP c X w q l cs v ds ((Pg.declP c.ts word s).bind (Pf.number c.ts))):=by
 have hr1:=h.rlt;have hb1:=h.blt;have hg1:=h.glt;have hsz:=h.size;obtain ⟨V,hV⟩:∃ V,(w.alloc (.cells #[.string ⟨#[]⟩,.int .i64 0,.int .i64 0,.string ⟨#[]⟩,.int .i64 0,.int .i64 0,.string ⟨#[]⟩,.int .i64 0,.int .i64 0,.int .i64 0] 152)).alloc (.cells #[.string ⟨word.toArray⟩] 9)=V:=⟨_,rfl⟩;have hbV:Below w.heap.size w V:=by rw [<- hV];exact ((Below.refl _ w).alloc (Nat.le_refl _) _).alloc (by simp) _
 have kd:V.heap[w.heap.size]? = some (.cells (dcCells ⟨Pg.zn,Pg.zn,Pg.zn,0⟩) 152 (0,0)):=by rw [<- hV];exact blk_alloc (blk_new w _) _
 have ks:V.heap[w.heap.size+1]? = some (.cells #[.string ⟨word.toArray⟩] 9 (0,0)):=by
  rw [<- hV];have:=blk_new (w.alloc (.cells #[.string ⟨#[]⟩,.int .i64 0,.int .i64 0,.string ⟨#[]⟩,.int .i64 0,.int .i64 0,.string ⟨#[]⟩,.int .i64 0,.int .i64 0,.int .i64 0] 152)) (.cells #[.string ⟨word.toArray⟩] 9);rwa [World.size_alloc] at this
 have hRV:=h.below hbV;have hpV:=(hbV.block pp (lt_of_heap hpp)).trans hpp;have hA:=pname_any c X V s pp w.heap.size 0 (dcCells ⟨Pg.zn,Pg.zn,Pg.zn,0⟩) 152 [word] (.slice (some ⟨w.heap.size+1,0,none⟩) 1 1) x hRV hpV kd (by simp [dcCells,cell10]) hsz hpB ⟨by decide,by decide⟩ (take_one c X V s word (w.heap.size+1) hRV ((blk_cell ks 0).trans rfl));have hE0:Pg.declP c.ts word s=(Pg.nameAt c.ts [word] s).bind (Pg.points c.ts):=rfl;have hE:(Pg.declP c.ts word s).bind (Pf.number c.ts)=((Pg.nameAt c.ts [word] s).bind (Pg.points c.ts)).bind (Pf.number c.ts):=by rw [hE0]
 clear hE0;have hql:=lt_of_heap hq;generalize (Pg.declP c.ts word s).bind (Pf.number c.ts)=R at *;have HE:=Lib.hid hE;have HA:=Lib.hid hA;have HV:=Lib.hid hV;have HB:=Lib.hid hbV;have HQ:=Lib.hid hq;have HL:=Lib.hid hl;have HO:=Lib.hid hown;have HBP:=Lib.hid hbp;have HPP:=Lib.hid hpp;have HNI:=Lib.hid hI;obtain ⟨i0,hi,hz0,hz1,hz2⟩:=info_parts Tryz.info152;have HI:=Lib.hid hi;have HZ:=Lib.hid hz0;have HZ1:=Lib.hid hz1;have HZ2:=Lib.hid hz2;clear hI hE hA hV hbV hRV hpV h hpp hq hl hown hbp kd ks hi hz0 hz1 hz2
 go_enter Tryz.func77,Tryz.ntmps77
 go_wp2_with fail
 rw [HV.out];refine HA.out.mono ?_;rintro e w1 (⟨n,s1,hE1,rfl,hR1,hK1,hd1⟩ | ⟨cd,p1,hE1,rfl,hK1⟩)
 rotate_left
 ·have hF:R = .bad cd p1:=by rw [HE.out,hE1];rfl
  have HF:=Lib.hid hF;have HK:=Lib.hid (freeD_new HB.out (Nat.le_refl _) hK1);clear hF hE1 hK1;unfold dval
  go_wp2
  go_ret
  exact .inr ⟨cd,p1,HF.out,rfl,HK.out⟩
 have hKa:Kp c w w1:=freeD_new HB.out (Nat.le_refl _) hK1;have hbpl:=lt_of_heap HBP.out;have hppl:=lt_of_heap HPP.out;have hp1:=hKa.heap HPP.out (by omega) (by omega) (fun e=>absurd e (by decide));have hb1':=hKa.heap HBP.out (by omega) (by omega) (fun e=>absurd e (by decide));have pc:w1.cell? ⟨bp,0,none⟩=some (.func (.func 78) #[] #[]):=(blk_cell hb1' 0).trans rfl;have hPt:=points_any c X w1 s1 pp w.heap.size n x hR1 hp1 hd1 hsz hpB;have HPT:=Lib.hid hPt;have HKA:=Lib.hid hKa;have HE1:=Lib.hid hE1;clear hPt hKa hK1 hR1 hp1 hb1' hd1 hE1 HA HV
 go_wp2_with fail
 refine wp_loop_rounds 3 ?_;rw [rounds_succ]
 go_wp2_with fail
 refine HPT.out.mono ?_;rintro e w1 (⟨d,s1,hE2,rfl,hR1,hK2,hd⟩ | ⟨cd,p2,hE2,rfl,hK2⟩)
 rotate_left
 ·have hF:R = .bad cd p2:=by rw [HE.out,HE1.out,Ex.Res.bind,hE2];rfl
  have HF:=Lib.hid hF;have HK:=Lib.hid (freeD_old (Nat.le_refl _) HKA.out hK2);clear hF hE2 hK2;unfold dval
  go_wp2
  go_ret
  exact .inr ⟨cd,p2,HF.out,rfl,HK.out⟩
 have hKw1:Kp c w w1:=freeD_old (Nat.le_refl _) HKA.out hK2;have hp2:=hKw1.heap HPP.out (by omega) (by omega) (fun e=>absurd e (by decide));have hb2':=hKw1.heap HBP.out (by omega) (by omega) (fun e=>absurd e (by decide));have pc2:w1.cell? ⟨bp,1,none⟩=some (.func (.func 80) #[] #[]):=(blk_cell hb2' 1).trans rfl;have hNm:=number_any c X w1 s1 pp w.heap.size d x hR1 hp2 hd hsz hpB HNI.out;have hE3':R=Pf.number c.ts d s1:=by rw [HE.out,HE1.out,Ex.Res.bind,hE2,Ex.Res.bind]
 rw [<- hE3'] at hNm;have HNM:=Lib.hid hNm;have HKA2:=Lib.hid hKw1;clear hKw1 hp2 hb2' hNm hE3' hE2 hK2 hR1 hd pc HE HE1 HKA HPT HNI
 go_wp2_with fail
 rw [rounds_succ]
 go_wp2_with fail
 refine HNM.out.mono ?_;clear pc2;rintro e w1 (⟨d,s1,hE2,rfl,hR1,hK2,hd⟩ | ⟨cd,p2,hE2,rfl,hK2⟩)
 rotate_left
 ·have HF:=Lib.hid hE2;have HK:=Lib.hid (freeD_old (Nat.le_refl _) HKA2.out hK2);clear hE2 hK2;unfold dval
  go_wp2
  go_ret
  exact .inr ⟨cd,p2,HF.out,rfl,HK.out⟩
 have hF:R = .ok d s1:=hE2;have hKw:Kp c w w1:=freeD_old (Nat.le_refl _) HKA2.out hK2;have hq1:w1.heap[q]? = some (.cells cs 76 (0,0)):=hKw.heap HQ.out (by omega) (by omega) (fun e=>absurd e (by decide));have ho1:w1.ownsRow c.B 152 10 v ds.length (cells10 ds):=But.own hKw HO.out (fun g hg=>by
  obtain ⟨e0,cur,e1⟩:=own_tag HO.out hg;rintro (e | e | ⟨_,cs',fr',e⟩)
  ·omega
  ·omega
  ·rw [e1] at e;injection e with e;injection e with _ e;exact absurd e (by decide))
 have HF:=Lib.hid hF;have HD:=Lib.hid hd;have HKW:=Lib.hid hKw;have HR1:=Lib.hid hR1;have HO1:=Lib.hid ho1;clear hF hKw hK2 hE2 HNM HKA2 ho1 hR1;have q1:w1.cell? ⟨q,l,none⟩=some v:=(blk_cell hq1 l).trans HL.out;have q1':∀ o,(w1.alloc o).cell? ⟨q,l,none⟩=some v:=fun o=>(World.cell?_alloc_lt _ _ _ (World.block_lt_of_cell? _ _ q1)).trans q1;have y0:w1.cell? ⟨w.heap.size,0,none⟩=some (.string ⟨d.name.text.toArray⟩):=(blk_cell hd 0).trans rfl;have y1:w1.cell? ⟨w.heap.size,1,none⟩=some (.int .i64 d.name.at_.line):=(blk_cell hd 1).trans rfl;have y2:w1.cell? ⟨w.heap.size,2,none⟩=some (.int .i64 d.name.at_.col):=(blk_cell hd 2).trans rfl;have y3:w1.cell? ⟨w.heap.size,3,none⟩=some (.string ⟨d.conf.text.toArray⟩):=(blk_cell hd 3).trans rfl;have y4:w1.cell? ⟨w.heap.size,4,none⟩=some (.int .i64 d.conf.at_.line):=(blk_cell hd 4).trans rfl;have y5:w1.cell? ⟨w.heap.size,5,none⟩=some (.int .i64 d.conf.at_.col):=(blk_cell hd 5).trans rfl;have y6:w1.cell? ⟨w.heap.size,6,none⟩=some (.string ⟨d.integ.text.toArray⟩):=(blk_cell hd 6).trans rfl;have y7:w1.cell? ⟨w.heap.size,7,none⟩=some (.int .i64 d.integ.at_.line):=(blk_cell hd 7).trans rfl;have y8:w1.cell? ⟨w.heap.size,8,none⟩=some (.int .i64 d.integ.at_.col):=(blk_cell hd 8).trans rfl;have y9:w1.cell? ⟨w.heap.size,9,none⟩=some (.int .i64 d.int):=(blk_cell hd 9).trans rfl;have hnb:((w1.alloc (.cells (dcCells d) 152)).drew).heap[w1.heap.size]? = some (.cells (dcCells d) 152 (0,0)):=heap_alloc_new w1 _;have HQ1:=Lib.hid hq1;have HNB:=Lib.hid hnb;clear hnb;clear hd hq1
 go_wp2_with fail
 rw [rounds_succ]
 go_upto_region 12 with fail
 go_region_law (refine step_append_lies _ (by rfl) (.tmp 38) (.tmp 40) 73 (by rfl) c.B 152 i0 _ 10 104 Tryz.underlying73 HI.out HZ.out HZ1.out HZ2.out rfl (by omega) v ds.length (cells10 ds) (by rfl) ((HO1.out.alloc _).drew) ⟨w1.heap.size,0,none⟩ 1 1 (cell10 d) (by rfl) (by rfl) (World.news_of_block (cs:=dcCells d) (t:=152) (fr:=(0,0)) HNB.out) (cells10_one d) (by omega) (by unfold maxLen;omega) (by omega) (by have:=HKW.out.size;simp;omega) (w1.heap.size+1) (by simp) ?_;intro g cap w5 hown5 hgrow5 hat5 hlt5;have G:=decl_tail (l:=l) HR1.out HKW.out HO1.out HQ1.out hqB hown5 hgrow5 hat5;have c5:w5.cell? ⟨q,l,none⟩=some v:=(blk_cell G.1 l).trans HL.out;have f5:w5.frozen? ⟨q,l,none⟩=false:=blk_frozen G.1 l)
 all_goals
  have HGG:=Lib.hid G.2;clear G hown5 hgrow5 hat5 hlt5 c5 f5
  go_wp2
  go_ret
  exact .inl ⟨d,s1,_,HF.out,rfl,HGG.out.1,HGG.out.2.1,HGG.out.2.2.1,HGG.out.2.2.2.1,HGG.out.2.2.2.2⟩
theorem glo5_any (c:Cx)(X:Nat->Prop)(w:World)(s:Ex.S)(q pp:Nat)(U:Nat->Value)(fs:List FnV)(g:Pf.St)(h:Rd c X w s)(hP:Pm5 c q pp U fs w g)(hf:(dl g 2).length<=200)(hI:∀ p,0<=(Ex.tk c.ts p).int/\(Ex.tk c.ts p).int<1000000000000000000):
  Calls Tryz.prog 79 #[.pointer (some ⟨pp,0,none⟩)] w (ReadF c X w q pp (kindF (Pf.declG c.ts s) 2 g)):=by
 have hr:=h.rlt;have hb:=h.blt;have hsz:=h.size;have p1:=hP.p1;obtain ⟨V,hV⟩:∃ V,w.alloc (.cells #[.func (.func 78) #[] #[],.func (.func 80) #[] #[]] 180)=V:=⟨_,rfl⟩;have hbV:Below w.heap.size w V:=by rw [<- hV];exact (Below.refl _ w).alloc (Nat.le_refl _) _
 have kp:V.heap[w.heap.size]? = some (.cells #[.func (.func 78) #[] #[],.func (.func 80) #[] #[]] 180 (0,0)):=by rw [<- hV];exact blk_new w _
 have hPV:=hP.below hbV;have hD:=decl_glo c X V s q pp 2 _ (U 2) Pf.wGlo (dl g 2) _ w.heap.size (h.below hbV) hPV.par hPV.ppB hPV.qB hPV.prog (progF_get ⟨by decide,by decide⟩) (hPV.dec 2 ⟨by decide,by decide⟩) hf kp hsz hI;rw [show (Pg.declP c.ts Pf.wGlo s).bind (Pf.number c.ts)=Pf.declG c.ts s from rfl] at hD;generalize Pf.declG c.ts s=R at *;have HD:=Lib.hid hD;have HP:=Lib.hid hPV;have HV:=Lib.hid hV;have HB:=Lib.hid (Kf.of_kp (q:=q) (Kp.of_below (c:=c) hbV));clear hD hP h hV hbV kp hPV
 go_enter Tryz.func79,Tryz.ntmps79
 go_wp2_with fail
 rw [HV.out];refine HD.out.mono ?_;rintro e w1 (⟨d,s1,v',rfl,rfl,hR1,ho,hq,hB,hv⟩ | ⟨cd,p,rfl,rfl,hK⟩)
 ·have HR:=Lib.hid hR1;have HM:=Lib.hid (HP.out.put ⟨by decide,by decide⟩ hr hb ho hq hB hv);have HK:=Lib.hid (HB.out.trans (freeL_kf hB (HP.out.dec 2 ⟨by decide,by decide⟩)));clear hR1 ho hq hB hv
  go_wp2
  go_ret
  exact .inl ⟨_,_,_,_,rfl,rfl,HR.out,HM.out,HK.out⟩
 ·have HK:=Lib.hid (HB.out.trans (Kf.of_kp (q:=q) hK));clear hK;unfold dval
  go_wp2
  go_ret
  exact .inr ⟨cd,p,[],rfl,rfl,HK.out⟩
end
section
open Go.RowKit Tn Lx
attribute [local go_sem] tok_field0 tok_field1 tok_field3
theorem hasMain5_any (c:Cx)(w:World)(q pp:Nat)(U:Nat->Value)(fs:List FnV)(g:Pf.St)(hP:Pm5 c q pp U fs w g):Calls Tryz.prog 39 #[.pointer (some ⟨pp,0,none⟩)] w fun e w'=>e = .returned (.bool (g.mt==Pg.wMain))/\w=w':=by
 have p1:=hP.p1;have g6:=hP.g6;clear hP
 go_enter Tryz.func39,Tryz.ntmps39
 go_wp2
 all_goals
  go_ret
  refine ⟨ret_bool ?_,rfl⟩;simp [Pg.wMain]
theorem wrongMain5_any (c:Cx)(X:Nat->Prop)(w:World)(s:Ex.S)(q pp:Nat)(cd:Int)(U:Nat->Value)(fs:List FnV)(g:Pf.St)(h:Rd c X w s)(hP:Pm5 c q pp U fs w g)(hg:ErrT w):Calls Tryz.prog 40 #[.pointer (some ⟨pp,0,none⟩),.int .i64 cd] w fun e w'=>e = .returned (dvalN cd (Ex.at_ c.ts s) Pg.wMain)/\Below w.heap.size w w':=by
 have p0:=hP.p0;have hW:=wrong_at c X w s cd h;have hlt:=hg.lt;generalize Ex.at_ c.ts s=p at *;have HW:=Lib.hid hW;have HG:=Lib.hid hg;clear hW hg hP h
 go_enter Tryz.func40,Tryz.ntmps40
 go_wp2_with fail
 refine HW.out.mono ?_;rintro e w1 ⟨rfl,hb1⟩;obtain ⟨V,hV⟩:∃ V,w1.alloc (.cells #[.int .i64 0,.int .i64 0,.int .i64 0,.string ⟨#[]⟩] 43)=V:=⟨_,rfl⟩;have hbV:Below w1.heap.size w1 V:=by rw [<- hV];exact (Below.refl _ w1).alloc (Nat.le_refl _) _
 have hD:DiagAt w1.heap.size V:=by rw [<- hV];exact ⟨by simp [go_sem],by simp [go_sem],by simp [go_sem],by simp [go_sem],fun i=>by simp [go_sem]⟩
 have hbW:Below w.heap.size w V:=hb1.trans (hbV.mono hb1.size);have hgV:ErrT V:=HG.out.below hbW hlt;have hs1:=hb1.size;have HV:=Lib.hid hV;have HD:=Lib.hid hD;have HGV:=Lib.hid hgV;have HBW:=Lib.hid hbW;clear hV hD hgV hbW hbV hb1 HW HG;unfold dval
 go_wp2_with fail
 rw [HV.out];refine (as_hit_fz cd p.line p.col ⟨#[]⟩ w1.heap.size _ _ _ _ V HGV.out HD.out.d0 HD.out.d1 HD.out.d2 HD.out.d3 HD.out.df).mono ?_;rintro e w2 ⟨rfl,hN,⟨d0,d1,d2,d3⟩,df⟩;have hb2:Below w.heap.size w w2:=HBW.out.trans (hN.to_below (by omega) HBW.out.size);have hl2:=hb2.size;have HB2:=Lib.hid hb2;have HN:=Lib.hid hN;clear hb2 hN
 go_wp2
 go_ret
 exact ⟨rfl,HB2.out.setCell (by omega) _⟩
end
end Go.Proofs.YtdfpkmfeldoamaaGreatDoor
